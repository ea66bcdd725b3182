/-
  The document's text.
-/
import Derived.Test.YtlibolkkklfdoaaDoorTypUnqM
import Derived.Test.YtlibolkkklfdoaaDoorTypUnh
namespace Go.Proofs.YtlibolkkklfdoaaDoor
open Go.RowKit Mem
set_option linter.unusedVariables false

theorem not_shape {l : List UInt8} {m : Nat} (h : ∀ B, l ≠ 34 :: (B ++ [34])) (hl : l.length = m + 2) : byt l 0 ≠ 34 ∨ byt l (m + 1) ≠ 34 := by
  by_cases h0 : byt l 0 = 34
  · right
    intro h1
    cases l with
    | nil => simp at hl
    | cons c r =>
      have hc : c = 34 := UInt8.toNat_inj.1 (by simp [byt] at h0; exact Int.ofNat_inj.1 h0)
      have hr : r ≠ [] := by intro e; subst e; simp at hl
      have hd := List.dropLast_concat_getLast hr
      have hlr : r.length = m + 1 := by simpa using hl
      have hg : r.getLast hr = 34 := by
        rw [List.getLast_eq_getElem]
        have : byt (c :: r) (m + 1) = ((r[r.length - 1]'(by omega)).toNat : Int) := by
          simp [byt, hlr]
        rw [this] at h1
        exact UInt8.toNat_inj.1 (Int.ofNat_inj.1 h1)
      rw [hg] at hd
      exact h r.dropLast (by rw [hd, hc])
  · exact .inl h0
theorem shape_at {l B : List UInt8} (h : l = 34 :: (B ++ [34])) : l.length = B.length + 2 ∧ byt l 0 = 34 ∧ byt l (B.length + 1) = 34 ∧ ∀ j, j < B.length → byt l (j + 1) = byt B j := by
  subst h
  refine ⟨by simp, rfl, by simp [byt], fun j hj => ?_⟩
  simp [byt, List.getElem?_append_left hj]

set_option maxRecDepth 100000 in
set_option maxHeartbeats 2000000 in
theorem rtext_any (l : List UInt8) (w : World) (hle : l.length ≤ 1000000) :
    Calls Tryd.prog 60 #[.string ⟨l.toArray⟩] w (Maybe 5 w (unqA l)) := by
  obtain ⟨i0, hi, hz0, hz1, hz2⟩ := info_parts tinfo_u8
  have hsz : (⟨l.toArray⟩ : ByteArray).size = l.length := tstr_size l
  rcases unq_shape l with ⟨B, hl, h1, _⟩ | ⟨h1, _, h3⟩
  · obtain ⟨hlen, h0, hz, hat⟩ := shape_at hl
    have H1 := Lib.hid h1
    have HAT := Lib.hid hat
    have HLEN := Lib.hid hlen
    have hp0 : 0 < (⟨l.toArray⟩ : ByteArray).size := by rw [hsz]; omega
    have hpz : B.length + 1 < (⟨l.toArray⟩ : ByteArray).size := by rw [hsz]; omega
    have e0 : ((((⟨l.toArray⟩ : ByteArray)[0]'hp0).toNat : Nat) : Int) = 34 := by rw [str_at]; exact h0
    have ez : ((((⟨l.toArray⟩ : ByteArray)[B.length + 1]'hpz).toNat : Nat) : Int) = 34 := by rw [str_at]; exact hz
    clear hl h1 hat h0 hz
    go_enter Tryd.func60, Tryd.ntmps60
    go_wp2_with fail
    clear e0 ez hp0 hpz
    go_loopw [4, 5] (fun v i wr => ∃ (k x : Nat) (out : List UInt8), k ≤ B.length ∧ x = k + 1 ∧ i = .int .i64 (x : Int) ∧ out.length ≤ k ∧ UI B k out false ∧ Own wr w.heap.size 5 v out ∧ Below w.heap.size w wr) (fun _ i _ => B.length + 1 - (intOf i).toNat)
    case atStart => exact ⟨0, 1, [], by omega, rfl, rfl, by simp, UI.start B, Own.nil _ _ _, Below.refl _ _⟩
    case round =>
      obtain ⟨k, x, out, hk, hx, rfl, hol, hI, hown, hb⟩ := hrel
      have HI := Lib.hid hI
      have HOL := Lib.hid hol
      have HX := Lib.hid hx
      clear hI hol
      by_cases hlt : x < B.length + 1
      · have hkl : k < B.length := by omega
        have hxs : x < (⟨l.toArray⟩ : ByteArray).size := by rw [hsz, hlen]; omega
        have HC := Lib.hid (show byt l x = byt B k by rw [hx]; exact HAT.out k hkl)
        have e2 : ((((⟨l.toArray⟩ : ByteArray)[x]'hxs).toNat : Nat) : Int) = byt B k := by rw [str_at]; exact HC.out
        have HKL := Lib.hid hkl
        obtain ⟨x0, x1⟩ := byt_bd B k
        obtain ⟨ch, hch⟩ : ∃ ch, ch = B[k]'hkl := ⟨_, rfl⟩
        have hHX : byt B k = ((ch.toNat : Nat) : Int) := by rw [hch]; exact byt_x hkl
        have HCH := Lib.hid hch
        have HXC := Lib.hid hHX
        have HB := Lib.hid hb
        clear hHX hch hx
        obtain ⟨c, hc⟩ : ∃ c, byt B k = c := ⟨_, rfl⟩
        have HCC := Lib.hid hc
        rw [hc] at e2 x0 x1 HXC
        clear hc
        by_cases h34 : c = 34
        · have HN := Lib.hid (HI.out.stop HKL.out (by rw [HCC.out, h34]; decide) (by rw [HCC.out, h34]; rfl))
          subst h34
          go_wp2_with fail
          go_ret2
          exact ⟨fun _ h => (by rw [H1.out, HN.out] at h; cases h), fun _ => ⟨_, rfl⟩, HB.out⟩
        · by_cases h92 : c = 92
          · have HN := Lib.hid (HI.out.sign HKL.out (by rw [HCC.out, h92]))
            subst h92
            by_cases hend : k + 1 = B.length
            · have HM := Lib.hid (show unqB false B = none by have := HN.out; rw [hend] at this; rw [this.end_]; rfl)
              have hd : ((x : Int) + 1 == (B.length : Int) + 2 - 1) = true := by have := HX.out; simp; omega
              clear hend
              go_wp2_with fail
              go_ret2
              exact ⟨fun _ h => (by rw [H1.out, HM.out] at h; cases h), fun _ => ⟨_, rfl⟩, HB.out⟩
            · have hk2 : k + 1 < B.length := by omega
              have HKK := Lib.hid hk2
              have hd : ((x : Int) + 1 == (B.length : Int) + 2 - 1) = false := by have := HX.out; simp; omega
              have hxs2 : x + 1 < (⟨l.toArray⟩ : ByteArray).size := by have := HX.out; rw [hsz, hlen]; omega
              have HC2 := Lib.hid (show byt l (x + 1) = byt B (k + 1) by rw [HX.out]; exact HAT.out (k + 1) hk2)
              have e3 : ((((⟨l.toArray⟩ : ByteArray)[x + 1]'hxs2).toNat : Nat) : Int) = byt B (k + 1) := by rw [str_at]; exact HC2.out
              obtain ⟨y0, y1⟩ := byt_bd B (k + 1)
              obtain ⟨ch2, hch2⟩ : ∃ ch, ch = B[k + 1]'hk2 := ⟨_, rfl⟩
              have hHX2 : byt B (k + 1) = ((ch2.toNat : Nat) : Int) := by rw [hch2]; exact byt_x hk2
              have HCH2 := Lib.hid hch2
              have HXC2 := Lib.hid hHX2
              clear hHX2 hch2 hend
              obtain ⟨c2, hc2⟩ : ∃ c, byt B (k + 1) = c := ⟨_, rfl⟩
              have HCC2 := Lib.hid hc2
              rw [hc2] at e3 y0 y1 HXC2
              clear hc2
              by_cases hq : c2 = 34 ∨ c2 = 92
              · have HN2 := Lib.hid (HN.out.take HKK.out (fun h => by cases h.2) (by rw [HCC2.out]; rcases hq with h | h <;> rw [h] <;> rfl))
                rw [← HCH2.out] at HN2
                rcases hq with rfl | rfl
                all_goals
                  go_wp2_with (at_builtin; refine wpList_app _ rfl _ _ 31 rfl w.heap.size 5 i0 Tryd.underlying31 hi hz0 hz1 hz2 _ out rfl (hown.alloc _) (some ⟨wr.heap.size, 0, none⟩) 1 1 [ch2] rfl rfl (wr.heap.size + 1) (Rd.new1 _ _ HXC2.out) (by have := HOL.out; simp; omega) (by have := HB.out.size; simp; omega) ?_)
                  intro v' w1 hown' hgrow hat
                  have hb' : Below w.heap.size w w1 := (HB.out.alloc HB.out.size _).grown hgrow (by have := HB.out.size; simp; omega) (fun g hg => (hown.lt g hg).1)
                  clear hgrow hat hown hb
                  go_wp2_with fail
                  go_roundw
                  case rel => exact ⟨k + 1 + 1, x + 1 + 1, out ++ [ch2], by have := HKK.out; omega, by have := HX.out; omega, by go_num, by have := HOL.out; simp; omega, HN2.out, hown', hb'⟩
                  case measure => simp [intOf]; omega
              · have n34 : (c2 != 34) = true := by simp; omega
                have n92 : (c2 != 92) = true := by simp; omega
                have HM := Lib.hid (HN.out.stop HKK.out (fun h => by cases h.2) (by rw [HCC2.out]; unfold escB; simp; omega))
                clear hq
                go_wp2_with fail
                go_ret2
                exact ⟨fun _ h => (by rw [H1.out, HM.out] at h; cases h), fun _ => ⟨_, rfl⟩, HB.out⟩
          · have HN := Lib.hid (HI.out.take HKL.out (by rw [HCC.out]; exact fun h => h92 h.1) (by rw [HCC.out]; unfold escB; simp [h34, h92]))
            rw [← HCH.out] at HN
            have b34 : (c == 34) = false := by simpa using h34
            have b92 : (c == 92) = false := by simpa using h92
            clear h34 h92
            go_wp2_with (at_builtin; refine wpList_app _ rfl _ _ 31 rfl w.heap.size 5 i0 Tryd.underlying31 hi hz0 hz1 hz2 _ out rfl (hown.alloc _) (some ⟨wr.heap.size, 0, none⟩) 1 1 [ch] rfl rfl (wr.heap.size + 1) (Rd.new1 _ _ HXC.out) (by have := HOL.out; simp; omega) (by have := HB.out.size; simp; omega) ?_)
            intro v' w1 hown' hgrow hat
            have hb' : Below w.heap.size w w1 := (HB.out.alloc HB.out.size _).grown hgrow (by have := HB.out.size; simp; omega) (fun g hg => (hown.lt g hg).1)
            clear hgrow hat hown hb
            go_wp2_with fail
            go_roundw
            case rel => exact ⟨k + 1, x + 1, out ++ [ch], by omega, by have := HX.out; omega, by go_num, by have := HOL.out; simp; omega, HN.out, hown', hb'⟩
            case measure => simp [intOf]; omega
      · obtain rfl : k = B.length := by omega
        have HN := Lib.hid (HI.out.end_)
        have HB := Lib.hid hb
        clear hx
        go_wp2_with fail
        go_ret2
        exact ⟨fun _ h => (by rw [H1.out, HN.out] at h; cases h; exact ⟨_, rfl, hown⟩), fun h => (by rw [H1.out, HN.out] at h; cases h), HB.out⟩
  · have H1 := Lib.hid h1
    clear h1
    by_cases h2 : l.length < 2
    · go_enter Tryd.func60, Tryd.ntmps60
      go_wp2_with fail
      go_ret2
      exact ⟨fun _ h => (by rw [H1.out] at h; cases h), fun _ => ⟨_, rfl⟩, Below.refl _ _⟩
    · obtain ⟨m, hm⟩ : ∃ m, l.length = m + 2 := ⟨l.length - 2, by omega⟩
      have hn := not_shape h3 hm
      have hp0 : 0 < (⟨l.toArray⟩ : ByteArray).size := by rw [hsz]; omega
      have hpz : m + 1 < (⟨l.toArray⟩ : ByteArray).size := by rw [hsz]; omega
      have e0 := str_at l 0 hp0
      have ez := str_at l (m + 1) hpz
      clear h3 h2
      by_cases h0 : byt l 0 = 34
      · have h0' : (byt l 0 != 34) = false := by rw [h0]; rfl
        have hz' : (byt l (m + 1) != 34) = true := by simpa using hn.resolve_left (fun h => h h0)
        rw [h0] at e0
        generalize byt l (m + 1) = Z at *
        clear h0 hn h0'
        go_enter Tryd.func60, Tryd.ntmps60
        go_wp2_with fail
        go_ret2
        exact ⟨fun _ h => (by rw [H1.out] at h; cases h), fun _ => ⟨_, rfl⟩, Below.refl _ _⟩
      · have h0' : (byt l 0 != 34) = true := by simpa using h0
        clear h0 hn ez
        go_enter Tryd.func60, Tryd.ntmps60
        go_wp2_with fail
        go_ret2
        exact ⟨fun _ h => (by rw [H1.out] at h; cases h), fun _ => ⟨_, rfl⟩, Below.refl _ _⟩
end Go.Proofs.YtlibolkkklfdoaaDoor
