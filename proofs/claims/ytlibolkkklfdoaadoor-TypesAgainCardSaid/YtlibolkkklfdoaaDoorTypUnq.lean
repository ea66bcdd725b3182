/-
  unquoted.
-/
import Derived.Test.YtlibolkkklfdoaaDoorTypUnqM
import Derived.Test.YtlibolkkklfdoaaDoorTypUnh
namespace Go.Proofs.YtlibolkkklfdoaaDoor
open Go.RowKit Mem
set_option linter.unusedVariables false

set_option maxRecDepth 100000 in
set_option maxHeartbeats 2000000 in
theorem unquoted_any (l : List UInt8) (w : World) (hle : l.length ≤ 1000000) :
    Calls Tryd.prog 57 #[.string ⟨l.toArray⟩] w (Maybe 5 w (unqA l)) := by
  obtain ⟨i0, hi, hz0, hz1, hz2⟩ := info_parts tinfo_u8
  have HE := Lib.hid (fun x W => esc_any x W)
  have HC := Lib.hid (fun W => Tryd.strings_CutPrefix ⟨l.toArray⟩ ⟨#[34]⟩ W)
  rw [show (⟨l.toArray⟩ : ByteArray).data.toList = l from rfl, show (⟨#[34]⟩ : ByteArray).data.toList = [34] from rfl] at HC
  rcases unq_shape l with ⟨W, hl, h1, h2, h3, h4, h5⟩ | ⟨h1, h2, h3⟩
  · rw [h2, h3] at HC
    obtain ⟨X, hX⟩ : ∃ X : List UInt8, X = W ++ [34] := ⟨_, rfl⟩
    have hXl : X.length ≤ 1000001 := by rw [hX]; rw [hl] at hle; simp at hle ⊢; omega
    rw [← hX] at h4 h5 HC
    have HS := Lib.hid (fun w' => Tryd.strings_CutSuffix ⟨X.toArray⟩ ⟨#[34]⟩ w' (by rw [tstr_size]; omega))
    rw [show (⟨X.toArray⟩ : ByteArray).data.toList = X from rfl, show (⟨#[34]⟩ : ByteArray).data.toList = [34] from rfl, h4, h5] at HS
    have hW : W.length ≤ 1000000 := by rw [hl] at hle; simp at hle; omega
    have H1 := Lib.hid h1
    clear h1 h2 h3 h4 h5 hl hX hXl
    have hsz : (⟨W.toArray⟩ : ByteArray).size = W.length := tstr_size W
    go_enter Tryd.func57, Tryd.ntmps57
    go_wp2_with fail
    refine (HC.out _).mono ?_
    rintro e w1 ⟨rfl, rfl⟩
    go_wp2_with fail
    refine (HS.out _).mono ?_
    rintro e w2 ⟨rfl, rfl⟩
    go_wp2_with (at_make; refine wpList_make_part _ rfl _ _ 31 rfl w2.heap.size 5 i0 Tryd.underlying31 hi hz0 hz1 hz2 _ _ _ _ 0 W.length rfl rfl rfl (by omega) (by omega) (by omega) (Nat.le_refl _) ?_; intro w1 hown1 hg1 hs1; have hb1 : Below w2.heap.size w2 w1 := (Below.refl _ _).grown hg1 (Nat.le_refl _) (by simp); clear hg1 hs1)
    go_loopw [7, 8, 32] (fun v bv i wr => ∃ (k : Nat) (out : List UInt8) (bh : Bool), k ≤ W.length ∧ i = .int .i64 (k : Int) ∧ bv = .bool bh ∧ out.length ≤ k ∧ UI W k out bh ∧ Own wr w2.heap.size 5 v out ∧ Below w2.heap.size w2 wr) (fun _ _ i _ => W.length - (intOf i).toNat)
    case atStart => exact ⟨0, [], false, by omega, rfl, rfl, by simp, UI.start W, hown1, hb1⟩
    case round =>
      obtain ⟨k, out, bh, hk, rfl, rfl, hol, hI, hown, hb⟩ := hrel
      clear hown1 hb1
      have HI := Lib.hid hI
      have HOL := Lib.hid hol
      clear hI hol
      by_cases hlt : k < W.length
      · have hks : k < (⟨W.toArray⟩ : ByteArray).size := by rw [hsz]; exact hlt
        have e0 : ((((⟨W.toArray⟩ : ByteArray)[k]'hks).toNat : Nat) : Int) = byt W k := str_at W k hks
        have HLT := Lib.hid hlt
        obtain ⟨x0, x1⟩ := byt_bd W k
        obtain ⟨ch, hch⟩ : ∃ ch, ch = W[k]'hlt := ⟨_, rfl⟩
        have hHX : byt W k = ((ch.toNat : Nat) : Int) := by rw [hch]; exact byt_x hlt
        have HCH := Lib.hid hch
        have HXC := Lib.hid hHX
        clear hHX hch
        obtain ⟨x, hx⟩ : ∃ x, byt W k = x := ⟨_, rfl⟩
        have HXX := Lib.hid hx
        rw [hx] at e0 x0 x1 HXC
        clear hx
        have HB := Lib.hid hb
        by_cases h92 : x = 92 ∧ bh = false
        · obtain ⟨rfl, rfl⟩ := h92
          have HN := Lib.hid (HI.out.sign HLT.out HXX.out)
          go_wp2_with fail
          go_roundw
          case rel => exact ⟨k + 1, out, true, by omega, by go_num, rfl, by have := HOL.out; omega, HN.out, hown, HB.out⟩
          case measure => simp [intOf]; omega
        · have H92 : Hid (¬ (byt W k = 92 ∧ bh = false)) := Lib.hid (by rw [HXX.out]; exact h92)
          have hq : (x == 92) = false ∨ ((x == 92) = true ∧ bh = true) := by
            cases hx : (x == 92) with
            | false => exact .inl rfl
            | true =>
              right
              refine ⟨rfl, ?_⟩
              cases bh with
              | true => rfl
              | false => exact absurd ⟨by simpa using hx, rfl⟩ h92
          clear h92
          obtain ⟨es, hes⟩ : ∃ es, escB x = es := ⟨_, rfl⟩
          have HE' := Lib.hid (HE.out x)
          rw [hes] at HE'
          have HES := Lib.hid hes
          clear hes
          by_cases heb : es = bh
          · subst heb
            have HN := Lib.hid (HI.out.take HLT.out H92.out (by rw [HXX.out]; exact HES.out))
            rw [← HCH.out] at HN
            have hq3 : (es = true ∧ (x == 92) = true) ∨ (es = true ∧ (x == 92) = false) ∨ (es = false ∧ (x == 92) = false) := by
              rcases hq with h | ⟨h, e⟩
              · cases es
                · exact .inr (.inr ⟨rfl, h⟩)
                · exact .inr (.inl ⟨rfl, h⟩)
              · exact .inl ⟨e, h⟩
            clear hq
            rcases hq3 with ⟨rfl, hq⟩ | ⟨rfl, hq⟩ | ⟨rfl, hq⟩
            all_goals
              go_wp2_with fail
              refine (HE'.out _).mono ?_
              rintro e w' ⟨rfl, rfl⟩
              go_wp2_with (at_builtin; refine wpList_app _ rfl _ _ 31 rfl w2.heap.size 5 i0 Tryd.underlying31 hi hz0 hz1 hz2 _ out rfl (hown.alloc _) (some ⟨wr.heap.size, 0, none⟩) 1 1 [ch] rfl rfl (wr.heap.size + 1) (Rd.new1 _ _ HXC.out) (by have := HOL.out; simp; omega) (by have := HB.out.size; simp; omega) ?_)
              intro v' w1 hown' hgrow hat
              have hb' : Below w2.heap.size w2 w1 := (HB.out.alloc HB.out.size _).grown hgrow (by have := HB.out.size; simp; omega) (fun g hg => (hown.lt g hg).1)
              clear hgrow hat hown hb
              go_wp2_with fail
              go_roundw
              case rel => exact ⟨k + 1, out ++ [ch], false, by omega, by go_num, rfl, by have := HOL.out; simp; omega, HN.out, hown', hb'⟩
              case measure => simp [intOf]; omega
          · have heb' : es = !bh := by cases es <;> cases bh <;> first | rfl | exact absurd rfl heb
            clear heb
            subst heb'
            have HN := Lib.hid (HI.out.stop HLT.out H92.out (by rw [HXX.out]; exact HES.out))
            have hq3 : (bh = true ∧ (x == 92) = true) ∨ (bh = true ∧ (x == 92) = false) ∨ (bh = false ∧ (x == 92) = false) := by
              rcases hq with h | ⟨h, e⟩
              · cases bh
                · exact .inr (.inr ⟨rfl, h⟩)
                · exact .inr (.inl ⟨rfl, h⟩)
              · exact .inl ⟨e, h⟩
            clear hq
            rcases hq3 with ⟨rfl, hq⟩ | ⟨rfl, hq⟩ | ⟨rfl, hq⟩
            all_goals
              go_wp2_with fail
              refine (HE'.out _).mono ?_
              rintro e w' ⟨rfl, rfl⟩
              go_wp2_with fail
              go_ret2
              exact ⟨fun _ h => (by rw [H1.out, HN.out] at h; cases h), fun _ => ⟨_, rfl⟩, HB.out⟩
      · obtain rfl : k = W.length := by omega
        have HN := Lib.hid (HI.out.end_)
        have HB := Lib.hid hb
        cases bh
        · go_wp2_with fail
          go_ret2
          exact ⟨fun _ h => (by rw [H1.out, HN.out] at h; cases h; exact ⟨_, rfl, hown⟩), fun h => (by rw [H1.out, HN.out] at h; cases h), HB.out⟩
        · go_wp2_with fail
          go_ret2
          exact ⟨fun _ h => (by rw [H1.out, HN.out] at h; cases h), fun _ => ⟨_, rfl⟩, HB.out⟩
  · have H1 := Lib.hid h1
    obtain ⟨L, hL⟩ : ∃ L, L = Lib.trimPrefix l [34] := ⟨_, rfl⟩
    have hLl : L.length ≤ 1000000 := by
      rw [hL]
      unfold Lib.trimPrefix
      split
      · simp; omega
      · omega
    obtain ⟨bp, hbp⟩ : ∃ bp, bp = Lib.hasPrefix l [34] := ⟨_, rfl⟩
    rw [← hL, ← hbp] at HC
    have HS := Lib.hid (fun w' => Tryd.strings_CutSuffix ⟨L.toArray⟩ ⟨#[34]⟩ w' (by rw [tstr_size]; omega))
    rw [show (⟨L.toArray⟩ : ByteArray).data.toList = L from rfl, show (⟨#[34]⟩ : ByteArray).data.toList = [34] from rfl] at HS
    rw [← hbp, ← hL] at h2
    generalize Lib.trimSuffix L [34] = T at *
    generalize Lib.hasSuffix L [34] = bs at *
    clear h1 h3 hL hbp hLl
    rcases h2 with rfl | ⟨rfl, rfl⟩
    · cases bs
      all_goals
        go_enter Tryd.func57, Tryd.ntmps57
        go_wp2_with fail
        refine (HC.out _).mono ?_
        rintro e w1 ⟨rfl, rfl⟩
        go_wp2_with fail
        refine (HS.out _).mono ?_
        rintro e w2 ⟨rfl, rfl⟩
        go_wp2_with fail
        go_ret2
        exact ⟨fun _ h => (by rw [H1.out] at h; cases h), fun _ => ⟨_, rfl⟩, Below.refl _ _⟩
    · go_enter Tryd.func57, Tryd.ntmps57
      go_wp2_with fail
      refine (HC.out _).mono ?_
      rintro e w1 ⟨rfl, rfl⟩
      go_wp2_with fail
      refine (HS.out _).mono ?_
      rintro e w2 ⟨rfl, rfl⟩
      go_wp2_with fail
      go_ret2
      exact ⟨fun _ h => (by rw [H1.out] at h; cases h), fun _ => ⟨_, rfl⟩, Below.refl _ _⟩
end Go.Proofs.YtlibolkkklfdoaaDoor
