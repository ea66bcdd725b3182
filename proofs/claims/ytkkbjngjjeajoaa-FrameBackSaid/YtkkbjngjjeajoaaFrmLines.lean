/-
  Lines of package frame, and the document's.
-/
import Derived.Test.YtkkbjngjjeajoaaFrmList
namespace Go.Proofs.Ytkkbjngjjeajoaa
namespace Frm
open Go.RowKit Mem
set_option linter.unusedVariables false
set_option linter.unusedSimpArgs false
set_option maxRecDepth 100000

theorem new_three (w : World) (o : Obj) (x y z : Value) (t : TypeId) {j : Nat} {u : Value} (h : [x, y, z][j]? = some u) : ((w.alloc o).alloc (.cells #[x, y, z] t)).cell? ⟨w.heap.size + 1, j, none⟩ = some u := by
  have := heap_alloc2_new w o (.cells #[x, y, z] t)
  rw [cellof this j]
  simpa using h
theorem cut_no (l : List UInt8) (c : UInt8) (k : Nat) (hk : k < (cutL l c).length) (h : k < (⟨l.toArray⟩ : ByteArray).size) : (((((⟨l.toArray⟩ : ByteArray)[k]'h).toNat : Nat) : Int) != (c.toNat : Int)) = true := by
  have hkl : k < l.length := Nat.lt_of_lt_of_le hk (cutL_le l c)
  have e : (cutL l c)[k] = l[k] := (List.takeWhile_prefix (fun x : UInt8 => x != c) (l := l)).getElem hk
  have hm : (cutL l c)[k] ∈ cutL l c := List.getElem_mem hk
  have h1 : ((cutL l c)[k] != c) = true := by
    have := List.all_takeWhile (p := fun x : UInt8 => x != c) (l := l)
    exact List.all_eq_true.1 this _ hm
  rw [e] at h1
  rw [str_at, bne_iff_ne]
  intro h2
  have h3 : byt l k = ((l[k]).toNat : Int) := by simp [byt, hkl]
  rw [h3] at h2
  have : l[k] = c := UInt8.toNat_inj.1 (by omega)
  rw [this] at h1
  simp at h1
theorem cut_all (l : List UInt8) (c : UInt8) (h : l.contains c = false) : (cutL l c).length = l.length := by
  rcases index_in l c with ⟨h1, _⟩ | ⟨_, _, h3, _⟩
  · rw [h] at h1; cases h1
  · rw [h3]
theorem cut_at (l : List UInt8) (c : UInt8) (h : l.contains c = true) : (cutL l c).length < l.length ∧ l.take (cutL l c).length = cutL l c ∧ l.drop ((cutL l c).length + 1) = cutR l c ∧ ∀ hh : (cutL l c).length < (⟨l.toArray⟩ : ByteArray).size, (((((⟨l.toArray⟩ : ByteArray)[(cutL l c).length]'hh).toNat : Nat) : Int) != (c.toNat : Int)) = false := by
  rcases index_in l c with ⟨_, _, h3, h4, h5⟩ | ⟨hf, _⟩
  · refine ⟨h3, h4, h5, fun hh => ?_⟩
    rw [str_at]
    have e : l[(cutL l c).length]? = some c := by
      conv => lhs; rw [cut_split l c h]
      rw [List.getElem?_append_right (by rw [cut_split l c h] at h3; exact Nat.le_of_eq (by rw [← cut_split l c h])), ← cut_split l c h, Nat.sub_self]
      rfl
    simp [byt, List.getD_eq_getElem?_getD, e]
  · rw [h] at hf; cases hf
theorem cut_no10 (l : List UInt8) (k : Nat) (hk : k < (cutL l 10).length) (h : k < (⟨l.toArray⟩ : ByteArray).size) : (((((⟨l.toArray⟩ : ByteArray)[k]'h).toNat : Nat) : Int) != 10) = true := cut_no l 10 k hk h
theorem cut_at10 (l : List UInt8) (h : l.contains 10 = true) : (cutL l 10).length < l.length ∧ l.take (cutL l 10).length = cutL l 10 ∧ l.drop ((cutL l 10).length + 1) = cutR l 10 ∧ ∀ hh : (cutL l 10).length < (⟨l.toArray⟩ : ByteArray).size, (((((⟨l.toArray⟩ : ByteArray)[(cutL l 10).length]'hh).toNat : Nat) : Int) != 10) = false := cut_at l 10 h
def szOf (v : Value) : Nat := match v with | .string s => s.size | _ => 0

set_option maxHeartbeats 2000000 in
theorem lines_any (l0 : List UInt8) (w : World) (hle : l0.length ≤ 1000000) :
    Calls Try.prog 36 #[.string ⟨l0.toArray⟩] w (LinesEnds w (linesA l0)) := by
  obtain ⟨i0, hi, hz0, hz1, hz2⟩ := info_parts info_frm
  have W0 := Lib.hid (Way.start l0)
  generalize linesA l0 = R at *
  generalize hn0 : l0.length = n0 at *
  go_enter Try.func36, Try.ntmps36
  go_wp2_with fail
  go_loopw [0, 5] (fun sv lv wr => ∃ (l : List UInt8) (fs : List Fv), sv = .string ⟨l.toArray⟩ ∧ FL wr w.heap.size lv fs ∧ Below w.heap.size w wr ∧ Hid (Way R n0 l fs)) (fun sv _ _ => szOf sv)
  case atStart => exact ⟨l0, [], rfl, FL.nil _ _, Below.refl _ _, W0⟩
  case round =>
    obtain ⟨l, fs, rfl, hfl, hb, hw⟩ := hrel
    have HF := Lib.hid hfl
    have HB := Lib.hid hb
    have hl1 := hw.out.2
    obtain ⟨A0, c0, hv0, _⟩ := hfl.form
    subst hv0
    clear hb hfl W0 hn0
    by_cases hl : l = []
    · subst hl
      have D := Lib.hid hw.out.done
      go_wp2_with fail
      go_ret3
      rw [D.out]
      exact ⟨_, fs, rfl, HF.out, rfl, HB.out⟩
    · have CU := Lib.hid (fun W => cut_any l 10 W (by omega))
      have ne1 : (l == []) = false := by simpa using hl
      have ne2 : l.isEmpty = false := by simpa using hl
      have HL := Lib.hid hl
      have LL := Lib.hid (cutL_le l 10)
      clear hl
      cases hc : l.contains 10 with
      | false =>
        have O := Lib.hid (hw.out.open_ HL.out hc)
        rw [hc] at CU
        clear hc
        go_wp2_with fail
        refine (CU.out _).mono ?_
        rintro e w1 ⟨rfl, n, rfl⟩
        go_wp2_with fail
        go_ret3
        rw [O.out]
        exact ⟨_, [], rfl, FL.nil _ _, rfl, below_drewN HB.out n⟩
      | true =>
        have PA := Lib.hid (fun W => parse_any (cutL l 10) W (by have := LL.out; omega))
        have BAD := Lib.hid (hw.out.bad HL.out hc)
        have MORE := Lib.hid (fun f hp => hw.out.more (f := f) HL.out hc hp)
        have RLE := Lib.hid (cutR_le l 10 hc)
        rw [hc] at CU
        clear hc
        generalize parseA (cutL l 10) = P at *
        obtain ⟨⟨pi, pr, pd⟩, pe⟩ := P
        go_wp2_with fail
        refine (CU.out _).mono ?_
        rintro e w1 ⟨rfl, n, rfl⟩
        have HF1 := Lib.hid (show FL (wr.drewN n) w.heap.size (.slice A0 fs.length c0) fs from ⟨HF.out.own, HF.out.data⟩)
        have HB1 := Lib.hid (below_drewN HB.out n)
        clear HF HB
        go_wp2_with fail
        refine (PA.out _).mono ?_
        rintro e w2 ⟨v2, rfl, o2, b2⟩
        have HF2 := Lib.hid (HF1.out.below b2)
        have HB2 := Lib.hid (HB1.out.trans (b2.mono HB1.out.size))
        have OO := Lib.hid (o2.lower (Nat.zero_le _))
        obtain ⟨A2, c2, rfl, _⟩ := o2.form
        clear HF1 HB1 o2 b2 PA CU
        by_cases he : pe = 0
        · subst he
          have WM := Lib.hid (MORE.out ⟨pi, pr, A2, pd, c2⟩ rfl)
          have F3 := Lib.hid ((HF2.out.below (one_below w2 (.cells #[.int .i64 pi, .bool pr, .slice A2 pd.length c2] 50))).below (one_below _ (.cells #[.int .i64 pi, .bool pr, .slice A2 pd.length c2] 50)))
          have O3 := Lib.hid (OO.out.below (below_two w2 (.cells #[.int .i64 pi, .bool pr, .slice A2 pd.length c2] 50) (.cells #[.int .i64 pi, .bool pr, .slice A2 pd.length c2] 50)) (Nat.le_refl _))
          have B3 := Lib.hid (HB2.out.trans ((below_two w2 (.cells #[.int .i64 pi, .bool pr, .slice A2 pd.length c2] 50) (.cells #[.int .i64 pi, .bool pr, .slice A2 pd.length c2] 50)).mono HB2.out.size))
          have own3 := F3.out.own
          go_wp2_with (at_builtin; refine wpList_appS _ rfl (.tmp 33) (.tmp 35) 60 rfl w.heap.size 50 i0 (.agg #[.int .i64 0, .bool false, .slice none 0 0]) 3 40 Try.underlying60 hi hz0 hz1 hz2 rfl (by decide) _ fs.length (flatF fs) rfl own3 ⟨w2.heap.size + 1, 0, none⟩ 1 1 [.int .i64 pi, .bool pr, .slice A2 pd.length c2] rfl rfl ?c1 ?c2 ?c3 ?c4 ?c5 ?_)
          case c1 => intro j u hu; rw [Addr.add_lit, Nat.zero_add]; exact new_three w2 _ _ _ _ _ hu
          case c2 => intro u hu; simp at hu; rcases hu with rfl | rfl | rfl <;> rfl
          case c3 => unfold maxLen; omega
          case c4 => omega
          case c5 => have := HB2.out.size; simp; omega
          intro v' w5 hown5 hg5
          have F5 := Lib.hid (F3.out.snoc (f := ⟨pi, pr, A2, pd, c2⟩) O3.out hown5 hg5)
          have B5 := Lib.hid (B3.out.grown hg5 (by have := HB2.out.size; simp; omega) (fun g hg => (own3.lt g hg).1))
          have RL := RLE.out
          clear hown5 hg5 own3 F3 O3 B3 OO HF2 HB2
          go_wp2_with fail
          go_roundw
          case rel => exact ⟨_, _, rfl, F5.out, B5.out, WM⟩
          case measure => simp [szOf, ByteArray.size]; omega
        · have BD := Lib.hid (BAD.out he)
          have he' : (pe != 0) = true := by simpa using he
          clear he
          go_wp2_with fail
          go_ret3
          rw [BD.out]
          exact ⟨_, [], rfl, FL.nil _ _, rfl, HB2.out.alloc HB2.out.size _⟩

set_option maxHeartbeats 2000000 in
theorem rlines_any (l0 : List UInt8) (w : World) (hle : l0.length ≤ 1000000) :
    Calls Try.prog 37 #[.string ⟨l0.toArray⟩] w (LinesEnds w (linesA l0)) := by
  obtain ⟨i0, hi, hz0, hz1, hz2⟩ := info_parts info_frm
  have W0 := Lib.hid (Way.start l0)
  generalize linesA l0 = R at *
  generalize hn0 : l0.length = n0 at *
  go_enter Try.func37, Try.ntmps37
  go_wp2_with fail
  go_loopw [0, 5, 6] (fun sv lv nv wr => ∃ (l : List UInt8) (fs : List Fv), sv = .string ⟨l.toArray⟩ ∧ nv = .int .i64 (fs.length : Int) ∧ FL wr w.heap.size lv fs ∧ Below w.heap.size w wr ∧ Hid (Way R n0 l fs)) (fun sv _ _ _ => szOf sv)
  case atStart => exact ⟨l0, [], rfl, rfl, FL.nil _ _, Below.refl _ _, W0⟩
  case round =>
    obtain ⟨l, fs, rfl, rfl, hfl, hb, hw⟩ := hrel
    have HF := Lib.hid hfl
    have HB := Lib.hid hb
    have hl1 := hw.out.2
    obtain ⟨A0, c0, hv0, _⟩ := hfl.form
    subst hv0
    clear hb hfl W0 hn0
    by_cases hl : l = []
    · subst hl
      have D := Lib.hid hw.out.done
      go_wp2_with fail
      go_ret3
      rw [D.out]
      exact ⟨_, fs, rfl, HF.out, rfl, HB.out⟩
    · have hs : (⟨l.toArray⟩ : ByteArray).size = l.length := by simp [ByteArray.size]
      have hpos : 0 < l.length := by cases l with | nil => exact absurd rfl hl | cons => simp
      have HL := Lib.hid hl
      have hK := cutL_le l 10
      have NT := Lib.hid (cut_no10 l)
      clear hl
      obtain ⟨wo, hwo⟩ : ∃ wo : World, wo = wr := ⟨_, rfl⟩
      rw [← hwo] at HF HB ⊢
      clear hwo
      cases hc : l.contains 10 with
      | false =>
        have O := Lib.hid (hw.out.open_ HL.out hc)
        have E := Lib.hid (cut_all l 10 hc)
        clear hc
        go_wp2_with fail
        go_loop [7] (fun kv => ∃ k : Nat, k ≤ l.length ∧ kv = .int .i64 (k : Int)) (fun kv => l.length - (intOf kv).toNat)
        case atStart => exact ⟨0, by omega, rfl⟩
        case round =>
          obtain ⟨k, hk, rfl⟩ := hrel
          by_cases hlt : k < l.length
          · have ht := fun h => NT.out k (by rw [E.out]; exact hlt) h
            go_wp2_with fail
            go_round
            case rel => exact ⟨k + 1, by omega, by go_num⟩
            case measure => simp [intOf]; omega
          · obtain rfl : k = l.length := by omega
            go_wp2_with fail
            go_ret3
            rw [O.out]
            exact ⟨_, [], rfl, FL.nil _ _, rfl, HB.out⟩
      | true =>
        have PA := Lib.hid (fun W => rparse_any (cutL l 10) W (by omega))
        have BAD := Lib.hid (hw.out.bad HL.out hc)
        have MORE := Lib.hid (fun f hp => hw.out.more (f := f) HL.out hc hp)
        have RLE := Lib.hid (cutR_le l 10 hc)
        obtain ⟨h3, h4, h5, h6⟩ := cut_at10 l hc
        have E := Lib.hid h6
        have f1 : ∀ W, (Instr.slice 9 (.string ⟨l.toArray⟩) none (some (.int .i64 (((cutL l 10).length : Nat) : Int))) none).run Try.prog W = .ok (.string ⟨(cutL l 10).toArray⟩) W := by
          intro W
          rw [run_slice_string_to_if (P := Try.prog) W 9 ⟨l.toArray⟩ .i64 _ Try.underlying9, if_pos ⟨by omega, by rw [hs]; omega⟩]
          congr 2
          have : l.take (cutL l 10).length = cutL l 10 := h4
          simp [ByteArray.ext_iff, this]
        have f2 : ∀ W, (Instr.slice 9 (.string ⟨l.toArray⟩) (some (.int .i64 ((((cutL l 10).length : Nat) : Int) + 1))) none none).run Try.prog W = .ok (.string ⟨(cutR l 10).toArray⟩) W := by
          intro W
          rw [run_slice_string_from_if (P := Try.prog) W 9 ⟨l.toArray⟩ .i64 _ Try.underlying9, if_pos ⟨by omega, by rw [hs]; omega⟩]
          congr 2
          rw [show (((cutL l 10).length : Int) + 1).toNat = (cutL l 10).length + 1 by omega, hs, ← h5]
          simp [ByteArray.ext_iff]
          rw [List.take_of_length_le (by simp)]
        have F1 := Lib.hid f1
        have F2 := Lib.hid f2
        clear hc h4 h5 h6 f1 f2
        generalize parseA (cutL l 10) = P at *
        obtain ⟨⟨pi, pr, pd⟩, pe⟩ := P
        generalize cutL l 10 = L at *
        generalize cutR l 10 = T at *
        go_wp2_with fail
        go_loop [7] (fun kv => ∃ k : Nat, k ≤ L.length ∧ kv = .int .i64 (k : Int)) (fun kv => L.length - (intOf kv).toNat)
        case atStart => exact ⟨0, by omega, rfl⟩
        case round =>
          obtain ⟨k, hk, rfl⟩ := hrel
          by_cases hlt : k < L.length
          · have ht := fun h => NT.out k hlt h
            have hkl : k < l.length := by omega
            go_wp2_with fail
            go_round
            case rel => exact ⟨k + 1, by omega, by go_num⟩
            case measure => simp [intOf]; omega
          · obtain rfl : k = L.length := by omega
            have ht := E.out
            have f1 := F1.out
            have f2 := F2.out
            have hq : (L.length == l.length) = false := by simp; omega
            go_wp2_with fail
            clear ht hq
            refine (PA.out _).mono ?_
            rintro e w2 ⟨v2, rfl, o2, b2⟩
            have HF2 := Lib.hid (HF.out.below b2)
            have HB2 := Lib.hid (HB.out.trans (b2.mono HB.out.size))
            have OO := Lib.hid (o2.lower (Nat.zero_le _))
            obtain ⟨A2, c2, rfl, _⟩ := o2.form
            clear HF HB o2 b2 PA
            by_cases he : pe = 0
            · subst he
              have WM := Lib.hid (MORE.out ⟨pi, pr, A2, pd, c2⟩ rfl)
              have F3 := Lib.hid ((HF2.out.below (one_below w2 (.cells #[.int .i64 pi, .bool pr, .slice A2 pd.length c2] 50))).below (one_below _ (.cells #[.int .i64 pi, .bool pr, .slice A2 pd.length c2] 50)))
              have O3 := Lib.hid (OO.out.below (below_two w2 (.cells #[.int .i64 pi, .bool pr, .slice A2 pd.length c2] 50) (.cells #[.int .i64 pi, .bool pr, .slice A2 pd.length c2] 50)) (Nat.le_refl _))
              have B3 := Lib.hid (HB2.out.trans ((below_two w2 (.cells #[.int .i64 pi, .bool pr, .slice A2 pd.length c2] 50) (.cells #[.int .i64 pi, .bool pr, .slice A2 pd.length c2] 50)).mono HB2.out.size))
              have own3 := F3.out.own
              go_wp2_with (at_builtin; refine wpList_appS _ rfl (.tmp 43) (.tmp 45) 60 rfl w.heap.size 50 i0 (.agg #[.int .i64 0, .bool false, .slice none 0 0]) 3 40 Try.underlying60 hi hz0 hz1 hz2 rfl (by decide) _ fs.length (flatF fs) rfl own3 ⟨w2.heap.size + 1, 0, none⟩ 1 1 [.int .i64 pi, .bool pr, .slice A2 pd.length c2] rfl rfl ?c1 ?c2 ?c3 ?c4 ?c5 ?_)
              case c1 => intro j u hu; rw [Addr.add_lit, Nat.zero_add]; exact new_three w2 _ _ _ _ _ hu
              case c2 => intro u hu; simp at hu; rcases hu with rfl | rfl | rfl <;> rfl
              case c3 => unfold maxLen; omega
              case c4 => omega
              case c5 => have := HB2.out.size; simp; omega
              intro v' w5 hown5 hg5
              have F5 := Lib.hid (F3.out.snoc (f := ⟨pi, pr, A2, pd, c2⟩) O3.out hown5 hg5)
              have B5 := Lib.hid (B3.out.grown hg5 (by have := HB2.out.size; simp; omega) (fun g hg => (own3.lt g hg).1))
              have RL := RLE.out
              clear hown5 hg5 own3 F3 O3 B3 OO HF2 HB2
              go_wp2_with fail
              go_roundw
              case rel => exact ⟨_, _, rfl, by simp, F5.out, B5.out, WM⟩
              case measure => simp [szOf, ByteArray.size]; omega
            · have BD := Lib.hid (BAD.out he)
              have he' : (pe != 0) = true := by simpa using he
              clear he
              go_wp2_with fail
              go_ret3
              rw [BD.out]
              exact ⟨_, [], rfl, FL.nil _ _, rfl, HB2.out.alloc HB2.out.size _⟩
end Frm
end Go.Proofs.Ytkkbjngjjeajoaa
