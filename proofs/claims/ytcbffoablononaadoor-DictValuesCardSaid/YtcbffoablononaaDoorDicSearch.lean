/-
  sort.Search with the closure of Find; Find; has.
-/
import Derived.Test.YtcbffoablononaaDoorDicFind
namespace Go.Proofs.YtcbffoablononaaDoor
namespace Dic
open Go.RowKit Mem Ent
set_option linter.unusedVariables false
set_option linter.unusedSimpArgs false
set_option maxRecDepth 100000

/-- What Search ends with: all ahead of k are not, k and those behind are. -/
def SearchEnds (W : World) (n : Nat) (pr : Nat → Bool) (e : Ending) (w' : World) : Prop :=
  ∃ k : Nat, e = .returned (.int .i64 (k : Int)) ∧ k ≤ n ∧ (∀ i, i < k → pr i = false) ∧ (∀ i, k ≤ i → i < n → pr i = true) ∧ Below W.heap.size W w'

theorem half_nat (i j : Nat) : ((i : Int) + (j : Int)) / 2 = ((((i + j) / 2 : Nat)) : Int) := by omega

set_option maxHeartbeats 1000000 in
theorem search_any (n : Nat) (pr : Nat → Bool) (pd pp : Nat) (W : World) (hn : n ≤ 1000)
    (hf : ∀ X i, Below W.heap.size W X → i < n → Calls Tryd.prog 49 #[.int .i64 ((i : Nat) : Int), ptr pd, ptr pp] X fun e w' => e = .returned (.bool (pr i)) ∧ Below X.heap.size X w')
    (hm : ∀ i j, i ≤ j → j < n → pr i = true → pr j = true) :
    Calls Tryd.prog 48 #[.int .i64 (n : Int), .func (.func 49) #[] #[ptr pd, ptr pp]] W (SearchEnds W n pr) := by
  have HF := Lib.hid hf
  have HM := Lib.hid hm
  clear hf hm
  go_enter Tryd.func48, Tryd.ntmps48
  go_wp2_with fail
  go_loopw [5, 6] (fun iv jv wr => ∃ i j : Nat, i ≤ j ∧ j ≤ n ∧ iv = .int .i64 (i : Int) ∧ jv = .int .i64 (j : Int) ∧ Hid (∀ a, a < i → pr a = false) ∧ Hid (∀ a, j ≤ a → a < n → pr a = true) ∧ Hid (Below W.heap.size W wr)) (fun iv jv _ => (intOf jv).toNat - (intOf iv).toNat)
  case atStart => exact ⟨0, n, by omega, by omega, rfl, rfl, Lib.hid (fun a h => by omega), Lib.hid (fun a h h' => by omega), Lib.hid (Below.refl _ _)⟩
  case round =>
    obtain ⟨i, j, hij, hjn, rfl, rfl, hA, hB, hb⟩ := hrel
    by_cases hlt : i < j
    · have e0 := half_nat i j
      have m1 : (i + j) / 2 < n := by omega
      have m2 : i ≤ (i + j) / 2 := by omega
      have m3 : (i + j) / 2 < j := by omega
      generalize (i + j) / 2 = m at *
      have K := HF.out wr m hb.out m1
      rw [← e0] at K
      have UP := Lib.hid (fun (h : pr m = false) (a : Nat) (ha : a < m + 1) => show pr a = false by
        cases hp : pr a with
        | false => rfl
        | true => rw [HM.out a m (by omega) m1 hp] at h; cases h)
      have DN := Lib.hid (fun (h : pr m = true) (a : Nat) (ha : m ≤ a) (hn : a < n) => HM.out m a ha hn h)
      have HE := Lib.hid e0
      clear e0 HF HM
      cases hp : pr m with
      | false =>
        have U := Lib.hid (UP.out hp)
        rw [hp] at K
        have K := Lib.hid K
        clear UP DN hp hA
        go_wp2_with fail
        refine K.out.mono ?_
        rintro e w' ⟨rfl, b⟩
        have T := Lib.hid (hb.out.trans (b.mono hb.out.size))
        clear b
        go_wp2_with fail
        go_roundw
        case rel => exact ⟨m + 1, j, by omega, by omega, by rw [HE.out]; rfl, rfl, U, hB, T⟩
        case measure => simp [intOf, HE.out]; omega
      | true =>
        have U := Lib.hid (DN.out hp)
        rw [hp] at K
        have K := Lib.hid K
        clear UP DN hp hB
        go_wp2_with fail
        refine K.out.mono ?_
        rintro e w' ⟨rfl, b⟩
        have T := Lib.hid (hb.out.trans (b.mono hb.out.size))
        clear b
        go_wp2_with fail
        go_roundw
        case rel => exact ⟨i, m, by omega, by omega, rfl, by rw [HE.out], hA, U, T⟩
        case measure => simp [intOf, HE.out]; omega
    · have hE : i = j := by omega
      subst hE
      clear HF HM
      go_wp2_with fail
      go_ret
      exact ⟨i, rfl, hjn, hA.out, hB.out, hb.out⟩

section
variable {W : World} {p : Nat} {v : Value} {N : Nat → Prop} {rs : List Rv}
/-- Where the search for a place ends. -/
theorem low_of {n k : Nat} {ix sub : Int} {rs : List Rv} (hn : rs.length = n) (hk : k ≤ n) (h0 : ∀ i, i < k → (!(befB (rs.getD i Rv.zero).e.ix (rs.getD i Rv.zero).e.sub ix sub)) = false) (h1 : ∀ i, k ≤ i → i < n → (!(befB (rs.getD i Rv.zero).e.ix (rs.getD i Rv.zero).e.sub ix sub)) = true) : Low (evs rs) ix sub k :=
  ⟨by simpa [hn] using hk, fun i hi => by rw [at_evs]; simpa using h0 i hi, fun i h2 h3 => by rw [at_evs]; simpa using h1 i h2 (by simpa [hn] using h3)⟩
/-- What Find answers. -/
def findA (l : List Ev) (ix sub : Int) : Int × Bool := if fnd l ix sub < 0 then (0, false) else (fnd l ix sub, true)

theorem find_start (h : IsD W p v N rs) (ix sub : Int) : FC ((W.alloc (.cells #[ptr p] 27)).alloc (.cells (plc ix sub) 38)) p v N rs W.heap.size (W.heap.size + 1) ix sub := by
  have b1 := one_b W (.cells #[ptr p] 27)
  have b2 := one_b (W.alloc (.cells #[ptr p] 27)) (.cells (plc ix sub) 38)
  refine ⟨(h.below b1).below b2, ?_, ?_⟩
  · rw [b2.block _ (by simp)]
    exact heap_alloc_new W _
  · have := heap_alloc_new (W.alloc (.cells #[ptr p] 27)) (.cells (plc ix sub) 38)
    simpa using this

set_option maxHeartbeats 2000000 in
theorem find_any (h : IsD W p v N rs) (hi : Fine (evs rs) rs.length) (ix sub : Int) :
    Calls Tryd.prog 23 #[ptr p, .int .i64 ix, .int .i64 sub] W fun e w' => e = .returned (.tuple #[.int .i64 (findA (evs rs) ix sub).1, .bool (findA (evs rs) ix sub).2]) ∧ Below W.heap.size W w' := by
  have HN := none_any (h.below (one_b W (.cells #[ptr p] 27)))
  have few := h.few
  obtain ⟨A, c, rfl, hlc, hcm⟩ := h.form
  have S := Lib.hid (find_start h ix sub)
  have c0 := S.out.d.c0
  have BB := Lib.hid (two_b W (.cells #[ptr p] 27) (.cells (plc ix sub) 38))
  have K := Lib.hid (search_any rs.length (fun i => !(befB (rs.getD i Rv.zero).e.ix (rs.getD i Rv.zero).e.sub ix sub)) W.heap.size (W.heap.size + 1) ((W.alloc (.cells #[ptr p] 27)).alloc (.cells (plc ix sub) 38)) (by omega)
    (fun X i b hi => find1_any (S.out.below b) hi)
    (fun i j hij hj hp => by
      have h1 : befB (at_ (evs rs) i).ix (at_ (evs rs) i).sub ix sub = false := by rw [at_evs]; simpa using hp
      have h2 := Low.from_ge (l := evs rs) (n := rs.length) hi hj hij h1
      rw [at_evs] at h2
      show (!(befB (rs.getD j Rv.zero).e.ix (rs.getD j Rv.zero).e.sub ix sub)) = true
      rw [h2]
      rfl))
  clear h
  go_enter Tryd.func23, Tryd.ntmps23
  go_wp2_with fail
  refine HN.mono ?_
  rintro e w' ⟨rfl, rfl⟩
  go_wp2_with fail
  refine K.out.mono ?_
  rintro e w' ⟨k, rfl, hk, h0, h1, b⟩
  have LW := Lib.hid (low_of rfl hk h0 h1)
  have S1 := Lib.hid (S.out.below b)
  have BC := Lib.hid (BB.out.trans (b.mono BB.out.size))
  have HL : (evs rs).length = rs.length := by simp
  clear h0 h1 b K S BB c0 HN
  have c0 := S1.out.cb
  have c1 := S1.out.d.c0
  by_cases hE : k = rs.length
  · have hd : ((k : Int) == (rs.length : Int)) = true := by simp [hE]
    have HX : Hid (findA (evs rs) ix sub = (0, false)) := Lib.hid (by
      unfold findA
      rw [if_pos]
      rw [LW.out.none (by rw [HL]; exact hi) (by rw [HL]; omega)]
      split <;> omega)
    clear hE HL
    go_wp2_with fail
    go_quiet (fail)
    go_wp2_with fail
    go_ret2
    exact ⟨by rw [HX.out]; rfl, below_drewN BC.out nq⟩
  · have hd : ((k : Int) == (rs.length : Int)) = false := by simp; omega
    have hk' : k < rs.length := by omega
    have j1 : (0 : Int) ≤ (k : Int) := by omega
    have j2 : (k : Int) < (rs.length : Int) := by omega
    have C := Lib.hid (fun X (b : Below w'.heap.size w' X) => (S1.out.below b).cb)
    have D := Lib.hid (fun X (b : Below w'.heap.size w' X) => (S1.out.below b).d.c0)
    obtain ⟨g, c', e1, hg, z1, z2, QQ, z3⟩ := S1.out.d.at hk' rfl
    injection e1 with e1 e2 e3
    subst e1
    clear e2 e3 z1 z2 z3
    have E := Lib.hid (fun X (b : Below w'.heap.size w' X) => QQ.below hg b)
    clear QQ hg
    have L := Lib.hid (fun X (b : Below w'.heap.size w' X) => row_cells (S1.out.below b).l)
    have BF := Lib.hid (fun X => before_any ix sub [] 0 0 false false 0 0 0 (.slice none 0 0) (rs.getD k Rv.zero).e.ix (rs.getD k Rv.zero).e.sub (rs.getD k Rv.zero).e.nm (rs.getD k Rv.zero).e.ty (rs.getD k Rv.zero).e.ac (rs.getD k Rv.zero).e.mp (rs.getD k Rv.zero).e.st (rs.getD k Rv.zero).e.mx (rs.getD k Rv.zero).e.lo (rs.getD k Rv.zero).e.hi (.slice (rs.getD k Rv.zero).A (rs.getD k Rv.zero).e.d.length (rs.getD k Rv.zero).cA) X)
    have HA := Lib.hid (at_evs rs k)
    have X1 := Lib.hid (fun (hb : befB ix sub (rs.getD k Rv.zero).e.ix (rs.getD k Rv.zero).e.sub = true) => show findA (evs rs) ix sub = (0, false) by
      rw [bef_iff] at hb
      unfold findA
      rw [if_pos]
      rw [LW.out.none (by rw [HL]; exact hi) (by rw [HL, HA.out]; omega)]
      split <;> omega)
    have X2 := Lib.hid (fun (hb : befB ix sub (rs.getD k Rv.zero).e.ix (rs.getD k Rv.zero).e.sub = false) => show findA (evs rs) ix sub = ((k : Int), true) by
      have hg := LW.out.ge k (Nat.le_refl _) (by rw [HL]; exact hk')
      rw [HA.out] at hg
      rw [bef_no] at hb hg
      unfold findA
      rw [LW.out.at (by rw [HL]; exact hi) (by rw [HL]; exact hk') (by rw [HA.out]; omega) (by rw [HA.out]; omega), if_neg (by omega)])
    generalize rs.getD k Rv.zero = r at *
    clear HA LW HL hE hk' hk
    generalize rs.length = n at *
    go_wp2_with fail
    refine Txt.wp_region_textN 19 (fun X => Below w'.heap.size w' X) (by kernel_rfl) (by kernel_rfl) (by kernel_rfl) (by kernel_rfl) (fun _ _ _ _ _ h => h) (Below.refl _ _).drew ?_
    clear c0 c1
    iterate 17 (
      apply Txt.step rfl
      · intro X hS K hK
        have cb := C.out X hS
        have c0 := D.out X hS
        obtain ⟨x0, x1, x2, x3, x4, x5, x6, x7, x8, x9, x10⟩ := L.out X hS
        obtain ⟨q0, q1, q2, q3, q4, q5, q6, q7, q8, q9, q10, q11⟩ := E.out X hS
        have HS := Lib.hid hS
        clear hS
        go_simp
        first
          | exact hK.out _ HS.out
          | (go_wp2_with fail
             exact hK.out _ HS.out)
      · first | exact ⟨_, rfl⟩ | exact ⟨undef, rfl⟩)
    iterate 2 (
      apply Txt.step rfl
      · intro X hS K hK
        go_simp
        first
          | exact hK.out _ hS
          | (go_wp2_with (go_at_call 35; refine (BF.out X).mono ?_; rintro e w' ⟨rfl, b⟩; have T := Lib.hid (hS.trans (b.mono hS.size)); clear b)
             exact hK.out _ T.out)
      · first | exact ⟨_, rfl⟩ | exact ⟨undef, rfl⟩)
    refine Txt.last fun X hS => ?_
    have B2 := Lib.hid (BC.out.trans (hS.mono BC.out.size))
    clear hS C D E L BF
    cases hb : befB ix sub r.e.ix r.e.sub with
    | true =>
      have HX := Lib.hid (X1.out hb)
      clear X1 X2
      go_wp2_with fail
      go_ret2
      exact ⟨by rw [HX.out]; rfl, B2.out⟩
    | false =>
      have HX := Lib.hid (X2.out hb)
      clear X1 X2
      go_wp2_with fail
      go_ret2
      exact ⟨by rw [HX.out]; rfl, B2.out⟩
end
end Dic
end Go.Proofs.YtcbffoablononaaDoor
