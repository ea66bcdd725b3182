/-
  The search for a place.
  sort.Search with the closure of Find; Find; has.
  Whether an entry has an Index.
-/
import Derived.Test.YtpdnfdpoebhjoaaDoorDicMath
import Derived.Test.YtpdnfdpoebhjoaaDoorEntVal
import Derived.Test.YtpdnfdpoebhjoaaDoorText
import Derived.BigQuiet
import Derived.Deep.QuietTactic
namespace Go.Proofs.YtpdnfdpoebhjoaaDoor
namespace Dic
open Go.RowKit Mem Ent
set_option linter.unusedVariables false
set_option linter.unusedSimpArgs false
set_option maxRecDepth 100000

theorem row_cells {W : World} {b : Nat} {ix sub : Int} {nm : List UInt8} {ty ac : Int} {mp st : Bool} {mx lo hi : Int} {v : Value} {t : TypeId} (h : W.heap[b]? = some (.cells (row ix sub nm ty ac mp st mx lo hi v) t)) :
    W.cell? ⟨b, 0, none⟩ = some (.int .i64 ix) ∧ W.cell? ⟨b, 1, none⟩ = some (.int .i64 sub) ∧ W.cell? ⟨b, 2, none⟩ = some (.string ⟨nm.toArray⟩) ∧ W.cell? ⟨b, 3, none⟩ = some (.int .i64 ty) ∧ W.cell? ⟨b, 4, none⟩ = some (.int .i64 ac) ∧
    W.cell? ⟨b, 5, none⟩ = some (.bool mp) ∧ W.cell? ⟨b, 6, none⟩ = some (.bool st) ∧ W.cell? ⟨b, 7, none⟩ = some (.int .i64 mx) ∧ W.cell? ⟨b, 8, none⟩ = some (.int .i64 lo) ∧ W.cell? ⟨b, 9, none⟩ = some (.int .i64 hi) ∧ W.cell? ⟨b, 10, none⟩ = some v := by
  have e : ∀ j, W.cell? ⟨b, j, none⟩ = (row ix sub nm ty ac mp st mx lo hi v)[j]? := fun j => by simp [World.cell?, h]
  exact ⟨e 0, e 1, e 2, e 3, e 4, e 5, e 6, e 7, e 8, e 9, e 10⟩

theorem none_any {W : World} {p : Nat} {v : Value} {N : Nat → Prop} {rs : List Rv} (h : IsD W p v N rs) : Calls Tryd.prog 41 #[ptr p] W fun e w' => e = .returned (.bool false) ∧ W = w' := by
  have c1 := h.c1
  clear h
  go_enter Tryd.func41, Tryd.ntmps41
  go_wp2_with fail
  go_ret
  exact ⟨rfl, rfl⟩

theorem none_nil (W : World) : Calls Tryd.prog 41 #[.pointer none] W fun e w' => e = .returned (.bool true) ∧ W = w' := by
  go_enter Tryd.func41, Tryd.ntmps41
  go_wp2_with fail
  go_ret
  exact ⟨rfl, rfl⟩

abbrev evs (rs : List Rv) : List Ev := rs.map (·.e)
theorem at_evs (rs : List Rv) (k : Nat) : at_ (evs rs) k = (rs.getD k Rv.zero).e := by
  unfold at_ evs
  rw [List.getD_eq_getElem?_getD, List.getElem?_map, List.getD_eq_getElem?_getD]
  cases rs[k]? <;> rfl

/-- A place, as an entry. -/
abbrev plc (ix sub : Int) : Array Value := row ix sub [] 0 0 false false 0 0 0 (.slice none 0 0)
/-- What the closure of Find reads. -/
structure FC (W : World) (p : Nat) (v : Value) (N : Nat → Prop) (rs : List Rv) (pd pp : Nat) (ix sub : Int) : Prop where
  d : IsD W p v N rs
  b : W.heap[pd]? = some (.cells #[ptr p] 27)
  l : W.heap[pp]? = some (.cells (plc ix sub) 38)
section
variable {W X : World} {p : Nat} {v : Value} {N : Nat → Prop} {rs : List Rv} {pd pp : Nat} {ix sub : Int}
theorem FC.below (h : FC W p v N rs pd pp ix sub) (b : Below W.heap.size W X) : FC X p v N rs pd pp ix sub :=
  ⟨h.d.below b, (b.block pd (Array.getElem?_eq_some_iff.1 h.b).1).trans h.b, (b.block pp (Array.getElem?_eq_some_iff.1 h.l).1).trans h.l⟩
theorem FC.cb (h : FC W p v N rs pd pp ix sub) : W.cell? ⟨pd, 0, none⟩ = some (ptr p) := by simp [World.cell?, h.b]

set_option maxHeartbeats 1000000 in
theorem find1_any (h : FC W p v N rs pd pp ix sub) {k : Nat} (hk : k < rs.length) :
    Calls Tryd.prog 63 #[.int .i64 (k : Int), ptr pd, ptr pp] W fun e w' => e = .returned (.bool (!(befB (rs.getD k Rv.zero).e.ix (rs.getD k Rv.zero).e.sub ix sub))) ∧ Below W.heap.size W w' := by
  obtain ⟨g, c, rfl, hg, h1, h2, _, _⟩ := h.d.at hk rfl
  have C := Lib.hid (fun X (b : Below W.heap.size W X) => (h.below b).cb)
  have D := Lib.hid (fun X (b : Below W.heap.size W X) => (h.below b).d.c0)
  have E := Lib.hid (fun X (b : Below W.heap.size W X) => (h.below b).d.at hk rfl)
  have L := Lib.hid (fun X (b : Below W.heap.size W X) => row_cells (h.below b).l)
  have j1 : (0 : Int) ≤ (k : Int) := by omega
  have j2 : (k : Int) < (rs.length : Int) := by omega
  have BF := Lib.hid (fun X => before_any (rs.getD k Rv.zero).e.ix (rs.getD k Rv.zero).e.sub (rs.getD k Rv.zero).e.nm (rs.getD k Rv.zero).e.ty (rs.getD k Rv.zero).e.ac (rs.getD k Rv.zero).e.mp (rs.getD k Rv.zero).e.st (rs.getD k Rv.zero).e.mx (rs.getD k Rv.zero).e.lo (rs.getD k Rv.zero).e.hi (.slice (rs.getD k Rv.zero).A (rs.getD k Rv.zero).e.d.length (rs.getD k Rv.zero).cA) ix sub [] 0 0 false false 0 0 0 (.slice none 0 0) X)
  generalize rs.getD k Rv.zero = r at *
  clear h h1 h2 hg hk
  generalize rs.length = n at *
  go_enter Tryd.func63, Tryd.ntmps63
  go_wp2_with fail
  refine Txt.wp_region_textN 12 (fun X => Below W.heap.size W X) (by kernel_rfl) (by kernel_rfl) (by kernel_rfl) (by kernel_rfl) (fun _ _ _ _ _ h => h) (Below.refl _ _).drew ?_
  iterate 12 (
    apply Txt.step rfl
    · intro X hS K hK
      have cb := C.out X hS
      have c0 := D.out X hS
      obtain ⟨g', c', e1, _, _, _, ⟨q0, q1, q2, q3, q4, q5, q6, q7, q8, q9, q10, q11⟩, _⟩ := E.out X hS
      injection e1 with e1 e2 e3
      injection e1 with e1
      injection e1 with e1 _
      subst e1
      obtain ⟨x0, x1, x2, x3, x4, x5, x6, x7, x8, x9, x10⟩ := L.out X hS
      have HS := Lib.hid hS
      clear hS e2 e3
      go_simp
      first
        | exact hK.out _ HS.out
        | (go_wp2_with (go_at_call 22; refine (BF.out X).mono ?_; rintro e w' ⟨rfl, b⟩; have T := Lib.hid (HS.out.trans (b.mono HS.out.size)); clear b)
           first | exact hK.out _ HS.out | exact hK.out _ T.out)
    · first | exact ⟨_, rfl⟩ | exact ⟨undef, rfl⟩)
  refine Txt.last fun X hS => ?_
  go_wp2_with fail
  go_ret
  exact ⟨rfl, hS⟩
end
end Dic
end Go.Proofs.YtpdnfdpoebhjoaaDoor

namespace Go.Proofs.YtpdnfdpoebhjoaaDoor
namespace Dic
open Go.RowKit Mem Ent
set_option linter.unusedVariables false
set_option linter.unusedSimpArgs false
set_option maxRecDepth 100000

/-- What Search ends with: all ahead of k are not, k and those behind are. -/
def SearchEnds (W : World) (n : Nat) (pr : Nat → Bool) (e : Ending) (w' : World) : Prop :=
  ∃ k : Nat, e = .returned (.int .i64 (k : Int)) ∧ k ≤ n ∧ (∀ i, i < k → pr i = false) ∧ (∀ i, k ≤ i → i < n → pr i = true) ∧ Below W.heap.size W w'

theorem half_nat (i j : Nat) : ((i : Int) + (j : Int)) / 2 = ((((i + j) / 2 : Nat)) : Int) := by omega

set_option maxHeartbeats 1000000 in
theorem search_any (n : Nat) (pr : Nat → Bool) (pd pp : Nat) (W : World) (hn : n ≤ 1000)
    (hf : ∀ X i, Below W.heap.size W X → i < n → Calls Tryd.prog 63 #[.int .i64 ((i : Nat) : Int), ptr pd, ptr pp] X fun e w' => e = .returned (.bool (pr i)) ∧ Below X.heap.size X w')
    (hm : ∀ i j, i ≤ j → j < n → pr i = true → pr j = true) :
    Calls Tryd.prog 62 #[.int .i64 (n : Int), .func (.func 63) #[] #[ptr pd, ptr pp]] W (SearchEnds W n pr) := by
  have HF := Lib.hid hf
  have HM := Lib.hid hm
  clear hf hm
  go_enter Tryd.func62, Tryd.ntmps62
  go_wp2_with fail
  go_loopw [5, 6] (fun iv jv wr => ∃ i j : Nat, i ≤ j ∧ j ≤ n ∧ iv = .int .i64 (i : Int) ∧ jv = .int .i64 (j : Int) ∧ Hid (∀ a, a < i → pr a = false) ∧ Hid (∀ a, j ≤ a → a < n → pr a = true) ∧ Hid (Below W.heap.size W wr)) (fun iv jv _ => (intOf jv).toNat - (intOf iv).toNat)
  case atStart => exact ⟨0, n, by omega, by omega, rfl, rfl, Lib.hid (fun a h => by omega), Lib.hid (fun a h h' => by omega), Lib.hid (Below.refl _ _)⟩
  case round =>
    obtain ⟨i, j, hij, hjn, rfl, rfl, hA, hB, hb⟩ := hrel
    by_cases hlt : i < j
    · have e0 := half_nat i j
      have m1 : (i + j) / 2 < n := by omega
      have m2 : i ≤ (i + j) / 2 := by omega
      have m3 : (i + j) / 2 < j := by omega
      generalize (i + j) / 2 = m at *
      have K := HF.out wr m hb.out m1
      rw [← e0] at K
      have UP := Lib.hid (fun (h : pr m = false) (a : Nat) (ha : a < m + 1) => show pr a = false by
        cases hp : pr a with
        | false => rfl
        | true => rw [HM.out a m (by omega) m1 hp] at h; cases h)
      have DN := Lib.hid (fun (h : pr m = true) (a : Nat) (ha : m ≤ a) (hn : a < n) => HM.out m a ha hn h)
      have HE := Lib.hid e0
      clear e0 HF HM
      cases hp : pr m with
      | false =>
        have U := Lib.hid (UP.out hp)
        rw [hp] at K
        have K := Lib.hid K
        clear UP DN hp hA
        go_wp2_with fail
        refine K.out.mono ?_
        rintro e w' ⟨rfl, b⟩
        have T := Lib.hid (hb.out.trans (b.mono hb.out.size))
        clear b
        go_wp2_with fail
        go_roundw
        case rel => exact ⟨m + 1, j, by omega, by omega, by rw [HE.out]; rfl, rfl, U, hB, T⟩
        case measure => simp [intOf, HE.out]; omega
      | true =>
        have U := Lib.hid (DN.out hp)
        rw [hp] at K
        have K := Lib.hid K
        clear UP DN hp hB
        go_wp2_with fail
        refine K.out.mono ?_
        rintro e w' ⟨rfl, b⟩
        have T := Lib.hid (hb.out.trans (b.mono hb.out.size))
        clear b
        go_wp2_with fail
        go_roundw
        case rel => exact ⟨i, m, by omega, by omega, rfl, by rw [HE.out], hA, U, T⟩
        case measure => simp [intOf, HE.out]; omega
    · have hE : i = j := by omega
      subst hE
      clear HF HM
      go_wp2_with fail
      go_ret
      exact ⟨i, rfl, hjn, hA.out, hB.out, hb.out⟩

section
variable {W : World} {p : Nat} {v : Value} {N : Nat → Prop} {rs : List Rv}
/-- Where the search for a place ends. -/
theorem low_of {n k : Nat} {ix sub : Int} {rs : List Rv} (hn : rs.length = n) (hk : k ≤ n) (h0 : ∀ i, i < k → (!(befB (rs.getD i Rv.zero).e.ix (rs.getD i Rv.zero).e.sub ix sub)) = false) (h1 : ∀ i, k ≤ i → i < n → (!(befB (rs.getD i Rv.zero).e.ix (rs.getD i Rv.zero).e.sub ix sub)) = true) : Low (evs rs) ix sub k :=
  ⟨by simpa [hn] using hk, fun i hi => by rw [at_evs]; simpa using h0 i hi, fun i h2 h3 => by rw [at_evs]; simpa using h1 i h2 (by simpa [hn] using h3)⟩
/-- What Find answers. -/
def findA (l : List Ev) (ix sub : Int) : Int × Bool := if fnd l ix sub < 0 then (0, false) else (fnd l ix sub, true)

theorem find_start (h : IsD W p v N rs) (ix sub : Int) : FC ((W.alloc (.cells #[ptr p] 27)).alloc (.cells (plc ix sub) 38)) p v N rs W.heap.size (W.heap.size + 1) ix sub := by
  have b1 := one_b W (.cells #[ptr p] 27)
  have b2 := one_b (W.alloc (.cells #[ptr p] 27)) (.cells (plc ix sub) 38)
  refine ⟨(h.below b1).below b2, ?_, ?_⟩
  · rw [b2.block _ (by simp)]
    exact heap_alloc_new W _
  · have := heap_alloc_new (W.alloc (.cells #[ptr p] 27)) (.cells (plc ix sub) 38)
    simpa using this

set_option maxHeartbeats 2000000 in
theorem find_any (h : IsD W p v N rs) (hi : Fine (evs rs) rs.length) (ix sub : Int) :
    Calls Tryd.prog 39 #[ptr p, .int .i64 ix, .int .i64 sub] W fun e w' => e = .returned (.tuple #[.int .i64 (findA (evs rs) ix sub).1, .bool (findA (evs rs) ix sub).2]) ∧ Below W.heap.size W w' := by
  have HN := none_any (h.below (one_b W (.cells #[ptr p] 27)))
  have few := h.few
  obtain ⟨A, c, rfl, hlc, hcm⟩ := h.form
  have S := Lib.hid (find_start h ix sub)
  have c0 := S.out.d.c0
  have BB := Lib.hid (two_b W (.cells #[ptr p] 27) (.cells (plc ix sub) 38))
  have K := Lib.hid (search_any rs.length (fun i => !(befB (rs.getD i Rv.zero).e.ix (rs.getD i Rv.zero).e.sub ix sub)) W.heap.size (W.heap.size + 1) ((W.alloc (.cells #[ptr p] 27)).alloc (.cells (plc ix sub) 38)) (by omega)
    (fun X i b hi => find1_any (S.out.below b) hi)
    (fun i j hij hj hp => by
      have h1 : befB (at_ (evs rs) i).ix (at_ (evs rs) i).sub ix sub = false := by rw [at_evs]; simpa using hp
      have h2 := Low.from_ge (l := evs rs) (n := rs.length) hi hj hij h1
      rw [at_evs] at h2
      show (!(befB (rs.getD j Rv.zero).e.ix (rs.getD j Rv.zero).e.sub ix sub)) = true
      rw [h2]
      rfl))
  clear h
  go_enter Tryd.func39, Tryd.ntmps39
  go_wp2_with fail
  refine HN.mono ?_
  rintro e w' ⟨rfl, rfl⟩
  go_wp2_with fail
  refine K.out.mono ?_
  rintro e w' ⟨k, rfl, hk, h0, h1, b⟩
  have LW := Lib.hid (low_of rfl hk h0 h1)
  have S1 := Lib.hid (S.out.below b)
  have BC := Lib.hid (BB.out.trans (b.mono BB.out.size))
  have HL : (evs rs).length = rs.length := by simp
  clear h0 h1 b K S BB c0 HN
  have c0 := S1.out.cb
  have c1 := S1.out.d.c0
  by_cases hE : k = rs.length
  · have hd : ((k : Int) == (rs.length : Int)) = true := by simp [hE]
    have HX : Hid (findA (evs rs) ix sub = (0, false)) := Lib.hid (by
      unfold findA
      rw [if_pos]
      rw [LW.out.none (by rw [HL]; exact hi) (by rw [HL]; omega)]
      split <;> omega)
    clear hE HL
    go_wp2_with fail
    go_quiet (fail)
    go_wp2_with fail
    go_ret2
    exact ⟨by rw [HX.out]; rfl, below_drewN BC.out nq⟩
  · have hd : ((k : Int) == (rs.length : Int)) = false := by simp; omega
    have hk' : k < rs.length := by omega
    have j1 : (0 : Int) ≤ (k : Int) := by omega
    have j2 : (k : Int) < (rs.length : Int) := by omega
    have C := Lib.hid (fun X (b : Below w'.heap.size w' X) => (S1.out.below b).cb)
    have D := Lib.hid (fun X (b : Below w'.heap.size w' X) => (S1.out.below b).d.c0)
    obtain ⟨g, c', e1, hg, z1, z2, QQ, z3⟩ := S1.out.d.at hk' rfl
    injection e1 with e1 e2 e3
    subst e1
    clear e2 e3 z1 z2 z3
    have E := Lib.hid (fun X (b : Below w'.heap.size w' X) => QQ.below hg b)
    clear QQ hg
    have L := Lib.hid (fun X (b : Below w'.heap.size w' X) => row_cells (S1.out.below b).l)
    have BF := Lib.hid (fun X => before_any ix sub [] 0 0 false false 0 0 0 (.slice none 0 0) (rs.getD k Rv.zero).e.ix (rs.getD k Rv.zero).e.sub (rs.getD k Rv.zero).e.nm (rs.getD k Rv.zero).e.ty (rs.getD k Rv.zero).e.ac (rs.getD k Rv.zero).e.mp (rs.getD k Rv.zero).e.st (rs.getD k Rv.zero).e.mx (rs.getD k Rv.zero).e.lo (rs.getD k Rv.zero).e.hi (.slice (rs.getD k Rv.zero).A (rs.getD k Rv.zero).e.d.length (rs.getD k Rv.zero).cA) X)
    have HA := Lib.hid (at_evs rs k)
    have X1 := Lib.hid (fun (hb : befB ix sub (rs.getD k Rv.zero).e.ix (rs.getD k Rv.zero).e.sub = true) => show findA (evs rs) ix sub = (0, false) by
      rw [bef_iff] at hb
      unfold findA
      rw [if_pos]
      rw [LW.out.none (by rw [HL]; exact hi) (by rw [HL, HA.out]; omega)]
      split <;> omega)
    have X2 := Lib.hid (fun (hb : befB ix sub (rs.getD k Rv.zero).e.ix (rs.getD k Rv.zero).e.sub = false) => show findA (evs rs) ix sub = ((k : Int), true) by
      have hg := LW.out.ge k (Nat.le_refl _) (by rw [HL]; exact hk')
      rw [HA.out] at hg
      rw [bef_no] at hb hg
      unfold findA
      rw [LW.out.at (by rw [HL]; exact hi) (by rw [HL]; exact hk') (by rw [HA.out]; omega) (by rw [HA.out]; omega), if_neg (by omega)])
    generalize rs.getD k Rv.zero = r at *
    clear HA LW HL hE hk' hk
    generalize rs.length = n at *
    go_wp2_with fail
    refine Txt.wp_region_textN 19 (fun X => Below w'.heap.size w' X) (by kernel_rfl) (by kernel_rfl) (by kernel_rfl) (by kernel_rfl) (fun _ _ _ _ _ h => h) (Below.refl _ _).drew ?_
    clear c0 c1
    iterate 17 (
      apply Txt.step rfl
      · intro X hS K hK
        have cb := C.out X hS
        have c0 := D.out X hS
        obtain ⟨x0, x1, x2, x3, x4, x5, x6, x7, x8, x9, x10⟩ := L.out X hS
        obtain ⟨q0, q1, q2, q3, q4, q5, q6, q7, q8, q9, q10, q11⟩ := E.out X hS
        have HS := Lib.hid hS
        clear hS
        go_simp
        first
          | exact hK.out _ HS.out
          | (go_wp2_with fail
             exact hK.out _ HS.out)
      · first | exact ⟨_, rfl⟩ | exact ⟨undef, rfl⟩)
    iterate 2 (
      apply Txt.step rfl
      · intro X hS K hK
        go_simp
        first
          | exact hK.out _ hS
          | (go_wp2_with (go_at_call 22; refine (BF.out X).mono ?_; rintro e w' ⟨rfl, b⟩; have T := Lib.hid (hS.trans (b.mono hS.size)); clear b)
             exact hK.out _ T.out)
      · first | exact ⟨_, rfl⟩ | exact ⟨undef, rfl⟩)
    refine Txt.last fun X hS => ?_
    have B2 := Lib.hid (BC.out.trans (hS.mono BC.out.size))
    clear hS C D E L BF
    cases hb : befB ix sub r.e.ix r.e.sub with
    | true =>
      have HX := Lib.hid (X1.out hb)
      clear X1 X2
      go_wp2_with fail
      go_ret2
      exact ⟨by rw [HX.out]; rfl, B2.out⟩
    | false =>
      have HX := Lib.hid (X2.out hb)
      clear X1 X2
      go_wp2_with fail
      go_ret2
      exact ⟨by rw [HX.out]; rfl, B2.out⟩
end
end Dic
end Go.Proofs.YtpdnfdpoebhjoaaDoor

namespace Go.Proofs.YtpdnfdpoebhjoaaDoor
namespace Dic
open Go.RowKit Mem Ent
set_option linter.unusedVariables false
set_option linter.unusedSimpArgs false
set_option maxRecDepth 100000

/-- A row as a value. -/
abbrev Rv.arr (r : Rv) : Array Value := #[.int .i64 r.e.ix, .int .i64 r.e.sub, .string ⟨r.e.nm.toArray⟩, .int .i64 r.e.ty, .int .i64 r.e.ac, .bool r.e.mp, .bool r.e.st, .int .i64 r.e.mx, .int .i64 r.e.lo, .int .i64 r.e.hi, .slice r.A r.e.d.length r.cA, .slice r.V r.v.length r.cV]
def hasB (l : List Ev) (ix : Int) : Bool := l.any fun e => e.ix == ix
section
variable {W X : World} {p : Nat} {v : Value} {N : Nat → Prop} {rs : List Rv}

theorem has1_any (r : Rv) (pi : Nat) (ix : Int) (W : World) (hp : W.heap[pi]? = some (.cells #[.int .i64 ix] 3)) :
    Calls Tryd.prog 80 #[.agg r.arr, ptr pi] W fun e w' => e = .returned (.bool (r.e.ix == ix)) ∧ Below W.heap.size W w' := by
  have hlt := (Array.getElem?_eq_some_iff.1 hp).1
  have B := Lib.hid (one_b W (.cells r.arr 66))
  have cx : (W.alloc (.cells r.arr 66)).cell? ⟨pi, 0, none⟩ = some (.int .i64 ix) := by
    rw [B.out.cell (p := ⟨pi, 0, none⟩) hlt]
    simp [World.cell?, hp]
  clear hp hlt
  go_enter Tryd.func80, Tryd.ntmps80
  go_wp2_with fail
  go_ret
  exact ⟨rfl, B.out⟩

/-- What IndexFunc ends with. -/
def IdxEnds (W : World) (b : Bool) (e : Ending) (w' : World) : Prop := ∃ i : Int, e = .returned (.int .i64 i) ∧ decide (0 ≤ i) = b ∧ Below W.heap.size W w'
theorem any_take (rs : List Rv) (ix : Int) {k : Nat} (hk : k < rs.length) (h : (rs.getD k Rv.zero).e.ix = ix) : hasB (evs rs) ix = true := by
  unfold hasB
  rw [List.any_eq_true]
  exact ⟨(rs.getD k Rv.zero).e, List.mem_map.2 ⟨_, getD_mem hk, rfl⟩, by simp [← h]⟩
theorem any_none (rs : List Rv) (ix : Int) (h : ∀ k, k < rs.length → (rs.getD k Rv.zero).e.ix ≠ ix) : hasB (evs rs) ix = false := by
  unfold hasB
  rw [List.any_eq_false]
  intro e he
  obtain ⟨r, hr, rfl⟩ := List.mem_map.1 he
  obtain ⟨k, hk, rfl⟩ := List.getElem_of_mem hr
  have := h k hk
  simpa [List.getD_eq_getElem?_getD, hk] using this

set_option maxHeartbeats 2000000 in
theorem index_any (h : IsD W p v N rs) (pi : Nat) (ix : Int) (hp : W.heap[pi]? = some (.cells #[.int .i64 ix] 3)) :
    Calls Tryd.prog 87 #[v, .func (.func 80) #[] #[ptr pi]] W (IdxEnds W (hasB (evs rs) ix)) := by
  have few := h.few
  obtain ⟨A, c, hv, hlc, hcm⟩ := h.form
  have hplt := (Array.getElem?_eq_some_iff.1 hp).1
  have YES := Lib.hid (fun k hk e => any_take rs ix (k := k) hk e)
  have NO := Lib.hid (any_none rs ix)
  have PI := Lib.hid (fun X (b : Below W.heap.size W X) => (b.block pi hplt).trans hp)
  have AT := Lib.hid (fun k (hk : k < rs.length) => h.at hk rfl)
  generalize hasB (evs rs) ix = B at *
  clear h hp hplt
  subst hv
  go_enter Tryd.func87, Tryd.ntmps87
  go_wp2_with fail
  go_loopw [8] (fun iv wr => ∃ k : Nat, k ≤ rs.length ∧ iv = .int .i64 (k : Int) ∧ Hid (∀ a, a < k → (rs.getD a Rv.zero).e.ix ≠ ix) ∧ Hid (Below W.heap.size W wr)) (fun iv _ => rs.length - (intOf iv).toNat)
  case atStart => exact ⟨0, by omega, rfl, Lib.hid (fun a h => by omega), Lib.hid (Below.refl _ _)⟩
  case round =>
    obtain ⟨k, hk, rfl, hA, hb⟩ := hrel
    by_cases hlt : k < rs.length
    · obtain ⟨g, c', e1, hg, z1, z2, QQ, z3⟩ := AT.out k hlt
      injection e1 with e1 e2 e3
      subst e1
      clear e2 e3 z1 z2 z3
      obtain ⟨q0, q1, q2, q3, q4, q5, q6, q7, q8, q9, q10, q11⟩ := QQ.below hg hb.out
      have j1 : (0 : Int) ≤ (k : Int) := by omega
      have j2 : (k : Int) < (rs.length : Int) := by omega
      have K := Lib.hid (has1_any (rs.getD k Rv.zero) pi ix wr (PI.out wr hb.out))
      have YES := Lib.hid (YES.out k hlt)
      have NEXT := Lib.hid (fun (h : (rs.getD k Rv.zero).e.ix ≠ ix) a (ha : a < k + 1) => show (rs.getD a Rv.zero).e.ix ≠ ix by
        rcases Nat.lt_or_ge a k with h1 | h1
        · exact hA.out a h1
        · obtain rfl : a = k := by omega
          exact h)
      clear QQ AT PI hA
      generalize rs.getD k Rv.zero = r at *
      go_wp2_with fail
      refine K.out.mono ?_
      rintro e w' ⟨rfl, b⟩
      have T := Lib.hid (hb.out.trans (b.mono hb.out.size))
      clear b K q0 q1 q2 q3 q4 q5 q6 q7 q8 q9 q10 q11
      cases hx : (r.e.ix == ix) with
      | true =>
        have hB := Lib.hid (YES.out (by simpa using hx))
        clear hx YES NO NEXT
        go_wp2_with fail
        go_ret
        exact ⟨(k : Int), rfl, by rw [hB.out]; simp, T.out⟩
      | false =>
        have hB := Lib.hid (NEXT.out (by simpa using hx))
        clear hx YES NEXT
        go_wp2_with fail
        go_roundw
        case rel => exact ⟨k + 1, by omega, by go_num, hB, T⟩
        case measure => simp [intOf]; omega
    · have hE : k = rs.length := by omega
      subst hE
      have hB := Lib.hid (NO.out hA.out)
      clear NO YES AT PI hA
      go_wp2_with fail
      go_ret
      exact ⟨-1, rfl, by rw [hB.out]; rfl, hb.out⟩

theorem contains_any (h : IsD W p v N rs) (pi : Nat) (ix : Int) (hp : W.heap[pi]? = some (.cells #[.int .i64 ix] 3)) :
    Calls Tryd.prog 79 #[v, .func (.func 80) #[] #[ptr pi]] W fun e w' => e = .returned (.bool (hasB (evs rs) ix)) ∧ Below W.heap.size W w' := by
  have K := Lib.hid (index_any h pi ix hp)
  clear h hp
  go_enter Tryd.func79, Tryd.ntmps79
  go_wp2_with fail
  refine K.out.mono ?_
  rintro e w' ⟨i, rfl, hi, b⟩
  have HI := Lib.hid hi
  clear hi
  go_wp2_with fail
  go_ret
  exact ⟨by rw [← HI.out]; rfl, b⟩

theorem has_any (h : IsD W p v N rs) (ix : Int) :
    Calls Tryd.prog 65 #[ptr p, .int .i64 ix] W fun e w' => e = .returned (.bool (hasB (evs rs) ix)) ∧ Below W.heap.size W w' := by
  have b1 := one_b W (.cells #[.int .i64 ix] 3)
  have K := Lib.hid (contains_any (h.below b1) W.heap.size ix (heap_alloc_new W _))
  have c0 := (h.below b1).c0
  have B := Lib.hid b1
  clear h b1
  go_enter Tryd.func65, Tryd.ntmps65
  go_wp2_with fail
  refine K.out.mono ?_
  rintro e w' ⟨rfl, b⟩
  go_wp2_with fail
  go_ret
  exact ⟨rfl, B.out.trans (b.mono B.out.size)⟩
end
/-- The code of a place that is not there. -/
theorem miss_has {l : List Ev} {ix sub : Int} (h : fnd l ix sub < 0) : miss (fnd l ix sub) = if hasB l ix = true then 101253137 else 100794368 := by
  rcases fndTo_spec l ix sub l.length with ⟨e, h1⟩ | ⟨e, ⟨i, hi, h1⟩, _⟩ | ⟨i, hi, e, _, _⟩
  · have e' : fnd l ix sub = -2 := e
    rw [e', if_neg]
    · rfl
    · intro hb
      unfold hasB at hb
      rw [List.any_eq_true] at hb
      obtain ⟨x, hx, hxe⟩ := hb
      obtain ⟨k, hk, rfl⟩ := List.getElem_of_mem hx
      exact h1 k hk (by rw [at_lt hk]; simpa using hxe)
  · have e' : fnd l ix sub = -1 := e
    rw [e', if_pos]
    · rfl
    · unfold hasB
      rw [List.any_eq_true]
      rw [at_lt hi] at h1
      exact ⟨l[i], List.getElem_mem hi, by simp [h1]⟩
  · have e' : fnd l ix sub = (i : Int) := e
    omega
end Dic
end Go.Proofs.YtpdnfdpoebhjoaaDoor
