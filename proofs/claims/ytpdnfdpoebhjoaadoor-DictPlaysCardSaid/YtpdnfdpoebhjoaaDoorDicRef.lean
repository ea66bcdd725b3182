/-
  The document's dictionary in memory: its struct, its entries, its values; what only looks at it.
  The document's dictionary: May, Poke, Set.
  The document's dictionary: May, Set, Reset.
-/
import Derived.Test.YtpdnfdpoebhjoaaDoorDicVals
import Derived.Test.YtpdnfdpoebhjoaaDoorDicNew
import Derived.Test.YtpdnfdpoebhjoaaDoorDicFind
import Derived.Test.YtpdnfdpoebhjoaaDoorOctRef
import Derived.Test.YtpdnfdpoebhjoaaDoorEntRight
import Derived.Deep.RegionHeld3
namespace Go.Proofs.YtpdnfdpoebhjoaaDoor
namespace Dic
open Go.RowKit Mem Ent
set_option linter.unusedVariables false
set_option linter.unusedSimpArgs false
set_option maxRecDepth 100000

/-- Bytes of the document's dictionary, and where they lie. -/
structure Bv where
  A : Option Addr
  d : List UInt8
  c : Nat
def Bv.zero : Bv := ⟨none, [], 0⟩
def bvl (b : Bv) : List Value := [.slice b.A b.d.length b.c]
theorem bvl_len (b : Bv) : (bvl b).length = 1 := rfl
theorem bvl_one (b : Bv) : ∀ u ∈ bvl b, u.oneCell' = true := by
  intro u hu
  simp only [bvl, List.mem_cons, List.not_mem_nil, or_false] at hu
  subst hu
  rfl
def GT : TypeId := 51
def ST : TypeId := 36
def gcells (vL vV : Value) : List Value := [vL, vV]
/-- The document's dictionary stands in block q, its entries' row vL and its values' row vV are its own; their bytes lie apart from all blocks that are written to. -/
structure IsG (W : World) (q : Nat) (vL vV : Value) (K : Nat → Prop) (xs : List En) (bs : List Bv) : Prop where
  blk : W.heap[q]? = some (.cells (gcells vL vV).toArray GT (0, 0))
  ownL : W.ownsRow 0 ET 11 vL xs.length (flat enl xs)
  ownV : W.ownsRow 0 ST 1 vV bs.length (flat bvl bs)
  nq : ¬ K q
  neV : vV.ownBlock ≠ some q
  nLV : ∀ g, vL.ownBlock = some g → vV.ownBlock ≠ some g
  nkL : ∀ g, vL.ownBlock = some g → ¬ K g
  nkV : ∀ g, vV.ownBlock = some g → ¬ K g
  dataL : ∀ x ∈ xs, RdB (Clear W (DN K vV)) W x.A x.d
  dataV : ∀ b ∈ bs, RdB (Clear W (DN K vV)) W b.A b.d
  ok : ∀ x ∈ xs, EvOk (ev x)
  okb : ∀ b ∈ bs, b.d.length ≤ 1000
  len : bs.length = xs.length
  few : xs.length ≤ 96
section
variable {W W' : World} {q : Nat} {vL vV : Value} {K K' : Nat → Prop} {xs : List En} {bs : List Bv}
theorem IsG.lt (h : IsG W q vL vV K xs bs) : q < W.heap.size := (Array.getElem?_eq_some_iff.1 h.blk).1
theorem IsG.c0 (h : IsG W q vL vV K xs bs) : W.cell? ⟨q, 0, none⟩ = some vL := cell_of h.blk rfl
theorem IsG.c1 (h : IsG W q vL vV K xs bs) : W.cell? ⟨q, 1, none⟩ = some vV := cell_of h.blk rfl
theorem IsG.vlt (h : IsG W q vL vV K xs bs) {g : Nat} (hg : vV.ownBlock = some g) : g < W.heap.size := (h.ownV.lt g hg).2
/-- Kept, when the blocks K alone are written to. -/
theorem IsG.keep (h : IsG W q vL vV K xs bs) (hs : W.heap.size ≤ W'.heap.size) (hk : ∀ g, g < W.heap.size → ¬ K g → W'.heap[g]? = W.heap[g]?) (hK : ∀ g, g < W.heap.size → K' g → K g) : IsG W' q vL vV K' xs bs := by
  have mv : ∀ {A : Option Addr} {b : List UInt8}, RdB (Clear W (DN K vV)) W A b → RdB (Clear W' (DN K' vV)) W' A b := fun hr =>
    (hr.keep fun g hg => hk g hg.1 fun k => hg.2 (.inl k)).mono fun g hg => ⟨Nat.lt_of_lt_of_le hg.1 hs, fun n => hg.2 (n.elim (fun k => .inl (hK g hg.1 k)) .inr)⟩
  exact ⟨(hk q h.lt h.nq).trans h.blk, own_keep h.ownL fun g hg => hk g (h.ownL.lt g hg).2 (h.nkL g hg), own_keep h.ownV fun g hg => hk g (h.vlt hg) (h.nkV g hg), fun k => h.nq (hK q h.lt k), h.neV, h.nLV,
    fun g hg k => h.nkL g hg (hK g (h.ownL.lt g hg).2 k), fun g hg k => h.nkV g hg (hK g (h.vlt hg) k), fun x hx => mv (h.dataL x hx), fun b hb => mv (h.dataV b hb), h.ok, h.okb, h.len, h.few⟩
theorem IsG.below (h : IsG W q vL vV K xs bs) (b : Below W.heap.size W W') : IsG W' q vL vV K xs bs := h.keep b.size (fun g hg _ => b.block g hg) (fun _ _ k => k)
theorem IsG.formL (h : IsG W q vL vV K xs bs) : ∃ A c, vL = .slice A xs.length c := by
  obtain ⟨A, c, e, _⟩ := own_form (z := enZ) enl_len h.ownL
  exact ⟨A, c, e⟩
theorem IsG.formV (h : IsG W q vL vV K xs bs) : ∃ A c, vV = .slice A xs.length c := by
  obtain ⟨A, c, e, _⟩ := own_form (z := Bv.zero) bvl_len h.ownV
  exact ⟨A, c, by rw [e, h.len]⟩
/-- The entry of a number. -/
theorem IsG.at (h : IsG W q vL vV K xs bs) {k : Nat} (hk : k < xs.length) {x : En} (hx : xs.getD k enZ = x) : ∃ g c, vL = .slice (some ⟨g, 0, none⟩) xs.length c ∧ g < W.heap.size ∧ Row11 W g (k * 11) x := by
  obtain ⟨A, c, e, _, _, h3⟩ := own_form (z := enZ) enl_len h.ownL
  rcases h3 with ⟨_, h3, _⟩ | ⟨g, rfl, _, hg, _, hc⟩
  · subst h3; simp at hk
  · have r := hc k hk
    rw [hx] at r
    exact ⟨g, c, e, hg, ⟨r 0 (by omega), r 1 (by omega), r 2 (by omega), r 3 (by omega), r 4 (by omega), r 5 (by omega), r 6 (by omega), r 7 (by omega), r 8 (by omega), r 9 (by omega), r 10 (by omega)⟩⟩
/-- The value of a number. -/
theorem IsG.val (h : IsG W q vL vV K xs bs) {k : Nat} (hk : k < xs.length) {b : Bv} (hb : bs.getD k Bv.zero = b) : ∃ g c, vV = .slice (some ⟨g, 0, none⟩) xs.length c ∧ g < W.heap.size ∧ W.cell? ⟨g, k, none⟩ = some (.slice b.A b.d.length b.c) ∧ (∀ j, W.frozen? ⟨g, j, none⟩ = false) := by
  have hl := h.len
  obtain ⟨A, c, e, _, _, h3⟩ := own_form (z := Bv.zero) bvl_len h.ownV
  rw [hl] at e
  rcases h3 with ⟨_, h3, _⟩ | ⟨g, rfl, _, hg, hf, hc⟩
  · subst h3; simp at hl; omega
  · have r := hc k (by omega) 0 (by omega)
    rw [hb] at r
    exact ⟨g, c, e, hg, by simpa [bvl] using r, hf⟩
end
theorem evs_at (xs : List En) (k : Nat) : at_ (xs.map ev) k = ev (xs.getD k enZ) := at_map xs k
theorem bvs_at (bs : List Bv) (k : Nat) : vat (bs.map (·.d)) k = (bs.getD k Bv.zero).d := by
  unfold vat
  rw [List.getD_eq_getElem?_getD, List.getElem?_map, List.getD_eq_getElem?_getD]
  cases bs[k]? <;> rfl

theorem missing_any (k : Int) (W : World) : Calls Tryd.prog 56 #[.int .i64 k] W fun e w' => e = .returned (.int .u32 (miss k)) ∧ W = w' := by
  have HM : Hid (miss k = if k = -2 then 100794368 else 101253137) := Lib.hid rfl
  by_cases h : k = -2
  · have d : (k == -2) = true := beq_iff_eq.2 h
    rw [if_pos h] at HM
    clear h
    go_enter Tryd.func56, Tryd.ntmps56
    go_wp2_with fail
    go_ret
    exact ⟨by rw [HM.out]; rfl, rfl⟩
  · have d : (k == -2) = false := beq_eq_false_iff_ne.2 h
    rw [if_neg h] at HM
    clear h
    go_enter Tryd.func56, Tryd.ntmps56
    go_wp2_with fail
    go_ret
    exact ⟨by rw [HM.out]; rfl, rfl⟩
theorem fnd_of' {l : List Ev} {ix sub : Int} (h : ¬ fnd l ix sub < 0) : ∃ k : Nat, k < l.length ∧ fnd l ix sub = (k : Int) ∧ (at_ l k).ix = ix ∧ (at_ l k).sub = sub := by
  rcases fnd_cases l ix sub with e | e | h1
  · omega
  · omega
  · exact h1
section
variable {W W' : World} {q : Nat} {vL vV : Value} {K : Nat → Prop} {xs : List En} {bs : List Bv}

theorem fndTo_ix {l : List Ev} {ix sub : Int} {k : Nat} (h : (at_ l k).ix ≠ ix) : fndTo l ix sub (k + 1) = fndTo l ix sub k := by
  conv => lhs; unfold fndTo
  rw [if_neg h]
theorem fndTo_sub {l : List Ev} {ix sub : Int} {k : Nat} (h : (at_ l k).ix = ix) (h2 : (at_ l k).sub = sub) : fndTo l ix sub (k + 1) = (k : Int) := by
  conv => lhs; unfold fndTo
  rw [if_pos h, if_pos h2]
theorem fndTo_no {l : List Ev} {ix sub : Int} {k : Nat} (h : (at_ l k).ix = ix) (h2 : (at_ l k).sub ≠ sub) : fndTo l ix sub (k + 1) = if fndTo l ix sub k = -2 then -1 else fndTo l ix sub k := by
  conv => lhs; unfold fndTo
  rw [if_pos h, if_neg h2]

set_option maxHeartbeats 4000000 in
theorem rfind_any (h : IsG W q vL vV K xs bs) (ix sub : Int) : Calls Tryd.prog 40 #[ptr q, .int .i64 ix, .int .i64 sub] W fun e w' => e = .returned (.int .i64 (fnd (xs.map ev) ix sub)) ∧ W = w' := by
  have few := h.few
  have c0 := h.c0
  obtain ⟨A, c, rfl⟩ := h.formL
  have AT := Lib.hid (fun k (hk : k < xs.length) => h.at hk rfl)
  have HA := Lib.hid (fun k => evs_at xs k)
  have HE : Hid (fnd (xs.map ev) ix sub = fndTo (xs.map ev) ix sub xs.length) := Lib.hid (by unfold fnd; rw [List.length_map])
  clear h
  go_enter Tryd.func40, Tryd.ntmps40
  go_wp2_with fail
  go_loop [7, 8] (fun kv iv => ∃ k : Nat, k ≤ xs.length ∧ iv = .int .i64 (k : Int) ∧ kv = .int .i64 (fndTo (xs.map ev) ix sub k)) (fun _ iv => xs.length - (intOf iv).toNat)
  case atStart => exact ⟨0, by omega, rfl, rfl⟩
  case round =>
    obtain ⟨k, hk, rfl, rfl⟩ := hrel
    by_cases hlt : k < xs.length
    · obtain ⟨g, c', e1, hg, ⟨q0, q1, q2, q3, q4, q5, q6, q7, q8, q9, q10⟩⟩ := AT.out k hlt
      injection e1 with e1 e2 e3
      subst e1
      clear e2 e3 q2 q3 q4 q5 q6 q7 q8 q9 q10 AT
      have j1 : (0 : Int) ≤ (k : Int) := by omega
      have j2 : (k : Int) < (xs.length : Int) := by omega
      have X1 := Lib.hid (fun (hh : (xs.getD k enZ).ix ≠ ix) => fndTo_ix (l := xs.map ev) (ix := ix) (sub := sub) (k := k) (by rw [HA.out]; exact hh))
      have X2 := Lib.hid (fun (hh : (xs.getD k enZ).ix = ix) (hs : (xs.getD k enZ).sub = sub) => fndTo_sub (l := xs.map ev) (ix := ix) (sub := sub) (k := k) (by rw [HA.out]; exact hh) (by rw [HA.out]; exact hs))
      have X3 := Lib.hid (fun (hh : (xs.getD k enZ).ix = ix) (hs : (xs.getD k enZ).sub ≠ sub) => fndTo_no (l := xs.map ev) (ix := ix) (sub := sub) (k := k) (by rw [HA.out]; exact hh) (by rw [HA.out]; exact hs))
      generalize fndTo (xs.map ev) ix sub k = F at *
      generalize xs.getD k enZ = x at *
      by_cases h1 : x.ix = ix
      · have d1 : (x.ix != ix) = false := by simp [h1]
        by_cases h2 : x.sub = sub
        · have d2 : (x.sub == sub) = true := beq_iff_eq.2 h2
          have Y := Lib.hid (X2.out h1 h2)
          clear h1 h2 X1 X2 X3
          by_cases h3 : F = -2
          · have d3 : (F == -2) = true := beq_iff_eq.2 h3
            clear h3
            go_wp2_with fail
            go_round
            case rel => exact ⟨k + 1, by omega, by go_num, by rw [Y.out]⟩
            case measure => simp [intOf]; omega
          · have d3 : (F == -2) = false := beq_eq_false_iff_ne.2 h3
            clear h3
            go_wp2_with fail
            go_round
            case rel => exact ⟨k + 1, by omega, by go_num, by rw [Y.out]⟩
            case measure => simp [intOf]; omega
        · have d2 : (x.sub == sub) = false := beq_eq_false_iff_ne.2 h2
          have Y := X3.out h1 h2
          by_cases h3 : F = -2
          · have d3 : (F == -2) = true := beq_iff_eq.2 h3
            rw [if_pos h3] at Y
            have Y := Lib.hid Y
            clear h1 h2 h3 X1 X2 X3
            go_wp2_with fail
            go_round
            case rel => exact ⟨k + 1, by omega, by go_num, by rw [Y.out]⟩
            case measure => simp [intOf]; omega
          · have d3 : (F == -2) = false := beq_eq_false_iff_ne.2 h3
            rw [if_neg h3] at Y
            have Y := Lib.hid Y
            clear h1 h2 h3 X1 X2 X3
            go_wp2_with fail
            go_round
            case rel => exact ⟨k + 1, by omega, by go_num, by rw [Y.out]⟩
            case measure => simp [intOf]; omega
      · have d1 : (x.ix != ix) = true := by simpa using h1
        have Y := Lib.hid (X1.out h1)
        clear h1 X1 X2 X3
        go_wp2_with fail
        go_round
        case rel => exact ⟨k + 1, by omega, by go_num, by rw [Y.out]⟩
        case measure => simp [intOf]; omega
    · have hE : k = xs.length := by omega
      subst hE
      clear AT HA
      go_wp2_with fail
      go_ret
      exact ⟨by rw [HE.out]; rfl, rfl⟩
/-- The document's dictionary as a value. -/
def HasG (W : World) (q : Nat) (vL vV : Value) (K : Nat → Prop) (s : Ds) : Prop := ∃ xs bs, IsG W q vL vV K xs bs ∧ xs.map ev = s.l ∧ bs.map (·.d) = s.v
theorem rjoin_any {A : Option Addr} {c : Nat} {d : List UInt8} {W : World} (hr : Rd W W.heap.size A d) (n : Nat) (hn : n = d.length) (hl : d.length ≤ 1000) : Calls Tryd.prog 26 #[.slice none 0 0, .slice A n c] W (Made 5 W d id) := by
  have := join_any none A 0 n 0 c 0 [] d W (.inl rfl) hr rfl hn (by omega) (by omega)
  rwa [List.nil_append] at this
theorem HasG.find {s : Ds} (h : HasG W q vL vV K s) (ix sub : Int) : Calls Tryd.prog 40 #[ptr q, .int .i64 ix, .int .i64 sub] W fun e w' => e = .returned (.int .i64 (fnd s.l ix sub)) ∧ W = w' := by
  obtain ⟨xs, bs, h, e1, e2⟩ := h
  rw [← e1]
  exact rfind_any h ix sub

set_option maxHeartbeats 4000000 in
theorem rget_any {s : Ds} (h : HasG W q vL vV K s) (ix sub : Int) : Calls Tryd.prog 29 #[ptr q, .int .i64 ix, .int .i64 sub] W (GetEnds W (s.get ix sub).1 (.int .u32 (s.get ix sub).2)) := by
  have F := Lib.hid (h.find ix sub)
  obtain ⟨xs, bs, h, e1, e2⟩ := h
  have c0 := h.c0
  have c1 := h.c1
  obtain ⟨A, c, rfl⟩ := h.formL
  obtain ⟨B, d, rfl⟩ := h.formV
  unfold Ds.get
  rw [← e1] at F ⊢
  rw [← e2]
  by_cases hn : fnd (xs.map ev) ix sub < 0
  · rw [if_pos hn]
    have M := Lib.hid (missing_any (fnd (xs.map ev) ix sub) W)
    have d1 : decide (fnd (xs.map ev) ix sub < 0) = true := decide_eq_true hn
    clear h e1 e2
    generalize miss (fnd (xs.map ev) ix sub) = m at *
    generalize fnd (xs.map ev) ix sub = f at *
    go_enter Tryd.func29, Tryd.ntmps29
    go_wp2_with fail
    refine F.out.mono ?_
    rintro e w' ⟨rfl, rfl⟩
    go_wp2_with fail
    refine M.out.mono ?_
    rintro e w' ⟨rfl, rfl⟩
    go_wp2_with fail
    go_ret2
    exact ⟨_, rfl, Own.nil _ _ _, Below.refl _ _⟩
  · rw [if_neg hn]
    obtain ⟨k, hk, ek, _, _⟩ := fnd_of' hn
    have hk' : k < xs.length := by simpa using hk
    rw [ek] at F ⊢
    rw [Int.toNat_natCast, evs_at, bvs_at]
    obtain ⟨g, c', e3, hg, ROW⟩ := h.at hk' rfl
    obtain ⟨g2, c2, e4, hg2, vc, _⟩ := h.val hk' rfl
    injection e3 with e3 _ _
    injection e4 with e4 _ _
    subst e3
    subst e4
    have hb : bs.getD k Bv.zero ∈ bs := getD_mem (by rw [h.len]; exact hk')
    have hl := h.okb _ hb
    have hrd : Rd W W.heap.size (bs.getD k Bv.zero).A (bs.getD k Bv.zero).d := (h.dataV _ hb).rd fun g hg => hg.1
    have d0 : decide ((k : Int) < 0) = false := decide_eq_false (by omega)
    have j1 : (0 : Int) ≤ (k : Int) := by omega
    have j2 : (k : Int) < (xs.length : Int) := by omega
    have KEEP := Lib.hid (fun X (b : Below W.heap.size W X) => And.intro (h.below b).c1 ((b.cell (p := ⟨g2, k, none⟩) hg2).trans vc))
    have RB := Lib.hid (fun X (b : Below W.heap.size W X) => rjoin_any (c := (bs.getD k Bv.zero).c) ((hrd.below b).mono b.size) (bs.getD k Bv.zero).d.length rfl hl)
    have R := Lib.hid (fun X => rreadable_any (xs.getD k enZ).ix (xs.getD k enZ).sub (xs.getD k enZ).nm (xs.getD k enZ).ty (xs.getD k enZ).ac (xs.getD k enZ).mp (xs.getD k enZ).st (xs.getD k enZ).mx (xs.getD k enZ).lo (xs.getD k enZ).hi (.slice (xs.getD k enZ).A (xs.getD k enZ).d.length (xs.getD k enZ).c) X)
    obtain ⟨q0, q1, q2, q3, q4, q5, q6, q7, q8, q9, q10⟩ := ROW
    have hac : (ev (xs.getD k enZ)).ac = (xs.getD k enZ).ac := rfl
    rw [hac]
    clear h e1 e2 hn hk ek hk' hg hg2 hb hl hrd vc hac
    generalize xs.getD k enZ = x at *
    generalize bs.getD k Bv.zero = b at *
    generalize xs.length = n at *
    by_cases hr : readN x.ac = 0
    · rw [hr] at R ⊢
      rw [if_neg (by simp)]
      go_enter Tryd.func29, Tryd.ntmps29
      go_wp2_with fail
      refine F.out.mono ?_
      rintro e w' ⟨rfl, rfl⟩
      go_wp2_with fail
      refine (R.out W).mono ?_
      rintro e w2 ⟨rfl, b2⟩
      have B2 := Lib.hid b2
      obtain ⟨p0, p1⟩ := KEEP.out w2 b2
      have J := Lib.hid (RB.out w2 b2)
      clear b2 q0 q1 q2 q3 q4 q5 q6 q7 q8 q9 q10 c0 c1
      go_wp2_with fail
      refine J.out.mono ?_
      rintro e w3 ⟨u, rfl, o, b3⟩
      have B3 := Lib.hid (B2.out.trans (b3.mono B2.out.size))
      have O3 := Lib.hid (show Own w3 W.heap.size YT u b.d from o.lower B2.out.size)
      clear o b3 J p0 p1
      go_wp2_with fail
      go_ret2
      exact ⟨_, rfl, O3.out, B3.out⟩
    · rw [if_pos hr]
      have d1 : (readN x.ac != 0) = true := by simpa using hr
      clear hr
      generalize readN x.ac = r at *
      go_enter Tryd.func29, Tryd.ntmps29
      go_wp2_with fail
      refine F.out.mono ?_
      rintro e w' ⟨rfl, rfl⟩
      go_wp2_with fail
      refine (R.out W).mono ?_
      rintro e w2 ⟨rfl, b2⟩
      have B2 := Lib.hid b2
      clear b2 q0 q1 q2 q3 q4 q5 q6 q7 q8 q9 q10 c0 c1
      go_wp2_with fail
      go_ret2
      exact ⟨_, rfl, Own.nil _ _ _, B2.out⟩

set_option maxHeartbeats 4000000 in
theorem rpeek_any {s : Ds} (h : HasG W q vL vV K s) (ix sub : Int) : Calls Tryd.prog 33 #[ptr q, .int .i64 ix, .int .i64 sub] W (GetEnds W (s.peek ix sub).1 (.bool (s.peek ix sub).2)) := by
  have F := Lib.hid (h.find ix sub)
  obtain ⟨xs, bs, h, e1, e2⟩ := h
  have c1 := h.c1
  obtain ⟨B, d, rfl⟩ := h.formV
  unfold Ds.peek
  rw [← e1] at F ⊢
  rw [← e2]
  by_cases hn : fnd (xs.map ev) ix sub < 0
  · rw [if_pos hn]
    have d1 : decide (fnd (xs.map ev) ix sub < 0) = true := decide_eq_true hn
    clear h e1 e2
    generalize fnd (xs.map ev) ix sub = f at *
    go_enter Tryd.func33, Tryd.ntmps33
    go_wp2_with fail
    refine F.out.mono ?_
    rintro e w' ⟨rfl, rfl⟩
    go_wp2_with fail
    go_ret2
    exact ⟨_, rfl, Own.nil _ _ _, Below.refl _ _⟩
  · rw [if_neg hn]
    obtain ⟨k, hk, ek, _, _⟩ := fnd_of' hn
    have hk' : k < xs.length := by simpa using hk
    rw [ek] at F ⊢
    rw [Int.toNat_natCast, bvs_at]
    obtain ⟨g2, c2, e4, hg2, vc, _⟩ := h.val hk' rfl
    injection e4 with e4 _ _
    subst e4
    have hb : bs.getD k Bv.zero ∈ bs := getD_mem (by rw [h.len]; exact hk')
    have hl := h.okb _ hb
    have hrd : Rd W W.heap.size (bs.getD k Bv.zero).A (bs.getD k Bv.zero).d := (h.dataV _ hb).rd fun g hg => hg.1
    have d0 : decide ((k : Int) < 0) = false := decide_eq_false (by omega)
    have j1 : (0 : Int) ≤ (k : Int) := by omega
    have j2 : (k : Int) < (xs.length : Int) := by omega
    have J := Lib.hid (rjoin_any (c := (bs.getD k Bv.zero).c) hrd (bs.getD k Bv.zero).d.length rfl hl)
    clear h e1 e2 hn hk ek hk' hg2 hb hl hrd
    generalize bs.getD k Bv.zero = b at *
    generalize xs.length = n at *
    go_enter Tryd.func33, Tryd.ntmps33
    go_wp2_with fail
    refine F.out.mono ?_
    rintro e w' ⟨rfl, rfl⟩
    go_wp2_with fail
    refine J.out.mono ?_
    rintro e w3 ⟨u, rfl, o, b3⟩
    have B3 := Lib.hid b3
    have O3 := Lib.hid o
    clear o b3 J c1 vc
    go_wp2_with fail
    go_ret2
    exact ⟨_, rfl, O3.out, B3.out⟩
end
end Dic
end Go.Proofs.YtpdnfdpoebhjoaaDoor

namespace Go.Proofs.YtpdnfdpoebhjoaaDoor
namespace Dic
open Go.RowKit Mem Ent
set_option linter.unusedVariables false
set_option linter.unusedSimpArgs false
set_option maxRecDepth 100000

section
variable {W W' : World} {q : Nat} {vL vV : Value} {K : Nat → Prop} {xs : List En} {bs : List Bv}
/-- A value is another one. -/
theorem IsG.put {g c : Nat} (h : IsG W q vL (.slice (some ⟨g, 0, none⟩) xs.length c) K xs bs) (hK : ∀ r, K r → r < W.heap.size) {k : Nat} (hk : k < xs.length) {w1 w2 : World} (b1 : Below W.heap.size W w1) (b : Below w1.heap.size w1 w2)
    {A2 : Option Addr} {c2 : Nat} {d : List UInt8} (o : Own w2 w1.heap.size YT (.slice A2 d.length c2) d) (hl : d.length ≤ 1000) :
    IsG (w2.setCell ⟨g, k, none⟩ (.slice A2 d.length c2)) q vL (.slice (some ⟨g, 0, none⟩) xs.length c) K xs (bs.set k ⟨A2, d, c2⟩) := by
  have h1 := h.below b1
  have h2 := h1.below b
  have hgq : g ≠ q := fun e => h.neV (by rw [← e]; rfl)
  have hs := Nat.le_trans b1.size b.size
  have stay : ∀ r, r ≠ g → (w2.setCell ⟨g, k, none⟩ (.slice A2 d.length c2)).heap[r]? = w2.heap[r]? := fun r hr => Below.heap_setCell w2 ⟨g, k, none⟩ _ r hr
  have sz : (w2.setCell ⟨g, k, none⟩ (.slice A2 d.length c2)).heap.size = w2.heap.size := by simp [World.setCell]
  have mv : ∀ {A : Option Addr} {e : List UInt8}, RdB (Clear w2 (DN K (.slice (some ⟨g, 0, none⟩) xs.length c))) w2 A e → RdB (Clear (w2.setCell ⟨g, k, none⟩ (.slice A2 d.length c2)) (DN K (.slice (some ⟨g, 0, none⟩) xs.length c))) (w2.setCell ⟨g, k, none⟩ (.slice A2 d.length c2)) A e := fun hr =>
    (hr.keep fun r hr => stay r fun e => hr.2 (.inr (by rw [e]; rfl))).mono fun r hr => ⟨by rw [sz]; exact hr.1, hr.2⟩
  refine ⟨(stay q (Ne.symm hgq)).trans h2.blk, own_keep h2.ownL fun r hr => stay r fun e => h2.nLV r hr (by rw [e]; rfl), ?_, h2.nq, h2.neV, h2.nLV, h2.nkL, h2.nkV, fun x hx => mv (h2.dataL x hx), fun x hx => ?_, h2.ok, fun x hx => ?_, by simpa using h2.len, h2.few⟩
  · have e0 := h.len
    have ov := h2.ownV
    rw [← e0] at ov
    have o1 := (World.ownsRow.stored ov k (.slice A2 d.length c2)).1
    have e1 := flat_set bvl_len Bv.zero bs k 0 (.slice A2 d.length c2) ⟨A2, d, c2⟩ (by omega) (by omega) rfl
    rw [Nat.mul_one, Nat.add_zero] at e1
    rw [e1, e0] at o1
    rw [List.length_set, e0]
    exact o1
  · rcases List.mem_or_eq_of_mem_set hx with hx | rfl
    · exact mv (h2.dataV x hx)
    · have hgl : g < W.heap.size := h.vlt rfl
      have hb1 := b1.size
      refine ((rdB_own o rfl).keep fun r hr => stay r (by omega)).mono fun r hr => ⟨by rw [sz]; exact hr.2, fun n => ?_⟩
      rcases n with n | n
      · have := hK r n; omega
      · have e : g = r := by simpa [Value.ownBlock] using n
        omega
  · rcases List.mem_or_eq_of_mem_set hx with hx | rfl
    · exact h2.okb x hx
    · exact hl
theorem hasG_put {s : Ds} {g c k : Nat} {A2 : Option Addr} {c2 : Nat} {d : List UInt8} (h : IsG W q vL (.slice (some ⟨g, 0, none⟩) xs.length c) K xs (bs.set k ⟨A2, d, c2⟩)) (e1 : xs.map ev = s.l) (e2 : bs.map (·.d) = s.v) : HasG W q vL (.slice (some ⟨g, 0, none⟩) xs.length c) K (s.put k d) :=
  ⟨xs, _, h, e1, by simp [Ds.put, List.map_set, e2]⟩
theorem HasG.below {s : Ds} (h : HasG W q vL vV K s) (b : Below W.heap.size W W') : HasG W' q vL vV K s := by
  obtain ⟨xs, bs, h, e⟩ := h
  exact ⟨xs, bs, h.below b, e⟩
/-- What a call of the document's ends with that may set a value. -/
def RSetEnds (W : World) (q : Nat) (vL vV : Value) (K : Nat → Prop) (s : Ds) (c : Int) (e : Ending) (w' : World) : Prop :=
  e = .returned (.int .u32 c) ∧ HasG w' q vL vV K s ∧ Upd (fun g => vV.ownBlock = some g) W w'

set_option maxHeartbeats 4000000 in
theorem rpoke_any {s : Ds} (h : HasG W q vL vV K s) (hK : ∀ r, K r → r < W.heap.size) (ix sub : Int) {A : Option Addr} {cb : Nat} {d : List UInt8} (hb : Rd W W.heap.size A d) (hl : d.length ≤ 1000) :
    Calls Tryd.prog 31 #[ptr q, .int .i64 ix, .int .i64 sub, .slice A d.length cb] W (RSetEnds W q vL vV K (s.upon (s.poke ix sub d) ix sub d) (s.poke ix sub d)) := by
  have F := Lib.hid (h.find ix sub)
  have H := h
  obtain ⟨xs, bs, h, e1, e2⟩ := h
  have c0 := h.c0
  obtain ⟨A0, c, rfl⟩ := h.formL
  obtain ⟨B0, cv, rfl⟩ := h.formV
  unfold Ds.poke
  by_cases hn : fnd s.l ix sub < 0
  · rw [if_pos hn]
    have eU : s.upon (miss (fnd s.l ix sub)) ix sub d = s := if_neg (miss_ne _)
    rw [eU]
    have M := Lib.hid (missing_any (fnd s.l ix sub) W)
    have d1 : decide (fnd s.l ix sub < 0) = true := decide_eq_true hn
    have HH := Lib.hid H
    clear h H e1 e2 eU
    generalize miss (fnd s.l ix sub) = m at *
    generalize fnd s.l ix sub = f at *
    go_enter Tryd.func31, Tryd.ntmps31
    go_wp2_with fail
    refine F.out.mono ?_
    rintro e w' ⟨rfl, rfl⟩
    go_wp2_with fail
    refine M.out.mono ?_
    rintro e w' ⟨rfl, rfl⟩
    go_wp2_with fail
    go_ret
    exact ⟨rfl, HH.out, Upd.refl _ _⟩
  · rw [if_neg hn]
    obtain ⟨k, hk, ek, _, _⟩ := fnd_of' hn
    have hk' : k < xs.length := by rw [← e1] at hk; simpa using hk
    have eP : s.upon 0 ix sub d = s.put k d := by
      unfold Ds.upon
      rw [if_pos rfl, ek, Int.toNat_natCast]
    have eN : ∀ C, C ≠ 0 → s.upon C ix sub d = s := fun C hC => if_neg hC
    rw [ek] at F ⊢
    rw [Int.toNat_natCast]
    have eA : at_ s.l k = ev (xs.getD k enZ) := by rw [← e1, evs_at]
    rw [eA]
    obtain ⟨g, c', e3, hg, ROW⟩ := h.at hk' rfl
    obtain ⟨g2, c2, e4, hg2, vc, fz⟩ := h.val hk' rfl
    injection e3 with e3 _ _
    injection e4 with e4 _ _
    subst e3
    subst e4
    have okx := h.ok _ (getD_mem (z := enZ) hk')
    have d0 : decide ((k : Int) < 0) = false := decide_eq_false (by omega)
    have j1 : (0 : Int) ≤ (k : Int) := by omega
    have j2 : (k : Int) < (xs.length : Int) := by omega
    have KEEP := Lib.hid (fun X (b : Below W.heap.size W X) => And.intro (h.below b).c1 (And.intro ((b.cell (p := ⟨g2, k, none⟩) hg2).trans vc) (((h.below b).val hk' rfl))))
    have FZ := Lib.hid (fun X (b : Below W.heap.size W X) (j : Nat) => show X.frozen? ⟨g2, j, none⟩ = false from by
      obtain ⟨g3, c3, e5, _, _, f⟩ := (h.below b).val hk' rfl
      injection e5 with e5 _ _
      injection e5 with e5
      injection e5 with e5
      subst e5
      exact f j)
    have RB := Lib.hid (fun X (b : Below W.heap.size W X) => rjoin_any (c := cb) ((hb.below b).mono b.size) d.length rfl hl)
    have VA := Lib.hid (rvalue_any (xs.getD k enZ).ix (xs.getD k enZ).sub (xs.getD k enZ).nm (xs.getD k enZ).ty (xs.getD k enZ).ac (xs.getD k enZ).mp (xs.getD k enZ).st (xs.getD k enZ).mx (xs.getD k enZ).lo (xs.getD k enZ).hi (.slice (xs.getD k enZ).A (xs.getD k enZ).d.length (xs.getD k enZ).c) A d.length cb W.heap.size d W okx.mx.1 okx.mx.2 (Nat.le_refl _) hb rfl (by omega))
    have PUT := Lib.hid (fun w1 w2 A2 c2 b1 b o => hasG_put (s := s) (h.put hK hk' (w1 := w1) (w2 := w2) b1 b (A2 := A2) (c2 := c2) (d := d) o hl) e1 e2)
    have HH := Lib.hid H
    have hva : valN (xs.getD k enZ).ty (xs.getD k enZ).mx (xs.getD k enZ).lo (xs.getD k enZ).hi d = (ev (xs.getD k enZ)).val d := rfl
    rw [hva] at VA
    obtain ⟨q0, q1, q2, q3, q4, q5, q6, q7, q8, q9, q10⟩ := ROW
    clear h H e1 e2 hn hk ek hk' hg hg2 vc fz okx hva hb eA
    generalize xs.getD k enZ = x at *
    by_cases hv : (ev x).val d = 0
    · rw [hv] at VA ⊢
      rw [eP]
      clear hv eP eN
      go_enter Tryd.func31, Tryd.ntmps31
      go_wp2_with fail
      refine F.out.mono ?_
      rintro e w' ⟨rfl, rfl⟩
      go_wp2_with fail
      refine VA.out.mono ?_
      rintro e w2 ⟨rfl, b2⟩
      have B2 := Lib.hid b2
      obtain ⟨p0, p1, _⟩ := KEEP.out w2 b2
      clear b2 q0 q1 q2 q3 q4 q5 q6 q7 q8 q9 q10 c0
      go_wp2_with fail
      go_region_law (first
        | (go_simp; go_at_call 26; refine (RB.out _ (B2.out.trans ((below_drew w2).mono B2.out.size))).mono ?_; rintro e w3 ⟨u, rfl, o, b3⟩; obtain ⟨A3, c3, rfl, _⟩ := o.form; have B3 := Lib.hid (B2.out.trans (((below_drew w2).trans (b3.mono (Nat.le_refl _))).mono B2.out.size)); have M3 := Lib.hid (PUT.out w2 w3 A3 c3 B2.out ((below_drew w2).trans (b3.mono (Nat.le_refl _))) o); obtain ⟨r0, r1, _⟩ := KEEP.out w3 B3.out; have f3 := FZ.out w3 B3.out k; clear o b3))
      all_goals
        clear p0 p1 r0 r1 f3
        go_wp2_with fail
        go_ret
        exact ⟨rfl, M3.out, Upd.set (S := fun g => (Value.slice (some ⟨g2, 0, none⟩) xs.length cv).ownBlock = some g) (Upd.of_below B3.out) (.inl rfl) _ _⟩
    · rw [eN _ hv]
      have d1 : ((ev x).val d == 0) = false := beq_eq_false_iff_ne.2 hv
      clear hv eP eN
      generalize (ev x).val d = C at *
      go_enter Tryd.func31, Tryd.ntmps31
      go_wp2_with fail
      refine F.out.mono ?_
      rintro e w' ⟨rfl, rfl⟩
      go_wp2_with fail
      refine VA.out.mono ?_
      rintro e w2 ⟨rfl, b2⟩
      have B2 := Lib.hid b2
      clear b2 q0 q1 q2 q3 q4 q5 q6 q7 q8 q9 q10 c0
      go_wp2_with fail
      go_ret
      exact ⟨rfl, HasG.below HH.out B2.out, .of_below B2.out⟩
end
end Dic
end Go.Proofs.YtpdnfdpoebhjoaaDoor

namespace Go.Proofs.YtpdnfdpoebhjoaaDoor
namespace Dic
open Go.RowKit Mem Ent
set_option linter.unusedVariables false
set_option linter.unusedSimpArgs false
set_option maxRecDepth 100000

section
variable {W W' : World} {q : Nat} {vL vV : Value} {K : Nat → Prop} {xs : List En} {bs : List Bv}

set_option maxHeartbeats 4000000 in
theorem rmay_any {s : Ds} (h : HasG W q vL vV K s) (ix sub : Int) {A : Option Addr} {cb : Nat} {d : List UInt8} (hb : Rd W W.heap.size A d) (hl : d.length ≤ 1000) :
    Calls Tryd.prog 35 #[ptr q, .int .i64 ix, .int .i64 sub, .slice A d.length cb] W fun e w' => e = .returned (.int .u32 (s.may ix sub d)) ∧ Below W.heap.size W w' := by
  have F := Lib.hid (h.find ix sub)
  obtain ⟨xs, bs, h, e1, e2⟩ := h
  have c0 := h.c0
  obtain ⟨A0, c, rfl⟩ := h.formL
  unfold Ds.may
  by_cases hn : fnd s.l ix sub < 0
  · rw [if_pos hn]
    have M := Lib.hid (missing_any (fnd s.l ix sub) W)
    have d1 : decide (fnd s.l ix sub < 0) = true := decide_eq_true hn
    clear h e1 e2
    generalize miss (fnd s.l ix sub) = m at *
    generalize fnd s.l ix sub = f at *
    go_enter Tryd.func35, Tryd.ntmps35
    go_wp2_with fail
    refine F.out.mono ?_
    rintro e w' ⟨rfl, rfl⟩
    go_wp2_with fail
    refine M.out.mono ?_
    rintro e w' ⟨rfl, rfl⟩
    go_wp2_with fail
    go_ret
    exact ⟨rfl, Below.refl _ _⟩
  · rw [if_neg hn]
    obtain ⟨k, hk, ek, _, _⟩ := fnd_of' hn
    have hk' : k < xs.length := by rw [← e1] at hk; simpa using hk
    rw [ek] at F ⊢
    rw [Int.toNat_natCast]
    have eA : at_ s.l k = ev (xs.getD k enZ) := by rw [← e1, evs_at]
    rw [eA]
    obtain ⟨g, c', e3, hg, ROW⟩ := h.at hk' rfl
    injection e3 with e3 _ _
    subst e3
    have okx := h.ok _ (getD_mem (z := enZ) hk')
    have d0 : decide ((k : Int) < 0) = false := decide_eq_false (by omega)
    have j1 : (0 : Int) ≤ (k : Int) := by omega
    have j2 : (k : Int) < (xs.length : Int) := by omega
    have C0 := Lib.hid (fun X (b : Below W.heap.size W X) => (h.below b).c0)
    have RX := Lib.hid (fun X (b : Below W.heap.size W X) => ROW.below hg b)
    have WR := Lib.hid (fun X => rwritable_any (xs.getD k enZ).ix (xs.getD k enZ).sub (xs.getD k enZ).nm (xs.getD k enZ).ty (xs.getD k enZ).ac (xs.getD k enZ).mp (xs.getD k enZ).st (xs.getD k enZ).mx (xs.getD k enZ).lo (xs.getD k enZ).hi (.slice (xs.getD k enZ).A (xs.getD k enZ).d.length (xs.getD k enZ).c) X)
    have VA := Lib.hid (fun X (b : Below W.heap.size W X) => rvalue_any (xs.getD k enZ).ix (xs.getD k enZ).sub (xs.getD k enZ).nm (xs.getD k enZ).ty (xs.getD k enZ).ac (xs.getD k enZ).mp (xs.getD k enZ).st (xs.getD k enZ).mx (xs.getD k enZ).lo (xs.getD k enZ).hi (.slice (xs.getD k enZ).A (xs.getD k enZ).d.length (xs.getD k enZ).c) A d.length cb X.heap.size d X okx.mx.1 okx.mx.2 (Nat.le_refl _) ((hb.below b).mono b.size) rfl (by omega))
    have hva : valN (xs.getD k enZ).ty (xs.getD k enZ).mx (xs.getD k enZ).lo (xs.getD k enZ).hi d = (ev (xs.getD k enZ)).val d := rfl
    rw [hva] at VA
    have hac : (ev (xs.getD k enZ)).ac = (xs.getD k enZ).ac := rfl
    rw [hac]
    obtain ⟨q0, q1, q2, q3, q4, q5, q6, q7, q8, q9, q10⟩ := ROW
    clear h e1 e2 hn hk ek hk' hg okx hva hb eA hac
    generalize xs.getD k enZ = x at *
    by_cases hw : writeN x.ac = 0
    · rw [hw] at WR ⊢
      rw [if_neg (by simp)]
      clear hw
      generalize (ev x).val d = C at *
      go_enter Tryd.func35, Tryd.ntmps35
      go_wp2_with fail
      refine F.out.mono ?_
      rintro e w' ⟨rfl, rfl⟩
      go_wp2_with fail
      refine (WR.out W).mono ?_
      rintro e w2 ⟨rfl, b2⟩
      have B2 := Lib.hid b2
      clear b2 q0 q1 q2 q3 q4 q5 q6 q7 q8 q9 q10 c0
      obtain ⟨q0, q1, q2, q3, q4, q5, q6, q7, q8, q9, q10⟩ := RX.out w2 B2.out
      have c0 := C0.out w2 B2.out
      go_wp2_with fail
      refine (VA.out w2 B2.out).mono ?_
      rintro e w3 ⟨rfl, b3⟩
      have B3 := Lib.hid (B2.out.trans (b3.mono B2.out.size))
      clear b3 q0 q1 q2 q3 q4 q5 q6 q7 q8 q9 q10 c0
      go_wp2_with fail
      go_ret
      exact ⟨rfl, B3.out⟩
    · rw [if_pos hw]
      have d1 : (writeN x.ac != 0) = true := by simpa using hw
      clear hw
      generalize writeN x.ac = C at *
      go_enter Tryd.func35, Tryd.ntmps35
      go_wp2_with fail
      refine F.out.mono ?_
      rintro e w' ⟨rfl, rfl⟩
      go_wp2_with fail
      refine (WR.out W).mono ?_
      rintro e w2 ⟨rfl, b2⟩
      have B2 := Lib.hid b2
      clear b2 q0 q1 q2 q3 q4 q5 q6 q7 q8 q9 q10 c0
      go_wp2_with fail
      go_ret
      exact ⟨rfl, B2.out⟩

set_option maxHeartbeats 4000000 in
theorem rset_any {s : Ds} (h : HasG W q vL vV K s) (hK : ∀ r, K r → r < W.heap.size) (ix sub : Int) {A : Option Addr} {cb : Nat} {d : List UInt8} (hb : Rd W W.heap.size A d) (hl : d.length ≤ 1000) :
    Calls Tryd.prog 28 #[ptr q, .int .i64 ix, .int .i64 sub, .slice A d.length cb] W (RSetEnds W q vL vV K (s.upon (s.may ix sub d) ix sub d) (s.may ix sub d)) := by
  have M := Lib.hid (rmay_any h ix sub (cb := cb) hb hl)
  by_cases hC : s.may ix sub d = 0
  · obtain ⟨k, hk, ek, _, _, _⟩ := poke_zero (may_zero hC)
    have eP : s.upon 0 ix sub d = s.put k d := by
      unfold Ds.upon
      rw [if_pos rfl, ek, Int.toNat_natCast]
    rw [hC] at M ⊢
    rw [eP]
    have HF := Lib.hid (fun X (b : Below W.heap.size W X) => (h.below b).find ix sub)
    rw [ek] at HF
    obtain ⟨xs, bs, h, e1, e2⟩ := h
    obtain ⟨B0, cv, rfl⟩ := h.formV
    have hk' : k < xs.length := by rw [← e1] at hk; simpa using hk
    obtain ⟨g2, c2, e4, hg2, vc, fz⟩ := h.val hk' rfl
    injection e4 with e4 _ _
    subst e4
    have j1 : (0 : Int) ≤ (k : Int) := by omega
    have j2 : (k : Int) < (xs.length : Int) := by omega
    have KEEP := Lib.hid (fun X (b : Below W.heap.size W X) => And.intro (h.below b).c1 ((b.cell (p := ⟨g2, k, none⟩) hg2).trans vc))
    have FZ := Lib.hid (fun X (b : Below W.heap.size W X) (j : Nat) => show X.frozen? ⟨g2, j, none⟩ = false from by
      obtain ⟨g3, c3, e5, _, _, f⟩ := (h.below b).val hk' rfl
      injection e5 with e5 _ _
      injection e5 with e5
      injection e5 with e5
      subst e5
      exact f j)
    have RB := Lib.hid (fun X (b : Below W.heap.size W X) => rjoin_any (c := cb) ((hb.below b).mono b.size) d.length rfl hl)
    have PUT := Lib.hid (fun w1 w2 A2 c2 b1 b o => hasG_put (s := s) (h.put hK hk' (w1 := w1) (w2 := w2) b1 b (A2 := A2) (c2 := c2) (d := d) o hl) e1 e2)
    clear h e1 e2 hk ek hk' hg2 vc fz hb eP hC
    go_enter Tryd.func28, Tryd.ntmps28
    go_wp2_with fail
    refine M.out.mono ?_
    rintro e w2 ⟨rfl, b2⟩
    have B2 := Lib.hid b2
    obtain ⟨p0, p1⟩ := KEEP.out w2 b2
    have FX := Lib.hid (HF.out w2.drew (B2.out.trans ((below_drew w2).mono B2.out.size)))
    clear b2
    go_wp2_with fail
    go_region_law (first
      | (go_simp; go_at_call 40; refine FX.out.mono ?_; rintro e w' ⟨rfl, rfl⟩)
      | (go_simp; go_at_call 26; refine (RB.out _ (B2.out.trans ((below_drew w2).mono B2.out.size))).mono ?_; rintro e w3 ⟨u, rfl, o, b3⟩; obtain ⟨A3, c3, rfl, _⟩ := o.form; have B3 := Lib.hid (B2.out.trans (((below_drew w2).trans (b3.mono (Nat.le_refl _))).mono B2.out.size)); have M3 := Lib.hid (PUT.out w2 w3 A3 c3 B2.out ((below_drew w2).trans (b3.mono (Nat.le_refl _))) o); obtain ⟨r0, r1⟩ := KEEP.out w3 B3.out; have f3 := FZ.out w3 B3.out k; clear o b3))
    all_goals
      clear p0 p1 r0 r1 f3
      go_wp2_with fail
      go_ret
      exact ⟨rfl, M3.out, Upd.set (S := fun g => (Value.slice (some ⟨g2, 0, none⟩) xs.length cv).ownBlock = some g) (Upd.of_below B3.out) (.inl rfl) _ _⟩
  · have eN : s.upon (s.may ix sub d) ix sub d = s := if_neg hC
    rw [eN]
    have d1 : (s.may ix sub d == 0) = false := beq_eq_false_iff_ne.2 hC
    have HH := Lib.hid h
    clear hC eN h
    generalize s.may ix sub d = C at *
    go_enter Tryd.func28, Tryd.ntmps28
    go_wp2_with fail
    refine M.out.mono ?_
    rintro e w2 ⟨rfl, b2⟩
    have B2 := Lib.hid b2
    clear b2
    go_wp2_with fail
    go_ret
    exact ⟨rfl, HasG.below HH.out B2.out, .of_below B2.out⟩

/-- While Reset runs: the first k values are their entries' defaults. -/
def GR (W : World) (q : Nat) (vL : Value) (g c n : Nat) (K : Nat → Prop) (xs : List En) (bs : List Bv) (k : Nat) (X : World) : Prop :=
  ∃ cs, IsG X q vL (.slice (some ⟨g, 0, none⟩) n c) K xs cs ∧ cs.map (·.d) = (xs.take k).map (fun x => (ev x).d) ++ (bs.drop k).map (·.d) ∧ Upd (fun r => r = g) W X
theorem set_vals {xs : List En} {bs cs : List Bv} {k : Nat} (hl : bs.length = xs.length) (hk : k < xs.length) (h : cs.map (·.d) = (xs.take k).map (fun x => (ev x).d) ++ (bs.drop k).map (·.d)) (A : Option Addr) (c : Nat) :
    (cs.set k ⟨A, (xs.getD k enZ).d, c⟩).map (·.d) = (xs.take (k + 1)).map (fun x => (ev x).d) ++ (bs.drop (k + 1)).map (·.d) := by
  rw [List.map_set, h, List.set_append_right _ _ (by simp; omega), List.take_succ_eq_append_getElem hk, List.map_append, List.append_assoc]
  congr 1
  have e : k - ((xs.take k).map (fun x => (ev x).d)).length = 0 := by simp; omega
  rw [e, List.drop_eq_getElem_cons (by omega), List.map_cons, List.set_cons_zero]
  simp [List.getD_eq_getElem?_getD, hk, ev]

set_option maxHeartbeats 4000000 in
theorem rreset_any {s : Ds} (h : HasG W q vL vV K s) (hK : ∀ r, K r → r < W.heap.size) : Calls Tryd.prog 37 #[ptr q] W fun e w' => e = .returned (.tuple #[]) ∧ HasG w' q vL vV K s.reset ∧ Upd (fun g => vV.ownBlock = some g) W w' := by
  have H := h
  obtain ⟨xs, bs, h, e1, e2⟩ := h
  have c0 := h.c0
  obtain ⟨A0, c, rfl⟩ := h.formL
  obtain ⟨B0, cv, rfl⟩ := h.formV
  by_cases h0 : xs.length = 0
  · obtain rfl : xs = [] := List.eq_nil_of_length_eq_zero h0
    obtain rfl : bs = [] := List.eq_nil_of_length_eq_zero (by rw [h.len]; rfl)
    have HH := Lib.hid (show HasG W q (.slice A0 ([] : List En).length c) (.slice B0 ([] : List En).length cv) K s.reset from ⟨[], [], h, e1, by
      unfold Ds.reset
      rw [← e1]
      rfl⟩)
    have c0' : W.cell? ⟨q, 0, none⟩ = some (.slice A0 0 c) := c0
    clear h H e1 e2 h0 c0
    go_enter Tryd.func37, Tryd.ntmps37
    go_wp2_with fail
    go_loop [2] (fun iv => iv = .int .i64 0) (fun _ => 0)
    case atStart => rfl
    case round =>
      subst hrel
      go_wp2_with fail
      go_end0
      exact ⟨rfl, HH.out, Upd.refl _ _⟩
  · obtain ⟨g2, c2, e4, hg2, _, _⟩ := h.val (k := 0) (by omega) rfl
    injection e4 with e4 _ _
    subst e4
    have ST := Lib.hid (show GR W q (.slice A0 xs.length c) g2 cv xs.length K xs bs 0 W from ⟨bs, h, by simp, Upd.refl _ _⟩)
    have hl := h.len
    have few := h.few
    have DONE := Lib.hid (fun X (r : GR W q (.slice A0 xs.length c) g2 cv xs.length K xs bs xs.length X) => show HasG X q (.slice A0 xs.length c) (.slice (some ⟨g2, 0, none⟩) xs.length cv) K s.reset ∧ Upd (fun g => (Value.slice (some ⟨g2, 0, none⟩) xs.length cv).ownBlock = some g) W X from by
      obtain ⟨cs, r1, r2, r3⟩ := r
      refine ⟨⟨xs, cs, r1, e1, ?_⟩, r3.wide fun g e => by rw [e]; rfl⟩
      rw [r2, List.take_length, List.drop_of_length_le (by omega)]
      unfold Ds.reset
      rw [← e1]
      simp)
    have HK := Lib.hid hK
    clear h H e1 e2 c0 h0
    go_enter Tryd.func37, Tryd.ntmps37
    go_wp2_with fail
    go_loopw [2] (fun iv wr => ∃ k : Nat, k ≤ xs.length ∧ iv = .int .i64 (k : Int) ∧ Hid (GR W q (.slice A0 xs.length c) g2 cv xs.length K xs bs k wr)) (fun iv _ => xs.length - (intOf iv).toNat)
    case atStart => exact ⟨0, by omega, rfl, ST⟩
    case round =>
      obtain ⟨k, hk, rfl, hG⟩ := hrel
      clear ST
      obtain ⟨cs, r1, r2, r3⟩ := hG.out
      have c0 := r1.c0
      have c1 := r1.c1
      by_cases hlt : k < xs.length
      · obtain ⟨g, c', e3, hg, ROW⟩ := r1.at hlt rfl
        obtain ⟨g3, c3, e4, hg3, vc, _⟩ := r1.val hlt rfl
        injection e3 with e3 _ _
        subst e3
        injection e4 with e4 _ _
        injection e4 with e4
        injection e4 with e4
        subst e4
        have hx := getD_mem (z := enZ) hlt
        have hd : (xs.getD k enZ).d.length ≤ 1000 := (r1.ok _ hx).d
        have hrd : Rd wr wr.heap.size (xs.getD k enZ).A (xs.getD k enZ).d := (r1.dataL _ hx).rd fun g hg => hg.1
        have j1 : (0 : Int) ≤ (k : Int) := by omega
        have j2 : (k : Int) < (xs.length : Int) := by omega
        have KEEP := Lib.hid (fun X (b : Below wr.heap.size wr X) => And.intro (r1.below b).c0 (And.intro (r1.below b).c1 (And.intro ((b.cell (p := ⟨g2, k, none⟩) hg3).trans vc) ((ROW.below hg b).2.2.2.2.2.2.2.2.2.2))))
        have FZ := Lib.hid (fun X (b : Below wr.heap.size wr X) (j : Nat) => show X.frozen? ⟨g2, j, none⟩ = false from by
          obtain ⟨g3, c3, e5, _, _, f⟩ := (r1.below b).val hlt rfl
          injection e5 with e5 _ _
          injection e5 with e5
          injection e5 with e5
          subst e5
          exact f j)
        have RB := Lib.hid (fun X (b : Below wr.heap.size wr X) => rjoin_any (c := (xs.getD k enZ).c) ((hrd.below b).mono b.size) (xs.getD k enZ).d.length rfl hd)
        have PUT := Lib.hid (fun w2 A2 c2 b o => show GR W q (.slice (some ⟨g, 0, none⟩) xs.length c) g2 cv xs.length K xs bs (k + 1) (w2.setCell ⟨g2, k, none⟩ (.slice A2 (xs.getD k enZ).d.length c2)) from
          ⟨_, r1.put (fun r hr => Nat.lt_of_lt_of_le (HK.out r hr) r3.size) hlt (w1 := wr) (w2 := w2) (Below.refl _ _) b (A2 := A2) (c2 := c2) (d := (xs.getD k enZ).d) o hd, set_vals hl hlt r2 _ _, (r3.next b).set (.inl rfl) _ _⟩)
        have HLT := Lib.hid hlt
        obtain ⟨q0, q1, q2, q3, q4, q5, q6, q7, q8, q9, q10⟩ := ROW
        clear r1 r2 r3 hG hx hd hrd hg hg3 hlt q0 q1 q2 q3 q4 q5 q6 q7 q8 q9
        generalize xs.getD k enZ = x at *
        generalize cs.getD k Bv.zero = b0 at *
        go_wp2_with fail
        go_region_law (first
          | (go_simp; go_at_call 26; refine (RB.out _ (below_drew wr)).mono ?_; rintro e w3 ⟨u, rfl, o, b3⟩; obtain ⟨A3, c3, rfl, _⟩ := o.form; have B3 := Lib.hid ((below_drew wr).trans (b3.mono (Nat.le_refl _))); have M3 := Lib.hid (PUT.out w3 A3 c3 B3.out o); obtain ⟨r0, r1, r2, r3⟩ := KEEP.out w3 B3.out; have f3 := FZ.out w3 B3.out k; clear o b3))
        all_goals
          clear c0 c1 vc q10 r0 r1 r2 r3 f3
          go_wp2_with fail
          go_roundw
          case rel => exact ⟨k + 1, by have := HLT.out; omega, by go_num, M3⟩
          case measure => have := HLT.out; simp [intOf]; omega
      · have hE : k = xs.length := by omega
        have G := hG.out
        rw [hE] at G
        have D := Lib.hid (DONE.out wr G)
        clear r1 r2 r3 c1 G hG DONE
        go_wp2_with fail
        go_end0
        exact ⟨rfl, D.out.1, D.out.2⟩
end
end Dic
end Go.Proofs.YtpdnfdpoebhjoaaDoor
