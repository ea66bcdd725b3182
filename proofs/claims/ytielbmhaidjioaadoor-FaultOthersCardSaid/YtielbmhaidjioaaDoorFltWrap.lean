/-
  Faults wrapped in one another: what 'wrapped' makes of codes.
-/
import Derived.Test.YtielbmhaidjioaaDoorFltKnown
import Derived.Test.YtielbmhaidjioaaDoorInts
import Derived.Test.YtielbmhaidjioaaDoorText
namespace Go.Proofs.YtielbmhaidjioaaDoor
open Go.RowKit Mem
set_option linter.unusedVariables false

/-- The two cells of a fault of links. -/
def topX : List Int → Value → Value
  | [], _ => .int .u32 0
  | c :: _, _ => .int .u32 c
def topY : List Int → Value → Value
  | [], _ => .nilIface
  | _ :: r, base => chainV r base
theorem top_xy (cs : List Int) (base : Value) : topV cs base = .agg #[topX cs base, topY cs base] := by cases cs <;> rfl

theorem under_wrap (d : Int) (cs : List Int) (base : Value) (a : Nat → Addr) (w : World) (hg : Glob w a) (hb : cs = [] → base = errV (a (Flt.fam (Flt.cnt d)))) (hz : ∀ c ∈ cs, (c == 0) = false) :
    Calls Tryd.prog 24 #[.int .u32 d, .agg #[topX cs base, topY cs base]] w fun e w' => e = .returned (.agg #[.int .u32 (Flt.cnt d), chainV cs base]) ∧ Below w.heap.size w w' := by
  cases cs with
  | nil =>
    have h := under_none d .nilIface a w hg
    rw [← hb rfl] at h
    exact h
  | cons c r => exact under_any d c (chainV r base) (hz c (by simp)) a w hg

theorem getD_map_cnt (zs : List Int) (k : Nat) (hk : k < zs.length) : (zs.map Flt.cnt).drop k = Flt.cnt (zs.getD k 0) :: (zs.map Flt.cnt).drop (k + 1) := by
  rw [List.drop_eq_getElem_cons (by simpa using hk)]
  simp [hk]
theorem top_heads (cs : List Int) (U : TypeId) (bv : Value) : ∃ x, topX cs (.iface U bv) = .int .u32 x ∧ (topY cs (.iface U bv) = .nilIface ∨ ∃ V v, topY cs (.iface U bv) = .iface V v) := by
  cases cs with
  | nil => exact ⟨0, rfl, .inl rfl⟩
  | cons c r => exact ⟨c, rfl, .inr (chain_iface r U bv)⟩
theorem topX_cons (c : Int) (r : List Int) (base : Value) : topX (c :: r) base = .int .u32 c := rfl
theorem topY_cons (c : Int) (r : List Int) (base : Value) : topY (c :: r) base = chainV r base := rfl

/-- The loop: f's cells are those of the links from number k on. -/
def WrapS (w : World) (zs : List Int) (base : Value) (k : Nat) (W : World) : Prop :=
  Below w.heap.size w W ∧ HasFlt W w.heap.size (.int .u32 0) .nilIface ∧ HasFlt W (w.heap.size + 1) (topX ((zs.map Flt.cnt).drop k) base) (topY ((zs.map Flt.cnt).drop k) base)
theorem WrapS.start (w : World) (zs : List Int) (base : Value) {n : Nat} (h : (zs.map Flt.cnt).drop n = []) :
    WrapS w zs base n ((w.alloc (.cells #[.int .u32 0, .nilIface] 26)).alloc (.cells #[.int .u32 0, .nilIface] 26)) := by
  refine ⟨((Below.refl _ w).alloc (Nat.le_refl _) _).alloc (by simp) _, (HasFlt.new w _ _).alloc _, ?_⟩
  rw [h]
  have := HasFlt.new (w.alloc (.cells #[.int .u32 0, .nilIface] 26)) (.int .u32 0) .nilIface
  rw [World.size_alloc] at this
  exact this
theorem WrapS.reads {w W : World} {zs : List Int} {base : Value} {k : Nat} (h : WrapS w zs base k W) :
    W.cell? ⟨w.heap.size + 1, 0, none⟩ = some (topX ((zs.map Flt.cnt).drop k) base) ∧ W.cell? ⟨w.heap.size + 1, 1, none⟩ = some (topY ((zs.map Flt.cnt).drop k) base) ∧
    W.frozen? ⟨w.heap.size + 1, 0, none⟩ = false ∧ W.frozen? ⟨w.heap.size + 1, 1, none⟩ = false ∧ W.cell? ⟨w.heap.size, 0, none⟩ = some (.int .u32 0) ∧ W.cell? ⟨w.heap.size, 1, none⟩ = some .nilIface ∧ w.heap.size + 1 < W.heap.size ∧
    (∀ u, (W.setCell ⟨w.heap.size + 1, 0, none⟩ u).cell? ⟨w.heap.size + 1, 1, none⟩ = some (topY ((zs.map Flt.cnt).drop k) base)) ∧ (∀ u, (W.setCell ⟨w.heap.size + 1, 0, none⟩ u).frozen? ⟨w.heap.size + 1, 1, none⟩ = false) ∧
    W.frozen? ⟨w.heap.size, 0, none⟩ = false ∧ (∀ u, (W.setCell ⟨w.heap.size, 0, none⟩ u).cell? ⟨w.heap.size, 1, none⟩ = some .nilIface) ∧ (∀ u, (W.setCell ⟨w.heap.size, 0, none⟩ u).frozen? ⟨w.heap.size, 1, none⟩ = false) :=
  ⟨h.2.2.cell0, h.2.2.cell1, h.2.2.free 0, h.2.2.free 1, h.2.1.cell0, h.2.1.cell1, h.2.2.lt, fun u => (h.2.2.set0 u).cell1, fun u => (h.2.2.set0 u).free 1, h.2.1.free 0, fun u => (h.2.1.set0 u).cell1, fun u => (h.2.1.set0 u).free 1⟩
theorem WrapS.next {w W W' : World} {zs : List Int} {base : Value} {k : Nat} (h : WrapS w zs base k W) (hb : Below W.heap.size W W') : WrapS w zs base k W' :=
  ⟨h.1.trans (hb.mono h.1.size), h.2.1.below hb h.2.1.lt, h.2.2.below hb h.2.2.lt⟩
theorem WrapS.drew {w W : World} {zs : List Int} {base : Value} {k : Nat} (h : WrapS w zs base k W) : WrapS w zs base k W.drew :=
  h.next ⟨rfl, rfl, rfl, Nat.le_refl _, fun _ _ => rfl⟩
theorem WrapS.store {w W : World} {zs : List Int} {base : Value} {j : Nat} (h : WrapS w zs base (j + 1) W) (hj : j < zs.length) :
    WrapS w zs base j ((W.setCell ⟨w.heap.size + 1, 0, none⟩ (.int .u32 (Flt.cnt (zs.getD j 0)))).setCell ⟨w.heap.size + 1, 1, none⟩ (chainV ((zs.map Flt.cnt).drop (j + 1)) base)) := by
  refine ⟨(h.1.setCell (p := ⟨w.heap.size + 1, 0, none⟩) (by simp) _).setCell (p := ⟨w.heap.size + 1, 1, none⟩) (by simp) _, ?_, ?_⟩
  · have b := ((Below.refl (w.heap.size + 1) W).setCell (p := ⟨w.heap.size + 1, 0, none⟩) (by simp) (.int .u32 (Flt.cnt (zs.getD j 0)))).setCell (p := ⟨w.heap.size + 1, 1, none⟩) (by simp) (chainV ((zs.map Flt.cnt).drop (j + 1)) base)
    exact h.2.1.below b (by omega)
  · rw [getD_map_cnt zs j hj, topX_cons, topY_cons]
    exact (h.2.2.set0 _).set1 _

set_option maxRecDepth 100000 in
set_option maxHeartbeats 2000000 in
theorem wrapped_any (A : Option Addr) (c : Nat) (zs : List Int) (a : Nat → Addr) (w : World) (hr : RdI .u32 w w.heap.size A zs) (hle : zs.length ≤ 50) (hg : Glob w a) :
    Calls Tryd.prog 21 #[.slice A zs.length c] w fun e w' => e = .returned (topV (zs.map Flt.cnt) (errV (a (Flt.fam (Flt.cnt (zs.getLastD 0)))))) ∧ Below w.heap.size w w' := by
  obtain ⟨base, hbase⟩ : ∃ base, errV (a (Flt.fam (Flt.cnt (zs.getLastD 0)))) = base := ⟨_, rfl⟩
  rw [hbase]
  have HB := Lib.hid hbase
  clear hbase
  have hz : ∀ k, ∀ x ∈ (zs.map Flt.cnt).drop k, (x == 0) = false := fun k x hx => by
    obtain ⟨y, _, rfl⟩ := List.mem_map.1 (List.mem_of_mem_drop hx)
    have := (Flt.cnt_bd y).1
    simp; omega
  have HZ := Lib.hid hz
  clear hz
  obtain ⟨n, hn⟩ : ∃ n, zs.length = n := ⟨_, rfl⟩
  rw [hn] at hle ⊢
  have HN := Lib.hid hn
  have HR := Lib.hid hr
  have HG := Lib.hid hg
  clear hn hr hg
  have HE : Hid ((zs.map Flt.cnt).drop n = []) := Lib.hid (by rw [← HN.out]; simp)
  go_enter Tryd.func21, Tryd.ntmps21
  go_wp2_with fail
  go_loopw [4] (fun i wr => ∃ k : Nat, k ≤ n ∧ i = .int .i64 ((k : Int) - 1) ∧ WrapS w zs base k wr) (fun i _ => (intOf i + 1).toNat)
  case atStart => exact ⟨n, Nat.le_refl _, rfl, WrapS.start w zs base HE.out⟩
  case round =>
    obtain ⟨k, hk, rfl, hS⟩ := hrel
    have HS := Lib.hid hS
    clear hS
    by_cases hk0 : k = 0
    · subst hk0
      obtain ⟨q0, q1, f0, f1, r0, r1, lb, g0, g1, g2, g3, g4⟩ := HS.out.reads
      rw [show ((0 : Nat) : Int) - 1 = -1 from rfl]
      have HB1 := Lib.hid HS.out.1
      have HT := Lib.hid (top_xy (zs.map Flt.cnt) base)
      obtain ⟨x, hx, hy⟩ := top_heads (zs.map Flt.cnt) 129 (.pointer (some (a (Flt.fam (Flt.cnt (zs.getLastD 0))))))
      rw [show Value.iface 129 (.pointer (some (a (Flt.fam (Flt.cnt (zs.getLastD 0)))))) = base from HB.out] at hx hy
      rw [List.drop_zero] at q0 q1 g0
      rw [hx] at q0 HT
      rcases hy with hy | ⟨V, v, hy⟩
      all_goals
        rw [hy] at q1 g0 HT
        have HF := Lib.hid (fun u v => (HS.out.2.1.set0 u).set1 v)
        clear hx hy HS
        go_wp2_with fail
        refine bodyPost_ret (v := topV (zs.map Flt.cnt) base) (by rw [HT.out]; simp [results, Tryd.results21, go_sem, (HF.out _ _).cell0, (HF.out _ _).cell1]) rfl ⟨rfl, ?_⟩
        exact (HB1.out.setCell (p := ⟨w.heap.size, 0, none⟩) (by simp) _).setCell (p := ⟨w.heap.size, 1, none⟩) (by simp) _
    · obtain ⟨j, rfl⟩ : ∃ j, k = j + 1 := ⟨k - 1, by omega⟩
      have hj1 : (0 : Int) ≤ (j : Int) := by omega
      have hj2 : (j : Int) < (n : Int) := by omega
      have hj4 : ((j + 1 : Nat) : Int) - 1 = (j : Int) := by omega
      rw [hj4]
      clear hj4 hk0 hk
      obtain ⟨g, off, rfl, hgl, _⟩ := HR.out.at_ (j := j) (by rw [HN.out]; omega)
      have HC : Hid (∀ W, Below w.heap.size w W → W.cell? ⟨g, off + j, none⟩ = some (.int .u32 (zs.getD j 0))) := Lib.hid fun W hW => by
        obtain ⟨g', off', e, _, hc⟩ := (HR.out.below hW).at_ (j := j) (by rw [HN.out]; omega)
        cases e
        exact hc
      have HU : Hid (∀ W, WrapS w zs base (j + 1) W → Calls Tryd.prog 24 #[.int .u32 (zs.getD j 0), .agg #[topX ((zs.map Flt.cnt).drop (j + 1)) base, topY ((zs.map Flt.cnt).drop (j + 1)) base]] W fun e w' => e = .returned (.agg #[.int .u32 (Flt.cnt (zs.getD j 0)), chainV ((zs.map Flt.cnt).drop (j + 1)) base]) ∧ WrapS w zs base (j + 1) w') := Lib.hid fun W hW => by
        refine (under_wrap (zs.getD j 0) _ base a W (HG.out.below hW.1 (Nat.le_refl _)) (fun e => ?_) (HZ.out (j + 1))).mono (by rintro e w' ⟨rfl, hb⟩; exact ⟨rfl, hW.next hb⟩)
        have hj : j + 1 = n := by
          have := congrArg List.length e
          simp [HN.out] at this
          omega
        rw [← HB.out]
        have : zs.getLastD 0 = zs.getD j 0 := by
          rw [List.getLastD_eq_getLast?, List.getLast?_eq_getElem?, List.getD_eq_getElem?_getD, HN.out, ← hj]
          simp
        rw [this]
      have HX : Hid (∀ W, WrapS w zs base (j + 1) W → WrapS w zs base j ((W.setCell ⟨w.heap.size + 1, 0, none⟩ (.int .u32 (Flt.cnt (zs.getD j 0)))).setCell ⟨w.heap.size + 1, 1, none⟩ (chainV ((zs.map Flt.cnt).drop (j + 1)) base))) := Lib.hid fun W hW => hW.store (by rw [HN.out]; omega)
      have HR1 : Hid (∀ W, WrapS w zs base (j + 1) W → _) := Lib.hid fun W (hW : WrapS w zs base (j + 1) W) => hW.reads
      obtain ⟨V, v, hV⟩ := chain_iface ((zs.map Flt.cnt).drop (j + 1)) 129 (.pointer (some (a (Flt.fam (Flt.cnt (zs.getLastD 0))))))
      rw [show Value.iface 129 (.pointer (some (a (Flt.fam (Flt.cnt (zs.getLastD 0)))))) = base from HB.out] at hV
      rw [hV] at HU HX
      clear hV
      generalize topX ((zs.map Flt.cnt).drop (j + 1)) base = X at HU HR1
      generalize topY ((zs.map Flt.cnt).drop (j + 1)) base = Y at HU HR1
      generalize Flt.cnt (zs.getD j 0) = CJ at HU HX
      generalize zs.getD j 0 = zj at HU HC
      go_wp2_with fail
      refine Txt.wp_region_tail 6 (fun W => WrapS w zs base (j + 1) W) (by kernel_rfl) (by kernel_rfl) (by kernel_rfl) (by kernel_rfl) (by kernel_rfl) (fun _ _ _ _ _ h => h) HS.out.drew ?_
      clear HS
      iterate 6 (
        apply Txt.stepR rfl
        · intro W hS K hK
          have HS := Lib.hid hS
          have hc := HC.out W hS.1
          obtain ⟨q0, q1, f0, f1, r0, r1, lb, g0, g1, g2, g3, g4⟩ := HR1.out W hS
          clear hS
          go_simp
          try (go_wp2_with (go_at_call 24; refine (HU.out _ HS.out).mono ?_; rintro e w' ⟨rfl, hS'⟩; have HS := Lib.hid hS'; clear hS'))
          exact hK.out _ HS.out
        · first | exact ⟨_, rfl⟩ | exact ⟨undef, rfl⟩)
      refine Txt.lastR rfl ?_
      intro W hS K hK
      have HS := Lib.hid (HX.out W hS)
      obtain ⟨q0, q1, f0, f1, r0, r1, lb, g0, g1, g2, g3, g4⟩ := HR1.out W hS
      clear hS
      go_simp
      refine hK.out _ _ ?_
      clear hK K q0 q1 f0 f1 r0 r1 g0 g1 g2 g3 g4
      go_wp2_with fail
      go_roundw
      case rel => exact ⟨j, by omega, by go_num, HS.out⟩
      case measure => simp [intOf]
end Go.Proofs.YtielbmhaidjioaaDoor
