/-
  What the helpers of the statements do: Lent (bytes with a mark behind them), Kept (are they as they were?), Spoil (writes over bytes, and behind them).
-/
import Derived.Test.YtpdnfdpoebhjoaaDoorProg
import Derived.Test.YtpdnfdpoebhjoaaDoorOctInts
namespace Go.Proofs.YtpdnfdpoebhjoaaDoor
open Go.RowKit Mem
set_option linter.unusedVariables false

/-- Bytes that are lent: the slice reads bs, and a byte 77 stands behind them in the same block. -/
def LentAt (w : World) (base : Nat) (t : TypeId) (g cap : Nat) (bs : List UInt8) : Prop :=
  Own w base t (.slice (some ⟨g, 0, none⟩) (bs.length + 1) cap) (bs ++ [77]) ∧ bs.length + 1 ≤ cap ∧ cap ≤ maxLen ∧ base ≤ g ∧ g < w.heap.size
def LentEnds (t : TypeId) (w : World) (bs : List UInt8) (e : Ending) (w' : World) : Prop :=
  ∃ g cap, e = .returned (.slice (some ⟨g, 0, none⟩) bs.length cap) ∧ LentAt w' w.heap.size t g cap bs ∧ Below w.heap.size w w'

set_option maxRecDepth 100000 in
set_option maxHeartbeats 400000 in
theorem lent_any (A : Option Addr) (n c : Nat) (bs : List UInt8) (w : World) (hr : Rd w w.heap.size A bs) (hn : n = bs.length) (hle : n ≤ 1099511627776) :
    Calls Tryd.prog 11 #[.slice A n c] w (LentEnds 5 w bs) := by
  subst hn
  obtain ⟨i0, hi, hz0, hz1, hz2⟩ := info_parts info_u8
  go_enter Tryd.func11, Tryd.ntmps11
  go_wp2_with (first
    | (at_builtin; refine wpList_app _ rfl (.tmp 4) (.tmp 5) 36 rfl w.heap.size 5 i0 Tryd.underlying36 hi hz0 hz1 hz2 (.slice none 0 0) [] rfl (Own.nil _ _ _) A bs.length c bs rfl rfl w.heap.size hr (by simp; omega) (Nat.le_refl _) ?_; intro v1 w1 o1 g1 t1; have b1 : Below w.heap.size w w1 := (Below.refl _ _).grown g1 (Nat.le_refl _) (by simp [Value.ownBlock]); simp only [List.nil_append] at o1)
    | (at_builtin; refine wpList_app _ rfl (.tmp 7) (.tmp 8) 36 rfl w.heap.size 5 i0 Tryd.underlying36 hi hz0 hz1 hz2 v1 bs rfl (o1.alloc _) (some ⟨w1.heap.size, 0, none⟩) 1 1 [77] rfl rfl (w1.heap.size + 1) (Rd.new1 _ _ (by rfl)) (by simp; omega) (alloc_le b1.size _) ?_; intro v2 w2 o2 g2 t2; obtain ⟨g, cap, hv2, hg, hgs, hc, hcm⟩ := o2.some_ (by simp); have hl : (bs ++ [77]).length = bs.length + 1 := (by simp); rw [hl] at hv2 hc; subst hv2; have b2 : Below w.heap.size w w2 := (b1.alloc b1.size _).grown g2 (alloc_le b1.size _) (fun g hg => (o1.lt g hg).1); clear hl g1 g2 t1 t2 o1))
  go_ret
  exact ⟨g, cap, rfl, ⟨o2, hc, hcm, hg, hgs⟩, b2⟩

theorem LentAt.rd {w : World} {base : Nat} {t : TypeId} {g cap : Nat} {bs : List UInt8} (h : LentAt w base t g cap bs) : Rd w w.heap.size (some ⟨g, 0, none⟩) bs := by
  refine .inr ⟨g, 0, rfl, h.2.2.2.2, fun j hj => ?_⟩
  have h1 := h.1.cell (by simp) (j := j) (by simp; omega)
  rw [Nat.zero_add, h1]
  simp [byt, hj, List.getElem?_append_left]
theorem LentAt.below {w w' : World} {base : Nat} {t : TypeId} {g cap : Nat} {bs : List UInt8} (h : LentAt w base t g cap bs) {B : Nat} (hb : Below B w w') (hB : w.heap.size ≤ B) : LentAt w' base t g cap bs :=
  ⟨h.1.below hb hB, h.2.1, h.2.2.1, h.2.2.2.1, Nat.lt_of_lt_of_le h.2.2.2.2 hb.size⟩

theorem LentAt.keep {w w' : World} {base : Nat} {t : TypeId} {g cap : Nat} {bs : List UInt8} (h : LentAt w base t g cap bs) {B : Nat} (hb : Below B w w') (hg : g < B) : LentAt w' base t g cap bs :=
  ⟨h.1.kept_block (hb.block g hg), h.2.1, h.2.2.1, h.2.2.2.1, Nat.lt_of_lt_of_le h.2.2.2.2 hb.size⟩

set_option maxRecDepth 100000 in
set_option maxHeartbeats 400000 in
theorem kept_yes (A : Option Addr) (n c base B g cap : Nat) (bs : List UInt8) (w : World) (hl : LentAt w base 5 g cap bs) (hr : Rd w B A bs) (hn : n = bs.length) (hle : n ≤ 1099511627776) :
    Calls Tryd.prog 13 #[.slice (some ⟨g, 0, none⟩) n cap, .slice A n c] w fun e w' => e = .returned (.bool true) ∧ w = w' := by
  subst hn
  have s1 := run_str hl.rd bs.length cap rfl 36 5 9 Tryd.underlying36 Tryd.underlying5 Tryd.underlying9
  have s2 := run_str hr bs.length c rfl 36 5 9 Tryd.underlying36 Tryd.underlying5 Tryd.underlying9
  have hc : w.cell? ⟨g, bs.length, none⟩ = some (.int .u8 77) := by
    have h1 := hl.1.cell (by simp) (j := bs.length) (by simp)
    rw [h1]
    simp [byt]
  have hcap := hl.2.1
  have hcm := hl.2.2.1
  unfold maxLen at hcm
  clear hl hr
  go_enter Tryd.func13, Tryd.ntmps13
  go_wp2_with fail
  go_ret
  exact ⟨rfl, rfl⟩

set_option maxRecDepth 100000 in
set_option maxHeartbeats 400000 in
theorem spoil_any (v : Value) (base : Nat) (bs : List UInt8) (w : World) (ho : Own w base 5 v bs) (hbase : base ≤ w.heap.size) (hle : bs.length ≤ 1099511627776) :
    Calls Tryd.prog 10 #[v] w fun e w' => e = .returned (.tuple #[]) ∧ Below base w w' ∧ w.grownBy w' v.ownBlock := by
  obtain ⟨i0, hi, hz0, hz1, hz2⟩ := info_parts info_u8
  obtain ⟨A, c, rfl, hr⟩ := ho.form
  go_enter Tryd.func10, Tryd.ntmps10
  go_wp2_with fail
  go_loopw [2] (fun i wr => ∃ k : Nat, k ≤ bs.length ∧ i = .int .i64 k ∧ (∃ bs', bs'.length = bs.length ∧ Own wr base 5 (.slice A bs.length c) bs') ∧ Below base w wr ∧ Hid (w.grownBy wr (Value.ownBlock (.slice A bs.length c)))) (fun i _ => bs.length - (intOf i).toNat)
  case atStart => exact ⟨0, by omega, rfl, ⟨bs, rfl, ho⟩, Below.refl _ _, World.grownBy.refl _ _⟩
  case round =>
    obtain ⟨k, hk, rfl, ⟨bs', hl', hown⟩, hb, hG⟩ := hrel
    have hL := Lib.hid hl'
    clear hl'
    by_cases hlt : k < bs.length
    · obtain ⟨g, cap, hv, hg, hgs, hc, hcm⟩ := hown.some_ (by rw [hL.out]; omega)
      injection hv with e1 e2 e3
      subst e1
      subst e3
      clear e2
      have hcell := hown.cell hL.out.symm (j := k) (by rw [hL.out]; omega)
      have hfree := hown.free hL.out.symm k
      have hx := byt_bd bs' k
      obtain ⟨y, hy⟩ := Oct.xor_byte (byt bs' k) 90 hx.1 hx.2 (by omega) (by omega)
      have hst := hown.store hL.out.symm k hy
      have hY := Lib.hid hy
      have hS := Lib.hid hst
      clear hy hst
      go_wp2_with fail
      go_roundw
      case rel => exact ⟨k + 1, by omega, by go_num, ⟨_, by rw [List.length_set]; exact hL.out, hS.out⟩, hb.setCell hg _, grown_far hG.out (.inl rfl) _⟩
      case measure => simp [intOf]; omega
    · go_wp2_with (at_builtin; refine wpList_app _ rfl (.tmp 17) (.tmp 18) 36 rfl base 5 i0 Tryd.underlying36 hi hz0 hz1 hz2 (.slice A bs.length c) bs' rfl (hown.alloc _) (some ⟨wr.heap.size, 0, none⟩) 1 1 [99] rfl rfl (wr.heap.size + 1) (Rd.new1 _ _ (by rfl)) (by rw [hL.out]; simp; omega) (alloc_le (Nat.le_trans hbase hb.size) _) ?_; intro v2 w2 o2 g2 t2; obtain ⟨g, cap, hv2, hg, hgs, hc, hcm⟩ := o2.some_ (by simp); have hl : (bs' ++ [99]).length = bs.length + 1 := (by simp [hL.out]); rw [hl] at hv2 hc; subst hv2; have b2 : Below base w w2 := (hb.alloc (Nat.le_trans hbase hb.size) _).grown g2 (alloc_le (Nat.le_trans hbase hb.size) _) (fun g hg => (hown.lt g hg).1); have hcell := o2.cell hl.symm (j := bs.length) (by rw [hl]; omega); have hfree := o2.free hl.symm bs.length; have hG2 := Lib.hid (grown_trans (grown_trans hG.out (World.grownBy_alloc _ _ _)) g2); have hT := Lib.hid t2; clear hl g2 t2 hown)
      go_end0
      refine ⟨rfl, b2.setCell hg _, grown_far hG2.out ?_ _⟩
      rcases hT.out with h | h
      · exact .inl h
      · refine .inr ?_
        have : g = (wr.alloc (Obj.cells #[Value.int IntKind.u8 99] 5)).heap.size := by
          simpa [Value.ownBlock] using h
        have h2 := hb.size
        simp at this
        omega

end Go.Proofs.YtpdnfdpoebhjoaaDoor
