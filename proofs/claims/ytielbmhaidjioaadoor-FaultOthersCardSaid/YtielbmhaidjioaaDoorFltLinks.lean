/-
  The iterator links: it hands on a fault's links, the outermost one first.
-/
import Derived.Test.YtielbmhaidjioaaDoorFltAs3
import Derived.Test.YtielbmhaidjioaaDoorFltAs4
import Derived.Test.YtielbmhaidjioaaDoorRange
import Derived.RangeFuncBound
import Derived.Shelf.Abstract
import Derived.Shelf.RegionOpen
import Derived.OwnWalkIn
import Derived.TacticsInMore
import Derived.LoopNIn
import Derived.LoopIn
namespace Go.Proofs.YtielbmhaidjioaaDoor
open Go.RowKit Go.Shelf Mem Rng
set_option linter.unusedVariables false
attribute [local go_sem] Oper.semAt_some

/-- What link k of a chain reads as. -/
def linkV (cs : List Int) (base : Value) (k : Nat) : Value := .agg #[.int .u32 (cs.getD k 0), chainV (cs.drop (k + 1)) base]

set_option maxRecDepth 100000 in
set_option maxHeartbeats 2000000 in
theorem links_none (n n₀ : Nat) (x : Value) (encs : Nat → Array Value) (w : World) : Seq n Tryd.prog 26 34 #[.agg #[.int .u32 0, x]] encs n₀ 0 w := by
  intro l J Jx W hW hJ hJx hY h0
  refine callsIn_of_wp Tryd.func34 rfl trivial ?_ rfl
  simp only [Tryd.ntmps34, List.size_toArray, List.length_cons, List.length_nil, Nat.reduceAdd, Nat.reduceSub, Array.replicate_succ, Array.replicate_zero, List.push_toArray, List.append_toArray, List.nil_append, List.cons_append]
  gi_wp2_with fail
  refine ⟨trivial, fun h => (by cases h), ?_⟩
  refine (callsIn_wide.2 (none_any _ _ _)).mono ?_
  rintro e w' ⟨rfl, rfl⟩
  gi_wp2_with fail
  refine bodyPost_ret (results_none rfl _ _ _) rfl ?_
  exact ⟨⟨_, rfl⟩, .inl (hJ.alloc _ (hJ.alloc _ h0))⟩

/-- A type of an error that is no link. -/
structure EndT (U : TypeId) : Prop where
  bare : Bare U
  ty : ∀ v w, (Extern.ReflectliteType.typeOf #[.iface U v]).run Tryd.prog w = .ok (.iface 104 (.agg #[.pointer (some ⟨10, U, none⟩)])) w
  asF : ∀ w, (Extern.ReflectliteType.relation "AssignableTo" Extern.ReflectliteType.assignableTo #[.agg #[.pointer (some ⟨10, U, none⟩)], .iface 104 (.agg #[.pointer (some ⟨10, 26, none⟩)])]).run Tryd.prog w = .ok (.bool false) w
theorem endP : EndT 129 := ⟨bareP, isTypeOfP, rfAssPF⟩
theorem endS : EndT 56 := ⟨bareS, isTypeOfS, rfAssSF⟩

theorem chain_if (cs : List Int) (U : TypeId) (bv : Value) : ∃ V v, chainV cs (.iface U bv) = .iface V v := by
  cases cs with
  | nil => exact ⟨_, _, rfl⟩
  | cons c r => exact ⟨_, _, rfl⟩

theorem as_link (c : Int) (r : List Int) (U : TypeId) (bv : Value) (g : Nat) (c0 x0 : Value) (a : Nat → Addr) (w : World) (hg : Glob w a) (hH : HasFlt w g c0 x0) :
    Calls Tryd.prog 35 #[.iface 26 (.agg #[.int .u32 c, chainV r (.iface U bv)]), .iface 81 (.pointer (some ⟨g, 0, none⟩))] w fun e w' => e = .returned (.bool true) ∧
      HasFlt w' g (.int .u32 c) (chainV r (.iface U bv)) ∧ w.grownBy w' (some g) := by
  obtain ⟨V, v, hV⟩ := chain_if r U bv
  rw [hV]
  refine (as_F _ _ g a w hg true (fun W w' => Got W w' g c (.iface V v)) (fun W b hb hc => asin_link c V v g b c0 x0 W (hH.below hb hH.lt) hc)).mono ?_
  rintro e w' ⟨rfl, W, hb, h1, h2⟩
  exact ⟨rfl, h1, grown_trans ⟨hb.os, hb.tape, hb.output, hb.size, fun k hk _ => hb.block k hk⟩ h2⟩
theorem as_end (U : TypeId) (bv : Value) (hE : EndT U) (g : Nat) (a : Nat → Addr) (w : World) (hg : Glob w a) :
    Calls Tryd.prog 35 #[.iface U bv, .iface 81 (.pointer (some ⟨g, 0, none⟩))] w fun e w' => e = .returned (.bool false) ∧ Below w.heap.size w w' := by
  refine (as_F _ _ g a w hg false (fun W w' => Below W.heap.size W w') (fun W b hb hc => asin_other U bv _ undef W hE.bare hE.ty 26 hE.asF _ _ _)).mono ?_
  rintro e w' ⟨rfl, W, hb, h1⟩
  exact ⟨rfl, hb.trans (h1.mono hb.size)⟩
theorem drop_cons (cs : List Int) (k : Nat) (h : k < cs.length) : cs.drop k = cs.getD k 0 :: cs.drop (k + 1) := by
  rw [List.drop_eq_getElem_cons h]
  simp [h]

set_option maxRecDepth 100000 in
set_option maxHeartbeats 4000000 in
theorem links_seq (n n₀ : Nat) (c : Int) (r : List Int) (U : TypeId) (bv : Value) (hE : EndT U) (hc : (c == 0) = false) (a : Nat → Addr) (w₀ w : World) (hg : Glob w₀ a) (hn : w₀.heap.size = n₀) (hw : Below n₀ w₀ w) :
    Seq n Tryd.prog 26 34 #[.agg #[.int .u32 c, chainV r (.iface U bv)]] (fun k => #[.agg #[.int .u32 ((c :: r).getD k 0), chainV ((c :: r).drop (k + 1)) (.iface U bv)]]) n₀ (r.length + 1) w := by
  subst hn
  intro l J Jx W hW hJ hJx hY h0
  have hz : w₀.heap.size ≤ W.heap.size := Nat.le_trans hw.size hW.size
  have hwW : Below w₀.heap.size w₀ W := hw.trans (hW.mono hw.size)
  have hl : (c :: r).length = r.length + 1 := rfl
  have h00 : chainV r (.iface U bv) = chainV ((c :: r).drop 1) (.iface U bv) := rfl
  generalize hX : chainV r (.iface U bv) = X at *
  generalize hC : c :: r = cs at *
  have HJ0 := Lib.hid h0
  have HwW := Lib.hid hwW
  have HC := Lib.hid hC
  have HX := Lib.hid hX
  have HL := Lib.hid hl
  clear h0 hwW hC hX hl h00
  refine callsIn_of_wp Tryd.func34 rfl trivial ?_ rfl
  simp only [Tryd.ntmps34, List.size_toArray, List.length_cons, List.length_nil, Nat.reduceAdd, Nat.reduceSub, Array.replicate_succ, Array.replicate_zero, List.push_toArray, List.append_toArray, List.nil_append, List.cons_append]
  gi_wp2_with fail
  refine ⟨trivial, fun h => (by cases h), ?_⟩
  refine (callsIn_wide.2 (none_any _ _ _)).mono ?_
  rw [hc]
  rintro e w' ⟨rfl, rfl⟩
  gi_wp2_with fail
  gi_loopw [5] (fun x wr => ∃ k : Nat, k ≤ cs.length ∧ x = chainV (cs.drop k) (.iface U bv) ∧ (∃ c0 x0, HasFlt wr (W.heap.size + 1 + 1) c0 x0) ∧ Below w₀.heap.size w₀ wr ∧ J k wr) (fun x _ => SizeOf.sizeOf x)
  case atStart =>
    refine ⟨0, Nat.zero_le _, ?_, ⟨.int .u32 0, .nilIface, ?_⟩, ?_, hJ.alloc _ (hJ.alloc _ (hJ.alloc _ HJ0.out))⟩
    · rw [List.drop_zero, ← HC.out, ← HX.out]; rfl
    · have := HasFlt.new ((W.alloc (.cells #[.int .u32 c, X] 26)).alloc (.cells #[.int .u32 c, X] 26)) (.int .u32 0) .nilIface
      simpa using this
    · exact ((HwW.out.alloc hz _).alloc (by simp; omega) _).alloc (by simp; omega) _
  case round =>
    obtain ⟨k, hk, hx, ⟨c0, x0, hH⟩, hb, hJk⟩ := hrel
    have hgr := hg.below hb (Nat.le_refl _)
    have hlt := hH.lt
    by_cases hkN : k < cs.length
    · have hd := drop_cons cs k hkN
      rw [hd] at hx
      have hYk := fun W1 h => hY k W1 h (by have := HL.out; omega)
      have HS : Hid (SizeOf.sizeOf (chainV (cs.drop (k + 1)) (.iface U bv)) < SizeOf.sizeOf (Value.iface 26 (.agg #[.int .u32 (cs.getD k 0), chainV (cs.drop (k + 1)) (.iface U bv)]))) := Lib.hid (by simp; omega)
      have hA := as_link (cs.getD k 0) (cs.drop (k + 1)) U bv (W.heap.size + 1 + 1) c0 x0 a wr hgr hH
      subst hx
      simp only [chainV]
      generalize hc1 : cs.getD k 0 = c1 at *
      generalize hx1 : chainV (cs.drop (k + 1)) (.iface U bv) = x1 at *
      have HC1 := Lib.hid hc1
      have HX1 := Lib.hid hx1
      have HA := Lib.hid hA
      have HY := Lib.hid hYk
      have HB := Lib.hid hb
      have HJ := Lib.hid hJk
      have HH := Lib.hid hH
      clear hc1 hx1 hA hYk hY hb hJk hH hd hgr
      gi_wp2_with fail
      refine ⟨trivial, fun h => (by cases h), ?_⟩
      refine (callsIn_wide.2 HA.out).mono ?_
      rintro e w1 ⟨rfl, hH1, hg1⟩
      have hJ1 : J k w1 := hJ k wr w1 _ HJ.out hg1 (fun r' e => by cases e; exact ⟨by omega, .inr ⟨_, HH.out⟩⟩)
      have hb1 : Below w₀.heap.size w₀ w1 := HB.out.grown hg1 (Nat.le_trans hz (by omega)) (fun k' e => by cases e; omega)
      obtain ⟨fn, tmps, assign, body, hy, hR⟩ := HY.out w1 hJ1
      have k0 := hH1.cell0
      have k1 := hH1.cell1
      have HH1 := Lib.hid hH1
      have HB1 := Lib.hid hb1
      clear hH1 hb1 hg1 hJ1
      gi_wp2_with fail
      refine ⟨fun h => (by cases h), ?_⟩
      refine hR.mono ?_
      rintro e W' (⟨rfl, hJ', hk'⟩ | ⟨rfl, hJx'⟩)
      · have hH2 : HasFlt W' (W.heap.size + 1 + 1) (.int .u32 c1) x1 := hk'.2 _ _ HH1.out
        have q1 := hH2.cell1
        have NX := Lib.hid (And.intro hH2 (And.intro (HB1.out.trans hk'.1) hJ'))
        clear hH2 hk' hJ' k0 k1 hy hR
        gi_wp2_with fail
        go_roundw
        case rel => exact ⟨k + 1, by omega, HX1.out.symm, ⟨_, _, NX.out.1⟩, NX.out.2.1, NX.out.2.2⟩
        case measure => exact HS.out
      · have HX' := Lib.hid hJx'
        clear hJx' k0 k1 hy hR
        gi_wp2_with fail
        refine bodyPost_ret (results_none rfl _ _ _) rfl ?_
        exact ⟨⟨_, rfl⟩, .inr ⟨k, by have := HL.out; omega, HX'.out⟩⟩
    · obtain rfl : k = cs.length := by omega
      rw [List.drop_length] at hx
      subst hx
      simp only [chainV]
      have hA := as_end U bv hE (W.heap.size + 1 + 1) a wr hgr
      have HA := Lib.hid hA
      have HJ := Lib.hid hJk
      clear hA hJk hgr hH hb
      gi_wp2_with fail
      refine ⟨trivial, fun h => (by cases h), ?_⟩
      refine (callsIn_wide.2 HA.out).mono ?_
      rintro e w1 ⟨rfl, hb1⟩
      have HJ1 := Lib.hid (hJ _ wr w1 none HJ.out ⟨hb1.os, hb1.tape, hb1.output, hb1.size, fun k hk _ => hb1.block k hk⟩ (fun r' e => by cases e))
      clear hb1
      gi_wp2_with fail
      go_end0
      exact ⟨⟨_, rfl⟩, .inl (by have := HL.out; rw [← this]; exact HJ1.out)⟩
end Go.Proofs.YtielbmhaidjioaaDoor
