/-
  What a fault says: its links' texts, one behind the other, and the text that it ends in.
-/
import Derived.Test.YtielbmhaidjioaaDoorFltSay
namespace Go.Proofs.YtielbmhaidjioaaDoor
open Go.RowKit Go.Shelf Mem Rng
set_option linter.unusedVariables false
attribute [local go_sem] Oper.semAt_some

theorem abide_flt {β : Type} {B b : Nat} {c x : Value} (h : b < B) : Abide 26 B (fun (_ : β) W => HasFlt W b c x) := by
  intro s W W' row hs hg hr
  unfold HasFlt at hs ⊢
  rw [hg.block b (Array.getElem?_eq_some_iff.1 hs).1 (fun e => by have := (hr b e.symm).1; omega)]
  exact hs

set_option maxRecDepth 100000 in
set_option maxHeartbeats 4000000 in
theorem say_core (c : Int) (r : List Int) (U : TypeId) (bv : Value) (hE : EndT U) (out : List (List UInt8))
    (hout : (U = 129 ∧ (∃ p, bv = .pointer (some p)) ∧ out = (c :: r).map Flt.text) ∨ (U = 56 ∧ ∃ s : List UInt8, bv = .string ⟨s.toArray⟩ ∧ s.length ≤ 1000 ∧ out = (c :: r).map Flt.text ++ [s]))
    (hc : (c == 0) = false) (hr : r.length ≤ 1000) (hcd : ∀ x ∈ c :: r, 0 ≤ x ∧ x ≤ 4294967295) (a : Nat → Addr) (w : World) (hg : Glob w a) :
    Calls Tryd.prog 19 #[.agg #[.int .u32 c, chainV r (.iface U bv)]] w fun e w' => e = .returned (.string ⟨(Lib.join out [58, 32]).toArray⟩) ∧ Below w.heap.size w w' := by
  have hS := fun W h => links_seq (0 - 1) w.heap.size c r U bv hE hc a w W hg rfl h
  generalize hX : chainV r (.iface U bv) = X at *
  have HX := Lib.hid hX
  clear hX
  have hl : (c :: r).length = r.length + 1 := rfl
  generalize hcs : c :: r = cs at *
  have HL := Lib.hid hl
  have HCS := Lib.hid hcs
  have HCD := Lib.hid hcd
  have HOUT := Lib.hid hout
  clear hl hcs hcd hout
  refine (callsIn_wide (n := 0)).1 (callsIn_of_wp_marks Tryd.func19 rfl trivial ?_ rfl)
  simp only [Tryd.ntmps19, List.size_toArray, List.length_cons, List.length_nil, Nat.reduceAdd, Nat.reduceSub, Array.replicate_succ, Array.replicate_zero, List.push_toArray, List.append_toArray, List.nil_append, List.cons_append]
  gi_wp2_with fail
  have hB0 : ∀ o1 o2, Below w.heap.size w ((w.alloc o1).alloc o2) := fun o1 o2 => ((Below.refl _ w).alloc (Nat.le_refl _) _).alloc (by simp) _
  have hbox := Boxed.new (w.alloc (.cells #[.int .u32 c, X] 26)) 55 (.slice none 0 0)
  rw [World.size_alloc] at hbox
  refine Rng.range (gf := 34) (fa := #[.agg #[.int .u32 c, X]]) rfl (enters_of Tryd.func34 (by kernel_rfl) rfl) (hS _ (hB0 _ _)) (by simp; omega) (fun _ => rfl)
    (fun k W => (∃ v, Boxed W (w.heap.size + 1) 55 v ∧ W.ownsRow w.heap.size 9 1 v k (txts cs k)) ∧ Below w.heap.size w W ∧ HasFlt W w.heap.size (.int .u32 c) X) (fun _ _ => False)
    (Abide.and (Abide.row (fun k => k) (fun k => txts cs k) (by decide) (by decide)) (Abide.and (Abide.below (Nat.le_refl _) (by simp; omega)) (abide_flt (by simp; omega)))) (Abide.pure _ _) ⟨⟨_, hbox, World.ownsRow_nil _ _ _ _⟩, hB0 _ _, (HasFlt.new w (.int .u32 c) X).alloc _⟩
    (fun k a' W => ∃ B, HasFlt W B (.int .u32 (cs.getD k 0)) (chainV (cs.drop (k + 1)) (.iface U bv)) ∧ a' = { tmps := #[.agg #[.int .u32 c, X], .pointer (some ⟨w.heap.size, 0, none⟩), .string ⟨#[]⟩, .pointer (some ⟨w.heap.size + 1, 0, none⟩), .pointer (some ⟨B, 0, none⟩), undef, .agg #[.int .u32 c, X], .func (.func 34) #[.agg #[.int .u32 c, X]] #[], .agg #[.int .u32 (cs.getD k 0), chainV (cs.drop (k + 1)) (.iface U bv)], undef, undef, undef, undef, undef, undef, undef, undef, undef, undef, undef, undef, undef, undef, undef, undef], defers := [] })
    (fun k a' => fun s W W' row hs hg' hr => by obtain ⟨B, hB, e⟩ := hs; exact ⟨B, hB.own hg' hr, e⟩) ?assign ?body ?done ?stop
  case assign =>
    rintro l k W K ⟨⟨v, k1, k2⟩, hB, hX0⟩ hK
    have q0 := Lib.hid (fun o => hX0.alloc o)
    have q1 := Lib.hid (fun o => k1.alloc o)
    have q2 := Lib.hid (fun o => k2.alloc o)
    have q3 := Lib.hid (fun o => hB.alloc hB.size o)
    have q4 := Lib.hid (Kept.alloc (T := 26) hB.size)
    clear k1 k2 hB hbox hX0
    obtain ⟨V, u, hV⟩ := chain_if (cs.drop (k + 1)) U bv
    obtain ⟨y, hy⟩ : ∃ y, cs.getD k 0 = y := ⟨_, rfl⟩
    simp only [hV, hy] at hK ⊢
    clear hV hy
    gi_wp2
    exact hK _ _ ((KeepsOthers.alloc _ _).from _) (q4.out _) ⟨⟨v, q1.out _, q2.out _⟩, q3.out _, q0.out _⟩ ⟨_, HasFlt.new W _ _, rfl⟩
  case body =>
    rintro l k _ W ⟨⟨v, k1, k2⟩, hB, hX0⟩ ⟨B, hF, rfl⟩ hk
    have HX0 := Lib.hid hX0
    have hkl : k < cs.length := by have := HL.out; omega
    have hbd := HCD.out (cs.getD k 0) (by rw [List.getD_eq_getElem?_getD, List.getElem?_eq_getElem hkl]; exact List.getElem_mem hkl)
    have HTx := Lib.hid (txts_succ cs k hkl)
    have HT := Lib.hid (text_any (cs.getD k 0) hbd.1 hbd.2 a W.drew (hg.below hB (Nat.le_refl _)).drew)
    obtain ⟨V, u, hV⟩ := chain_if (cs.drop (k + 1)) U bv
    obtain ⟨y, hy⟩ : ∃ y, cs.getD k 0 = y := ⟨_, rfl⟩
    have m0 := hF.cell0
    have md := k1.cell
    have mlt := k1.lt
    simp only [hV, hy] at m0 ⊢
    rw [hy] at HT HTx
    clear hV hbd
    have HK1 := Lib.hid k1
    have HK2 := Lib.hid k2
    have HB := Lib.hid hB
    have hBlt := hF.lt
    clear k1 k2 hB hF hbox hkl hX0
    have hmix : Tryd.prog.follows .mixedOrders = true := by kernel_rfl
    gi_wp2_with fail
    refine wpIn_region_any hmix ?_
    change wpAnyIn _ _ _ _ _ _ _ _ _ (World.drew _)
    refine wpAnyIn_ready (rs := [0, 1]) (by kernel_rfl) (by simp) ?_
    refine AllReadyIn.cons rfl (fun K hK => ?_) ?_
    · go_simp
      refine hK _ _ ?_
      clear hK K
      refine wpAnyIn_ready (rs := [1]) (by kernel_rfl) (by simp) ?_
      refine AllReadyIn.cons rfl (fun K hK => ?_) AllReadyIn.nil
      go_simp
      refine hK _ _ ?_
      clear hK K
      refine wpAnyIn_ready (rs := [2]) (by kernel_rfl) (by simp) ?_
      refine AllReadyIn.cons rfl (fun K hK => ?_) AllReadyIn.nil
      go_simp
      refine hK _ _ ?_
      clear hK K
      refine wpAnyIn_ready (rs := [3]) (by kernel_rfl) (by simp) ?_
      refine AllReadyIn.cons rfl (fun K hK => ?_) AllReadyIn.nil
      go_simp
      refine ⟨trivial, rfl, ?_⟩
      refine (CallsIn.inRound l (callsIn_wide.2 HT.out)).mono ?_
      rintro e w2 ⟨rfl, b2⟩
      obtain ⟨v', w3, hrun, ⟨g', cap', rfl⟩, hfin, hc3, hf3, md2, mlt2⟩ := say_step HB.out HK1.out HK2.out b2 (by omega) (by omega) HTx.out
      clear b2
      dsimp only
      refine hK _ _ ?_
      clear hK K
      refine wpAnyIn_ready (rs := [4]) (by kernel_rfl) (by simp) ?_
      refine AllReadyIn.cons rfl (fun K hK => ?_) AllReadyIn.nil
      go_simp
      refine hK _ _ ?_
      clear hK K
      refine wpAnyIn_ready (rs := [5]) (by kernel_rfl) (by simp) ?_
      refine AllReadyIn.cons rfl (fun K hK => ?_) AllReadyIn.nil
      refine step_append_in rfl (.tmp 9) (.tmp 13) 55 rfl _ _ rfl rfl _ _ hrun ?_
      refine hK _ _ ?_
      clear hK K
      refine wpAnyIn_ready (rs := [6]) (by kernel_rfl) (by simp) ?_
      refine AllReadyIn.cons rfl (fun K hK => ?_) AllReadyIn.nil
      go_simp
      refine hK _ _ ?_
      clear hK K
      refine wpAnyIn_done (by kernel_rfl) ?_ _
      exact ⟨hfin.out.1.from _, hfin.out.2.1, ⟨_, hfin.out.2.2.1⟩, hfin.out.2.2.2, hfin.out.2.1.2 _ _ HX0.out⟩
    refine AllReadyIn.cons rfl (fun K hK => ?_) AllReadyIn.nil
    go_simp
    refine hK _ _ ?_
    clear hK K
    refine wpAnyIn_ready (rs := [0, 2]) (by kernel_rfl) (by simp) ?_
    refine AllReadyIn.cons rfl (fun K hK => ?_) ?_
    · go_simp
      refine hK _ _ ?_
      clear hK K
      refine wpAnyIn_ready (rs := [2]) (by kernel_rfl) (by simp) ?_
      refine AllReadyIn.cons rfl (fun K hK => ?_) AllReadyIn.nil
      go_simp
      refine hK _ _ ?_
      clear hK K
      refine wpAnyIn_ready (rs := [3]) (by kernel_rfl) (by simp) ?_
      refine AllReadyIn.cons rfl (fun K hK => ?_) AllReadyIn.nil
      go_simp
      refine ⟨trivial, rfl, ?_⟩
      refine (CallsIn.inRound l (callsIn_wide.2 HT.out)).mono ?_
      rintro e w2 ⟨rfl, b2⟩
      obtain ⟨v', w3, hrun, ⟨g', cap', rfl⟩, hfin, hc3, hf3, md2, mlt2⟩ := say_step HB.out HK1.out HK2.out b2 (by omega) (by omega) HTx.out
      clear b2
      dsimp only
      refine hK _ _ ?_
      clear hK K
      refine wpAnyIn_ready (rs := [4]) (by kernel_rfl) (by simp) ?_
      refine AllReadyIn.cons rfl (fun K hK => ?_) AllReadyIn.nil
      go_simp
      refine hK _ _ ?_
      clear hK K
      refine wpAnyIn_ready (rs := [5]) (by kernel_rfl) (by simp) ?_
      refine AllReadyIn.cons rfl (fun K hK => ?_) AllReadyIn.nil
      refine step_append_in rfl (.tmp 9) (.tmp 13) 55 rfl _ _ rfl rfl _ _ hrun ?_
      refine hK _ _ ?_
      clear hK K
      refine wpAnyIn_ready (rs := [6]) (by kernel_rfl) (by simp) ?_
      refine AllReadyIn.cons rfl (fun K hK => ?_) AllReadyIn.nil
      go_simp
      refine hK _ _ ?_
      clear hK K
      refine wpAnyIn_done (by kernel_rfl) ?_ _
      exact ⟨hfin.out.1.from _, hfin.out.2.1, ⟨_, hfin.out.2.2.1⟩, hfin.out.2.2.2, hfin.out.2.1.2 _ _ HX0.out⟩
    refine AllReadyIn.cons rfl (fun K hK => ?_) AllReadyIn.nil
    go_simp
    refine hK _ _ ?_
    clear hK K
    refine wpAnyIn_ready (rs := [0, 3]) (by kernel_rfl) (by simp) ?_
    refine AllReadyIn.cons rfl (fun K hK => ?_) ?_
    · go_simp
      refine hK _ _ ?_
      clear hK K
      refine wpAnyIn_ready (rs := [3]) (by kernel_rfl) (by simp) ?_
      refine AllReadyIn.cons rfl (fun K hK => ?_) AllReadyIn.nil
      go_simp
      refine ⟨trivial, rfl, ?_⟩
      refine (CallsIn.inRound l (callsIn_wide.2 HT.out)).mono ?_
      rintro e w2 ⟨rfl, b2⟩
      obtain ⟨v', w3, hrun, ⟨g', cap', rfl⟩, hfin, hc3, hf3, md2, mlt2⟩ := say_step HB.out HK1.out HK2.out b2 (by omega) (by omega) HTx.out
      clear b2
      dsimp only
      refine hK _ _ ?_
      clear hK K
      refine wpAnyIn_ready (rs := [4]) (by kernel_rfl) (by simp) ?_
      refine AllReadyIn.cons rfl (fun K hK => ?_) AllReadyIn.nil
      go_simp
      refine hK _ _ ?_
      clear hK K
      refine wpAnyIn_ready (rs := [5]) (by kernel_rfl) (by simp) ?_
      refine AllReadyIn.cons rfl (fun K hK => ?_) AllReadyIn.nil
      refine step_append_in rfl (.tmp 9) (.tmp 13) 55 rfl _ _ rfl rfl _ _ hrun ?_
      refine hK _ _ ?_
      clear hK K
      refine wpAnyIn_ready (rs := [6]) (by kernel_rfl) (by simp) ?_
      refine AllReadyIn.cons rfl (fun K hK => ?_) AllReadyIn.nil
      go_simp
      refine hK _ _ ?_
      clear hK K
      refine wpAnyIn_done (by kernel_rfl) ?_ _
      exact ⟨hfin.out.1.from _, hfin.out.2.1, ⟨_, hfin.out.2.2.1⟩, hfin.out.2.2.2, hfin.out.2.1.2 _ _ HX0.out⟩
    refine AllReadyIn.cons rfl (fun K hK => ?_) AllReadyIn.nil
    go_simp
    refine ⟨trivial, rfl, ?_⟩
    refine (CallsIn.inRound l (callsIn_wide.2 HT.out)).mono ?_
    rintro e w2 ⟨rfl, b2⟩
    obtain ⟨v', w3, hrun, ⟨g', cap', rfl⟩, hfin, hc3, hf3, md2, mlt2⟩ := say_step HB.out HK1.out HK2.out b2 (by omega) (by omega) HTx.out
    clear b2
    dsimp only
    refine hK _ _ ?_
    clear hK K
    refine wpAnyIn_ready (rs := [0, 4]) (by kernel_rfl) (by simp) ?_
    refine AllReadyIn.cons rfl (fun K hK => ?_) ?_
    · go_simp
      refine hK _ _ ?_
      clear hK K
      refine wpAnyIn_ready (rs := [4]) (by kernel_rfl) (by simp) ?_
      refine AllReadyIn.cons rfl (fun K hK => ?_) AllReadyIn.nil
      go_simp
      refine hK _ _ ?_
      clear hK K
      refine wpAnyIn_ready (rs := [5]) (by kernel_rfl) (by simp) ?_
      refine AllReadyIn.cons rfl (fun K hK => ?_) AllReadyIn.nil
      refine step_append_in rfl (.tmp 9) (.tmp 13) 55 rfl _ _ rfl rfl _ _ hrun ?_
      refine hK _ _ ?_
      clear hK K
      refine wpAnyIn_ready (rs := [6]) (by kernel_rfl) (by simp) ?_
      refine AllReadyIn.cons rfl (fun K hK => ?_) AllReadyIn.nil
      go_simp
      refine hK _ _ ?_
      clear hK K
      refine wpAnyIn_done (by kernel_rfl) ?_ _
      exact ⟨hfin.out.1.from _, hfin.out.2.1, ⟨_, hfin.out.2.2.1⟩, hfin.out.2.2.2, hfin.out.2.1.2 _ _ HX0.out⟩
    refine AllReadyIn.cons rfl (fun K hK => ?_) AllReadyIn.nil
    go_simp
    refine hK _ _ ?_
    clear hK K
    refine wpAnyIn_ready (rs := [0]) (by kernel_rfl) (by simp) ?_
    refine AllReadyIn.cons rfl (fun K hK => ?_) AllReadyIn.nil
    go_simp
    refine hK _ _ ?_
    clear hK K
    refine wpAnyIn_ready (rs := [5]) (by kernel_rfl) (by simp) ?_
    refine AllReadyIn.cons rfl (fun K hK => ?_) AllReadyIn.nil
    refine step_append_in rfl (.tmp 9) (.tmp 13) 55 rfl _ _ rfl rfl _ _ hrun ?_
    refine hK _ _ ?_
    clear hK K
    refine wpAnyIn_ready (rs := [6]) (by kernel_rfl) (by simp) ?_
    refine AllReadyIn.cons rfl (fun K hK => ?_) AllReadyIn.nil
    go_simp
    refine hK _ _ ?_
    clear hK K
    refine wpAnyIn_done (by kernel_rfl) ?_ _
    exact ⟨hfin.out.1.from _, hfin.out.2.1, ⟨_, hfin.out.2.2.1⟩, hfin.out.2.2.2, hfin.out.2.1.2 _ _ HX0.out⟩
  case done =>
    rintro D W hD ⟨⟨v, k1, k2⟩, hB, hX0⟩ hK
    have f0 := hX0.cell0
    have f1 := hX0.cell1
    have flt := hX0.lt
    have dlt := k1.lt
    have rlt := fun g e => (k2.lt g e).2
    have hgW := (hg.below hB (Nat.le_refl _))
    have hA0 : Below W.heap.size W (W.alloc (.cells #[.string ⟨#[]⟩] 56)) := (Below.refl _ W).alloc (Nat.le_refl _) _
    have e0 : (W.alloc (.cells #[.string ⟨#[]⟩] 56)).cell? ⟨W.heap.size, 0, none⟩ = some (.string ⟨#[]⟩) := by simp
    have e1 : (W.alloc (.cells #[.string ⟨#[]⟩] 56)).frozen? ⟨W.heap.size, 0, none⟩ = false := by simp
    have G1 := hgW.below hA0 (Nat.le_refl _)
    have K1 := box_kept k1 hA0
    have K2 := row_kept k2 hA0
    have B1 := hB.trans (hA0.mono hB.size)
    have D1 := (KeepsOthers.of_below hA0).same D _ hK rfl
    have hDl : w.heap.size ≤ D := by simp at hD; omega
    have hz1 : (W.alloc (.cells #[.string ⟨#[]⟩] 56)).heap.size = W.heap.size + 1 := by simp
    clear hK hB k1 k2 hX0 hgW hS hbox hA0 hD
    have E := Lib.hid (And.intro e0 (And.intro e1 (And.intro G1 (And.intro K1 (And.intro K2 (And.intro B1 (And.intro D1 hz1)))))))
    clear e0 e1 G1 K1 K2 B1 D1 hz1
    gi_wp2_with fail
    obtain ⟨e0, e1, G1, K1, K2, B1, D1, hz1⟩ := E.out
    clear E
    generalize W.alloc (.cells #[.string ⟨#[]⟩] 56) = W1 at *
    rcases HOUT.out with ⟨hU, ⟨p, hbv⟩, ho⟩ | ⟨hU, s, hbv, hs, ho⟩
    · have hA := asS_err (c :: r) p W.heap.size _ a W1 G1 e0 e1
      rw [show chainV (c :: r) (errV p) = .iface 26 (.agg #[.int .u32 c, X]) by rw [← HX.out, hU, hbv]; rfl] at hA
      refine ⟨trivial, rfl, ?_⟩
      refine (callsIn_wide.2 hA).mono ?_
      rintro e w2 ⟨rfl, b2⟩
      have k1 := box_kept K1 b2
      have md := k1.cell
      have hlen : (cs.map Flt.text).length = r.length + 1 := by rw [List.length_map]; exact HL.out
      have HJ := Lib.hid (join_row (cs.map Flt.text) v w.heap.size w2 (by omega) (by
        rw [hlen, List.map_map]
        have := row_kept K2 b2
        unfold txts at this
        rw [← HL.out, List.take_length] at this
        rw [HL.out] at this
        exact this) (fun x hx => by obtain ⟨y, _, rfl⟩ := List.mem_map.1 hx; exact Nat.le_trans (Flt.text_len y) (by omega)) (by omega))
      have HBB := Lib.hid (B1.trans (b2.mono B1.size))
      have HD2 := Lib.hid ((KeepsOthers.of_below b2).same D _ D1 rfl)
      have HO := Lib.hid ho
      clear k1 b2 hA e0 e1 G1 K1 K2 B1 D1 hz1 hlen hU hbv ho rlt
      gi_wp2_with fail
      refine ⟨trivial, rfl, ?_⟩
      refine (callsIn_wide.2 HJ.out).mono ?_
      rintro e w3 ⟨rfl, b3⟩
      have hK3 := (KeepsOthers.of_below b3).same D _ HD2.out rfl
      have HB3 := Lib.hid ((HBB.out.trans (b3.mono HBB.out.size)).trans (belowK_b (w := w) (Nat.le_refl _) w3 D _ (.deferred none) hDl hK3 rfl rfl))
      clear b3
      gi_wp2_with fail
      refine ⟨by simp, .inl ⟨_, _, rfl, run_takeDeferred hK3, ?_⟩⟩
      exact ⟨_, results_tmp rfl _ _ _, by rw [HO.out]; rfl, HB3.out⟩
    · have hA := asS_said (c :: r) ⟨s.toArray⟩ W.heap.size _ a W1 G1 e0 e1
      rw [show chainV (c :: r) (saidI ⟨s.toArray⟩) = .iface 26 (.agg #[.int .u32 c, X]) by rw [← HX.out, hU, hbv]; rfl] at hA
      refine ⟨trivial, rfl, ?_⟩
      refine (callsIn_wide.2 hA).mono ?_
      rintro e w2 ⟨rfl, ms, g2⟩
      have k1 := K1.kept g2 (by simp; omega)
      have k2 := K2.kept g2 (by
        cases hv : v.ownBlock with
        | none => exact .inl rfl
        | some g => exact .inr (by have := rlt g hv; simp; omega))
      have hB2 := B1.grown g2 B1.size (fun k e => by cases e; have := flt; omega)
      have D2 := (KeepsOthers.of_grownBy g2 (fun j o ej hj => by
        cases ej
        have : W1.heap[W.heap.size]? = some o := hj
        unfold World.cell? at e0
        rw [this] at e0
        cases o <;> simp at e0 ⊢ <;> rfl)).same D _ D1 rfl
      obtain ⟨v', w3, hrun, hsh, hfin, hc3, hf3, md2, mlt2⟩ := say_step (w2 := w2) hB2 k1 k2 ⟨rfl, rfl, rfl, Nat.le_refl _, fun _ _ => rfl⟩ (by omega) (by omega) (rfl : _ = txts cs (r.length + 1) ++ [strV s])
      obtain ⟨g', cap', rfl⟩ := hsh
      have md4 := hfin.out.2.2.1.1.cell
      have hlen : (cs.map Flt.text ++ [s]).length = r.length + 1 + 1 := by rw [List.length_append, List.length_map, HL.out]; rfl
      have HJ := Lib.hid (join_row (cs.map Flt.text ++ [s]) (.slice (some ⟨g', 0, none⟩) (r.length + 1 + 1) cap') w.heap.size (w3.setCell ⟨w.heap.size + 1, 0, none⟩ (.slice (some ⟨g', 0, none⟩) (r.length + 1 + 1) cap')) (by omega) (by
        rw [hlen, List.map_append, List.map_map]
        have := hfin.out.2.2.1.2
        unfold txts at this
        rw [← HL.out, List.take_length] at this
        rw [HL.out] at this
        exact this) (fun x hx => by
          rcases List.mem_append.1 hx with h | h
          · obtain ⟨y, _, rfl⟩ := List.mem_map.1 h; exact Nat.le_trans (Flt.text_len y) (by omega)
          · simp at h; subst h; exact hs) (by omega))
      have HD4 := Lib.hid (hfin.out.1.same D _ D2 rfl)
      have HB4 := Lib.hid hfin.out.2.2.2
      have HO := Lib.hid ho
      clear k1 k2 hB2 D2 hA e0 e1 G1 K1 K2 B1 D1 hz1 hlen hU hbv ho rlt g2 hfin hs
      gi_wp2_with (gi_at_builtin; refine list_append_in rfl (.tmp 19) (.tmp 21) 55 rfl _ _ rfl rfl _ _ hrun ?_)
      refine ⟨trivial, rfl, ?_⟩
      refine (callsIn_wide.2 HJ.out).mono ?_
      rintro e w5 ⟨rfl, b5⟩
      have hK5 := (KeepsOthers.of_below b5).same D _ HD4.out rfl
      have HB5 := Lib.hid ((HB4.out.trans (b5.mono HB4.out.size)).trans (belowK_b (w := w) (Nat.le_refl _) w5 D _ (.deferred none) hDl hK5 rfl rfl))
      clear b5
      gi_wp2_with fail
      refine ⟨by simp, .inl ⟨_, _, rfl, run_takeDeferred hK5, ?_⟩⟩
      exact ⟨_, results_tmp rfl _ _ _, by rw [HO.out]; rfl, HB5.out⟩
  case stop =>
    rintro D k W hD hk h _
    exact h.elim
end Go.Proofs.YtielbmhaidjioaaDoor
