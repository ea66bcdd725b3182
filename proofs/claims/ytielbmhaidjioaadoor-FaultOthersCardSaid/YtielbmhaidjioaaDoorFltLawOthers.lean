/-
  FaultOthers: its walk.
-/
import Derived.Test.YtielbmhaidjioaaDoorFltLawChains
import Derived.Test.YtielbmhaidjioaaDoorIntsOwn
namespace Go.Proofs.YtielbmhaidjioaaDoor
open Go.RowKit Mem
set_option linter.unusedVariables false

/-- The loop: f's cells are those of the links from number k on, behind them a text. -/
def OthS (w : World) (a : Nat → Addr) (b : Nat) (cs : List Int) (base : Value) (k : Nat) (W : World) : Prop :=
  St w a [] W ∧ HasFlt W b (topX (cs.drop k) base) (topY (cs.drop k) base)
theorem OthS.reads {w W : World} {a : Nat → Addr} {b : Nat} {cs : List Int} {base : Value} {k : Nat} (h : OthS w a b cs base k W) :
    W.cell? ⟨b, 0, none⟩ = some (topX (cs.drop k) base) ∧ W.cell? ⟨b, 1, none⟩ = some (topY (cs.drop k) base) ∧ W.frozen? ⟨b, 0, none⟩ = false ∧ W.frozen? ⟨b, 1, none⟩ = false ∧ b < W.heap.size ∧
    (∀ u, (W.setCell ⟨b, 0, none⟩ u).cell? ⟨b, 1, none⟩ = some (topY (cs.drop k) base)) ∧ (∀ u, (W.setCell ⟨b, 0, none⟩ u).frozen? ⟨b, 1, none⟩ = false) :=
  ⟨h.2.cell0, h.2.cell1, h.2.free 0, h.2.free 1, h.2.lt, fun u => (h.2.set0 u).cell1, fun u => (h.2.set0 u).free 1⟩
theorem OthS.next {w W W' : World} {a : Nat → Addr} {b : Nat} {cs : List Int} {base : Value} {k : Nat} (h : OthS w a b cs base k W) (hb : Below W.heap.size W W') : OthS w a b cs base k W' :=
  ⟨h.1.next hb, h.2.below hb h.2.lt⟩
theorem OthS.store {w W : World} {a : Nat → Addr} {b : Nat} {cs : List Int} {base : Value} {j : Nat} {c : Int} (h : OthS w a b cs base (j + 1) W) (hb : w.heap.size ≤ b) (hg : Glob w a) (hc : cs.drop j = c :: cs.drop (j + 1)) :
    OthS w a b cs base j ((W.setCell ⟨b, 0, none⟩ (.int .u32 c)).setCell ⟨b, 1, none⟩ (chainV (cs.drop (j + 1)) base)) := by
  have hB := (h.1.b.setCell (p := ⟨b, 0, none⟩) hb (.int .u32 c)).setCell (p := ⟨b, 1, none⟩) hb (chainV (cs.drop (j + 1)) base)
  refine ⟨⟨hB, hg.below hB (Nat.le_refl _), fun p hp => by simp at hp⟩, ?_⟩
  rw [hc, topX_cons, topY_cons]
  exact (h.2.set0 _).set1 _
theorem drop_map_app {zs : List Int} {d : Int} {j : Nat} (hj : j < zs.length) : ((zs ++ [d]).map Flt.cnt).drop j = Flt.cnt (zs.getD j 0) :: ((zs ++ [d]).map Flt.cnt).drop (j + 1) := by
  rw [getD_map_cnt (zs ++ [d]) j (by simp; omega)]
  have : (zs ++ [d]).getD j 0 = zs.getD j 0 := by simp [List.getElem?_append_left hj]
  rw [this]
theorem drop_last {zs : List Int} {d : Int} : ((zs ++ [d]).map Flt.cnt).drop zs.length = [Flt.cnt d] := by
  rw [List.map_append, List.drop_append_of_le_length (by simp)]
  simp
theorem under_on (d : Int) (cs : List Int) (base : Value) (a : Nat → Addr) (w : World) (hg : Glob w a) (hn : cs ≠ []) (hz : ∀ c ∈ cs, (c == 0) = false) :
    Calls Tryd.prog 24 #[.int .u32 d, .agg #[topX cs base, topY cs base]] w fun e w' => e = .returned (.agg #[.int .u32 (Flt.cnt d), chainV cs base]) ∧ Below w.heap.size w w' := by
  cases cs with
  | nil => exact absurd rfl hn
  | cons c r => exact under_any d c (chainV r base) (hz c (by simp)) a w hg
theorem cnt_nz (zs : List Int) (k : Nat) : ∀ x ∈ (zs.map Flt.cnt).drop k, (x == 0) = false := fun x hx => by
  obtain ⟨y, _, rfl⟩ := List.mem_map.1 (List.mem_of_mem_drop hx)
  have := (Flt.cnt_bd y).1
  simp; omega
theorem info_u32 : (Tryd.prog.info? 22).map (fun i => (i.zero, i.size, i.bytes)) = some (some (.int .u32 0), 1, 4) := by kernel_rfl
theorem say_said (zs : List Int) (x : Int) (r : List Int) (V : TypeId) (v : Value) (s : List UInt8) (hcs : zs.map Flt.cnt = x :: r) (hV : chainV r (saidI ⟨s.toArray⟩) = .iface V v) (hle : zs.length ≤ 60) (hs : s.length ≤ 1000) (a : Nat → Addr) (w : World) (hg : Glob w a) :
    Calls Tryd.prog 19 #[.agg #[.int .u32 x, .iface V v]] w fun e w' => e = .returned (.string ⟨(chainL zs ++ [58, 32] ++ s).toArray⟩) ∧ Below w.heap.size w w' := by
  have hm : chainL zs ++ [58, 32] ++ s = Lib.join ((zs.map Flt.cnt).map Flt.text ++ [s]) [58, 32] := by
    rw [join_snoc _ _ _ (by rw [hcs]; simp)]
    unfold chainL
    rw [List.map_map]
    rfl
  rw [hm, hcs, ← hV]
  have hc0 : ∀ y ∈ x :: r, 0 < y ∧ y ≤ 4294967295 := fun y hy => by
    rw [← hcs] at hy
    obtain ⟨z, _, rfl⟩ := List.mem_map.1 hy
    exact Flt.cnt_bd z
  have hlen : r.length + 1 = zs.length := by have := congrArg List.length hcs; simpa using this.symm
  have h1 := hc0 x (by simp)
  exact say_core x r 56 (.string ⟨s.toArray⟩) endS _ (.inr ⟨rfl, s, rfl, hs, rfl⟩) (by simp; omega) (by omega) (fun y hy => by have := hc0 y hy; omega) a w hg

theorem top_said (zs : List Int) (s : ByteArray) (hn : 0 < zs.length) : ∃ x r V v, zs.map Flt.cnt = x :: r ∧ chainV r (saidI s) = .iface V v ∧ x = Flt.cnt (zs.getD 0 0) := by
  cases zs with
  | nil => simp at hn
  | cons z r =>
    obtain ⟨V, v, hV⟩ := chain_iface (r.map Flt.cnt) 56 (.string s)
    exact ⟨_, _, V, v, rfl, hV, rfl⟩
theorem ba_beq (a b : ByteArray) : (a == b) = (a.data == b.data) := by cases a; cases b; rfl
theorem ba_same (a : ByteArray) : (a == a) = true := by rw [ba_beq]; exact beq_self_eq_true _
theorem ne_more (t : List UInt8) : ((⟨t.toArray⟩ : ByteArray) == ⟨(t ++ [63]).toArray⟩) = false := by
  rw [ba_beq, beq_eq_false_iff_ne]
  intro e
  have := congrArg Array.size e
  simp at this

/-- The test behind the loop, from the world in which the list is made. -/
theorem others_end (A : Option Addr) (c : Nat) (zs : List Int) (n : Nat) (hn : zs.length = n + 1) (hle : n ≤ 50) (t : List UInt8) (ht : t.length ≤ 1000) (w : World) (hr : RdI .u32 w w.heap.size A zs) (a : Nat → Addr) (hg : Glob w a)
    (x : Int) (r : List Int) (V : TypeId) (v : Value) (hcs : zs.map Flt.cnt = x :: r) (hV : chainV r (saidI ⟨t.toArray⟩) = .iface V v) (hx : x = Flt.cnt (zs.getD 0 0)) :
    Hid (∀ L W, Hid (St w a L W) → Calls Tryd.prog 14 #[.int .u32 (zs.getD 0 0)] W fun e w' => e = .returned (.int .u32 x) ∧ St w a L w') ∧
    Hid (∀ L W, Hid (St w a L W) → Calls Tryd.prog 15 #[.agg #[.int .u32 x, .iface V v]] W fun e w' => e = .returned (.int .i64 5) ∧ St w a L w') ∧
    Hid (∀ L W, Hid (St w a L W) → Calls Tryd.prog 17 #[.agg #[.int .u32 x, .iface V v]] W fun e w' => e = .returned (.int .i64 ((n + 1 : Nat) : Int)) ∧ St w a L w') ∧
    Hid (∀ L W, Hid (St w a L W) → Calls Tryd.prog 25 #[.agg #[.int .u32 x, .iface V v], .string ⟨t.toArray⟩] W fun e w' => e = .returned (.bool true) ∧ St w a L w') ∧
    Hid (∀ L W, Hid (St w a L W) → Calls Tryd.prog 25 #[.agg #[.int .u32 x, .iface V v], .string ⟨(t ++ [63]).toArray⟩] W fun e w' => e = .returned (.bool false) ∧ St w a L w') ∧
    Hid (∀ L W, Hid (St w a L W) → Calls Tryd.prog 19 #[.agg #[.int .u32 x, .iface V v]] W fun e w' => e = .returned (.string ⟨(chainL zs ++ [58, 32] ++ t).toArray⟩) ∧ St w a L w') ∧
    Hid (∀ L W, Hid (St w a L W) → Calls Tryd.prog 22 #[.slice A (n + 1) c] W fun e w' => e = .returned (.string ⟨(chainL zs).toArray⟩) ∧ St w a L w') ∧
    Hid (∀ L W, St w a L W → ∃ g off, A = some ⟨g, off, none⟩ ∧ W.cell? ⟨g, off, none⟩ = some (.int .u32 (zs.getD 0 0))) ∧
    Hid (∀ L W, Hid (St w a L W) → Calls Tryd.prog 20 #[] W fun e w' => e = .returned (.bool true) ∧ St w a L w') := by
  have hx0 : (x == 0) = false := by have := (Flt.cnt_bd (zs.getD 0 0)).1; rw [← hx] at this; simp; omega
  have hrl : r.length + 1 = n + 1 := by have := congrArg List.length hcs; simp at this; omega
  have hts : (⟨t.toArray⟩ : ByteArray).size = t.length := by simp [ByteArray.size]
  have hV' : chainV r (.iface 56 (.string ⟨t.toArray⟩)) = .iface V v := hV
  refine ⟨fun L W S => ?_, fun L W S => ?_, fun L W S => ?_, fun L W S => ?_, fun L W S => ?_, fun L W S => ?_, fun L W S => ?_, fun L W S => ?_, fun L W S => S.out.call (fixed_any a W S.out.g)⟩
  · have h := S.out.call (counts_any (zs.getD 0 0) W); rw [← hx] at h; exact h
  · have h := S.out.call (fam_said x r ⟨t.toArray⟩ a W S.out.g hx0); rw [topV, hV] at h; exact h
  · have h := S.out.call (depth_any x r 56 (.string ⟨t.toArray⟩) endS hx0 (by omega) a W S.out.g); rw [hV', hrl] at h; exact h
  · have h := S.out.call (says_said x r ⟨t.toArray⟩ ⟨t.toArray⟩ W); rw [topV, hV, ba_same] at h; exact h
  · have h := S.out.call (says_said x r ⟨t.toArray⟩ ⟨(t ++ [63]).toArray⟩ W); rw [topV, hV, ne_more] at h; exact h
  · exact S.out.call (say_said zs x r V v t hcs hV (by omega) ht a W S.out.g)
  · have h := S.out.call (rchain_any A c zs W ((hr.below S.out.b).mono S.out.b.size) (by omega)); rw [hn] at h; exact h
  · obtain ⟨g, off, e, _, hc⟩ := (hr.below S.b).at_ (j := 0) (by omega)
    exact ⟨g, off, e, hc⟩

set_option maxRecDepth 100000 in
set_option maxHeartbeats 8000000 in
theorem others_main (A : Option Addr) (c : Nat) (zs : List Int) (hle : zs.length ≤ 50) (d : Int) (t : List UInt8) (ht : t.length ≤ 1000) (w : World) (hr : RdI .u32 w w.heap.size A zs) (a : Nat → Addr) (hg : Glob w a) :
    Calls Tryd.prog 6 #[.slice A zs.length c, .int .u32 d, .string ⟨t.toArray⟩] w fun e w' => e = .returned (.bool true) ∧ Below w.heap.size w w' := by
  obtain ⟨i0, hi, hz0, hz1, hz2⟩ := info_parts info_u32
  have S0 := Lib.hid (⟨Below.refl _ w, hg, fun p hp => by simp at hp⟩ : St w a [] w)
  have hts : (⟨t.toArray⟩ : ByteArray).size = t.length := by simp [ByteArray.size]
  have K1 := Lib.hid (fun L W (S : Hid (St w a L W)) => S.out.call (of_any d ⟨t.toArray⟩ (by rw [hts]; exact ht) a W S.out.g))
  have KU := Lib.hid (fun k (W : World) (hW : Glob W a) (h : ((zs ++ [d]).map Flt.cnt).drop k ≠ []) (z : Int) => under_on z (((zs ++ [d]).map Flt.cnt).drop k) (saidI ⟨t.toArray⟩) a W hW h (cnt_nz _ _))
  have HL := Lib.hid (drop_last (zs := zs) (d := d))
  have HD := Lib.hid (fun j (hj : j < zs.length) => drop_map_app (d := d) hj)
  have HR := Lib.hid hr
  have HG := Lib.hid hg
  obtain ⟨n, hn⟩ : ∃ n, zs.length = n := ⟨_, rfl⟩
  rw [hn] at hle HD HL ⊢
  have HN := Lib.hid hn
  clear hn hr hg
  have d0 : decide ((50 : Int) < (n : Int)) = false := by simp; omega
  have d1 : decide ((1000 : Int) < (t.length : Int)) = false := by simp; omega
  go_enter Tryd.func6, Tryd.ntmps6
  go_wp2_with fail
  refine (K1.out _ _ S0).mono ?_
  clear S0 K1
  rintro e w1 ⟨rfl, S⟩
  have S := Lib.hid S
  go_wp2_with fail
  have hb : w.heap.size ≤ w1.heap.size := S.out.b.size
  have OS : OthS w a w1.heap.size ((zs ++ [d]).map Flt.cnt) (saidI ⟨t.toArray⟩) n (w1.alloc (.cells #[.int .u32 (Flt.cnt d), .iface 56 (.string ⟨t.toArray⟩)] 26)) := by
    refine ⟨S.out.next ((Below.refl _ _).alloc (Nat.le_refl _) _), ?_⟩
    rw [HL.out]
    exact HasFlt.new _ _ _
  have OS := Lib.hid OS
  clear S
  generalize w1.heap.size = b1 at *
  generalize hcs : (zs ++ [d]).map Flt.cnt = cs at *
  have HCS := Lib.hid hcs
  clear hcs
  generalize hbs : saidI ⟨t.toArray⟩ = base at *
  have HBS := Lib.hid hbs
  clear hbs
  go_loopw [8] (fun i wr => ∃ k : Nat, k ≤ n ∧ i = .int .i64 ((k : Int) - 1) ∧ OthS w a b1 cs base k wr) (fun i _ => (intOf i + 1).toNat)
  case atStart => exact ⟨n, Nat.le_refl _, rfl, OS.out⟩
  case round =>
    obtain ⟨k, hk, rfl, hS⟩ := hrel
    clear OS
    have OS := Lib.hid hS
    clear hS
    by_cases hk0 : k = 0
    · subst hk0
      rw [show ((0 : Nat) : Int) - 1 = -1 from rfl]
      have hbw : Below w.heap.size w wr := OS.out.1.b
      have hr1 := Lib.hid (HR.out.below hbw)
      have hsz := hbw.size
      go_wp2_with (first
        | (at_builtin; refine wpList_appI _ .u32 rfl (.tmp 35) (.tmp 36) 36 rfl wr.heap.size 22 i0 4 Tryd.underlying36 hi hz0 hz1 hz2 (by omega) _ [] rfl (OwnI.empty _ _ _ (Nat.le_refl _)) A n c zs rfl HN.out.symm w.heap.size (hr1.out.below ((Below.refl _ _).alloc hsz _)) (by rw [HN.out]; simp; omega) (by simp) ?_; intro v1 w2 own1 gr1)
        | (at_builtin; refine wpList_appI _ .u32 rfl (.tmp 37) (.tmp 39) 36 rfl wr.heap.size 22 i0 4 Tryd.underlying36 hi hz0 hz1 hz2 (by omega) _ _ rfl (own1.alloc _) (some ⟨w2.heap.size, 0, none⟩) 1 1 [d] rfl rfl (w2.heap.size + 1) (RdI.new1 _ _ _ _) (by rw [List.nil_append, HN.out]; simp; omega) (by have := gr1.size; simp at this ⊢; omega) ?_; intro v2 w3 own2 gr2))
      have hg1 := gr1.size
      have hg2 := gr2.size
      simp at hg1 hg2
      have b2 : Below wr.heap.size wr w2 := ((Below.refl _ wr).alloc (Nat.le_refl _) _).grown gr1 (by simp) (fun g hg => by cases hg; exact Nat.le_refl _)
      have b3 : Below wr.heap.size wr w3 := (b2.alloc (by omega) _).grown gr2 (by simp; omega) (fun g hg => (own1.lt g hg).1)
      rw [List.nil_append] at own2
      obtain ⟨A2, c2, rfl, hr2⟩ := own2.form
      have hl2 : (zs ++ [d]).length = n + 1 := by simp [HN.out]
      obtain ⟨x, r, V, v, hxr, hV, hx⟩ := top_said (zs ++ [d]) ⟨t.toArray⟩ (by omega)
      have hglob : Glob w3 a := OS.out.1.g.below b3 (Nat.le_refl _)
      obtain ⟨E1, E2, E3, E4, E5, E6, E7, E8, E9⟩ := others_end A2 c2 (zs ++ [d]) n hl2 hle t ht w3 hr2 a hglob x r V v hxr hV hx
      have hF : HasFlt wr b1 (.int .u32 x) (.iface V v) := by
        have h := OS.out.2
        rw [List.drop_zero, ← HCS.out, hxr, ← HBS.out, topX_cons, topY_cons, hV] at h
        exact h
      have hF3 := hF.below b3 hF.lt
      have S3 : St w3 a [(b1, .int .u32 x, .iface V v)] w3 := ⟨Below.refl _ _, hglob, fun p hp => by simp at hp; subst hp; exact ⟨hF3.cell0, hF3.cell1⟩⟩
      have S := Lib.hid S3.drew
      have HBW := Lib.hid (hbw.trans (b3.mono hsz))
      obtain ⟨g2, off2, rfl, hc2⟩ := E8.out _ _ S3
      have HC2 : Hid (∀ L W, St w3 a L W → W.cell? ⟨g2, off2, none⟩ = some (.int .u32 ((zs ++ [d]).getD 0 0))) := Lib.hid fun L W hW => by
        obtain ⟨g', off', e, hc⟩ := E8.out L W hW
        cases e
        exact hc
      have hCL := chainL_le (zs ++ [d])
      rw [hl2] at hCL ⊢
      have a1 := Lib.hid (fun W => run_app W t [63] (by simp; omega))
      have a2 := Lib.hid (fun W => run_app W (chainL (zs ++ [d])) [58, 32] (by simp; omega))
      have a3 := Lib.hid (fun W => run_app W (chainL (zs ++ [d]) ++ [58, 32]) t (by simp; omega))
      clear hc2 hF hF3 hglob hr2 own2 own1 b2 b3 gr1 gr2 hg1 hg2 hx hV hxr hl2 hr1 hbw OS S3 E8 hCL KU HR HL HD hts hsz
      generalize (⟨(chainL (zs ++ [d]) ++ [58, 32] ++ t).toArray⟩ : ByteArray) = CF at *
      generalize (⟨(chainL (zs ++ [d]) ++ [58, 32]).toArray⟩ : ByteArray) = CM at *
      generalize (⟨(chainL (zs ++ [d])).toArray⟩ : ByteArray) = CH at *
      generalize (⟨(t ++ [63]).toArray⟩ : ByteArray) = T1 at *
      generalize (⟨t.toArray⟩ : ByteArray) = T0 at *
      generalize (zs ++ [d]).getD 0 0 = z0 at *
      clear HBS HCS
      have hn0 : (0 : Int) < (n : Int) + 1 := by omega
      refine Txt.wp_region_textN 45 (fun W => St w3 a [(b1, .int .u32 x, .iface V v)] W) (by kernel_rfl) (by kernel_rfl) (by kernel_rfl) (by kernel_rfl) (fun _ _ _ _ _ h => h) S.out ?_
      clear S
      repeat (
        apply Txt.step rfl
        · intro W hS K hK
          obtain ⟨q0, q1, ql⟩ := St.one hS
          have hc0 := HC2.out _ _ hS
          have f1 := a1.out
          have f2 := a2.out
          have f3 := a3.out
          go_simp
          try (go_wp2_with (first
            | (go_at_call 13; refine (hS.call (code_b _ _ _)).mono ?_; rintro e w' ⟨rfl, S⟩; have S := Lib.hid S)
            | (go_at_call 14; refine (E1.out _ _ (Lib.hid hS)).mono ?_; rintro e w' ⟨rfl, S⟩; have S := Lib.hid S)
            | (go_at_call 15; refine (E2.out _ _ (Lib.hid hS)).mono ?_; rintro e w' ⟨rfl, S⟩; have S := Lib.hid S)
            | (go_at_call 17; refine (E3.out _ _ (Lib.hid hS)).mono ?_; rintro e w' ⟨rfl, S⟩; have S := Lib.hid S)
            | (go_at_call_of 25 (Value.string T0); refine (E4.out _ _ (Lib.hid hS)).mono ?_; rintro e w' ⟨rfl, S⟩; have S := Lib.hid S)
            | (go_at_call_of 25 (Value.string T1); refine (E5.out _ _ (Lib.hid hS)).mono ?_; rintro e w' ⟨rfl, S⟩; have S := Lib.hid S)
            | (go_at_call 19; refine (E6.out _ _ (Lib.hid hS)).mono ?_; rintro e w' ⟨rfl, S⟩; have S := Lib.hid S)
            | (go_at_call 22; refine (E7.out _ _ (Lib.hid hS)).mono ?_; rintro e w' ⟨rfl, S⟩; have S := Lib.hid S)
            | (go_at_call 20; refine (E9.out _ _ (Lib.hid hS)).mono ?_; rintro e w' ⟨rfl, S⟩; have S := Lib.hid S)))
          first | exact hK.out _ hS | exact hK.out _ S.out
        · first | exact ⟨_, rfl⟩ | exact ⟨undef, rfl⟩)
      refine Txt.last fun W hS => ?_
      have HB9 := Lib.hid (HBW.out.trans (hS.b.mono HBW.out.size))
      clear hS
      go_wp2_with fail
      go_ret
      exact ⟨rfl, HB9.out⟩
    · obtain ⟨j, rfl⟩ : ∃ j, k = j + 1 := ⟨k - 1, by omega⟩
      have hj1 : (0 : Int) ≤ (j : Int) := by omega
      have hj2 : (j : Int) < (n : Int) := by omega
      have hj4 : ((j + 1 : Nat) : Int) - 1 = (j : Int) := by omega
      rw [hj4]
      clear hj4 hk0 hk
      obtain ⟨g, off, rfl, hgl, _⟩ := HR.out.at_ (j := j) (by rw [HN.out]; omega)
      have HC : Hid (∀ W, Below w.heap.size w W → W.cell? ⟨g, off + j, none⟩ = some (.int .u32 (zs.getD j 0))) := Lib.hid fun W hW => by
        obtain ⟨g', off', e, _, hc⟩ := (HR.out.below hW).at_ (j := j) (by rw [HN.out]; omega)
        cases e
        exact hc
      have hne : cs.drop (j + 1) ≠ [] := fun e => by
        have h1 := congrArg List.length e
        rw [← HCS.out] at h1
        simp [HN.out] at h1
        omega
      have HU : Hid (∀ W, OthS w a b1 cs base (j + 1) W → Calls Tryd.prog 24 #[.int .u32 (zs.getD j 0), .agg #[topX (cs.drop (j + 1)) base, topY (cs.drop (j + 1)) base]] W fun e w' => e = .returned (.agg #[.int .u32 (Flt.cnt (zs.getD j 0)), chainV (cs.drop (j + 1)) base]) ∧ OthS w a b1 cs base (j + 1) w') := Lib.hid fun W hW =>
        (KU.out (j + 1) W hW.1.g hne (zs.getD j 0)).mono (by rintro e w' ⟨rfl, hb⟩; exact ⟨rfl, hW.next hb⟩)
      have HX : Hid (∀ W, OthS w a b1 cs base (j + 1) W → OthS w a b1 cs base j ((W.setCell ⟨b1, 0, none⟩ (.int .u32 (Flt.cnt (zs.getD j 0)))).setCell ⟨b1, 1, none⟩ (chainV (cs.drop (j + 1)) base))) := Lib.hid fun W hW => hW.store hb HG.out (HD.out j (by omega))
      have HR1 : Hid (∀ W, OthS w a b1 cs base (j + 1) W → _) := Lib.hid fun W (hW : OthS w a b1 cs base (j + 1) W) => hW.reads
      obtain ⟨V, v, hV⟩ := chain_iface (cs.drop (j + 1)) 56 (.string ⟨t.toArray⟩)
      rw [show Value.iface 56 (.string ⟨t.toArray⟩) = base from HBS.out] at hV
      rw [hV] at HU HX
      clear hV hne
      generalize topX (cs.drop (j + 1)) base = X at HU HR1
      generalize topY (cs.drop (j + 1)) base = Y at HU HR1
      generalize Flt.cnt (zs.getD j 0) = CJ at HU HX
      generalize zs.getD j 0 = zj at HU HC
      go_wp2_with fail
      refine Txt.wp_region_tail 6 (fun W => OthS w a b1 cs base (j + 1) W) (by kernel_rfl) (by kernel_rfl) (by kernel_rfl) (by kernel_rfl) (by kernel_rfl) (fun _ _ _ _ _ h => h) (OS.out.next ⟨rfl, rfl, rfl, Nat.le_refl _, fun _ _ => rfl⟩) ?_
      clear OS
      iterate 6 (
        apply Txt.stepR rfl
        · intro W hS K hK
          have HS := Lib.hid hS
          have hc := HC.out W hS.1.b
          obtain ⟨q0, q1, f0, f1, lb, g0, g1⟩ := HR1.out W hS
          clear hS
          go_simp
          try (go_wp2_with (go_at_call 24; refine (HU.out _ HS.out).mono ?_; rintro e w' ⟨rfl, hS'⟩; have HS := Lib.hid hS'; clear hS'))
          exact hK.out _ HS.out
        · first | exact ⟨_, rfl⟩ | exact ⟨undef, rfl⟩)
      refine Txt.lastR rfl ?_
      intro W hS K hK
      have HS := Lib.hid (HX.out W hS)
      obtain ⟨q0, q1, f0, f1, lb, g0, g1⟩ := HR1.out W hS
      clear hS
      go_simp
      refine hK.out _ _ ?_
      clear hK K q0 q1 f0 f1 g0 g1
      go_wp2_with fail
      go_roundw
      case rel => exact ⟨j, by omega, by go_num, HS.out⟩
      case measure => simp [intOf]
end Go.Proofs.YtielbmhaidjioaaDoor
