/-
  What Parse of package record does.
-/
import Derived.Test.YtkkbjngjjeajoaaProg
import Derived.Test.YtkkbjngjjeajoaaRecFns
import Derived.Laws.Rows
namespace Go.Proofs.Ytkkbjngjjeajoaa
namespace Rec
open Go.RowKit Mem
set_option linter.unusedVariables false

/-- What a call returns whose first result, a struct, lives in memory. -/
theorem results_row3 {P : Program} {fn : Func} {p u z : Tmp} {ty : TypeId} (h : fn.results = #[.cell p ty, .tmp u, .tmp z]) (tmps : Array Value) (w : World) (g : Nat) (t : TypeId) (cs : Array Value) (fr : Nat × Nat) (d : TypeDesc)
    (hp : tmps.getD p undef = .pointer (some ⟨g, 0, none⟩)) (hg : w.heap[g]? = some (.cells cs t fr))
    (hu : P.underlying ty = some d) (hd : (match d with | .struct _ | .array _ _ => true | _ => false) = true) (hi : (P.info? ty).map (·.size) = some cs.size) :
    (results fn tmps).run P w = .ok (.tuple #[.agg cs, tmps.getD u undef, tmps.getD z undef]) w := by
  have hp' : tmps[p]?.getD undef = .pointer (some ⟨g, 0, none⟩) := by simpa using hp
  simp [results, h, hp', asAddr, run_loadVar_row w g t ty cs fr d hg hu hd hi, Result.andThen]
theorem below2 (w : World) (o o' : Obj) : Below w.heap.size w ((w.alloc o).alloc o') := ((Below.refl w.heap.size w).alloc (Nat.le_refl _) o).alloc (by simp) o'
theorem size_rec : (Try.prog.info? 39).map (·.size) = some 3 := by kernel_rfl

/-- While Parse runs: the bytes' slice in gb, the zero record in gr, the place in gp, all new since w0. -/
structure PS (w0 w : World) (gb gr gp : Nat) (A : Option Addr) (n c p : Nat) : Prop where
  cb : w.cell? ⟨gb, 0, none⟩ = some (.slice A n c)
  cp : w.cell? ⟨gp, 0, none⟩ = some (.int .i64 (p : Int))
  fp : w.frozen? ⟨gp, 0, none⟩ = false
  ro : w.heap[gr]? = some (.cells #[.int .i64 0, .int .u32 0, .slice none 0 0] 39)
  B : Below w0.heap.size w0 w
  lo : w0.heap.size ≤ gb ∧ w0.heap.size ≤ gp ∧ gb ≠ gp ∧ gb < w.heap.size ∧ gp < w.heap.size ∧ gr ≠ gp ∧ gr < w.heap.size ∧ w0.heap.size ≤ gr
theorem PS.set {w0 w : World} {gb gr gp : Nat} {A : Option Addr} {n c p : Nat} (h : PS w0 w gb gr gp A n c p) {x : Int} {q : Nat} (hx : x = (q : Int)) : PS w0 (w.setCell ⟨gp, 0, none⟩ (.int .i64 x)) gb gr gp A n c q := by
  subst hx
  obtain ⟨cb, cp, fp, ro, B, l1, l2, l3, l4, l5, l6, l7, l8⟩ := h
  refine ⟨?_, World.cell?_setCell_same _ _ _ cp, by rw [World.frozen?_setCell]; exact fp, ?_, B.setCell l2 _, l1, l2, l3, by simpa [World.setCell] using l4, by simpa [World.setCell] using l5, l6, by simpa [World.setCell] using l7, l8⟩
  · have : (w.setCell ⟨gp, 0, none⟩ (.int .i64 (q : Int))).heap[gb]? = w.heap[gb]? := Below.heap_setCell w ⟨gp, 0, none⟩ _ gb l3
    rw [← cb]
    simp [World.cell?, this]
  · rw [← ro]
    exact Below.heap_setCell w ⟨gp, 0, none⟩ _ gr l6
theorem PS.kept {w0 w w' : World} {gb gr gp : Nat} {A : Option Addr} {n c p : Nat} (h : PS w0 w gb gr gp A n c p) (b : Below w.heap.size w w') : PS w0 w' gb gr gp A n c p := by
  obtain ⟨cb, cp, fp, ro, B, l1, l2, l3, l4, l5, l6, l7, l8⟩ := h
  have hz := b.size
  refine ⟨(b.cell (p := ⟨gb, 0, none⟩) l4).trans cb, (b.cell (p := ⟨gp, 0, none⟩) l5).trans cp, ?_, (b.block gr l7).trans ro, B.trans (b.mono B.size), l1, l2, l3, by omega, by omega, l6, by omega, l8⟩
  have := b.block gp l5
  unfold World.frozen? at fp ⊢
  simpa [this] using fp
theorem cell_of {w : World} {g : Nat} {t : TypeId} {cs : Array Value} (h : w.heap[g]? = some (.cells cs t)) (j : Nat) : w.cell? ⟨g, j, none⟩ = cs[j]? := by simp [World.cell?, h]
/-- The result's three cells are written. -/
def put3 (w : World) (g : Nat) (a b c : Value) : World := ((w.setCell ⟨g, 0, none⟩ a).setCell ⟨g, 1, none⟩ b).setCell ⟨g, 2, none⟩ c
theorem PS.row {w0 w : World} {gb gr gp : Nat} {A : Option Addr} {n c p : Nat} (h : PS w0 w gb gr gp A n c p) (x y z : Value) : Below w0.heap.size w0 (put3 w gr x y z) ∧ (put3 w gr x y z).heap[gr]? = some (.cells #[x, y, z] 39) ∧ ∀ k, k ≠ gr → (put3 w gr x y z).heap[k]? = w.heap[k]? := by
  have hl := h.lo.2.2.2.2.2.2.2
  refine ⟨((h.B.setCell hl _).setCell hl _).setCell hl _, ?_, fun k hk => ?_⟩
  · exact heap_setCell_same _ gr 2 _ _ _ (heap_setCell_same _ gr 1 _ _ _ (heap_setCell_same _ gr 0 _ _ _ h.ro))
  · unfold put3
    rw [heap_setCell_other _ _ _ _ hk, heap_setCell_other _ _ _ _ hk, heap_setCell_other _ _ _ _ hk]
theorem PS.own {w0 w : World} {gb gr gp : Nat} {A : Option Addr} {n c p : Nat} (h : PS w0 w gb gr gp A n c p) {B : Nat} {v : Value} {ds : List UInt8} (o : Own w B 5 v ds) (hB : gr < B) (x y z : Value) : Own (put3 w gr x y z) w0.heap.size 5 v ds := by
  refine ⟨o.1, ?_⟩
  rcases o.2 with hn | ⟨g', cap, cur, hv, hbg, hgg, rest⟩
  · exact .inl hn
  · have := h.lo
    exact .inr ⟨g', cap, cur, hv, by omega, ((h.row x y z).2.2 g' (by omega)).trans hgg, rest⟩
theorem PS.new (w0 : World) (A : Option Addr) (n c p : Nat) (t u : TypeId) : PS w0 (((w0.alloc (.cells #[.slice A n c] t)).alloc (.cells #[.int .i64 0, .int .u32 0, .slice none 0 0] 39)).alloc (.cells #[.int .i64 (p : Int)] u)) w0.heap.size (w0.heap.size + 1) (w0.heap.size + 1 + 1) A n c p := by
  have hs : ((w0.alloc (.cells #[.slice A n c] t)).alloc (.cells #[.int .i64 0, .int .u32 0, .slice none 0 0] 39)).heap.size = w0.heap.size + 1 + 1 := by simp only [World.size_alloc]
  have hb := below2 w0 (.cells #[.slice A n c] t) (.cells #[.int .i64 0, .int .u32 0, .slice none 0 0] 39)
  have h1 := heap_alloc2_old w0 (.cells #[.slice A n c] t) (.cells #[.int .i64 0, .int .u32 0, .slice none 0 0] 39)
  have h2 := heap_alloc2_new w0 (.cells #[.slice A n c] t) (.cells #[.int .i64 0, .int .u32 0, .slice none 0 0] 39)
  generalize ((w0.alloc (.cells #[.slice A n c] t)).alloc (.cells #[.int .i64 0, .int .u32 0, .slice none 0 0] 39)) = w at *
  have h3 := heap_alloc_new w (.cells #[.int .i64 (p : Int)] u)
  rw [hs] at h3
  refine ⟨?_, cell_of h3 0, frozen_of_row _ _ _ _ _ h3, ?_, hb.alloc hb.size _, Nat.le_refl _, by omega, by omega, ?_, ?_, by omega, ?_, by omega⟩
  · exact cell_of ((heap_alloc_old w _ (by omega)).trans h1) 0
  · exact (heap_alloc_old w _ (by omega)).trans h2
  all_goals
    rw [World.size_alloc]
    omega

end Rec
namespace Mem
theorem Rd.part {w : World} {B g off : Nat} {bs : List UInt8} (h : Rd w B (some ⟨g, off, none⟩) bs) {i m : Nat} (hi : i + m ≤ bs.length) : Rd w B (some ⟨g, off + i, none⟩) ((bs.drop i).take m) := by
  rcases h with rfl | ⟨g', off', e, hg, hc⟩
  · exact .inl (by simp)
  · injection e with e
    injection e with e1 e2
    subst e1
    subst e2
    refine .inr ⟨_, _, rfl, hg, fun j hj => ?_⟩
    have hj' : j < m := by simp at hj; omega
    rw [Nat.add_assoc, hc (i + j) (by omega)]
    simp [byt, List.getD_eq_getElem?_getD, hj', List.getElem?_drop]
end Mem
namespace Rec
open Go.RowKit Mem
set_option linter.unusedVariables false

set_option maxHeartbeats 400000 in
theorem take_any (w0 w : World) (gb gr gp : Nat) (A : Option Addr) (n c p : Nat) (bs : List UInt8) (wd : Nat) (h : PS w0 w gb gr gp A n c p) (hr : Rd w0 w0.heap.size A bs) (hn : n = bs.length) (hle : n ≤ 1099511627776)
    (h1 : 1 ≤ wd) (h2 : wd ≤ 8) (h4 : p + wd ≤ n) :
    Calls Try.prog 128 #[.int .i64 (wd : Int), .pointer (some ⟨gb, 0, none⟩), .pointer (some ⟨gp, 0, none⟩)] w fun e w' => e = .returned (.int .u64 (Oct.num bs p wd)) ∧ PS w0 w' gb gr gp A n c (p + wd) := by
  have H := Lib.hid h
  have G := Lib.hid (get_ok A n c _ bs p wd w (hr.below h.B) hn hle (by omega) (by omega) (by omega) (by omega))
  rw [Int.toNat_natCast, Int.toNat_natCast] at G
  have hnb := Oct.num_u64 bs p wd h2
  generalize Oct.num bs p wd = X at *
  obtain ⟨cb, cp, fp, ro, B, l1, l2, l3, l4, l5, l6, l7, l8⟩ := h
  clear hr hn
  go_enter Try.func128, Try.ntmps128
  go_wp2_with fail
  refine G.out.mono ?_
  rintro e w1 ⟨rfl, rfl⟩
  go_wp2_with fail
  go_ret
  exact ⟨rfl, H.out.set (by simp)⟩

/-- What a parse ends with. -/
def ParsesTo (w : World) (o : Out) (e : Ending) (w' : World) : Prop :=
  ∃ v, e = .returned (.tuple #[rec_ o.k o.n v, .int .i64 o.to, .int .i64 o.e]) ∧ Own w' w.heap.size 5 v o.d ∧ Below w.heap.size w w'

set_option maxHeartbeats 1000000 in
theorem parse_out (A : Option Addr) (n c : Nat) (at_ : Int) (w : World) (h1 : -9223372036854775808 ≤ at_) (h2 : at_ ≤ 9223372036854775807) (hle : n ≤ 1099511627776) (h : at_ < 0 ∨ (n : Int) < at_) :
    Calls Try.prog 111 #[.slice A n c, .int .i64 at_] w (ParsesTo w (none_ 1)) := by
  rcases h with h | h
  · go_enter Try.func111, Try.ntmps111
    go_wp2_with fail
    (try simp only [Exit.inBlock, Exit.then])
    refine bodyPost_ret (results_row3 rfl _ _ (w.heap.size + 1) _ _ _ _ rfl (heap_alloc2_new _ _ _) Try.underlying39 rfl size_rec) rfl ⟨_, rfl, Own.nil _ _ _, below2 _ _ _⟩
  · have hd : decide (at_ < 0) = false := by simp; omega
    go_enter Try.func111, Try.ntmps111
    go_wp2_with fail
    (try simp only [Exit.inBlock, Exit.then])
    refine bodyPost_ret (results_row3 rfl _ _ (w.heap.size + 1) _ _ _ _ rfl (heap_alloc2_new _ _ _) Try.underlying39 rfl size_rec) rfl ⟨_, rfl, Own.nil _ _ _, below2 _ _ _⟩

set_option maxHeartbeats 1000000 in
theorem parse_short (A : Option Addr) (n c : Nat) (a : Nat) (w : World) (hle : n ≤ 1099511627776) (h : a ≤ n) (h' : n < a + 13) :
    Calls Try.prog 111 #[.slice A n c, .int .i64 (a : Int)] w (ParsesTo w (none_ 2)) := by
  have hd : decide ((a : Int) < 0) = false := by simp
  have hd2 : decide (n < a) = false := by simp; omega
  have hd3 : decide ((n : Int) < (a : Int)) = false := by simp; omega
  go_enter Try.func111, Try.ntmps111
  go_wp2_with fail
  (try simp only [Exit.inBlock, Exit.then])
  refine bodyPost_ret (results_row3 rfl _ _ (w.heap.size + 1) _ _ _ _ rfl (heap_alloc2_new _ _ _) Try.underlying39 rfl size_rec) rfl ⟨_, rfl, Own.nil _ _ _, below2 _ _ _⟩

/-- A refusal. -/
theorem no_end {w W : World} {gb gr gp : Nat} {A : Option Addr} {n c p : Nat} (h : PS w W gb gr gp A n c p) (z : Int) : ParsesTo w (none_ z) (.returned (.tuple #[rec_ 0 0 (.slice none 0 0), .int .i64 0, .int .i64 z])) W :=
  ⟨_, rfl, Own.nil _ _ _, h.B⟩

set_option maxHeartbeats 2000000 in
theorem parse_main (A : Option Addr) (n c : Nat) (bs : List UInt8) (a : Nat) (w : World) (hr : Rd w w.heap.size A bs) (hn : n = bs.length) (hle : n ≤ 1099511627776) (hcap : n ≤ c) (hc : c ≤ maxLen) (h : a + 13 ≤ n) :
    Calls Try.prog 111 #[.slice A n c, .int .i64 (a : Int)] w (ParsesTo w (parseA bs a)) := by
  have hd : decide ((a : Int) < 0) = false := by simp
  have hd2 : decide (n < a) = false := by simp; omega
  have hd3 : decide ((n : Int) < (a : Int)) = false := by simp; omega
  have hmf : ∀ (fn : Fn) (first cap : Array Value) (w : World), (Instr.makeFunc fn first cap).run Try.prog w = .ok (.func fn first cap) w := fun _ _ _ _ => rfl
  have T := Lib.hid (fun (w' : World) (p : Nat) gb gr gp (wd : Nat) hps h1 h2 h4 => take_any w w' gb gr gp A n c p bs wd hps hr hn hle h1 h2 h4)
  have hP := parse_at (bs := bs) (a := a) (by omega)
  have hF := num_255 bs a
  have hK := num_255 bs (a + 1)
  have hM := num_32 bs (a + 2)
  have hL := num_16 bs (a + 6)
  rw [len_at] at hL
  have eL := Lib.hid (len_at bs a)
  have eK := Lib.hid (show Oct.num bs (a + 1) 1 = kindAt bs a from rfl)
  have eM := Lib.hid (show Oct.num bs (a + 2) 4 = numAt bs a from rfl)
  rw [eK.out] at hK
  rw [eM.out] at hM
  have HP := Lib.hid hP
  clear hP
  obtain ⟨g, off, rfl, _, _⟩ := hr.at_ (k := 0) (by omega)
  obtain ⟨F, eF⟩ : ∃ F, Oct.num bs a 1 = F := ⟨_, rfl⟩
  rw [eF] at HP hF
  have EF := Lib.hid eF
  clear eF
  generalize kindAt bs a = K at *
  generalize numAt bs a = M at *
  generalize lenAt bs a = L at *
  have HN := Lib.hid hn
  clear hn
  have S0 := PS.new w (some ⟨g, off, none⟩) n c a 22 3
  go_enter Try.func111, Try.ntmps111
  go_wp2_with fail
  refine (T.out _ _ _ _ _ 1 S0 (by omega) (by omega) (by omega)).mono ?_
  rw [EF.out]
  rintro e w1 ⟨rfl, S1⟩
  clear S0
  go_wp2_with fail
  refine (T.out _ _ _ _ _ 1 S1 (by omega) (by omega) (by omega)).mono ?_
  rw [eK.out]
  rintro e w2 ⟨rfl, S2⟩
  clear S1
  go_wp2_with fail
  refine (T.out _ _ _ _ _ 4 S2 (by omega) (by omega) (by omega)).mono ?_
  rw [show a + 1 + 1 = a + 2 from rfl, eM.out]
  rintro e w3 ⟨rfl, S3⟩
  clear S2
  go_wp2_with fail
  refine (T.out _ _ _ _ _ 2 S3 (by omega) (by omega) (by omega)).mono ?_
  rw [show a + 2 + 4 = a + 6 from rfl, eL.out]
  rintro e w4 ⟨rfl, S4⟩
  clear S3
  have q0 := cell_of S4.ro 0
  have q1 := cell_of S4.ro 1
  have q2 := cell_of S4.ro 2
  have z0 := frozen_of_row _ _ 0 _ _ S4.ro
  have z1 := frozen_of_row _ _ 1 _ _ S4.ro
  have z2 := frozen_of_row _ _ 2 _ _ S4.ro
  have hcb := S4.cb
  have hcp := S4.cp
  have hfp := S4.fp
  go_wp2_with fail
  · rename_i hF87
    refine (right_any K M L w4 (by omega) (by omega) (by omega) (by omega) (by omega)).mono ?_
    rintro e w' ⟨rfl, rfl⟩
    by_cases hE : err K M L = 0
    · rw [hE]
      go_wp2_with fail
      · rename_i hs
        (try simp only [Exit.inBlock, Exit.then])
        refine bodyPost_ret (results_row3 rfl _ _ (w.heap.size + 1) _ #[.int .i64 0, .int .u32 0, .slice none 0 0] _ _ rfl (S4.row _ _ _).2.1 Try.underlying39 rfl size_rec) rfl ?_
        rw [HP.out, if_neg (by omega), if_pos (by have := HN.out; omega)]
        exact ⟨_, rfl, Own.nil _ _ _, (S4.row _ _ _).1⟩
      · rename_i hs
        have hnl : a + 13 + L ≤ n := by omega
        have HQ := HP.out
        rw [if_neg (by omega), if_neg (by have := HN.out; omega)] at HQ
        have HQ' := Lib.hid HQ
        clear HQ HP
        have S5 := S4.set (x := (a : Int) + 6 + 2 + (L : Int)) (q := a + 8 + L) (by omega)
        have RD := (((hr.below S5.B).mono S5.B.size).part (i := a) (m := 8 + L) (by have := HN.out; omega))
        have hxl : ((bs.drop a).take (8 + L)).length = 8 + L := by have := HN.out; simp; omega
        have hSl := Sum.on_lt (s := 0) ((bs.drop a).take (8 + L)) (by decide)
        clear q0 q1 q2 z0 z1 z2 hcb hcp hfp S4
        generalize hxs : (bs.drop a).take (8 + L) = xs at *
        refine (sum_any _ (a + 6 + 2 + L - a) (c - a) xs _ RD (by omega) (by omega)).mono ?_
        rintro e w5 ⟨rfl, b5⟩
        have S6 := S5.kept b5
        clear S5 b5 RD
        generalize hY : Sum.on 0 xs = Y at *
        go_wp2_with fail
        refine (T.out _ _ _ _ _ 4 S6 (by omega) (by omega) (by omega)).mono ?_
        have hS := num_32 bs (a + 8 + L)
        generalize Oct.num bs (a + 8 + L) 4 = S at *
        rintro e w6 ⟨rfl, S7⟩
        rw [show a + 8 + L + 4 = a + 12 + L by omega] at S7
        clear S6
        have q0 := cell_of S7.ro 0
        have q1 := cell_of S7.ro 1
        have q2 := cell_of S7.ro 2
        have z0 := frozen_of_row _ _ 0 _ _ S7.ro
        have z1 := frozen_of_row _ _ 1 _ _ S7.ro
        have z2 := frozen_of_row _ _ 2 _ _ S7.ro
        have hcb := S7.cb
        have hcp := S7.cp
        have hfp := S7.fp
        by_cases hSY : S = (Y : Int)
        · subst hSY
          have HQ := HQ'.out
          rw [if_neg (by simp)] at HQ
          have HQ' := Lib.hid HQ
          clear HQ
          go_wp2_with fail
          refine (T.out _ _ _ _ _ 1 S7 (by omega) (by omega) (by omega)).mono ?_
          have hC := num_255 bs (a + 12 + L)
          generalize Oct.num bs (a + 12 + L) 1 = C at *
          rintro e w7 ⟨rfl, S8⟩
          clear q0 q1 q2 z0 z1 z2 hcb hcp hfp S7
          have q0 := cell_of S8.ro 0
          have q1 := cell_of S8.ro 1
          have q2 := cell_of S8.ro 2
          have z0 := frozen_of_row _ _ 0 _ _ S8.ro
          have z1 := frozen_of_row _ _ 1 _ _ S8.ro
          have z2 := frozen_of_row _ _ 2 _ _ S8.ro
          have hcb := S8.cb
          have hcp := S8.cp
          have hfp := S8.fp
          by_cases hC0 : C ≠ 0
          · have hCb : (C != 0) = true := by simpa using hC0
            go_wp2_with fail
            (try simp only [Exit.inBlock, Exit.then])
            refine bodyPost_ret (results_row3 rfl _ _ (w.heap.size + 1) _ #[.int .i64 0, .int .u32 0, .slice none 0 0] _ _ rfl (S8.row _ _ _).2.1 Try.underlying39 rfl size_rec) rfl ?_
            rw [HQ'.out, if_pos hC0]
            exact ⟨_, rfl, Own.nil _ _ _, (S8.row _ _ _).1⟩
          · have hCb : (C != 0) = false := by simpa using hC0
            go_wp2_with fail
            have RD := (((hr.below S8.B).mono S8.B.size).part (i := a + 8) (m := L) (by have := HN.out; omega))
            have hdl : ((bs.drop (a + 8)).take L).length = L := by have := HN.out; simp; omega
            have HQ := HQ'.out
            rw [if_neg hC0, show a + (13 + L) = a + 12 + L + 1 by omega] at HQ
            generalize hds : (bs.drop (a + 8)).take L = ds at *
            have HQ'' := Lib.hid HQ
            clear HQ
            have S8' : PS w (w7.drewN 1) w.heap.size (w.heap.size + 1) (w.heap.size + 1 + 1) (some ⟨g, off, none⟩) n c (a + 12 + L + 1) := ⟨S8.cb, S8.cp, S8.fp, S8.ro, ⟨S8.B.os, S8.B.tape, S8.B.output, S8.B.size, S8.B.block⟩, S8.lo⟩
            go_region_with (go_at_call 44; refine (clone_any _ L (c - (a + 6 + 2)) ds _ (RD.drewN 1) hdl.symm (by omega)).mono ?_; rintro e w8 ⟨v8, rfl, o8, b8⟩; have S9 := S8'.kept b8; obtain ⟨A8, c8, rfl, _⟩ := o8.form_n hdl; have y0 := cell_of S9.ro 0; have y1 := cell_of S9.ro 1; have y2 := cell_of S9.ro 2; have x0 := frozen_of_row _ _ 0 _ _ S9.ro; have x1 := frozen_of_row _ _ 1 _ _ S9.ro; have x2 := frozen_of_row _ _ 2 _ _ S9.ro; have hcb' := S9.cb; have hcp' := S9.cp; have hfp' := S9.fp)
            all_goals
              have R9 := Lib.hid (S9.own o8 (show w.heap.size + 1 < w7.heap.size from S8.lo.2.2.2.2.2.2.1) (.int .i64 K) (.int .u32 M) (.slice A8 L c8))
              have R8 := Lib.hid (S9.row (.int .i64 K) (.int .u32 M) (.slice A8 L c8))
              clear y0 y1 y2 x0 x1 x2 hcb' hcp' hfp' q0 q1 q2 z0 z1 z2 hcb hcp hfp o8 b8 S8' S9 S8
              go_wp2_with fail
              (try simp only [Exit.inBlock, Exit.then])
              refine bodyPost_ret (results_row3 rfl _ _ (w.heap.size + 1) _ #[.int .i64 K, .int .u32 M, .slice A8 L c8] _ _ rfl R8.out.2.1 Try.underlying39 rfl size_rec) rfl ?_
              rw [HQ''.out]
              exact ⟨_, rfl, R9.out, R8.out.1⟩
        · have hne : (S != (Y : Int)) = true := by simp [hSY]
          go_wp2_with fail
          (try simp only [Exit.inBlock, Exit.then])
          refine bodyPost_ret (results_row3 rfl _ _ (w.heap.size + 1) _ #[.int .i64 0, .int .u32 0, .slice none 0 0] _ _ rfl (S7.row _ _ _).2.1 Try.underlying39 rfl size_rec) rfl ?_
          rw [HQ'.out, if_pos hSY]
          exact ⟨_, rfl, Own.nil _ _ _, (S7.row _ _ _).1⟩
    · have hE' : (err K M L != 0) = true := by simp [hE]
      go_wp2_with fail
      (try simp only [Exit.inBlock, Exit.then])
      refine bodyPost_ret (results_row3 rfl _ _ (w.heap.size + 1) _ #[.int .i64 0, .int .u32 0, .slice none 0 0] _ _ rfl (S4.row _ _ _).2.1 Try.underlying39 rfl size_rec) rfl ?_
      rw [HP.out, if_pos (.inr hE)]
      exact ⟨_, rfl, Own.nil _ _ _, (S4.row _ _ _).1⟩
  · rename_i hF87
    go_wp2_with fail
    (try simp only [Exit.inBlock, Exit.then])
    refine bodyPost_ret (results_row3 rfl _ _ (w.heap.size + 1) _ #[.int .i64 0, .int .u32 0, .slice none 0 0] _ _ rfl (S4.row _ _ _).2.1 Try.underlying39 rfl size_rec) rfl ?_
    rw [HP.out, if_pos (.inl hF87)]
    exact ⟨_, rfl, Own.nil _ _ _, (S4.row _ _ _).1⟩

theorem parse_any (A : Option Addr) (n c : Nat) (at_ : Int) (bs : List UInt8) (w : World) (hr : Rd w w.heap.size A bs) (hn : n = bs.length) (hle : n ≤ 1099511627776) (hcap : n ≤ c) (hc : c ≤ maxLen) (h1 : -9223372036854775808 ≤ at_) (h2 : at_ ≤ 9223372036854775807) :
    Calls Try.prog 111 #[.slice A n c, .int .i64 at_] w (ParsesTo w (parseA bs at_)) := by
  by_cases h : at_ < 0 ∨ (n : Int) < at_
  · rw [parse_1 (by rw [← hn]; exact h)]
    exact parse_out A n c at_ w h1 h2 hle h
  · obtain ⟨a, rfl⟩ := Int.eq_ofNat_of_zero_le (show 0 ≤ at_ by omega)
    by_cases hs : n < a + 13
    · rw [parse_2 (by omega) (by omega)]
      exact parse_short A n c a w hle (by omega) hs
    · exact parse_main A n c bs a w hr hn hle hcap hc (by omega)

end Rec
end Go.Proofs.Ytkkbjngjjeajoaa
