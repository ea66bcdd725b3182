/-
  What the document's Parse for package record does.
-/
import Derived.Test.YtkkbjngjjeajoaaProg
import Derived.Test.YtkkbjngjjeajoaaRecRef
namespace Go.Proofs.Ytkkbjngjjeajoaa
namespace Rec
open Go.RowKit Mem
set_option linter.unusedVariables false

theorem put3_row {w0 w : World} {gr : Nat} {t : TypeId} {x0 y0 z0 : Value} (hro : w.heap[gr]? = some (.cells #[x0, y0, z0] t)) (B : Below w0.heap.size w0 w) (hg : w0.heap.size ≤ gr) (x y z : Value) :
    Below w0.heap.size w0 (put3 w gr x y z) ∧ (put3 w gr x y z).heap[gr]? = some (.cells #[x, y, z] t) ∧ ∀ k, k ≠ gr → (put3 w gr x y z).heap[k]? = w.heap[k]? := by
  refine ⟨((B.setCell hg _).setCell hg _).setCell hg _, ?_, fun k hk => ?_⟩
  · exact heap_setCell_same _ gr 2 _ _ _ (heap_setCell_same _ gr 1 _ _ _ (heap_setCell_same _ gr 0 _ _ _ hro))
  · unfold put3
    rw [heap_setCell_other _ _ _ _ hk, heap_setCell_other _ _ _ _ hk, heap_setCell_other _ _ _ _ hk]
theorem below1 (w : World) (o : Obj) : Below w.heap.size w (w.alloc o) := (Below.refl w.heap.size w).alloc (Nat.le_refl _) o

set_option maxHeartbeats 1000000 in
theorem rparse_out (A : Option Addr) (n c : Nat) (at_ : Int) (w : World) (h1 : -9223372036854775808 ≤ at_) (h2 : at_ ≤ 9223372036854775807) (hle : n ≤ 1099511627776) (h : at_ < 0 ∨ (n : Int) < at_) :
    Calls Try.prog 126 #[.slice A n c, .int .i64 at_] w (ParsesTo w (none_ 1)) := by
  rcases h with h | h
  · go_enter Try.func126, Try.ntmps126
    go_wp2_with fail
    (try simp only [Exit.inBlock, Exit.then])
    refine bodyPost_ret (results_row3 rfl _ _ w.heap.size _ _ _ _ rfl (heap_alloc_new _ _) Try.underlying39 rfl size_rec) rfl ⟨_, rfl, Own.nil _ _ _, below1 _ _⟩
  · have hd : decide (at_ < 0) = false := by simp; omega
    go_enter Try.func126, Try.ntmps126
    go_wp2_with fail
    (try simp only [Exit.inBlock, Exit.then])
    refine bodyPost_ret (results_row3 rfl _ _ w.heap.size _ _ _ _ rfl (heap_alloc_new _ _) Try.underlying39 rfl size_rec) rfl ⟨_, rfl, Own.nil _ _ _, below1 _ _⟩

set_option maxHeartbeats 1000000 in
theorem rparse_short (A : Option Addr) (n c : Nat) (a : Nat) (w : World) (hle : n ≤ 1099511627776) (h : a ≤ n) (h' : n < a + 13) :
    Calls Try.prog 126 #[.slice A n c, .int .i64 (a : Int)] w (ParsesTo w (none_ 2)) := by
  have hd : decide ((a : Int) < 0) = false := by simp
  have hd2 : decide (n < a) = false := by simp; omega
  have hd3 : decide ((n : Int) < (a : Int)) = false := by simp; omega
  go_enter Try.func126, Try.ntmps126
  go_wp2_with fail
  (try simp only [Exit.inBlock, Exit.then])
  refine bodyPost_ret (results_row3 rfl _ _ w.heap.size _ _ _ _ rfl (heap_alloc_new _ _) Try.underlying39 rfl size_rec) rfl ⟨_, rfl, Own.nil _ _ _, below1 _ _⟩

/-- The bytes at a place, as the walk asks for them. -/
structure RG (w : World) (g off n c a : Nat) (F K M : Int) (L : Nat) : Prop where
  k0 : w.cell? ⟨g, off + a, none⟩ = some (.int .u8 F)
  k1 : w.cell? ⟨g, off + a + 1, none⟩ = some (.int .u8 K)
  hF : 0 ≤ F ∧ F ≤ 255
  hK : 0 ≤ K ∧ K ≤ 255
  hM : 0 ≤ M ∧ M ≤ 4294967295
  hL : L ≤ 65535
  g6 : ∀ W, Below w.heap.size w W → Calls Try.prog 139 #[.slice (some ⟨g, off + a, none⟩) (n - a) (c - a), .int .i64 6, .int .i64 2] W fun e w' => e = .returned (.tuple #[.int .u64 (L : Int), .int .i64 0]) ∧ W = w'
  g2 : ∀ W, Below w.heap.size w W → Calls Try.prog 139 #[.slice (some ⟨g, off + a, none⟩) (n - a) (c - a), .int .i64 2, .int .i64 4] W fun e w' => e = .returned (.tuple #[.int .u64 M, .int .i64 0]) ∧ W = w'
  hle : n ≤ 1099511627776
  hcap : n ≤ c
  hc : c ≤ 9223372036854775807
  h : a + 13 ≤ n
  hg : g < w.heap.size

set_option maxHeartbeats 1000000 in
theorem rp_letter {w : World} {g off n c a : Nat} {F K M : Int} {L : Nat} (R : RG w g off n c a F K M L) (hq : F ≠ 87) :
    Calls Try.prog 126 #[.slice (some ⟨g, off, none⟩) n c, .int .i64 (a : Int)] w (ParsesTo w (none_ 4)) := by
  obtain ⟨k0, k1, hF, hK, hM, hL, g6, g2, hle, hcap, hc, h, hg⟩ := R
  have hd : decide ((a : Int) < 0) = false := by simp
  have hd2 : decide (n < a) = false := by simp; omega
  have hd3 : decide ((n : Int) < (a : Int)) = false := by simp; omega
  have hq' : (F != 87) = true := by simp [hq]
  clear g6 g2 k1
  go_enter Try.func126, Try.ntmps126
  go_wp2_with fail
  (try simp only [Exit.inBlock, Exit.then])
  refine bodyPost_ret (results_row3 rfl _ _ w.heap.size _ _ _ _ rfl (heap_alloc_new _ _) Try.underlying39 rfl size_rec) rfl ?_
  exact ⟨_, rfl, Own.nil _ _ _, below1 _ _⟩

set_option maxHeartbeats 1000000 in
theorem rp_wrong {w : World} {g off n c a : Nat} {F K M : Int} {L : Nat} (R : RG w g off n c a F K M L) (hq : F = 87) (hE : err K M L ≠ 0) :
    Calls Try.prog 126 #[.slice (some ⟨g, off, none⟩) n c, .int .i64 (a : Int)] w (ParsesTo w (none_ 4)) := by
  obtain ⟨k0, k1, hF, hK, hM, hL, g6, g2, hle, hcap, hc, h, hg⟩ := R
  have hd : decide ((a : Int) < 0) = false := by simp
  have hd2 : decide (n < a) = false := by simp; omega
  have hd3 : decide ((n : Int) < (a : Int)) = false := by simp; omega
  have hq' : (F != 87) = false := by simp [hq]
  have h5 : ((K = 1 ∨ K = 2 ∧ L = 0) ∧ M ≠ 0) → 960 < L := by
    unfold err at hE
    split at hE
    · split at hE
      · intro _; assumption
      · omega
    · intro; contradiction
  clear hE
  have H5 := Lib.hid h5
  have G6 := Lib.hid g6
  have G2 := Lib.hid g2
  clear g6 g2 h5
  have hz0 : (w.alloc (.cells #[.int .i64 0, .int .u32 0, .slice none 0 0] 39)).heap.size = w.heap.size + 1 := World.size_alloc _ _
  go_enter Try.func126, Try.ntmps126
  go_wp2_with fail
  refine (G6.out _ (below1 _ _)).mono ?_
  rintro e w' ⟨rfl, rfl⟩
  go_wp2_with fail
  refine (G2.out _ (below1 _ _)).mono ?_
  rintro e w' ⟨rfl, rfl⟩
  go_wp2_with fail
  all_goals first
    | (exfalso; have := H5.out; simp only [beq_iff_eq, beq_eq_false_iff_ne, ne_eq, bne_eq_false_iff_eq] at *; omega)
    | ((try simp only [Exit.inBlock, Exit.then]);
       refine bodyPost_ret (results_row3 rfl _ _ w.heap.size _ _ _ _ rfl (heap_alloc2_old _ _ _) Try.underlying39 rfl size_rec) rfl ?_;
       exact ⟨_, rfl, Own.nil _ _ _, below2 _ _ _⟩)
    | trace_state

set_option maxHeartbeats 1000000 in
theorem rp_short {w : World} {g off n c a : Nat} {F K M : Int} {L : Nat} (R : RG w g off n c a F K M L) (hq : F = 87) (hE : err K M L = 0) (hs : n < a + 13 + L) :
    Calls Try.prog 126 #[.slice (some ⟨g, off, none⟩) n c, .int .i64 (a : Int)] w (ParsesTo w (none_ 2)) := by
  obtain ⟨k0, k1, hF, hK, hM, hL, g6, g2, hle, hcap, hc, h, hg⟩ := R
  have hd : decide ((a : Int) < 0) = false := by simp
  have hd2 : decide (n < a) = false := by simp; omega
  have hd3 : decide ((n : Int) < (a : Int)) = false := by simp; omega
  have hq' : (F != 87) = false := by simp [hq]
  obtain ⟨_, hM1, hL9⟩ := err_ok hE
  have hM0 : (M == 0) = false := by simp; omega
  have hK1 : K = 1 := by
    unfold err at hE
    split at hE
    · rename_i h0
      omega
    · omega
  clear hE
  subst hK1
  have G6 := Lib.hid g6
  have G2 := Lib.hid g2
  clear g6 g2
  have hz0 : (w.alloc (.cells #[.int .i64 0, .int .u32 0, .slice none 0 0] 39)).heap.size = w.heap.size + 1 := World.size_alloc _ _
  go_enter Try.func126, Try.ntmps126
  go_wp2_with fail
  refine (G6.out _ (below1 _ _)).mono ?_
  rintro e w' ⟨rfl, rfl⟩
  go_wp2_with fail
  refine (G2.out _ (below1 _ _)).mono ?_
  rintro e w' ⟨rfl, rfl⟩
  go_wp2_with fail
  (try simp only [Exit.inBlock, Exit.then])
  refine bodyPost_ret (results_row3 rfl _ _ w.heap.size _ _ _ _ rfl (heap_alloc2_old _ _ _) Try.underlying39 rfl size_rec) rfl ?_
  exact ⟨_, rfl, Own.nil _ _ _, below2 _ _ _⟩

/-- What a record comes to whose bytes are there: its sum, its commit. -/
def fin (S Y C K M : Int) (ds : List UInt8) (to : Int) : Out := if S ≠ Y then none_ 5 else if C ≠ 0 then none_ 8 else ⟨K, M, ds, to, 0⟩
theorem fin_5 {S Y C K M : Int} {ds : List UInt8} {to : Int} (h : ¬ S = Y) : fin S Y C K M ds to = none_ 5 := by unfold fin; rw [if_pos h]
theorem fin_8 {S Y C K M : Int} {ds : List UInt8} {to : Int} (h : S = Y) (hC : C ≠ 0) : fin S Y C K M ds to = none_ 8 := by unfold fin; rw [if_neg (by simp [h]), if_pos hC]
theorem fin_0 {S Y C K M : Int} {ds : List UInt8} {to : Int} (h : S = Y) (hC : C = 0) : fin S Y C K M ds to = ⟨K, M, ds, to, 0⟩ := by unfold fin; rw [if_neg (by simp [h]), if_neg (by simp [hC])]
/-- The tail of a record, as the walk asks for it. -/
structure RT (w : World) (g off n c a L : Nat) (S Y C : Int) (ds zs : List UInt8) : Prop where
  tj : ∀ W, Below w.heap.size w W → Calls Try.prog 80 #[.slice none 0 0, .slice (some ⟨g, off + a + 8, none⟩) L (c - a - 8)] W (Made 5 W ds id)
  topen : ∀ W, Below w.heap.size w W → Calls Try.prog 140 #[.slice (some ⟨g, off + a, none⟩) (L + 12) (c - a)] W (Ans 5 W (if S = Y then (zs, 0) else ([], 5)))
  kc : w.cell? ⟨g, off + a + (L + 12), none⟩ = some (.int .u8 C)
  hC : 0 ≤ C ∧ C ≤ 255
  hdl : ds.length = L
  hnl : a + 13 + L ≤ n
  hL9 : L ≤ 960
section
variable {S Y C : Int} {ds zs : List UInt8}

set_option maxHeartbeats 2000000 in
theorem rp_ok1 {w : World} {g off n c a : Nat} {F M : Int} {L : Nat} (R : RG w g off n c a F 1 M L) (T : RT w g off n c a L S Y C ds zs) (hq : F = 87) (hM1 : M ≠ 0) :
    Calls Try.prog 126 #[.slice (some ⟨g, off, none⟩) n c, .int .i64 (a : Int)] w (ParsesTo w (fin S Y C 1 M ds ((a + (13 + L) : Nat) : Int))) := by
  obtain ⟨k0, k1, hF, hK, hM, hL, g6, g2, hle, hcap, hc, h, hg⟩ := R
  obtain ⟨tj, topen, kc, hC, hdl, hnl, hL9⟩ := T
  have hd : decide ((a : Int) < 0) = false := by simp
  have hd2 : decide (n < a) = false := by simp; omega
  have hd3 : decide ((n : Int) < (a : Int)) = false := by simp; omega
  have hq' : (F != 87) = false := by simp [hq]
  have hM0 : (M == 0) = false := by simp; omega
  have G6 := Lib.hid g6
  have G2 := Lib.hid g2
  have TJ := Lib.hid tj
  have TO := Lib.hid topen
  have HL := Lib.hid hdl
  clear g6 g2 tj topen hdl
  have hs2 : ∀ o o', ((w.alloc o).alloc o').heap.size = w.heap.size + 2 := fun o o' => by rw [World.size_alloc, World.size_alloc]
  have HS2 := Lib.hid hs2
  clear hs2
  go_enter Try.func126, Try.ntmps126
  go_wp2_with fail
  refine (G6.out _ (below1 _ _)).mono ?_
  rintro e w' ⟨rfl, rfl⟩
  go_wp2_with fail
  refine (G2.out _ (below1 _ _)).mono ?_
  rintro e w' ⟨rfl, rfl⟩
  go_wp2_with fail
  refine (TJ.out _ (below2 _ _ _)).mono ?_
  rintro e w1 ⟨v1, rfl, o1, b1⟩
  obtain ⟨A1, c1, rfl, _⟩ := o1.form_n HL.out
  unfold id
  have rb := (b1.block (w.heap.size + 1) (by rw [HS2.out]; omega)).trans (heap_alloc2_new w _ _)
  have ra := (b1.block w.heap.size (by rw [HS2.out]; omega)).trans (heap_alloc2_old w _ _)
  have B1 := (below2 w _ _).trans (b1.mono (below2 w _ _).size)
  have z1 := b1.size
  rw [HS2.out] at z1 o1
  have c0 := cell_of rb 0
  have c1' := cell_of rb 1
  have c2' := cell_of rb 2
  have f2 := frozen_of_row _ _ 2 _ _ rb
  have rb2 := heap_setCell_same w1 (w.heap.size + 1) 2 _ _ (.slice A1 L c1) rb
  have ra2 := (heap_setCell_other w1 ⟨w.heap.size + 1, 2, none⟩ w.heap.size (.slice A1 L c1) (by show w.heap.size ≠ w.heap.size + 1; omega)).trans ra
  have B2 := B1.setCell (p := ⟨w.heap.size + 1, 2, none⟩) (by show w.heap.size ≤ w.heap.size + 1; omega) (.slice A1 L c1)
  have o2 : Own (w1.setCell ⟨w.heap.size + 1, 2, none⟩ (.slice A1 L c1)) (w.heap.size + 2) 5 (.slice A1 L c1) ds := by
    refine ⟨o1.1, ?_⟩
    rcases o1.2 with hn | ⟨g', cap, cur, hv, hbg, hgg, rest⟩
    · exact .inl hn
    · exact .inr ⟨g', cap, cur, hv, hbg, (heap_setCell_other w1 ⟨w.heap.size + 1, 2, none⟩ g' _ (by show g' ≠ w.heap.size + 1; omega)).trans hgg, rest⟩
  have z2 : w.heap.size + 2 ≤ (w1.setCell ⟨w.heap.size + 1, 2, none⟩ (.slice A1 L c1)).heap.size := by rw [World.size_setCell]; exact z1
  have rb3 : (w1.setCell ⟨w.heap.size + 1, 2, none⟩ (.slice A1 L c1)).heap[w.heap.size + 1]? = some (.cells #[.int .i64 1, .int .u32 M, .slice A1 L c1] 39) := rb2
  have X2 := Lib.hid ra2
  have X3 := Lib.hid rb3
  have X4 := Lib.hid o2
  have X5 := Lib.hid z2
  clear o1 b1 rb ra B1 HS2 z1 rb2 ra2 rb3 o2 z2
  go_wp2_with fail
  clear c0 c1' c2' f2
  refine (TO.out _ B2).mono ?_
  rintro e w3 ⟨v3, rfl, o3, b3⟩
  have ra := (b3.block w.heap.size (by have := X5.out; omega)).trans X2.out
  have rb := (b3.block (w.heap.size + 1) (by have := X5.out; omega)).trans X3.out
  have o4 := X4.out.below b3 (Nat.le_refl _)
  have B3 := B2.trans (b3.mono B2.size)
  clear X2 X3 X4 X5 B2 b3
  have kc3 := (B3.cell (p := ⟨g, off + a + (L + 12), none⟩) hg).trans kc
  have q0 := cell_of ra 0
  have q1 := cell_of ra 1
  have q2 := cell_of ra 2
  have y0 := frozen_of_row _ _ 0 _ _ ra
  have y1 := frozen_of_row _ _ 1 _ _ ra
  have y2 := frozen_of_row _ _ 2 _ _ ra
  by_cases hSY : S = Y
  · rw [if_pos hSY] at o3 ⊢
    obtain ⟨A3, c3, rfl, _⟩ := o3.form
    have HSY := Lib.hid hSY
    clear hSY o3
    by_cases hC0 : C ≠ 0
    · have hCb : (C != 0) = true := by simpa using hC0
      go_wp2_with fail
      (try simp only [Exit.inBlock, Exit.then])
      have P3 := put3_row ra B3 (Nat.le_refl _) (.int .i64 0) (.int .u32 0) (.slice none 0 0)
      refine bodyPost_ret (results_row3 rfl _ _ w.heap.size _ #[.int .i64 0, .int .u32 0, .slice none 0 0] _ _ rfl P3.2.1 Try.underlying39 rfl size_rec) rfl ?_
      rw [fin_8 HSY.out hC0]
      exact ⟨_, rfl, Own.nil _ _ _, P3.1⟩
    · have hCb : (C != 0) = false := by simpa using hC0
      have m0 := cell_of rb 0
      have m1 := cell_of rb 1
      have m2 := cell_of rb 2
      go_wp2_with fail
      (try simp only [Exit.inBlock, Exit.then])
      have P3 := put3_row ra B3 (Nat.le_refl _) (.int .i64 1) (.int .u32 M) (.slice A1 L c1)
      have oE : Own (put3 w3 w.heap.size (.int .i64 1) (.int .u32 M) (.slice A1 L c1)) w.heap.size 5 (.slice A1 L c1) ds := by
        refine ⟨o4.1, ?_⟩
        rcases o4.2 with hn | ⟨g', cap, cur, hv, hbg, hgg, rest⟩
        · exact .inl hn
        · exact .inr ⟨g', cap, cur, hv, by omega, (P3.2.2 g' (by omega)).trans hgg, rest⟩
      refine bodyPost_ret (results_row3 rfl _ _ w.heap.size _ #[.int .i64 1, .int .u32 M, .slice A1 L c1] _ _ rfl P3.2.1 Try.underlying39 rfl size_rec) rfl ?_
      rw [fin_0 HSY.out (by omega)]
      refine ⟨_, ?_, oE, P3.1⟩
      first
        | (simp; done)
        | (simp; omega)
  · rw [if_neg hSY] at o3 ⊢
    obtain ⟨A3, c3, rfl, _⟩ := o3.form
    have HSY := Lib.hid hSY
    clear hSY o3
    go_wp2_with fail
    (try simp only [Exit.inBlock, Exit.then])
    have P3 := put3_row ra B3 (Nat.le_refl _) (.int .i64 0) (.int .u32 0) (.slice none 0 0)
    refine bodyPost_ret (results_row3 rfl _ _ w.heap.size _ #[.int .i64 0, .int .u32 0, .slice none 0 0] _ _ rfl P3.2.1 Try.underlying39 rfl size_rec) rfl ?_
    rw [fin_5 HSY.out]
    exact ⟨_, rfl, Own.nil _ _ _, P3.1⟩


set_option maxHeartbeats 2000000 in
theorem rp_ok2 {w : World} {g off n c a : Nat} {F M : Int} (R : RG w g off n c a F 2 M 0) (T : RT w g off n c a 0 S Y C ds zs) (hq : F = 87) (hM1 : M ≠ 0) :
    Calls Try.prog 126 #[.slice (some ⟨g, off, none⟩) n c, .int .i64 (a : Int)] w (ParsesTo w (fin S Y C 2 M ds ((a + (13 + 0) : Nat) : Int))) := by
  obtain ⟨k0, k1, hF, hK, hM, hL, g6, g2, hle, hcap, hc, h, hg⟩ := R
  obtain ⟨tj, topen, kc, hC, hdl, hnl, hL9⟩ := T
  have hd : decide ((a : Int) < 0) = false := by simp
  have hd2 : decide (n < a) = false := by simp; omega
  have hd3 : decide ((n : Int) < (a : Int)) = false := by simp; omega
  have hq' : (F != 87) = false := by simp [hq]
  have hM0 : (M == 0) = false := by simp; omega
  have G6 := Lib.hid g6
  have G2 := Lib.hid g2
  have TJ := Lib.hid tj
  have topen' : ∀ W, Below w.heap.size w W → Calls Try.prog 140 #[.slice (some ⟨g, off + a, none⟩) 12 (c - a)] W (Ans 5 W (if S = Y then (zs, 0) else ([], 5))) := topen
  have TO := Lib.hid topen'
  clear topen'
  replace kc : w.cell? ⟨g, off + a + 12, none⟩ = some (.int .u8 C) := kc
  have HL := Lib.hid hdl
  clear g6 g2 tj topen hdl
  have hs2 : ∀ o o', ((w.alloc o).alloc o').heap.size = w.heap.size + 2 := fun o o' => by rw [World.size_alloc, World.size_alloc]
  have HS2 := Lib.hid hs2
  clear hs2
  go_enter Try.func126, Try.ntmps126
  go_wp2_with fail
  refine (G6.out _ (below1 _ _)).mono ?_
  rintro e w' ⟨rfl, rfl⟩
  go_wp2_with fail
  refine (G2.out _ (below1 _ _)).mono ?_
  rintro e w' ⟨rfl, rfl⟩
  go_wp2_with fail
  refine (TJ.out _ (below2 _ _ _)).mono ?_
  rintro e w1 ⟨v1, rfl, o1, b1⟩
  obtain ⟨A1, c1, rfl, _⟩ := o1.form_n HL.out
  unfold id
  have rb := (b1.block (w.heap.size + 1) (by rw [HS2.out]; omega)).trans (heap_alloc2_new w _ _)
  have ra := (b1.block w.heap.size (by rw [HS2.out]; omega)).trans (heap_alloc2_old w _ _)
  have B1 := (below2 w _ _).trans (b1.mono (below2 w _ _).size)
  have z1 := b1.size
  rw [HS2.out] at z1 o1
  have c0 := cell_of rb 0
  have c1' := cell_of rb 1
  have c2' := cell_of rb 2
  have f2 := frozen_of_row _ _ 2 _ _ rb
  have rb2 := heap_setCell_same w1 (w.heap.size + 1) 2 _ _ (.slice A1 0 c1) rb
  have ra2 := (heap_setCell_other w1 ⟨w.heap.size + 1, 2, none⟩ w.heap.size (.slice A1 0 c1) (by show w.heap.size ≠ w.heap.size + 1; omega)).trans ra
  have B2 := B1.setCell (p := ⟨w.heap.size + 1, 2, none⟩) (by show w.heap.size ≤ w.heap.size + 1; omega) (.slice A1 0 c1)
  have o2 : Own (w1.setCell ⟨w.heap.size + 1, 2, none⟩ (.slice A1 0 c1)) (w.heap.size + 2) 5 (.slice A1 0 c1) ds := by
    refine ⟨o1.1, ?_⟩
    rcases o1.2 with hn | ⟨g', cap, cur, hv, hbg, hgg, rest⟩
    · exact .inl hn
    · exact .inr ⟨g', cap, cur, hv, hbg, (heap_setCell_other w1 ⟨w.heap.size + 1, 2, none⟩ g' _ (by show g' ≠ w.heap.size + 1; omega)).trans hgg, rest⟩
  have z2 : w.heap.size + 2 ≤ (w1.setCell ⟨w.heap.size + 1, 2, none⟩ (.slice A1 0 c1)).heap.size := by rw [World.size_setCell]; exact z1
  have rb3 : (w1.setCell ⟨w.heap.size + 1, 2, none⟩ (.slice A1 0 c1)).heap[w.heap.size + 1]? = some (.cells #[.int .i64 2, .int .u32 M, .slice A1 0 c1] 39) := rb2
  have X2 := Lib.hid ra2
  have X3 := Lib.hid rb3
  have X4 := Lib.hid o2
  have X5 := Lib.hid z2
  clear o1 b1 rb ra B1 HS2 z1 rb2 ra2 rb3 o2 z2
  go_wp2_with fail
  clear c0 c1' c2' f2
  refine (TO.out _ B2).mono ?_
  rintro e w3 ⟨v3, rfl, o3, b3⟩
  have ra := (b3.block w.heap.size (by have := X5.out; omega)).trans X2.out
  have rb := (b3.block (w.heap.size + 1) (by have := X5.out; omega)).trans X3.out
  have o4 := X4.out.below b3 (Nat.le_refl _)
  have B3 := B2.trans (b3.mono B2.size)
  clear X2 X3 X4 X5 B2 b3
  have kc3 := (B3.cell (p := ⟨g, off + a + 12, none⟩) hg).trans kc
  have q0 := cell_of ra 0
  have q1 := cell_of ra 1
  have q2 := cell_of ra 2
  have y0 := frozen_of_row _ _ 0 _ _ ra
  have y1 := frozen_of_row _ _ 1 _ _ ra
  have y2 := frozen_of_row _ _ 2 _ _ ra
  by_cases hSY : S = Y
  · rw [if_pos hSY] at o3 ⊢
    obtain ⟨A3, c3, rfl, _⟩ := o3.form
    have HSY := Lib.hid hSY
    clear hSY o3
    by_cases hC0 : C ≠ 0
    · have hCb : (C != 0) = true := by simpa using hC0
      go_wp2_with fail
      (try simp only [Exit.inBlock, Exit.then])
      have P3 := put3_row ra B3 (Nat.le_refl _) (.int .i64 0) (.int .u32 0) (.slice none 0 0)
      refine bodyPost_ret (results_row3 rfl _ _ w.heap.size _ #[.int .i64 0, .int .u32 0, .slice none 0 0] _ _ rfl P3.2.1 Try.underlying39 rfl size_rec) rfl ?_
      rw [fin_8 HSY.out hC0]
      exact ⟨_, rfl, Own.nil _ _ _, P3.1⟩
    · have hCb : (C != 0) = false := by simpa using hC0
      have m0 := cell_of rb 0
      have m1 := cell_of rb 1
      have m2 := cell_of rb 2
      go_wp2_with fail
      (try simp only [Exit.inBlock, Exit.then])
      have P3 := put3_row ra B3 (Nat.le_refl _) (.int .i64 2) (.int .u32 M) (.slice A1 0 c1)
      have oE : Own (put3 w3 w.heap.size (.int .i64 2) (.int .u32 M) (.slice A1 0 c1)) w.heap.size 5 (.slice A1 0 c1) ds := by
        refine ⟨o4.1, ?_⟩
        rcases o4.2 with hn | ⟨g', cap, cur, hv, hbg, hgg, rest⟩
        · exact .inl hn
        · exact .inr ⟨g', cap, cur, hv, by omega, (P3.2.2 g' (by omega)).trans hgg, rest⟩
      refine bodyPost_ret (results_row3 rfl _ _ w.heap.size _ #[.int .i64 2, .int .u32 M, .slice A1 0 c1] _ _ rfl P3.2.1 Try.underlying39 rfl size_rec) rfl ?_
      rw [fin_0 HSY.out (by omega)]
      refine ⟨_, ?_, oE, P3.1⟩
      first
        | (simp; done)
        | (simp; omega)
  · rw [if_neg hSY] at o3 ⊢
    obtain ⟨A3, c3, rfl, _⟩ := o3.form
    have HSY := Lib.hid hSY
    clear hSY o3
    go_wp2_with fail
    (try simp only [Exit.inBlock, Exit.then])
    have P3 := put3_row ra B3 (Nat.le_refl _) (.int .i64 0) (.int .u32 0) (.slice none 0 0)
    refine bodyPost_ret (results_row3 rfl _ _ w.heap.size _ #[.int .i64 0, .int .u32 0, .slice none 0 0] _ _ rfl P3.2.1 Try.underlying39 rfl size_rec) rfl ?_
    rw [fin_5 HSY.out]
    exact ⟨_, rfl, Own.nil _ _ _, P3.1⟩

theorem fin_parse {bs : List UInt8} {a : Nat} (h : a + 13 + lenAt bs a ≤ bs.length) (hF : Oct.num bs a 1 = 87) (hE : err (kindAt bs a) (numAt bs a) (lenAt bs a) = 0) :
    parseA bs a = fin (Oct.num bs (a + 8 + lenAt bs a) 4) ((Sum.on 0 ((bs.drop a).take (8 + lenAt bs a)) : Nat) : Int) (Oct.num bs (a + 12 + lenAt bs a) 1) (kindAt bs a) (numAt bs a) ((bs.drop (a + 8)).take (lenAt bs a)) ((a + (13 + lenAt bs a) : Nat) : Int) := by
  rw [parse_at (by omega), if_neg (by omega), if_neg (by omega)]
  rfl

set_option maxHeartbeats 1000000 in
theorem rparse_any (A : Option Addr) (n c : Nat) (at_ : Int) (bs : List UInt8) (w : World) (hr : Rd w w.heap.size A bs) (hn : n = bs.length) (hle : n ≤ 1099511627776) (hcap : n ≤ c) (hc : c ≤ maxLen) (h1 : -9223372036854775808 ≤ at_) (h2 : at_ ≤ 9223372036854775807) :
    Calls Try.prog 126 #[.slice A n c, .int .i64 at_] w (ParsesTo w (parseA bs at_)) := by
  by_cases h : at_ < 0 ∨ (n : Int) < at_
  · rw [parse_1 (by rw [← hn]; exact h)]
    exact rparse_out A n c at_ w h1 h2 hle h
  obtain ⟨a, rfl⟩ := Int.eq_ofNat_of_zero_le (show 0 ≤ at_ by omega)
  by_cases hs : n < a + 13
  · rw [parse_2 (by omega) (by omega)]
    exact rparse_short A n c a w hle (by omega) hs
  subst hn
  obtain ⟨g, off, rfl, hg, hcell⟩ : ∃ g off, A = some ⟨g, off, none⟩ ∧ g < w.heap.size ∧ ∀ j, j < bs.length → w.cell? ⟨g, off + j, none⟩ = some (.int .u8 (byt bs j)) := by
    rcases hr with e | ⟨g, off, e, hg, hcs⟩
    · rw [e] at hs; simp at hs
    · exact ⟨g, off, e, hg, hcs⟩
  have hxl : (bs.drop a).length = bs.length - a := by simp
  have hx : Rd w w.heap.size (some ⟨g, off + a, none⟩) (bs.drop a) := by
    have := hr.part (i := a) (m := bs.length - a) (by omega)
    rwa [List.take_of_length_le (by simp)] at this
  unfold maxLen at hc
  have R : RG w g off bs.length c a (Oct.num bs a 1) (kindAt bs a) (numAt bs a) (lenAt bs a) := by
    refine ⟨?_, ?_, num_255 bs a, num_255 bs (a + 1), num_32 bs (a + 2), ?_, fun W b => ?_, fun W b => ?_, hle, hcap, by omega, by omega, hg⟩
    · rw [num_one]; exact hcell a (by omega)
    · unfold kindAt
      rw [num_one]; exact hcell (a + 1) (by omega)
    · have := num_16 bs (a + 6)
      rw [len_at] at this
      omega
    · have := rget_ok (some ⟨g, off + a, none⟩) (bs.length - a) (c - a) _ (bs.drop a) 6 2 W (hx.below b) hxl.symm (by omega) (by omega) (by omega) (by omega) (by omega)
      rwa [show (6 : Int).toNat = 6 from rfl, show (2 : Int).toNat = 2 from rfl, num_drop, len_at] at this
    · have := rget_ok (some ⟨g, off + a, none⟩) (bs.length - a) (c - a) _ (bs.drop a) 2 4 W (hx.below b) hxl.symm (by omega) (by omega) (by omega) (by omega) (by omega)
      rwa [show (2 : Int).toNat = 2 from rfl, show (4 : Int).toNat = 4 from rfl, num_drop] at this
  by_cases hF : Oct.num bs a 1 = 87
  · by_cases hE : err (kindAt bs a) (numAt bs a) (lenAt bs a) = 0
    · by_cases hL : bs.length < a + 13 + lenAt bs a
      · have := rp_short R hF hE hL
        rwa [show parseA bs a = none_ 2 by rw [parse_at (by omega), if_neg (by omega), if_pos (by omega)]]
      · obtain ⟨_, hM1, hL9⟩ := err_ok hE
        have T : RT w g off bs.length c a (lenAt bs a) (Oct.num bs (a + 8 + lenAt bs a) 4) ((Sum.on 0 ((bs.drop a).take (8 + lenAt bs a)) : Nat) : Int) (Oct.num bs (a + 12 + lenAt bs a) 1) ((bs.drop (a + 8)).take (lenAt bs a)) ((bs.drop a).take (8 + lenAt bs a)) := by
          refine ⟨fun W b => ?_, fun W b => ?_, ?_, num_255 bs _, by simp; omega, by omega, hL9⟩
          · have r8 := hr.part (i := a + 8) (m := lenAt bs a) (by omega)
            rw [← Nat.add_assoc] at r8
            exact join_any none (some ⟨g, off + a + 8, none⟩) 0 (lenAt bs a) 0 (c - a - 8) 0 [] _ W Rd.nil ((r8.below b).mono b.size) rfl (by simp; omega) (by omega) (by omega)
          · have r8 := hr.part (i := a) (m := lenAt bs a + 12) (by omega)
            have := ropen_any (some ⟨g, off + a, none⟩) (lenAt bs a + 12) (c - a) _ W ((r8.below b).mono b.size) (by simp; omega) (by omega) (by omega) (by unfold maxLen; omega)
            rwa [open_at (by omega)] at this
          · rw [num_one, Nat.add_assoc off, show a + (lenAt bs a + 12) = a + 12 + lenAt bs a by omega]
            exact hcell _ (by omega)
        rw [fin_parse (by omega) hF hE]
        have hK : kindAt bs a = 1 ∨ kindAt bs a = 2 ∧ lenAt bs a = 0 := by
          unfold err at hE
          split at hE
          · rename_i h0; exact h0.1
          · omega
        rcases hK with hK | ⟨hK, hL0⟩
        · rw [hK] at R ⊢
          exact rp_ok1 R T hF hM1
        · rw [hK] at R ⊢
          rw [hL0] at R T ⊢
          exact rp_ok2 R T hF hM1
    · have := rp_wrong R hF hE
      rwa [show parseA bs a = none_ 4 by rw [parse_at (by omega), if_pos (.inr hE)]]
  · have := rp_letter R hF
    rwa [show parseA bs a = none_ 4 by rw [parse_at (by omega), if_pos (.inl hF)]]

end
end Rec
end Go.Proofs.Ytkkbjngjjeajoaa
