/-
  What the document's functions for package record do: Right, put, Build, Parse, Same.
-/
import Derived.Test.YtkkbjngjjeajoaaProg
import Derived.Test.YtkkbjngjjeajoaaRecParse
import Derived.Test.YtkkbjngjjeajoaaSumRef
import Derived.Lib.SlBytesConst
import Derived.Deep.RegionHeld
namespace Go.Proofs.Ytkkbjngjjeajoaa
namespace Rec
open Go.RowKit Mem
set_option linter.unusedVariables false

set_option maxHeartbeats 400000 in
theorem rright_any (k n : Int) (A : Option Addr) (l c : Nat) (w : World) (k1 : -9223372036854775808 ≤ k) (k2 : k ≤ 9223372036854775807) (n1 : 0 ≤ n) (n2 : n ≤ 4294967295) (hl : l ≤ 140737488355328) :
    Calls Try.prog 77 #[rec_ k n (.slice A l c)] w fun e w' => e = .returned (.int .i64 (err k n l)) ∧ Below w.heap.size w w' := by
  have h : ∀ z : Int, (z = 1 ∧ ¬ ((k = 1 ∨ k = 2 ∧ l = 0) ∧ n ≠ 0)) ∨ (((k = 1 ∨ k = 2 ∧ l = 0) ∧ n ≠ 0) ∧ (960 < l ∧ z = 3 ∨ ¬ 960 < l ∧ z = 0)) → (Ending.returned (.int .i64 z) = .returned (.int .i64 (err k n l))) := by
    intro z hz
    unfold err
    split
    · split
      · rw [show z = 3 by omega]
      · rw [show z = 0 by omega]
    · rw [show z = 1 by omega]
  have H := Lib.hid h
  clear h
  go_enter Try.func77, Try.ntmps77
  go_wp2_with fail
  all_goals
    go_ret
    refine ⟨H.out _ ?_, (Below.refl _ _).alloc (Nat.le_refl _) _⟩
    clear H
    simp only [beq_iff_eq, beq_eq_false_iff_ne, ne_eq] at *
    simp only [true_and, and_true]
    omega

set_option maxHeartbeats 400000 in
theorem rput7_any (A : Option Addr) (n c : Nat) (bs : List UInt8) (wd num : Int) (w : World) (hr : Rd w w.heap.size A bs) (hn : n = bs.length) (hle : n ≤ 1099511627776)
    (h1 : 1 ≤ wd) (h2 : wd ≤ 8) (h3 : 0 ≤ num) (h4 : num < 256 ^ wd.toNat) :
    Calls Try.prog 78 #[.slice A n c, .int .i64 wd, .int .u64 num] w (Made 5 w (bs ++ Oct.bytes num wd.toNat) id) := by
  have H := Lib.hid (rput_ok A n c bs wd num w hr hn hle h1 h2 h3 h4)
  generalize bs ++ Oct.bytes num wd.toNat = T at *
  clear hr hn h4
  go_enter Try.func78, Try.ntmps78
  go_wp2_with fail
  refine H.out.mono ?_
  rintro e w2 ⟨v2, rfl, o2, b2⟩
  unfold pairOk
  go_wp2_with fail
  go_ret
  exact ⟨_, rfl, o2, b2⟩

theorem Rc.out {W : World} {p : Nat} {k n : Int} {v : Value} (h : Rc W p k n v) : W.cell? ⟨p, 0, none⟩ = some (.int .i64 k) ∧ W.cell? ⟨p, 1, none⟩ = some (.int .u32 n) ∧ W.cell? ⟨p, 2, none⟩ = some v := h
/-- 'string(a) == string(b)' as a bool. -/
def sameB (k n : Int) (d : List UInt8) (k' n' : Int) (d' : List UInt8) : Bool := (k == k') && (n == n') && (d == d')
set_option maxHeartbeats 400000 in
theorem same_any (k n k' n' : Int) (A A' : Option Addr) (c c' B : Nat) (d d' : List UInt8) (w : World) (hr : Rd w B A d) (hr' : Rd w B A' d') (hB : B ≤ w.heap.size) :
    Calls Try.prog 19 #[rec_ k n (.slice A d.length c), rec_ k' n' (.slice A' d'.length c')] w fun e w' => e = .returned (.bool (sameB k n d k' n' d')) ∧ Below w.heap.size w w' := by
  have b0 : ∀ o o', Below w.heap.size w ((w.alloc o).alloc o') := fun o o' => below2 w o o'
  have s1 : ∀ o o', (convert 22 9 (.slice A d.length c)).run Try.prog ((w.alloc o).alloc o') = .ok (.string ⟨d.toArray⟩) ((w.alloc o).alloc o') := fun o o' => run_str (hr.below ((b0 o o').mono hB)) d.length c rfl 22 5 9 Try.underlying22 Try.underlying5 Try.underlying9
  have s2 : ∀ o o', (convert 22 9 (.slice A' d'.length c')).run Try.prog ((w.alloc o).alloc o') = .ok (.string ⟨d'.toArray⟩) ((w.alloc o).alloc o') := fun o o' => run_str (hr'.below ((b0 o o').mono hB)) d'.length c' rfl 22 5 9 Try.underlying22 Try.underlying5 Try.underlying9
  go_enter Try.func19, Try.ntmps19
  go_wp2_with fail
  all_goals
    go_ret
    refine ⟨?_, below2 _ _ _⟩
    unfold sameB
    simp [*]

set_option maxHeartbeats 400000 in
theorem rbuild_no (k n : Int) (A : Option Addr) (c : Nat) (d : List UInt8) (w : World) (k1 : -9223372036854775808 ≤ k) (k2 : k ≤ 9223372036854775807) (n1 : 0 ≤ n) (n2 : n ≤ 4294967295) (hl : d.length ≤ 140737488355328) (he : err k n d.length ≠ 0) :
    Calls Try.prog 53 #[rec_ k n (.slice A d.length c)] w fun e w' => e = .returned (.tuple #[.slice none 0 0, .int .i64 (err k n d.length)]) ∧ Below w.heap.size w w' := by
  have H := Lib.hid (fun W => rright_any k n A d.length c W k1 k2 n1 n2 hl)
  have he' : (err k n d.length != 0) = true := by simp [he]
  generalize err k n d.length = E at *
  go_enter Try.func53, Try.ntmps53
  go_wp2_with fail
  refine (H.out _).mono ?_
  rintro e w2 ⟨rfl, b2⟩
  have B2 := ((Below.refl w.heap.size w).alloc (Nat.le_refl _) _).trans (b2.mono (by simp))
  go_wp2_with fail
  go_ret2
  exact ⟨rfl, B2⟩

set_option maxHeartbeats 1000000 in
set_option maxRecDepth 100000 in
theorem rbuild_ok (k n : Int) (A : Option Addr) (c : Nat) (d : List UInt8) (w : World) (hr : Rd w w.heap.size A d) (k1 : -9223372036854775808 ≤ k) (k2 : k ≤ 9223372036854775807) (n1 : 0 ≤ n) (n2 : n ≤ 4294967295) (hl : d.length ≤ 140737488355328) (he : err k n d.length = 0) :
    Calls Try.prog 53 #[rec_ k n (.slice A d.length c)] w (Made 5 w (build k n d) (fun v => .tuple #[v, .int .i64 0])) := by
  obtain ⟨i0, hi, hz0, hz1, hz2⟩ := info_parts info_u8
  have cv := fun (w : World) (C : Array Value) (n c : Nat) => Lib.run_convert_bytes_const (P := Try.prog) w 22 5 C n c Try.underlying22 Try.underlying5
  have H := Lib.hid (fun W => rright_any k n A d.length c W k1 k2 n1 n2 hl)
  have hE := err_ok he
  rw [he] at H
  obtain ⟨hk, hn, hd⟩ := hE
  have R0 := Lib.hid (Rc.new w k n (.slice A d.length c) 39)
  have hk8 : 0 ≤ k ∧ k < 256 := by omega
  clear hk he
  go_enter Try.func53, Try.ntmps53
  go_wp2_with fail
  refine (H.out _).mono ?_
  rintro e w2 ⟨rfl, b2⟩
  have R2 := R0.out.kept (b2.block _ (by simp))
  have B2 := ((Below.refl w.heap.size w).alloc (Nat.le_refl _) _).trans (b2.mono (by simp))
  have hz := b2.size
  simp only [World.size_alloc] at hz
  have Y0 : ∀ o, Rc (w2.alloc o).drew w.heap.size k n (.slice A d.length c) := fun o => R2.kept (Below.heap_alloc w2 o _ hz)
  have wk : IntKind.u64.wrap k = k := by rw [IntKind.wrap_u64]; omega
  have wn : IntKind.u64.wrap n = n := by rw [IntKind.wrap_u64]; omega
  have wl : IntKind.u64.wrap (d.length : Int) = (d.length : Int) := by rw [IntKind.wrap_u64]; omega
  have P1 : ∀ A c W (h : Rd W W.heap.size A [87]), Calls Try.prog 78 #[.slice A 1 c, .int .i64 1, .int .u64 (IntKind.u64.wrap k)] W (Made 5 W ([87] ++ Oct.bytes k 1) id) := fun A c W h => by
    rw [wk]
    exact rput7_any A 1 c [87] 1 k W h rfl (by omega) (by omega) (by omega) (by omega) (show k < 256 ^ 1 by omega)
  have P2 : ∀ A c W (h : Rd W W.heap.size A ([87] ++ Oct.bytes k 1)), Calls Try.prog 78 #[.slice A 2 c, .int .i64 4, .int .u64 (IntKind.u64.wrap n)] W (Made 5 W ([87] ++ Oct.bytes k 1 ++ Oct.bytes n 4) id) := fun A c W h => by
    rw [wn]
    exact rput7_any A 2 c _ 4 n W h (by simp [Oct.bytes_length]) (by omega) (by omega) (by omega) (by omega) (show n < 256 ^ 4 by omega)
  have P3 : ∀ A c W (h : Rd W W.heap.size A ([87] ++ Oct.bytes k 1 ++ Oct.bytes n 4)), Calls Try.prog 78 #[.slice A 6 c, .int .i64 2, .int .u64 (IntKind.u64.wrap (d.length : Int))] W (Made 5 W ([87] ++ Oct.bytes k 1 ++ Oct.bytes n 4 ++ Oct.bytes (d.length : Int) 2) id) := fun A c W h => by
    rw [wl]
    exact rput7_any A 6 c _ 2 (d.length : Int) W h (by simp [Oct.bytes_length]) (by omega) (by omega) (by omega) (by omega) (show (d.length : Int) < 256 ^ 2 by omega)
  replace P1 := Lib.hid P1
  replace P2 := Lib.hid P2
  replace P3 := Lib.hid P3
  clear wk wn wl
  have hB : build k n d = Sum.seal_ (((([87] : List UInt8) ++ Oct.bytes k 1) ++ Oct.bytes n 4) ++ Oct.bytes (d.length : Int) 2 ++ d) ++ [0] := rfl
  have l1 : (([87] : List UInt8) ++ Oct.bytes k 1).length = 2 := by simp [Oct.bytes_length]
  have l2 : (([87] : List UInt8) ++ Oct.bytes k 1 ++ Oct.bytes n 4).length = 6 := by simp [Oct.bytes_length]
  have l3 : (([87] : List UInt8) ++ Oct.bytes k 1 ++ Oct.bytes n 4 ++ Oct.bytes (d.length : Int) 2).length = 8 := by simp [Oct.bytes_length]
  have HB := Lib.hid hB
  clear hB
  generalize ([87] : List UInt8) ++ Oct.bytes k 1 ++ Oct.bytes n 4 ++ Oct.bytes (d.length : Int) 2 = T3 at *
  generalize ([87] : List UInt8) ++ Oct.bytes k 1 ++ Oct.bytes n 4 = T2 at *
  generalize ([87] : List UInt8) ++ Oct.bytes k 1 = T1 at *
  have cw : ∀ C n c, (convert 22 22 (.slice (some ⟨w2.heap.size, 0, none⟩) n c)).run Try.prog (w2.alloc (.cells C 5)).drew = .ok (.slice (some ⟨w2.heap.size, 0, none⟩) n c) (w2.alloc (.cells C 5 (C.size, C.size + 1))).drew := fun C n c => cv w2.drew C n c
  have X2 := (show Rc w2.drew w.heap.size k n (.slice A d.length c) from R2).out
  have X0 : ∀ o, _ := fun o => (Y0 o).out
  have rd0 : Rd (w2.alloc (.cells #[.int .u8 87] 5 (1, 2))).drew (w2.alloc (.cells #[.int .u8 87] 5 (1, 2))).drew.heap.size (some ⟨w2.heap.size, 0, none⟩) [87] := (Rd.newL w2 5 [87] rfl).drew
  have P1' := Lib.hid (P1.out _ 1 _ rd0)
  have Y0' := Lib.hid (Y0 (.cells #[.int .u8 87] 5 (1, 2)))
  have hz' := Lib.hid (show w.heap.size < (w2.alloc (.cells #[.int .u8 87] 5 (1, 2))).drew.heap.size by
    show w.heap.size < (w2.alloc (.cells #[.int .u8 87] 5 (1, 2))).heap.size
    rw [World.size_alloc]
    omega)
  clear rd0 P1
  go_wp2_with fail
  go_region_held (fun W => W.cell? ⟨w.heap.size, 0, none⟩ = some (.int .i64 k) ∧ W.cell? ⟨w.heap.size, 1, none⟩ = some (.int .u32 n) ∧ W.cell? ⟨w.heap.size, 2, none⟩ = some (.slice A d.length c)) (first | with_reducible exact X2 | with_reducible exact X1 | with_reducible exact X2' | with_reducible exact X3 | with_reducible exact X0 _) (first
    | (go_at_call_of 78 (Value.int .i64 1); refine P1'.out.mono ?_; rintro e w3 ⟨v1, rfl, o1, b3⟩; obtain ⟨A1, c1', rfl, r1⟩ := o1.form_n l1; have Y1 := Y0'.out.kept (b3.block _ hz'.out); have X1 := Y1.out; have z3 := b3.size; unfold id)
    | (go_at_call_of 78 (Value.int .i64 4); refine (P2.out A1 c1' _ r1).mono ?_; rintro e w4 ⟨v2, rfl, o2, b4⟩; obtain ⟨A2, c2', rfl, r2⟩ := o2.form_n l2; have Y2 := Y1.kept (b4.block _ (by have := hz'.out; omega)); have X2' := Y2.out; have z4 := b4.size; unfold id)
    | (go_at_call_of 78 (Value.int .i64 2); refine (P3.out A2 c2' _ r2).mono ?_; rintro e w5 ⟨v3, rfl, o3, b5⟩; obtain ⟨A3, c3', rfl, r3⟩ := o3.form_n l3; have Y3 := Y2.kept (b5.block _ (by have := hz'.out; omega)); have X3 := Y3.out; have z5 := b5.size; unfold id))
  have z1' := hz'.out
  have haz : (w2.alloc (.cells #[.int .u8 87] 5 (1, 2))).drew.heap.size = w2.heap.size + 1 := World.size_alloc _ _
  have hw2 : Below w2.heap.size w2 w3 := ⟨b3.os, b3.tape, b3.output, Nat.le_trans (by omega) b3.size, fun i hi => (b3.block i (by omega)).trans (Below.heap_alloc w2 _ i hi)⟩
  have B5 := (((B2.trans (hw2.mono B2.size)).trans (b4.mono (Nat.le_trans B2.size hw2.size))).trans (b5.mono (Nat.le_trans (Nat.le_trans B2.size hw2.size) z4)))
  have ⟨f0, f1, f2⟩ := X3
  have rj := (hr.below B5).mono B5.size
  have hd' : d.length ≤ 1099511627776 := by omega
  have hl3 := Lib.hid l3
  have hjl := Lib.hid (show (T3 ++ d).length = d.length + 8 by simp [l3]; omega)
  clear X2 X1 X2' X3 X0 Y0 Y1 Y2 Y0' o1 o2 r1 r2 b3 b4 b5 b2 hw2 P1' P2 P3 l1 l2 l3 R2 z3 z4 z5 hz cw cv
  go_wp2_with fail
  refine (join_any A3 A 8 d.length c3' c 0 T3 d w5 r3 rj hl3.out.symm rfl (by omega) hd').mono ?_
  rintro e w6 ⟨v6, rfl, o6, b6⟩
  have B6 := B5.trans (b6.mono B5.size)
  obtain ⟨A6, c6, rfl, r6⟩ := o6.form_n hjl.out
  unfold id
  clear o6 b6 f0 f1 f2 rj r3
  go_wp2_with fail
  refine (rseal_any A6 (d.length + 8) c6 (T3 ++ d) w6 r6 hjl.out.symm (by omega)).mono ?_
  rintro e w7 ⟨v7, rfl, o7, b7⟩
  have hsl : (Sum.seal_ (T3 ++ d)).length = d.length + 12 := by rw [Sum.seal_length, hjl.out]
  obtain ⟨A7, c7, rfl, r7⟩ := o7.form_n hsl
  have B7 := B6.trans (b7.mono B6.size)
  have o7' := o7.lower B6.size
  generalize Sum.seal_ (T3 ++ d) = S at *
  have hSl := Lib.hid hsl
  clear hsl b7 r6 r7 o7
  unfold id
  go_wp2_with (at_builtin; refine wpList_app _ rfl _ _ 22 rfl w.heap.size 5 i0 Try.underlying22 hi hz0 hz1 hz2 (.slice A7 (d.length + 12) c7) S rfl (o7'.alloc _) (some ⟨w7.heap.size, 0, none⟩) 1 1 [0] rfl rfl (w7.heap.size + 1) (Rd.new1 _ _ (by rfl)) (by rw [hSl.out]; simp; omega) (alloc_le B7.size _) ?_; intro v8 w8 o8 g8 t8)
  have B8 := (B7.alloc B7.size _).grown g8 (alloc_le B7.size _) (fun g hg => (o7'.lt g hg).1)
  go_wp2_with fail
  go_ret2
  rw [HB.out]
  exact ⟨_, rfl, o8, B8⟩

end Rec
end Go.Proofs.Ytkkbjngjjeajoaa
