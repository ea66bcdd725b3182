/-
  The fixed calls that every statement of layer 8 makes come out as they must.
-/
import Derived.Test.YtfiojimppbaihaaSecPick
import Derived.Test.YtfiojimppbaihaaSecLaid
import Derived.Test.YtfiojimppbaihaaRecRef
import Derived.Lib.SlBytesConst
namespace Go.Proofs.Ytfiojimppbaihaa
namespace Sec
open Go.RowKit Mem Rec
set_option linter.unusedVariables false
set_option linter.unusedSimpArgs false

theorem RdL.mono {W : World} {B B' : Nat} {A : Option Addr} {ls : List Lv} (h : RdL W B A ls) (hB : B ≤ B') : RdL W B' A ls := by
  rcases h with h | ⟨g, off, e, hg, hc⟩
  · exact .inl h
  · exact .inr ⟨g, off, e, by omega, hc⟩
theorem six_flat : ∀ (ls : List Lv) (j i : Nat), j < ls.length → i < 6 → ((ls.map fun l => l.vals.toList).flatten)[j * 6 + i]? = (ls.getD j Lv.zero).vals[i]? := by
  intro ls
  induction ls with
  | nil => intro j i h; simp at h
  | cons l r ih =>
    intro j i hj hi
    have h6 : l.vals.toList.length = 6 := rfl
    cases j with
    | zero =>
      simp only [List.map_cons, List.flatten_cons, Nat.zero_mul, Nat.zero_add]
      rw [List.getElem?_append_left (by omega)]
      simp
    | succ j =>
      simp only [List.map_cons, List.flatten_cons]
      rw [List.getElem?_append_right (by omega), h6, show (j + 1) * 6 + i - 6 = j * 6 + i by omega, ih j i (by simpa using hj) hi]
      simp
theorem RdL.new (w : World) (t : TypeId) (ls : List Lv) {cs : Array Value} (h : cs.toList = (ls.map fun l => l.vals.toList).flatten) : RdL (w.alloc (.cells cs t)) (w.heap.size + 1) (some ⟨w.heap.size, 0, none⟩) ls := by
  refine .inr ⟨w.heap.size, 0, rfl, by omega, fun j hj i hi => ?_⟩
  have := six_flat ls j i hj hi
  rw [← h] at this
  rw [← this, cell_of (heap_alloc_new w (.cells cs t)) (0 + j * 6 + i), Nat.zero_add, Array.getElem?_toList]

theorem RdL.new2 (w : World) (t : TypeId) (ls : List Lv) {cs : Array Value} (o : Obj) (h : cs.toList = (ls.map fun l => l.vals.toList).flatten) : RdL ((w.alloc (.cells cs t)).alloc o) ((w.alloc (.cells cs t)).alloc o).heap.size (some ⟨w.heap.size, 0, none⟩) ls := by
  have h1 := RdL.new w t ls h
  have h2 := below1 (w.alloc (.cells cs t)) o
  rw [World.size_alloc] at h2
  exact (h1.below h2).mono (by simp only [World.size_alloc]; omega)
theorem RdI.new (w : World) (t : TypeId) (a b : Int) : RdI .i64 (w.alloc (.cells #[.int .i64 a, .int .i64 b] t)) (w.alloc (.cells #[.int .i64 a, .int .i64 b] t)).heap.size (some ⟨w.heap.size, 0, none⟩) [a, b] := by
  refine .inr ⟨w.heap.size, 0, rfl, by rw [World.size_alloc]; omega, fun j hj => ?_⟩
  have h0 := cell_of (heap_alloc_new w (.cells #[.int .i64 a, .int .i64 b] t)) j
  rw [Nat.zero_add, h0]
  simp at hj
  rcases (by omega : j = 0 ∨ j = 1) with rfl | rfl <;> rfl

/-- So many ones. -/
def onesL (n : Nat) : List UInt8 := List.replicate n 255
theorem onesL_succ (n : Nat) : onesL (n + 1) = onesL n ++ [255] := List.replicate_succ'
theorem onesL_len (n : Nat) : (onesL n).length = n := List.length_replicate

set_option maxRecDepth 100000 in
set_option maxHeartbeats 1000000 in
theorem blankL_any (n : Nat) (w : World) (hn : n ≤ 1099511627776) : Calls Try.prog 15 #[.int .i64 (n : Int)] w (Made 5 w (onesL n) id) := by
  obtain ⟨i0, hi, hz0, hz1, hz2⟩ := info_parts info_u8
  have hi := Lib.hid hi
  have hz0 := Lib.hid hz0
  have hz1 := Lib.hid hz1
  have hz2 := Lib.hid hz2
  go_enter Try.func15, Try.ntmps15
  go_wp2_with fail
  go_loopw [3, 4] (fun v i wr => ∃ k : Nat, k ≤ n ∧ i = .int .i64 (k : Int) ∧ Own wr w.heap.size 5 v (onesL k) ∧ Below w.heap.size w wr) (fun _ i _ => n - (intOf i).toNat)
  case atStart => exact ⟨0, Nat.zero_le _, rfl, Own.nil _ _ _, Below.refl _ _⟩
  case round =>
    obtain ⟨k, hk, rfl, hown, hb⟩ := hrel
    have hlen := onesL_len k
    by_cases hlt : k < n
    · have HS := Lib.hid (onesL_succ k)
      have hbs := hb.size
      go_wp2_with (at_builtin; refine wpList_app _ rfl (.tmp 10) (.tmp 11) 22 rfl w.heap.size 5 i0 Try.underlying22 hi.out hz0.out hz1.out hz2.out _ (onesL k) rfl (hown.alloc _) (some ⟨wr.heap.size, 0, none⟩) 1 1 [255] rfl rfl (wr.heap.size + 1) (Rd.new1 _ _ rfl) (by rw [hlen]; simp; omega) (alloc_le hbs _) ?_; intro v1 w1 o1 g1 t1; have b1 : Below w.heap.size w w1 := (hb.alloc hbs _).grown g1 (alloc_le hbs _) (fun g hg => (hown.lt g hg).1); have O1 := Lib.hid o1; have B1 := Lib.hid b1; clear o1 b1 g1 t1)
      go_roundw
      case rel => exact ⟨k + 1, by omega, by go_num, by rw [HS.out]; exact O1.out, B1.out⟩
      case measure => simp [intOf]; omega
    · obtain rfl : k = n := by omega
      go_wp2_with fail
      go_ret
      exact ⟨_, rfl, hown, hb⟩

theorem look_blank (n : Nat) : look (onesL n) = Lk.zero := look_ones (by
  cases n with
  | zero => exact .inr rfl
  | succ n => exact .inl rfl)
theorem blank_blank (n : Nat) : blankB (onesL n) = true := by
  unfold blankB onesL
  rw [List.all_eq_true]
  intro x hx
  rw [List.eq_of_mem_replicate hx]
  rfl
theorem look_one : look (build 1 5 [97]) = ⟨1, 5, [97], 1, 14⟩ := by
  have h := look_laid (a := onesL 14) (R := []) (k := 1) (n := 5) (d := [97]) rfl (by omega) (fun h => by rw [look_blank] at h; exact absurd h (by decide)) (by rw [look_blank]; rfl) (fun x h => by cases h)
  rw [look_blank] at h
  simpa [Lk.zero] using h

def lz (A : Option Addr) (c : Nat) : Lv := ⟨0, 0, A, 0, c, 0, 0, true⟩
def lm (A : Option Addr) (c : Nat) : Lv := ⟨1, 5, A, 1, c, 1, 14, true⟩
theorem nst_3 (A A' c c') : nst [lz A c, lz A c, lm A' c'] 3 = some 2 := rfl
theorem nst_2 (A A' c c') : nst [lz A c, lm A' c'] 2 = some 1 := rfl
theorem nxt_3 (A A' c c') : nxt [lz A c, lz A c, lm A' c'] [3, 2] [] (some 2) 3 = some 1 := rfl

set_option maxRecDepth 100000 in
set_option maxHeartbeats 2000000 in
theorem known_any (w : World) : Calls Try.prog 5 #[] w fun e w' => e = .returned (.bool true) ∧ Below w.heap.size w w' := by
  have HB := Lib.hid (blankL_any 1024 w (by omega))
  have BD := Lib.hid (fun W : World => rbuild_ok 1 5 (some ⟨W.heap.size, 0, none⟩) 1 [97] (W.alloc (.cells #[.int .u8 97] 5 (1, 2))) (Rd.newL W 5 [97] rfl) (by omega) (by omega) (by omega) (by omega) (by simp) (by decide))
  go_enter Try.func5, Try.ntmps5
  go_wp2_with fail
  refine HB.out.mono ?_
  rintro e w1 ⟨v1, rfl, o1, b1⟩
  unfold id
  obtain ⟨g, cap, hv, hb, hg, hc1, hc2⟩ := o1.some_ (by rw [onesL_len]; omega)
  obtain ⟨A1, c1, hv', r1⟩ := o1.form_n (onesL_len 1024)
  rw [onesL_len] at hv hc1
  subst hv
  injection hv' with q1 q2 q3
  subst q1
  clear q2 q3 o1 HB
  have P : Hid (Calls Try.prog 7 #[.slice (some ⟨g, 0, none⟩) 1024 cap] w1 fun e w' => ∃ v, e = .returned (.agg #[.int .i64 0, .int .u32 0, v, .int .i64 0, .int .i64 0, .bool true]) ∧ Own w' w1.heap.size 5 v [] ∧ Below w1.heap.size w1 w') := by
    have := of_any (some ⟨g, 0, none⟩) 1024 cap (onesL 1024) w1 r1 (onesL_len _).symm (by omega) hc1 hc2
    unfold LooksTo at this
    rw [look_blank, show (onesL 1024).drop Lk.zero.e = onesL 1024 from rfl, blank_blank] at this
    exact this
  go_wp2_with fail
  refine P.out.mono ?_
  rintro e w2 ⟨v2, rfl, o2, b2⟩
  obtain ⟨A2, c2, rfl, _⟩ := o2.form_n (show ([] : List UInt8).length = 0 from rfl)
  have B2 := b1.trans (b2.mono b1.size)
  clear P r1 o2 b2 b1
  have rz := heap_alloc_new w2 (.cells #[.int .i64 0, .int .u32 0, .slice A2 0 c2, .int .i64 0, .int .i64 0, .bool true] 29)
  have bz := below1 w2 (.cells #[.int .i64 0, .int .u32 0, .slice A2 0 c2, .int .i64 0, .int .i64 0, .bool true] 29)
  have hz3 : w2.heap.size < (w2.alloc (.cells #[.int .i64 0, .int .u32 0, .slice A2 0 c2, .int .i64 0, .int .i64 0, .bool true] 29)).heap.size := by rw [World.size_alloc]; omega
  have B3 := B2.trans (bz.mono B2.size)
  clear B2 bz
  have cw : ∀ C n c, (convert 22 22 (.slice (some ⟨w2.heap.size + 1, 0, none⟩) n c)).run Try.prog ((w2.alloc (.cells #[.int .i64 0, .int .u32 0, .slice A2 0 c2, .int .i64 0, .int .i64 0, .bool true] 29)).alloc (.cells C 5)) = .ok (.slice (some ⟨w2.heap.size + 1, 0, none⟩) n c) ((w2.alloc (.cells #[.int .i64 0, .int .u32 0, .slice A2 0 c2, .int .i64 0, .int .i64 0, .bool true] 29)).alloc (.cells C 5 (C.size, C.size + 1))) := fun C n c => by
    have := Lib.run_convert_bytes_const (P := Try.prog) (w2.alloc (.cells #[.int .i64 0, .int .u32 0, .slice A2 0 c2, .int .i64 0, .int .i64 0, .bool true] 29)) 22 5 C n c Try.underlying22 Try.underlying5
    rwa [World.size_alloc] at this
  have BD' := BD.out (w2.alloc (.cells #[.int .i64 0, .int .u32 0, .slice A2 0 c2, .int .i64 0, .int .i64 0, .bool true] 29))
  rw [World.size_alloc] at BD'
  have BD'' := Lib.hid BD'
  clear BD BD'
  go_wp2_with fail
  refine BD''.out.mono ?_
  rintro e w4 ⟨v4, rfl, o4, b4⟩
  have r4 := (b4.block w2.heap.size (by simp only [World.size_alloc]; omega)).trans ((Below.heap_alloc _ _ _ hz3).trans rz)
  have B4 := (B3.alloc B3.size (.cells #[.int .u8 97] 5 (1, 2))).trans (b4.mono ((B3.alloc B3.size _).size))
  have Z4 := b4.size
  simp only [World.size_alloc] at Z4
  have hl14 : (build 1 5 [97]).length = 14 := by rw [build_length]; rfl
  obtain ⟨g4, cap4, hv4, hb4, hg4, hc41, hc42⟩ := o4.some_ (by omega)
  obtain ⟨A4, c4, hv4', rd4⟩ := o4.form_n hl14
  rw [hl14] at hv4 hc41
  subst hv4
  injection hv4' with q1 q2 q3
  subst q1
  clear q2 q3 o4 rz hz3 B3 b4
  have P : Hid (Calls Try.prog 7 #[.slice (some ⟨g4, 0, none⟩) 14 cap4] w4 fun e w' => ∃ v, e = .returned (.agg #[.int .i64 1, .int .u32 5, v, .int .i64 1, .int .i64 14, .bool true]) ∧ Own w' w4.heap.size 5 v [97] ∧ Below w4.heap.size w4 w') := by
    have := of_any (some ⟨g4, 0, none⟩) 14 cap4 (build 1 5 [97]) w4 rd4 hl14.symm (by omega) hc41 hc42
    unfold LooksTo at this
    rw [look_one] at this
    exact this
  go_wp2_with fail
  refine P.out.mono ?_
  rintro e w5 ⟨v5, rfl, o5, b5⟩
  obtain ⟨A5, c5, rfl, _⟩ := o5.form_n (show ([97] : List UInt8).length = 1 from rfl)
  have B5 := B4.trans (b5.mono B4.size)
  have rz5 := (b5.block w2.heap.size (by omega)).trans r4
  have Z5 := b5.size
  clear P rd4 o5 b5 B4 r4
  have rm := heap_alloc_new w5 (.cells #[.int .i64 1, .int .u32 5, .slice A5 1 c5, .int .i64 1, .int .i64 14, .bool true] 29)
  have B6 := B5.alloc B5.size (.cells #[.int .i64 1, .int .u32 5, .slice A5 1 c5, .int .i64 1, .int .i64 14, .bool true] 29)
  have rz6 := (Below.heap_alloc w5 (.cells #[.int .i64 1, .int .u32 5, .slice A5 1 c5, .int .i64 1, .int .i64 14, .bool true] 29) _ (show w2.heap.size < w5.heap.size by omega)).trans rz5
  have hz6 : (w5.alloc (.cells #[.int .i64 1, .int .u32 5, .slice A5 1 c5, .int .i64 1, .int .i64 14, .bool true] 29)).heap.size = w5.heap.size + 1 := World.size_alloc _ _
  have x0 := cell_of rz6 0
  have m0 := cell_of rm 0
  have x1 := cell_of rz6 1
  have m1 := cell_of rm 1
  have x2 := cell_of rz6 2
  have m2 := cell_of rm 2
  have x3 := cell_of rz6 3
  have m3 := cell_of rm 3
  have x4 := cell_of rz6 4
  have m4 := cell_of rm 4
  have x5 := cell_of rz6 5
  have m5 := cell_of rm 5
  have HN : Hid (Calls Try.prog 16 #[.slice (some ⟨w5.heap.size + 1, 0, none⟩) 3 3, .slice (some ⟨w5.heap.size + 1 + 1, 0, none⟩) 2 2, .slice none 0 0] (((w5.alloc (.cells #[.int .i64 1, .int .u32 5, .slice A5 1 c5, .int .i64 1, .int .i64 14, .bool true] 29)).alloc (.cells #[.int .i64 0, .int .u32 0, .slice A2 0 c2, .int .i64 0, .int .i64 0, .bool true, .int .i64 0, .int .u32 0, .slice A2 0 c2, .int .i64 0, .int .i64 0, .bool true, .int .i64 1, .int .u32 5, .slice A5 1 c5, .int .i64 1, .int .i64 14, .bool true] 29)).alloc (.cells #[.int .i64 3, .int .i64 2] 3))
      fun e w' => e = .returned (.tuple #[.int .i64 1, .bool true]) ∧ Below (w5.heap.size + 1) (w5.alloc (.cells #[.int .i64 1, .int .u32 5, .slice A5 1 c5, .int .i64 1, .int .i64 14, .bool true] 29)) w') := by
    have h1 := RdL.new2 (w5.alloc (.cells #[.int .i64 1, .int .u32 5, .slice A5 1 c5, .int .i64 1, .int .i64 14, .bool true] 29)) 29 [lz A2 c2, lz A2 c2, lm A5 c5] (cs := #[.int .i64 0, .int .u32 0, .slice A2 0 c2, .int .i64 0, .int .i64 0, .bool true, .int .i64 0, .int .u32 0, .slice A2 0 c2, .int .i64 0, .int .i64 0, .bool true, .int .i64 1, .int .u32 5, .slice A5 1 c5, .int .i64 1, .int .i64 14, .bool true]) (.cells #[.int .i64 3, .int .i64 2] 3) rfl
    have h2 := RdI.new ((w5.alloc (.cells #[.int .i64 1, .int .u32 5, .slice A5 1 c5, .int .i64 1, .int .i64 14, .bool true] 29)).alloc (.cells #[.int .i64 0, .int .u32 0, .slice A2 0 c2, .int .i64 0, .int .i64 0, .bool true, .int .i64 0, .int .u32 0, .slice A2 0 c2, .int .i64 0, .int .i64 0, .bool true, .int .i64 1, .int .u32 5, .slice A5 1 c5, .int .i64 1, .int .i64 14, .bool true] 29)) 3 3 2
    have h3 := next_any _ _ none 3 2 0 [lz A2 c2, lz A2 c2, lm A5 c5] [3, 2] [] _ h1 (by simp) h2 (.inl rfl) (by simp) (by simp)
    simp only [World.size_alloc] at h3
    refine h3.mono ?_
    rintro e w' ⟨rfl, b⟩
    exact ⟨rfl, (((Below.refl _ _).alloc (by simp) _).alloc (by simp) _).trans (b.mono (by omega))⟩
  have HM : Hid (∀ W : World, Calls Try.prog 17 #[.slice (some ⟨W.heap.size, 0, none⟩) 2 2] (W.alloc (.cells #[.int .i64 0, .int .u32 0, .slice A2 0 c2, .int .i64 0, .int .i64 0, .bool true, .int .i64 1, .int .u32 5, .slice A5 1 c5, .int .i64 1, .int .i64 14, .bool true] 29)) fun e w' => e = .returned (.tuple #[.int .i64 1, .bool true]) ∧ Below W.heap.size W w') := by
    intro W
    have h := newest_any (some ⟨W.heap.size, 0, none⟩) 2 [lz A2 c2, lm A5 c5] (W.alloc (.cells #[.int .i64 0, .int .u32 0, .slice A2 0 c2, .int .i64 0, .int .i64 0, .bool true, .int .i64 1, .int .u32 5, .slice A5 1 c5, .int .i64 1, .int .i64 14, .bool true] 29)) (by
      rw [World.size_alloc]
      exact RdL.new W 29 [lz A2 c2, lm A5 c5] rfl) (by simp)
    refine h.mono ?_
    rintro e w' ⟨rfl, b⟩
    exact ⟨rfl, (below1 W _).trans (b.mono (by rw [World.size_alloc]; omega))⟩
  have HR1 : Hid (∀ W : World, Calls Try.prog 18 #[.agg #[.int .i64 0, .int .u32 0, .slice A2 0 c2, .int .i64 0, .int .i64 0, .bool true], .int .i64 960] W fun e w' => e = .returned (.bool true) ∧ Below W.heap.size W w') := fun W => room_any (lz A2 c2) 960 W (by omega) (by omega) (by simp [lz]) (by simp [lz])
  have HR2 : Hid (∀ W : World, Calls Try.prog 18 #[.agg #[.int .i64 0, .int .u32 0, .slice A2 0 c2, .int .i64 0, .int .i64 0, .bool true], .int .i64 1020] W fun e w' => e = .returned (.bool false) ∧ Below W.heap.size W w') := fun W => room_any (lz A2 c2) 1020 W (by omega) (by omega) (by simp [lz]) (by simp [lz])
  go_wp2_with fail
  refine HN.out.mono ?_
  rintro e w7 ⟨rfl, b7⟩
  have rz7 := (b7.block w2.heap.size (by omega)).trans rz6
  have rm7 := (b7.block w5.heap.size (by omega)).trans rm
  have B7 := B6.trans (b7.mono (by have := B5.size; omega))
  have Z7 := b7.size
  rw [hz6] at Z7
  clear x0 m0 x1 m1 x2 m2 x3 m3 x4 m4 x5 m5
  have x0 := cell_of rz7 0
  have m0 := cell_of rm7 0
  have x1 := cell_of rz7 1
  have m1 := cell_of rm7 1
  have x2 := cell_of rz7 2
  have m2 := cell_of rm7 2
  have x3 := cell_of rz7 3
  have m3 := cell_of rm7 3
  have x4 := cell_of rz7 4
  have m4 := cell_of rm7 4
  have x5 := cell_of rz7 5
  have m5 := cell_of rm7 5
  clear HN rz6 rm b7 B6
  go_wp2_with fail
  refine (HM.out _).mono ?_
  rintro e w8 ⟨rfl, b8⟩
  have rz8 := (b8.block w2.heap.size (by omega)).trans rz7
  have rm8 := (b8.block w5.heap.size (by omega)).trans rm7
  have B8 := B7.trans (b8.mono B7.size)
  have Z8 := b8.size
  clear x0 m0 x1 m1 x2 m2 x3 m3 x4 m4 x5 m5
  have x0 := cell_of rz8 0
  have m0 := cell_of rm8 0
  have x1 := cell_of rz8 1
  have m1 := cell_of rm8 1
  have x2 := cell_of rz8 2
  have m2 := cell_of rm8 2
  have x3 := cell_of rz8 3
  have m3 := cell_of rm8 3
  have x4 := cell_of rz8 4
  have m4 := cell_of rm8 4
  have x5 := cell_of rz8 5
  have m5 := cell_of rm8 5
  clear HM rz7 rm7 b8 B7
  go_wp2_with fail
  refine (HR1.out _).mono ?_
  rintro e w9 ⟨rfl, b9⟩
  have rz9 := (b9.block w2.heap.size (by omega)).trans rz8
  have B9 := B8.trans (b9.mono B8.size)
  clear x0 m0 x1 m1 x2 m2 x3 m3 x4 m4 x5 m5
  have x0 := cell_of rz9 0
  have x1 := cell_of rz9 1
  have x2 := cell_of rz9 2
  have x3 := cell_of rz9 3
  have x4 := cell_of rz9 4
  have x5 := cell_of rz9 5
  clear HR1 rz8 rm8 b9 B8
  go_wp2_with fail
  refine (HR2.out _).mono ?_
  rintro e w10 ⟨rfl, b10⟩
  have B10 := B9.trans (b10.mono B9.size)
  go_wp2_with fail
  go_ret
  exact ⟨rfl, B10⟩

end Sec
end Go.Proofs.Ytfiojimppbaihaa
