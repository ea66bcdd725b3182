/-
  What an operation does to the bytes: erasing and programming, whole and torn.
-/
import Derived.Test.YtkkbjngjjeajoaaFlaFns
import Derived.RegionTactic
import Derived.ChangeAlike
import Derived.Laws.Bits
namespace Go.Proofs.Ytkkbjngjjeajoaa
namespace Fla
open Go.RowKit Mem
set_option linter.unusedVariables false

section
variable {w : World} {p D c : Nat} {s : Fl}
theorem and_byte (x b : UInt8) : bits .and .u8 (x.toNat : Int) (b.toNat : Int) = ((x &&& b).toNat : Int) := by
  have h1 := x.toNat_lt
  have h2 := b.toNat_lt
  rw [u8_and_nat _ _ (by omega) (by omega), UInt8.toNat_and]
theorem pwhole_any (k : Nat) (b : UInt8) (h : IsF w p D c s) (hk : k < s.bs.length) :
    Calls Try.prog 105 #[.agg #[.pointer (some ⟨D, k, none⟩), .int .u8 (b.toNat : Int)]] w fun e w' => e = .returned (.tuple #[]) ∧ IsF w' p D c (s.with_ (s.bs.set k (s.bs.getD k 0 &&& b))) ∧ Far p D w w' := by
  have hc := h.cb hk
  have hf := h.freeD k
  have hlt := h.ltD
  have H := Lib.hid h
  clear h
  go_enter Try.func105, Try.ntmps105
  go_wp2_with fail
  go_region
  all_goals (go_end0; exact ⟨rfl, ((H.out.setD k (and_byte _ b)).alloc _).drew, (((Far.refl _ _ _).set_D _ _).alloc _).drew⟩)
theorem not_byte (m : Int) (h0 : 0 ≤ m) : bits .xor .u8 (if IntKind.u8.signed = true then -1 else IntKind.u8.max) (m % 256) = ((~~~ (UInt8.ofNat m.toNat)).toNat : Int) := by
  have e1 : (if IntKind.u8.signed = true then (-1 : Int) else IntKind.u8.max) = ((255 : Nat) : Int) := by decide
  have e2 : m % 256 = (((UInt8.ofNat m.toNat).toNat : Nat) : Int) := by rw [UInt8.toNat_ofNat']; omega
  rw [e1, e2, u8_xor_nat _ _ (by decide) (UInt8.ofNat m.toNat).toNat_lt]
  generalize UInt8.ofNat m.toNat = y
  have h : (255 : UInt8) ^^^ y = ~~~ y := by
    apply UInt8.eq_of_toBitVec_eq
    simp only [UInt8.toBitVec_xor, UInt8.toBitVec_not]
    rw [show (255 : UInt8).toBitVec = BitVec.allOnes 8 from rfl, BitVec.allOnes_xor]
  rw [← h, UInt8.toNat_xor]
  rfl
theorem or_byte (x b : UInt8) : bits .or .u8 (x.toNat : Int) (b.toNat : Int) = ((x ||| b).toNat : Int) := by
  have h1 := x.toNat_lt
  have h2 := b.toNat_lt
  rw [u8_or_nat _ _ (by omega) (by omega), UInt8.toNat_or]
theorem torn_byte (x b : UInt8) (m : Int) (h0 : 0 ≤ m) : bits .and .u8 (x.toNat : Int) (bits .or .u8 (b.toNat : Int) (bits .xor .u8 (if IntKind.u8.signed = true then -1 else IntKind.u8.max) (m % 256))) = ((tornB x b m).toNat : Int) := by
  rw [not_byte m h0, or_byte, and_byte]
  rfl
theorem ptorn_any (k : Nat) (b : UInt8) (m : Int) (m0 : 0 ≤ m) (m1 : m ≤ 4294967295) (h : IsF w p D c s) (hk : k < s.bs.length) :
    Calls Try.prog 106 #[.agg #[.pointer (some ⟨D, k, none⟩), .int .u8 (b.toNat : Int)], .int .u32 m] w fun e w' => e = .returned (.tuple #[]) ∧ IsF w' p D c (s.with_ (s.bs.set k (tornB (s.bs.getD k 0) b m))) ∧ Far p D w w' := by
  have hc := h.cb hk
  have hf := h.freeD k
  have hlt := h.ltD
  have H := Lib.hid h
  clear h
  go_enter Try.func106, Try.ntmps106
  go_wp2_with fail
  go_region
  all_goals (go_end0; exact ⟨rfl, ((H.out.setD k (torn_byte _ b m m0)).alloc _).drew, (((Far.refl _ _ _).set_D _ _).alloc _).drew⟩)

theorem ones_zero (bs : List UInt8) (a : Nat) : ones bs a 0 = bs := by simp [ones]
theorem ones_step {bs : List UInt8} {a k : Nat} (h : a + k < bs.length) : (ones bs a k).set (a + k) 255 = ones bs a (k + 1) := by
  apply List.ext_getElem
  · rw [List.length_set, ones_length (by omega), ones_length (by omega)]
  · intro i h1 h2
    rw [List.getElem_set]
    simp only [ones, List.append_assoc, List.getElem_append, List.length_take, List.length_replicate, List.getElem_replicate, List.getElem_take, List.getElem_drop]
    have hm : min a bs.length = a := by omega
    simp only [hm]
    by_cases hi : a + k = i
    · subst hi
      rw [if_pos rfl, dif_neg (by omega), dif_pos (by omega)]
    · rw [if_neg hi]
      by_cases h3 : i < a
      · rw [dif_pos h3, dif_pos h3]
      · rw [dif_neg h3, dif_neg h3]
        by_cases h4 : i - a < k
        · rw [dif_pos h4, dif_pos (by omega)]
        · rw [dif_neg h4, dif_neg (by omega)]
          congr 1
          omega
theorem cell_new (w : World) (v : Value) (t : TypeId) : (w.alloc (.cells #[v] t)).cell? ⟨w.heap.size, 0, none⟩ = some v := by simp only [World.cell?, heap_alloc_new]; rfl
theorem heap_size_grown {w w' : World} {r : Option Nat} (h : w.grownBy w' r) : w.heap.size ≤ w'.heap.size := h.size
theorem IsF.grown {w w' : World} (h : IsF w p D c s) (hg : w.grownBy w' (some D)) {b : List UInt8} (hb : b.length = s.bs.length) (ho : Own w' 0 E (.slice (some ⟨D, 0, none⟩) s.bs.length c) b) : IsF w' p D c (s.with_ b) := by
  refine ⟨?_, by rw [with_length, hb]; exact ho, h.ne, h.cap, by rw [with_length, hb]; exact h.ge, h.ok.with_ hb⟩
  rw [hg.block p h.lt (fun e => h.ne (by cases e; rfl)), h.blk]
  simp [Fl.cells, Fl.with_, hb]
theorem Far.of_grown {w w' : World} (hg : w.grownBy w' (some D)) : Far p D w w' := ⟨hg.os, hg.tape, hg.output, hg.size, fun k hk _ h2 => hg.block k hk (fun e => h2 (by cases e; rfl))⟩

set_option maxHeartbeats 1000000 in
theorem ewhole_any (N a n cc : Nat) (bs : List UInt8) (w : World) (ho : Own w 0 E (.slice (some ⟨D, 0, none⟩) N c) bs) (hN : N = bs.length) (hn : a + n ≤ N) (hle : N ≤ 8192) :
    Calls Try.prog 69 #[.agg #[.slice (some ⟨D, a, none⟩) n cc]] w fun e w' => e = .returned (.tuple #[]) ∧ Own w' 0 E (.slice (some ⟨D, 0, none⟩) N c) (ones bs a n) ∧ w.grownBy w' (some D) := by
  have HD : Hid (D < w.heap.size) := Lib.hid (ho.lt D rfl).2
  have HO := Lib.hid ho
  have HN := Lib.hid hN
  have hn' : n ≤ 8192 := by omega
  have hln : a + n ≤ bs.length := by omega
  clear ho hN hle
  go_enter Try.func69, Try.ntmps69
  go_wp2_with fail
  go_loopw [6] (fun i wr => ∃ k : Nat, k ≤ n ∧ i = .int .i64 (k : Int) ∧ Own wr 0 E (.slice (some ⟨D, 0, none⟩) N c) (ones bs a k) ∧ w.grownBy wr (some D) ∧ wr.cell? ⟨w.heap.size, 0, none⟩ = some (.slice (some ⟨D, a, none⟩) n cc)) (fun i _ => n - (intOf i).toNat)
  case atStart => exact ⟨0, Nat.zero_le _, rfl, by rw [ones_zero]; exact HO.out.alloc _, World.grownBy_alloc _ _ _, cell_new _ _ _⟩
  case round =>
    obtain ⟨k, hk, rfl, hown, hg, hcl⟩ := hrel
    by_cases hlt : k < n
    · have hl1 : (ones bs a k).length = bs.length := ones_length (by omega)
      have hl2 : N = (ones bs a k).length := by rw [hl1]; exact HN.out
      have hfree := hown.free hl2 (a + k)
      have hcell := hown.cell hl2 (j := a + k) (by omega)
      have hst := hown.store hl2 (a + k) (x := 255) (b := 255) rfl
      rw [ones_step (by omega)] at hst
      have HST := Lib.hid hst
      have HG := Lib.hid hg
      have hne : w.heap.size ≠ D := by have := HD.out; omega
      clear hl1 hl2 hst hg hown
      go_wp2_with fail
      go_roundw
      case rel => exact ⟨k + 1, by omega, by go_num, HST.out, grown_far HG.out (.inl rfl) _, by
        have := Below.heap_setCell wr ⟨D, a + k, none⟩ (.int .u8 255) w.heap.size hne
        unfold World.cell? at hcl ⊢
        rw [this]
        exact hcl⟩
      case measure => simp [intOf]; omega
    · obtain rfl : k = n := by omega
      have HOW := Lib.hid hown
      have HG := Lib.hid hg
      clear hown hg
      go_wp2_with fail
      go_end0
      exact ⟨rfl, HOW.out, HG.out⟩
theorem etorn_any (N a cc : Nat) (m : Int) (m0 : 0 ≤ m) (m1 : m ≤ 4294967295) (bs : List UInt8) (w : World) (ho : Own w 0 E (.slice (some ⟨D, 0, none⟩) N c) bs) (hN : N = bs.length) (hn : a + 1024 ≤ N) (hle : N ≤ 8192) (hcc1 : 1024 ≤ cc) (hcc2 : cc ≤ maxLen) :
    Calls Try.prog 123 #[.agg #[.slice (some ⟨D, a, none⟩) 1024 cc], .int .u32 m] w fun e w' => e = .returned (.tuple #[]) ∧ Own w' 0 E (.slice (some ⟨D, 0, none⟩) N c) (ones bs a (m.toNat % 1025)) ∧ w.grownBy w' (some D) := by
  unfold maxLen at hcc2
  have H1 := Lib.hid (fun W h => ewhole_any (D := D) (c := c) N a (m.toNat % 1025) cc bs W h hN (by omega) hle)
  have HO := Lib.hid ho
  clear ho hN hn hle
  obtain ⟨k, rfl⟩ : ∃ k : Nat, m = (k : Int) := ⟨m.toNat, by omega⟩
  rw [Int.toNat_natCast] at *
  go_enter Try.func123, Try.ntmps123
  go_wp2_with fail
  refine (H1.out _ (HO.out.alloc _)).mono ?_
  rintro e w1 ⟨rfl, o1, g1⟩
  have O1 := Lib.hid o1
  have G1 := Lib.hid g1
  clear o1 g1
  go_wp2_with fail
  go_end0
  exact ⟨rfl, O1.out, grown_trans (World.grownBy_alloc _ _ _) G1.out⟩
end
end Fla
end Go.Proofs.Ytkkbjngjjeajoaa
