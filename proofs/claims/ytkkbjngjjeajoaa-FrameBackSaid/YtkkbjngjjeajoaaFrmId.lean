/-
  A text cut at a byte; an Id's digits there and back.
-/
import Derived.Test.YtkkbjngjjeajoaaFrmFns
import Derived.Laws.RangeAny
import Derived.Laws.Cover4
import Derived.Lib.IndexLaws
import Derived.RegionTactic
import Derived.BigQuiet
import Derived.Deep.QuietTactic
namespace Go.Proofs.Ytkkbjngjjeajoaa
namespace Frm
open Go.RowKit Mem
set_option linter.unusedVariables false
set_option maxRecDepth 100000

/-- What stands ahead of the first c, and behind it. -/
def cutL (l : List UInt8) (c : UInt8) : List UInt8 := l.takeWhile (· != c)
def cutR (l : List UInt8) (c : UInt8) : List UInt8 := (l.dropWhile (· != c)).drop 1
theorem index_in (l : List UInt8) (c : UInt8) : (l.contains c = true ∧ Lib.indexByte l c = ((cutL l c).length : Int) ∧ (cutL l c).length < l.length ∧ l.take (cutL l c).length = cutL l c ∧ l.drop ((cutL l c).length + 1) = cutR l c) ∨ (l.contains c = false ∧ Lib.indexByte l c = -1 ∧ cutL l c = l ∧ cutR l c = []) := by
  induction l with
  | nil => exact .inr ⟨rfl, rfl, rfl, rfl⟩
  | cons b l ih =>
    have e : Lib.indexByte (b :: l) c = if b == c then 0 else if Lib.indexByte l c == -1 then -1 else Lib.indexByte l c + 1 := by rw [Lib.indexByte]
    rw [e]
    unfold cutL cutR at *
    by_cases h : b = c
    · subst h
      left
      simp
    · have hb : (b == c) = false := by simpa using h
      have hn : (b != c) = true := by simpa using h
      have hc : (c == b) = false := by simpa using fun e => h e.symm
      simp only [hb, List.takeWhile_cons, List.dropWhile_cons, hn, if_true, List.contains_cons, hc, Bool.false_or, Bool.false_eq_true, if_false]
      rcases ih with ⟨h1, h2, h3, h4, h5⟩ | ⟨h1, h2, h3, h4⟩
      · left
        refine ⟨h1, ?_, by simpa using h3, by simpa using h4, by simpa using h5⟩
        rw [h2, if_neg (by simp)]
        simp
      · right
        refine ⟨h1, ?_, by rw [h3], h4⟩
        rw [h2]
        rfl

def cutV (l : List UInt8) (c : UInt8) : Value := .tuple #[.string ⟨(cutL l c).toArray⟩, .string ⟨(cutR l c).toArray⟩, .bool (l.contains c)]

set_option maxHeartbeats 400000 in
theorem cut0_any (l : List UInt8) (c : UInt8) (w : World) (hl : l.length ≤ 1099511627776) :
    Calls Try.prog 95 #[.string ⟨l.toArray⟩, .string ⟨#[c]⟩] w fun e w' => e = .returned (cutV l c) ∧ ∃ n, w' = w.drewN n := by
  unfold cutV
  rcases index_in l c with ⟨h1, h2, h3, h4, h5⟩ | ⟨h1, h2, h3, h4⟩
  · have H := Lib.hid h4
    have H5 := Lib.hid h5
    rw [h1, ← h4, ← h5]
    have K := Lib.hid (fun W => Try.stringslite_Index_one ⟨l.toArray⟩ c W)
    clear h1 h4 h5
    have hs : (⟨l.toArray⟩ : ByteArray).size = l.length := by simp [ByteArray.size]
    have I2 := Lib.hid h2
    clear h2
    have f1 : ∀ W, (Instr.slice 9 (.string ⟨l.toArray⟩) none (some (.int .i64 (((cutL l c).length : Nat) : Int))) none).run Try.prog W = .ok (.string ⟨(l.take (cutL l c).length).toArray⟩) W := by
      intro W
      rw [run_slice_string_to_if (P := Try.prog) W 9 ⟨l.toArray⟩ .i64 _ Try.underlying9, if_pos ⟨by omega, by rw [hs]; omega⟩]
      congr 2
      simp [ByteArray.ext_iff]
    have f2 : ∀ W, (Instr.slice 9 (.string ⟨l.toArray⟩) (some (.int .i64 ((((cutL l c).length : Nat) : Int) + 1))) none none).run Try.prog W = .ok (.string ⟨(l.drop ((cutL l c).length + 1)).toArray⟩) W := by
      intro W
      rw [run_slice_string_from_if (P := Try.prog) W 9 ⟨l.toArray⟩ .i64 _ Try.underlying9, if_pos ⟨by omega, by rw [hs]; omega⟩]
      congr 2
      rw [show (((cutL l c).length : Int) + 1).toNat = (cutL l c).length + 1 by omega, hs]
      simp [ByteArray.ext_iff]
      rw [List.take_of_length_le (by simp)]
    have F1 := Lib.hid f1
    have F2 := Lib.hid f2
    clear f1 f2 hs
    generalize l.take (cutL l c).length = L1 at *
    generalize l.drop ((cutL l c).length + 1) = L2 at *
    generalize (cutL l c).length = k at *
    go_enter Try.func95, Try.ntmps95
    go_wp2_with (go_at_call 116; refine (K.out _).mono ?_; rintro e w' ⟨rfl, rfl⟩; rw [show Lib.indexByte (⟨l.toArray⟩ : ByteArray).data.toList c = _ from I2.out])
    have f1 := F1.out
    have f2 := F2.out
    go_quiet (fail)
    go_wp2_with fail
    go_ret3
    exact ⟨rfl, _, rfl⟩
  · have K := Lib.hid (fun W => Try.stringslite_Index_one ⟨l.toArray⟩ c W)
    have I2 := Lib.hid h2
    rw [h1, h3, h4]
    clear h1 h2 h3 h4
    go_enter Try.func95, Try.ntmps95
    go_wp2_with (go_at_call 116; refine (K.out _).mono ?_; rintro e w' ⟨rfl, rfl⟩; rw [show Lib.indexByte (⟨l.toArray⟩ : ByteArray).data.toList c = _ from I2.out])
    go_ret3
    exact ⟨rfl, 0, rfl⟩

set_option maxHeartbeats 400000 in
theorem showDigit_any (n : Nat) (hn : n < 16) (w : World) :
    Calls Try.prog 90 #[.int .i64 (n : Int)] w fun e w' => e = .returned (.int .i32 ((Oct.hexd n).toNat : Int)) ∧ w = w' := by
  have hq : ((Oct.hexd n).toNat : Int) = if n < 10 then 48 + (n : Int) else 87 + (n : Int) := by
    have : ∀ n : Fin 16, ((Oct.hexd n.val).toNat : Int) = if n.val < 10 then 48 + (n.val : Int) else 87 + (n.val : Int) := by decide +kernel
    exact this ⟨n, hn⟩
  have H := Lib.hid hq
  clear hq
  by_cases h : n < 10
  · go_enter Try.func90, Try.ntmps90
    go_wp2_with fail
    go_ret
    exact ⟨by rw [H.out, if_pos h]; rfl, rfl⟩
  · have hd : decide ((n : Int) < 10) = false := by simp; omega
    go_enter Try.func90, Try.ntmps90
    go_wp2_with fail
    go_ret
    refine ⟨?_, rfl⟩
    rw [H.out, if_neg h]
    go_num

theorem showDigit_at (n : Nat) (x : Int) (hx : x = (n : Int)) (hn : n < 16) (w : World) :
    Calls Try.prog 90 #[.int .i64 x] w fun e w' => e = .returned (.int .i32 ((Oct.hexd n).toNat : Int)) ∧ w = w' := by
  subst hx
  exact showDigit_any n hn w

set_option maxHeartbeats 400000 in
theorem readDigit_yes (x : Int) (w : World) (h : Oct.digB x = true) :
    Calls Try.prog 113 #[.int .i32 x] w fun e w' => e = .returned (.tuple #[.int .i64 (Oct.digV x), .bool true]) ∧ w = w' := by
  rcases Oct.digB_yes h with ⟨h1, h2, h3⟩ | ⟨h1, h2, h3⟩
  · have hV := Lib.hid h3
    clear h3 h
    go_enter Try.func113, Try.ntmps113
    go_wp2_with fail
    go_ret2
    exact ⟨by rw [hV.out]; rfl, rfl⟩
  · have hV := Lib.hid h3
    have hd : decide (x ≤ 57) = false := by simp; omega
    clear h3 h
    go_enter Try.func113, Try.ntmps113
    go_wp2_with fail
    go_ret2
    exact ⟨by rw [hV.out]; go_num, rfl⟩

set_option maxHeartbeats 400000 in
theorem readDigit_no (x : Int) (w : World) (h : Oct.digB x = false) :
    Calls Try.prog 113 #[.int .i32 x] w fun e w' => e = .returned (.tuple #[.int .i64 0, .bool false]) ∧ w = w' := by
  have hn := Oct.digB_no h
  clear h
  by_cases h1 : 48 ≤ x
  · have d1 : decide (x ≤ 57) = false := by simp; omega
    by_cases h2 : 97 ≤ x
    · have d2 : decide (x ≤ 102) = false := by simp; omega
      go_enter Try.func113, Try.ntmps113
      go_wp2_with fail
      go_ret2
      exact ⟨rfl, rfl⟩
    · go_enter Try.func113, Try.ntmps113
      go_wp2_with fail
      go_ret2
      exact ⟨rfl, rfl⟩
  · go_enter Try.func113, Try.ntmps113
    go_wp2_with fail
    go_ret2
    exact ⟨rfl, rfl⟩

theorem and15 (k : Nat) (h : k ≤ 4095) : bits .and .i64 (k : Int) 15 = ((k % 16 : Nat) : Int) := by
  have : ∀ k : Fin 4096, bits .and .i64 (k.val : Int) 15 = ((k.val % 16 : Nat) : Int) := by decide +kernel
  exact this ⟨k, by omega⟩
theorem or4 (a b : Nat) (h : a ≤ 255) (h2 : b ≤ 15) : bits .or .i64 ((16 * a : Nat) : Int) (b : Int) = ((16 * a + b : Nat) : Int) := by
  have : ∀ a : Fin 256, ∀ b : Fin 16, bits .or .i64 ((16 * a.val : Nat) : Int) (b.val : Int) = ((16 * a.val + b.val : Nat) : Int) := by decide +kernel
  exact this ⟨a, by omega⟩ ⟨b, by omega⟩
theorem enc_hexd (n : Nat) (h : n < 16) : Utf8.encode ((Oct.hexd n).toNat : Int) = ⟨#[Oct.hexd n]⟩ := by
  have : ∀ n : Fin 16, Utf8.encode ((Oct.hexd n.val).toNat : Int) = ⟨#[Oct.hexd n.val]⟩ := by decide +kernel
  exact this ⟨n, h⟩
def idZ (n : Nat) : List Int := (idL n).map fun x => (x.toNat : Int)
theorem idZ_bytes (n : Nat) (h : n ≤ 4095) : runesBytes (idZ n) = ⟨(idL n).toArray⟩ := by
  unfold runesBytes idZ idL
  simp only [List.map_cons, List.map_nil, List.foldl_cons, List.foldl_nil]
  rw [enc_hexd _ (by omega), enc_hexd _ (by omega), enc_hexd _ (by omega)]
  rfl
/-- The array of digits behind k rounds. -/
def idC (n k : Nat) : Array Value := #[.int .i32 (if 0 < k then ((Oct.hexd (n / 256)).toNat : Int) else 0), .int .i32 (if 1 < k then ((Oct.hexd (n / 16 % 16)).toNat : Int) else 0), .int .i32 (if 2 < k then ((Oct.hexd (n % 16)).toNat : Int) else 0)]

theorem idC_at (n j : Nat) (hj : j < 3) : (idC n 3)[j]? = some (.int .i32 ((idZ n).getD j 0)) := by
  rcases (by omega : j = 0 ∨ j = 1 ∨ j = 2) with rfl | rfl | rfl <;> rfl

set_option maxHeartbeats 400000 in
theorem showId_any (n : Nat) (w : World) (h1 : n ≤ 4095) :
    Calls Try.prog 61 #[.int .i64 (n : Int)] w fun e w' => e = .returned (.string ⟨(idL n).toArray⟩) ∧ Below w.heap.size w w' := by
  have a0 : bits .and .i64 ((n : Int) / 256) 15 = ((n / 256 : Nat) : Int) := by
    rw [show (n : Int) / 256 = ((n / 256 : Nat) : Int) by omega, and15 _ (by omega), Nat.mod_eq_of_lt (by omega)]
  have a1 : bits .and .i64 ((n : Int) / 16) 15 = ((n / 16 % 16 : Nat) : Int) := by
    rw [show (n : Int) / 16 = ((n / 16 : Nat) : Int) by omega, and15 _ (by omega)]
  have a2 : bits .and .i64 (n : Int) 15 = ((n % 16 : Nat) : Int) := and15 _ h1
  have d0 := Lib.hid (fun W => showDigit_at (n / 256) ((n : Int) / 256) (by omega) (by omega) W)
  have d1 := Lib.hid (fun W => showDigit_at (n / 16 % 16) ((n : Int) / 16 % 16) (by omega) (by omega) W)
  have d2 := Lib.hid (fun W => showDigit_at (n % 16) ((n : Int) % 16) (by omega) (by omega) W)
  have cv : (convert 136 9 (.slice (some ⟨w.heap.size, 0, none⟩) 3 3)).run Try.prog (w.alloc (.cells (idC n 3) 134)) = .ok (.string ⟨(idL n).toArray⟩) (w.alloc (.cells (idC n 3) 134)) := by
    rw [run_convert_runes (P := Try.prog) (w.alloc (.cells (idC n 3) 134)) 136 9 21 ⟨w.heap.size, 0, none⟩ 3 3 (idZ n) (by simp [idZ, idL]) Try.underlying136 Try.underlying21 Try.underlying9 ?_]
    · rw [List.take_of_length_le (by simp [idZ, idL]), idZ_bytes n h1]
    · intro j hj
      have hj3 : j < 3 := by simpa [idZ, idL] using hj
      rw [Addr.add_lit, Nat.zero_add, ← idC_at n j hj3]
      simp only [World.cell?, heap_alloc_new]
      rfl
  have CV := Lib.hid cv
  clear cv
  go_enter Try.func61, Try.ntmps61
  go_wp2_with fail
  go_loopw [4, 5, 6] (fun _ _ i wr => ∃ k : Nat, k ≤ 3 ∧ i = .int .i64 k ∧ wr = w.alloc (.cells (idC n k) 134)) (fun _ _ i _ => 3 - (intOf i).toNat)
  case atStart => exact ⟨0, by omega, rfl, rfl⟩
  case round =>
    obtain ⟨k, hk, rfl, rfl⟩ := hrel
    rcases (by omega : k = 0 ∨ k = 1 ∨ k = 2 ∨ k = 3) with rfl | rfl | rfl | rfl
    · rw [show idC n 0 = #[.int .i32 0, .int .i32 0, .int .i32 0] from rfl]
      go_wp2_with fail
      refine (d0.out _).mono ?_
      rintro e w' ⟨rfl, rfl⟩
      go_wp2_with fail
      go_roundw
      case rel => exact ⟨1, by omega, rfl, rfl⟩
      case measure => simp [intOf]
    · rw [show idC n 1 = #[.int .i32 ((Oct.hexd (n / 256)).toNat : Int), .int .i32 0, .int .i32 0] from rfl]
      go_wp2_with fail
      refine (d1.out _).mono ?_
      rintro e w' ⟨rfl, rfl⟩
      go_wp2_with fail
      go_roundw
      case rel => exact ⟨2, by omega, rfl, rfl⟩
      case measure => simp [intOf]
    · rw [show idC n 2 = #[.int .i32 ((Oct.hexd (n / 256)).toNat : Int), .int .i32 ((Oct.hexd (n / 16 % 16)).toNat : Int), .int .i32 0] from rfl]
      go_wp2_with fail
      refine (d2.out _).mono ?_
      rintro e w' ⟨rfl, rfl⟩
      go_wp2_with fail
      go_roundw
      case rel => exact ⟨3, by omega, rfl, rfl⟩
      case measure => simp [intOf]
    · have cv := CV.out
      clear a0 a1 a2
      go_wp2_with fail
      go_ret
      exact ⟨rfl, (Below.refl _ _).alloc (Nat.le_refl _) _⟩

def idP (l : List UInt8) (k : Nat) : Int := match k with | 0 => 0 | 1 => Oct.digV (byt l 0) | 2 => 16 * Oct.digV (byt l 0) + Oct.digV (byt l 1) | _ => idV l
theorem idP_succ (l : List UInt8) (k : Nat) (hk : k < 3) (h : ∀ j, j < k → Oct.digB (byt l j) = true) (hd : Oct.digB (byt l k) = true) :
    0 ≤ idP l k ∧ idP l k ≤ 255 ∧ bits .or .i64 (idP l k * 16) (Oct.digV (byt l k)) = idP l (k + 1) := by
  have b := Oct.digV_bd hd
  obtain ⟨v, hv⟩ : ∃ v : Nat, Oct.digV (byt l k) = v := ⟨(Oct.digV (byt l k)).toNat, by omega⟩
  have key : ∀ a : Nat, a ≤ 255 → bits .or .i64 ((a : Int) * 16) (v : Int) = 16 * (a : Int) + v := fun a ha => by
    have := or4 a v ha (by omega)
    rw [show (a : Int) * 16 = ((16 * a : Nat) : Int) by omega, this]
    omega
  rcases (by omega : k = 0 ∨ k = 1 ∨ k = 2) with rfl | rfl | rfl
  · refine ⟨by simp [idP], by simp [idP], ?_⟩
    rw [hv]
    have := key 0 (by omega)
    simp only [idP, hv]
    simpa using this
  · have b0 := Oct.digV_bd (h 0 (by omega))
    obtain ⟨u, hu⟩ : ∃ u : Nat, Oct.digV (byt l 0) = u := ⟨(Oct.digV (byt l 0)).toNat, by omega⟩
    simp only [idP, hu, hv]
    exact ⟨by omega, by omega, key u (by omega)⟩
  · have b0 := Oct.digV_bd (h 0 (by omega))
    have b1 := Oct.digV_bd (h 1 (by omega))
    obtain ⟨u, hu⟩ : ∃ u : Nat, 16 * Oct.digV (byt l 0) + Oct.digV (byt l 1) = u := ⟨(16 * Oct.digV (byt l 0) + Oct.digV (byt l 1)).toNat, by omega⟩
    simp only [idP, idV, hu, hv]
    refine ⟨by omega, by omega, (key u (by omega)).trans (by omega)⟩
theorem isId_no {l : List UInt8} {k : Nat} (hk : k < 3) (h : Oct.digB (byt l k) = false) : isId l = false := by
  unfold isId
  rcases (by omega : k = 0 ∨ k = 1 ∨ k = 2) with rfl | rfl | rfl <;> simp [h]
theorem digB_high (x : Int) (h : 128 ≤ x) : Oct.digB x = false := by
  simp [Oct.digB]
  omega
theorem rune_dig {l : List UInt8} {k : Nat} (hk : k < l.length) : Oct.digB ((Utf8.decode ⟨l.toArray⟩ k).1 : Int) = Oct.digB (byt l k) := by
  have hk' : k < (⟨l.toArray⟩ : ByteArray).size := by simpa [ByteArray.size] using hk
  have e := str_at l k hk'
  by_cases ha : ((⟨l.toArray⟩ : ByteArray)[k]'hk').toNat < 128
  · rw [decode_ascii _ _ hk' ha, e]
  · have := (decode_high _ _ hk' (by omega)).1
    rw [digB_high _ (by omega), digB_high _ (by omega)]

def idA (l : List UInt8) : Value := .tuple #[.int .i64 (if isId l then idV l else 0), .bool (isId l)]
theorem idA_no {l : List UInt8} (h : isId l = false) : idA l = .tuple #[.int .i64 0, .bool false] := by unfold idA; rw [h]; rfl
theorem idA_yes {l : List UInt8} (h : isId l = true) : idA l = .tuple #[.int .i64 (idV l), .bool true] := by unfold idA; rw [h]; rfl

set_option maxHeartbeats 400000 in
theorem readId_any (l : List UInt8) (w : World) (h0 : l.length = 3) :
    Calls Try.prog 91 #[.string ⟨l.toArray⟩] w fun e w' => e = .returned (idA l) ∧ Below w.heap.size w w' := by
  have hs : (⟨l.toArray⟩ : ByteArray).size = 3 := by simpa [ByteArray.size] using h0
  have HS := Lib.hid hs
  have H0 := Lib.hid h0
  obtain ⟨s, hS⟩ : ∃ s : ByteArray, s = ⟨l.toArray⟩ := ⟨_, rfl⟩
  rw [← hS] at hs ⊢
  have EQ := Lib.hid hS
  clear h0 hS
  go_enter Try.func91, Try.ntmps91
  go_wp2_with fail
  go_loopw [4] (fun v wr => ∃ k : Nat, k ≤ 3 ∧ v = .int .i64 (idP l k) ∧ wr = w.iter s k ∧ ∀ j, j < k → Oct.digB (byt l j) = true) (fun _ wr => 3 - wr.iterPos w.heap.size)
  case atStart => exact ⟨0, by omega, rfl, rfl, fun j hj => by omega⟩
  case round =>
    obtain ⟨k, hk, rfl, rfl, hd⟩ := hrel
    have HD := Lib.hid hd
    clear hd
    have B := Lib.hid (fun o => (Below.refl w.heap.size w).alloc (Nat.le_refl _) o)
    by_cases hlt : k < 3
    · have hks : k < s.size := by omega
      by_cases hdk : Oct.digB (byt l k) = true
      · have hv := Oct.digV_bd hdk
        obtain ⟨p1, p2, p3⟩ := idP_succ l k hlt HD.out hdk
        have hb : byt l k < 128 := by rcases Oct.digB_yes hdk with h | h <;> omega
        have ee : (((s[k]'hks).toNat : Nat) : Int) = byt l k := by
          have := EQ.out
          subst this
          exact str_at l k hks
        have hnx := fun ty => run_next_ascii (P := Try.prog) w s k ty hks (by omega)
        rw [ee] at hnx
        have D := Lib.hid (fun W => readDigit_yes (byt l k) W hdk)
        have P3 := Lib.hid p3
        have DK := Lib.hid hdk
        clear hdk p3 ee
        go_wp2_with (go_at_call 113; refine (D.out _).mono ?_; rintro e w' ⟨rfl, rfl⟩)
        go_roundw
        case rel =>
          refine ⟨k + 1, by omega, ?_, rfl, fun j hj => ?_⟩
          · rw [← P3.out]
          · by_cases e : j = k
            · subst e; exact DK.out
            · exact HD.out j (by omega)
        case measure => simp; omega
      · have hdk' : Oct.digB (byt l k) = false := by simpa using hdk
        have hr : Oct.digB ((Utf8.decode s k).1 : Int) = false := by
          rw [EQ.out, rune_dig (by rw [H0.out]; omega)]
          exact hdk'
        have hnx := fun ty => run_next_any (P := Try.prog) w s k ty hks
        have N := Lib.hid (isId_no hlt hdk')
        have D := Lib.hid (fun W => readDigit_no ((Utf8.decode s k).1 : Int) W hr)
        have hle := decode_le s k
        clear hdk hdk' hr
        generalize Utf8.decode s k = q at *
        go_wp2_with (go_at_call 113; refine (D.out _).mono ?_; rintro e w' ⟨rfl, rfl⟩)
        go_ret2
        refine ⟨?_, B.out _⟩
        rw [idA_no N.out]
        rfl
    · obtain rfl : k = 3 := by omega
      have hI : isId l = true := by
        unfold isId
        rw [HD.out 0 (by omega), HD.out 1 (by omega), HD.out 2 (by omega)]
        simp [H0.out]
      have HI := Lib.hid hI
      clear hI
      have hnx := fun ty => run_next_end (P := Try.prog) w s 3 ty (by omega)
      go_wp2_with fail
      go_ret2
      refine ⟨?_, B.out _⟩
      rw [idA_yes HI.out]
      rfl

set_option maxHeartbeats 400000 in
theorem readId_len (l : List UInt8) (w : World) (h0 : l.length ≠ 3) (hle : l.length ≤ 1099511627776) :
    Calls Try.prog 91 #[.string ⟨l.toArray⟩] w fun e w' => e = .returned (.tuple #[.int .i64 0, .bool false]) ∧ w = w' := by
  have hs : ((l.length : Int) != 3) = true := by simp; omega
  go_enter Try.func91, Try.ntmps91
  go_wp2_with fail
  go_ret2
  exact ⟨rfl, rfl⟩
end Frm
end Go.Proofs.Ytkkbjngjjeajoaa
