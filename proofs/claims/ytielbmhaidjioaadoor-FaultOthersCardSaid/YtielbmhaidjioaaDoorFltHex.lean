/-
  What the library writes of a number in digits to base 16.
-/
import Derived.Test.YtielbmhaidjioaaDoorFltGlob
import Derived.Lib.SliceRun
namespace Go.Proofs.YtielbmhaidjioaaDoor
open Go.RowKit Mem
set_option linter.unusedVariables false

set_option maxRecDepth 100000 in
set_option maxHeartbeats 1000000 in
theorem tz_any (a : Nat → Addr) (w : World) (hg : Glob w a) :
    Calls Tryd.prog 68 #[.int .u64 16] w fun e w' => e = .returned (.int .i64 4) ∧ w = w' := by
  have key : IntKind.u64.wrap (bits BinOp.and IntKind.u64 16 (IntKind.u64.wrap (-16)) * 285870213051353865) / 288230376151711744 = ((15 : Nat) : Int) := by decide +kernel
  have HK := Lib.hid key
  have h4 := hg.four
  clear hg key
  go_enter Tryd.func68, Tryd.ntmps68
  go_wp2_with (first | (simp only [HK.out]) | go_in)
  go_ret
  exact ⟨rfl, rfl⟩

/-- The last k cells of the array in block g hold the lowest k digits of c. -/
def Hexes (w : World) (g k c : Nat) : Prop := (∀ j, j < k → w.cell? ⟨g, 65 - k + j, none⟩ = some (.int .u8 (byt (Flt.hexn k c) j))) ∧ ∀ j, j < 65 → (w.cell? ⟨g, j, none⟩).isSome = true ∧ w.frozen? ⟨g, j, none⟩ = false
theorem Hexes.new (w : World) (t : TypeId) (c : Nat) : Hexes (w.alloc (.cells Tryd.zeroCells122 t)) w.heap.size 0 c := by
  refine ⟨fun j hj => by omega, fun j hj => ⟨?_, by simp⟩⟩
  rw [World.cell?_alloc_at _ _ _ _ rfl]
  have : Tryd.zeroCells122.size = 65 := by kernel_rfl
  simp [this, hj]

theorem Hexes.succ {w : World} {g k c u : Nat} (h : Hexes w g k c) (hk : k ≤ 64) (hu : c / 16 ^ k = u) {x : Int} (hx : x = ((Flt.dg u).toNat : Int)) : Hexes (w.setCell ⟨g, 65 - k - 1, none⟩ (.int .u8 x)) g (k + 1) c := by
  subst hx
  refine ⟨fun j hj => ?_, fun j hj => ⟨?_, by rw [World.frozen?_setCell]; exact (h.2 j hj).2⟩⟩
  · rcases j with _ | j
    · have e : 65 - (k + 1) + 0 = 65 - k - 1 := by omega
      rw [e, World.cell?_setCell_same' _ _ _ (h.2 _ (by omega)).1]
      simp [byt, Flt.hexn, hu]
    · have e : 65 - (k + 1) + (j + 1) = 65 - k + j := by omega
      rw [e, World.cell?_setCell_other _ _ _ _ (by intro e'; injection e' with _ e'; omega), h.1 j (by omega)]
      simp [byt, Flt.hexn]
  · by_cases e : j = 65 - k - 1
    · subst e
      rw [World.cell?_setCell_same' _ _ _ (h.2 _ hj).1]
      rfl
    · rw [World.cell?_setCell_other _ _ _ _ (by intro e'; injection e' with _ e'; omega)]; exact (h.2 j hj).1
theorem Hexes.rd {w : World} {g k c : Nat} (h : Hexes w g k c) (hg : g < w.heap.size) : Rd w w.heap.size (some ⟨g, 65 - k, none⟩) (Flt.hexn k c) :=
  .inr ⟨g, 65 - k, rfl, hg, fun j hj => h.1 j (by rwa [Flt.hexn_len] at hj)⟩
theorem and15 (u : Nat) (hu : u < 4294967296) : bits BinOp.and IntKind.u64 (u : Int) 15 = ((u % 16 : Nat) : Int) := by
  rw [show (15 : Int) = ((15 : Nat) : Int) from rfl, u64_and_nat _ _ (by omega) (by decide)]
  have : u &&& 15 = u % 16 := by
    have := Nat.and_two_pow_sub_one_eq_mod u 4
    simpa using this
  rw [this]
theorem digs_at (k : Nat) (hk : k < 16) (h : k < (⟨#[48, 49, 50, 51, 52, 53, 54, 55, 56, 57, 97, 98, 99, 100, 101, 102, 103, 104, 105, 106, 107, 108, 109, 110, 111, 112, 113, 114, 115, 116, 117, 118, 119, 120, 121, 122]⟩ : ByteArray).size) :
    ((⟨#[48, 49, 50, 51, 52, 53, 54, 55, 56, 57, 97, 98, 99, 100, 101, 102, 103, 104, 105, 106, 107, 108, 109, 110, 111, 112, 113, 114, 115, 116, 117, 118, 119, 120, 121, 122]⟩ : ByteArray)[k]'h) = Flt.hexDig.getD k 0 := by
  have key : ∀ k : Fin 16, ((⟨#[48, 49, 50, 51, 52, 53, 54, 55, 56, 57, 97, 98, 99, 100, 101, 102, 103, 104, 105, 106, 107, 108, 109, 110, 111, 112, 113, 114, 115, 116, 117, 118, 119, 120, 121, 122]⟩ : ByteArray).data.getD k 0) = Flt.hexDig.getD k 0 := by decide +kernel
  have h1 := key ⟨k, hk⟩
  rw [← h1, ByteArray.getElem_eq_getElem_data]
  exact (Array.getElem_eq_getD 0)
theorem lt7 {c k u : Nat} (hc : c < 4294967296) (hk : k ≤ 7) (hu : c / 16 ^ k = u) (h : 16 ≤ u) : k + 1 ≤ 7 := by
  by_cases e : k = 7
  · subst e
    have : c / 16 ^ 7 < 16 := Nat.div_lt_of_lt_mul (by simpa using hc)
    omega
  · omega
theorem div_next {c k u : Nat} (hu : c / 16 ^ k = u) : c / 16 ^ (k + 1) = u / 16 := by
  rw [Nat.pow_succ, ← Nat.div_div_eq_div_mul, hu]

theorem lt_next {c k u : Nat} (hu : c / 16 ^ k = u) (h : u < 16) : c < 16 ^ (k + 1) := by
  have h1 : 0 < 16 ^ k := Nat.pow_pos (by decide)
  have h2 := (Nat.div_lt_iff_lt_mul h1).1 (by rw [hu]; exact h : c / 16 ^ k < 16)
  rw [Nat.pow_succ, Nat.mul_comm]
  exact h2
theorem slice65 (W : World) (g k : Nat) (hk : k ≤ 7) : (Instr.sliceAt 122 (.pointer (some ⟨g, 0, none⟩)) (some (.int .i64 (65 - (k : Int) - 1))) none none).run Tryd.prog W = .ok (.slice (some ⟨g, 64 - k, none⟩) (k + 1) (k + 1)) W := by
  have e1 : Tryd.prog.arrayLen 122 = 65 := by kernel_rfl
  have e2 : (sizeOf (Tryd.prog.elem 122)).run Tryd.prog W = .ok 1 W := by kernel_rfl
  rw [run_sliceAt_array_l W 122 ⟨g, 0, none⟩ (by kernel_rfl) .i64 (65 - (k : Int) - 1) (by omega) (by rw [e1]; omega), e2, e1]
  have e3 : (65 - (k : Int) - 1).toNat = 65 - (k + 1) := by omega
  simp only [Result.andThen, slicedAt, e3]
  rw [if_neg (by omega)]
  simp [Addr.add]
  omega

set_option maxRecDepth 100000 in
set_option maxHeartbeats 1000000 in
theorem bits_any (c : Nat) (hc : c < 4294967296) (a : Nat → Addr) (w : World) (hg : Glob w a) :
    Calls Tryd.prog 56 #[.slice none 0 0, .int .u64 (c : Int), .int .i64 16, .bool false, .bool false] w fun e w' =>
      (∃ k, k ≤ 7 ∧ c < 16 ^ (k + 1) ∧ e = .returned (.tuple #[.slice none 0 0, .string ⟨(Flt.hexn (k + 1) c).toArray⟩])) ∧ Below w.heap.size w w' := by
  have hp2 : (bits BinOp.and IntKind.i64 16 15 == 0) = true := by decide +kernel
  have HG := fun o => Lib.hid (hg.below ((Below.refl _ w).alloc (Nat.le_refl _) o) (Nat.le_refl _))
  clear hg
  go_enter Tryd.func56, Tryd.ntmps56
  go_wp2_with (first | (go_at_call 68; refine (tz_any a _ (HG _).out).mono ?_; rintro e w' ⟨rfl, rfl⟩) | (go_at_call 67; go_in))
  go_loopw [1, 13] (fun u i wr => ∃ k : Nat, k ≤ 7 ∧ u = .int .u64 ((c / 16 ^ k : Nat) : Int) ∧ i = .int .i64 (65 - (k : Int)) ∧ Hexes wr w.heap.size k c ∧ Below w.heap.size w wr) (fun u i _ => (intOf i).toNat)
  case atStart => exact ⟨0, by omega, by simp, rfl, Hexes.new w _ c, (Below.refl _ _).alloc (Nat.le_refl _) _⟩
  case round =>
    obtain ⟨k, hk, rfl, rfl, hH, hb⟩ := hrel
    obtain ⟨u, hu⟩ : ∃ u, c / 16 ^ k = u := ⟨_, rfl⟩
    have hub : u < 4294967296 := by rw [← hu]; exact Nat.lt_of_le_of_lt (Nat.div_le_self _ _) hc
    rw [hu]
    have HU := Lib.hid hu
    clear hu
    have hA := and15 u hub
    have hD : ∀ h, (((((⟨#[48, 49, 50, 51, 52, 53, 54, 55, 56, 57, 97, 98, 99, 100, 101, 102, 103, 104, 105, 106, 107, 108, 109, 110, 111, 112, 113, 114, 115, 116, 117, 118, 119, 120, 121, 122]⟩ : ByteArray)[u % 16]'h).toNat : Nat)) : Int) = ((Flt.dg u).toNat : Int) := fun h => by rw [digs_at _ (Nat.mod_lt _ (by decide))]; rfl
    obtain ⟨v, hv⟩ := Option.isSome_iff_exists.1 (hH.2 (65 - k - 1) (by omega)).1
    have hf := (hH.2 (65 - k - 1) (by omega)).2
    have hm : u % 16 < 16 := Nat.mod_lt _ (by decide)
    by_cases h16 : 16 ≤ u
    · have HH := Lib.hid (fun x hx => hH.succ (x := x) (by omega) HU.out hx)
      have HB := Lib.hid (fun x => hb.setCell (p := ⟨w.heap.size, 65 - k - 1, none⟩) (Nat.le_refl _) x)
      have H7 := Lib.hid (lt7 hc hk HU.out h16)
      clear hH hb
      go_wp2_with fail
      refine ⟨⟨k + 1, H7.out, ?_, ?_, HH.out _ rfl, HB.out _⟩, ?_⟩
      · rw [div_next HU.out]; rfl
      · congr 1; omega
      · simp [intOf]; omega
    · have hu16 : u % 16 = u := Nat.mod_eq_of_lt (by omega)
      have hD2 : ∀ h, (((((⟨#[48, 49, 50, 51, 52, 53, 54, 55, 56, 57, 97, 98, 99, 100, 101, 102, 103, 104, 105, 106, 107, 108, 109, 110, 111, 112, 113, 114, 115, 116, 117, 118, 119, 120, 121, 122]⟩ : ByteArray)[u]'h).toNat : Nat)) : Int) = ((Flt.dg u).toNat : Int) := fun h => by rw [digs_at _ (by omega)]; unfold Flt.dg; rw [hu16]
      have hH2 := hH.succ (x := ((Flt.dg u).toNat : Int)) (by omega) HU.out rfl
      have hg2 : w.heap.size < (wr.setCell ⟨w.heap.size, 65 - k - 1, none⟩ (.int .u8 ((Flt.dg u).toNat : Int))).heap.size := (cell_lt (p := ⟨w.heap.size, 65 - k - 1, none⟩) (World.cell?_setCell_same' _ _ _ (by rw [hv]; rfl)))
      have hcv := run_str (P := Tryd.prog) (hH2.rd hg2) (k + 1) (k + 1) (by rw [Flt.hexn_len]) 68 5 9 Tryd.underlying68 Tryd.underlying5 Tryd.underlying9
      have e64 : 65 - (k + 1) = 64 - k := by omega
      rw [e64] at hcv
      have hsl := fun W => slice65 W w.heap.size k hk
      have HZ := Lib.hid (lt_next HU.out (by omega))
      have HB := Lib.hid (hb.setCell (p := ⟨w.heap.size, 65 - k - 1, none⟩) (Nat.le_refl _) (.int .u8 ((Flt.dg u).toNat : Int)))
      clear e64 hu16 hH2 hg2 hH hb hA hD hm
      go_wp2_with fail
      go_ret2
      exact ⟨⟨k, hk, HZ.out, rfl⟩, HB.out⟩

/-- FormatUint to base 16: the digits, none of them a leading 0 but one. -/
def Digits (c : Nat) (w : World) (e : Ending) (w' : World) : Prop := ∃ k, k ≤ 7 ∧ c < 16 ^ (k + 1) ∧ e = .returned (.string ⟨(Flt.hexn (k + 1) c).toArray⟩) ∧ Below w.heap.size w w'

set_option maxHeartbeats 1000000 in
theorem fmt_in (c : Nat) (hc : c < 4294967296) (a : Nat → Addr) (w : World) (hg : Glob w a) :
    Calls Tryd.prog 39 #[.int .u64 (c : Int), .int .i64 16] w (Digits c w) := by
  go_enter Tryd.func39, Tryd.ntmps39
  go_wp2_with fail
  refine (bits_any c hc a w hg).mono ?_
  rintro e w' ⟨⟨k, hk, hz, rfl⟩, hb⟩
  go_wp2_with fail
  go_ret
  exact ⟨k, hk, hz, rfl, hb⟩

set_option maxHeartbeats 1000000 in
theorem fmt_any (c : Nat) (hc : c < 4294967296) (a : Nat → Addr) (w : World) (hg : Glob w a) :
    Calls Tryd.prog 29 #[.int .u64 (c : Int), .int .i64 16] w (Digits c w) := by
  go_enter Tryd.func29, Tryd.ntmps29
  go_wp2_with fail
  refine (fmt_in c hc a w hg).mono ?_
  rintro e w' ⟨k, hk, hz, rfl, hb⟩
  go_wp2_with fail
  go_ret
  exact ⟨k, hk, hz, rfl, hb⟩
end Go.Proofs.YtielbmhaidjioaaDoor
