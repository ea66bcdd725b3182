/-
  The type of a name, here and in the document.
-/
import Derived.Test.YthmlbggckdnfhaaDoorTypFns
import Derived.Test.YthmlbggckdnfhaaDoorTypRef
import Derived.Laws.Rows
namespace Go.Proofs.YthmlbggckdnfhaaDoor
open Go.RowKit Mem
set_option linter.unusedVariables false

def mm (l : List UInt8) (j : Nat) : Bool := decide (Typ.name (j : Int) ≠ [] ∧ Typ.name (j : Int) = l)
def byN (l : List UInt8) : Int × Bool := match (List.range 22).find? (mm l) with | some i => ((i : Int), true) | none => (0, false)
theorem byN_some {l : List UInt8} {k : Nat} (hk : k < 22) (h : mm l k = true) (hno : ∀ j, j < k → mm l j = false) : byN l = ((k : Int), true) := by
  have : (List.range 22).find? (mm l) = some k := by
    rw [List.find?_range_eq_some]
    exact ⟨h, List.mem_range.2 hk, fun j hj => by simp [hno j hj]⟩
  unfold byN
  rw [this]
theorem byN_none {l : List UInt8} (hno : ∀ j, j < 22 → mm l j = false) : byN l = (0, false) := by
  have : (List.range 22).find? (mm l) = none := by
    rw [List.find?_range_eq_none]
    exact fun j hj => by simp [hno j hj]
  unfold byN
  rw [this]
theorem ba_eq (a b : List UInt8) : ((⟨a.toArray⟩ : ByteArray) == ⟨b.toArray⟩) = decide (a = b) := by
  have h : ((⟨a.toArray⟩ : ByteArray) == ⟨b.toArray⟩) = (a.toArray == b.toArray) := rfl
  rw [h]
  by_cases e : a = b
  · subst e; simp
  · simp [e]
theorem mm_out {l : List UInt8} {k : Nat} (hk : 22 ≤ k) : mm l k = false := by
  have := (Typ.out_all (t := (k : Int)) (by omega)).1
  simp [mm, this]
theorem mm_nil (k : Nat) : mm [] k = false := by
  unfold mm
  exact decide_eq_false fun h => h.1 h.2

theorem mm_zero (l : List UInt8) : mm l 0 = false := decide_eq_false fun h => h.1 rfl
theorem mm_two (l : List UInt8) (k : Nat) : mm l k = (Typ.known (k : Int) && (Typ.name (k : Int) == l)) := by
  unfold mm Typ.known
  rw [Bool.decide_and]
  by_cases h : Typ.name (k : Int) = l
  · simp [h]
  · simp [h]

def kall : Array Value := ((List.range 110).map fun n => kcell (n / 5) (n % 5)).toArray
theorem kall_size : kall.size = 110 := by simp [kall]
theorem TG.whole {w : World} (h : TG w) : ∃ t fr, w.heap[0]? = some (.cells kall t fr) := by
  obtain ⟨cs, hv, hs⟩ := h.row
  have glK : Tryd.prog.globalNamed "wheelhouse/types.kinds" = some 0 := by kernel_rfl
  have hc : cs = kall := by
    refine Array.ext (by rw [hs, kall_size]) fun i h1 h2 => ?_
    have e1 := World.var?_cell glK hv i
    have e2 := h.kinds (i / 5) (i % 5) (by omega) (by omega)
    rw [show i / 5 * 5 + i % 5 = i by omega, e1, Array.getElem?_eq_getElem h1] at e2
    rw [Option.some.inj e2]
    simp [kall]
  subst hc
  simp only [World.var?, glK, Option.bind_some] at hv
  split at hv
  · rename_i cs' t fr he
    cases hv
    exact ⟨t, fr, he⟩
  · cases hv
theorem kidx (i : Nat) (hi : i < 22) (W : World) : (Instr.index 50 (.agg kall) (.int .i64 (i : Int))).run Tryd.prog W =
    .ok (.agg #[.string ⟨(Typ.name (i : Int)).toArray⟩, .int .i64 (Typ.size (i : Int)), .int .i64 (Typ.bits (i : Int)), .int .i64 (Typ.low (i : Int)), .int .i64 (Typ.high (i : Int))]) W := by
  rcases (by omega : i = 0 ∨ i = 1 ∨ i = 2 ∨ i = 3 ∨ i = 4 ∨ i = 5 ∨ i = 6 ∨ i = 7 ∨ i = 8 ∨ i = 9 ∨ i = 10 ∨ i = 11 ∨ i = 12 ∨ i = 13 ∨ i = 14 ∨ i = 15 ∨ i = 16 ∨ i = 17 ∨ i = 18 ∨ i = 19 ∨ i = 20 ∨ i = 21) with rfl | rfl | rfl | rfl | rfl | rfl | rfl | rfl | rfl | rfl | rfl | rfl | rfl | rfl | rfl | rfl | rfl | rfl | rfl | rfl | rfl | rfl
  all_goals kernel_rfl
theorem ksize : (Tryd.prog.info? 50).map (·.size) = some 110 := by kernel_rfl

set_option maxRecDepth 100000 in
set_option maxHeartbeats 4000000 in
theorem tbyname_any (l : List UInt8) (w : World) (hg : TG w) :
    Calls Tryd.prog 12 #[.string ⟨l.toArray⟩] w fun e w' => e = .returned (.tuple #[.int .i64 (byN l).1, .bool (byN l).2]) ∧ Below w.heap.size w w' := by
  obtain ⟨T, fr, hheap⟩ := hg.whole
  have hsz : (Tryd.prog.info? 50).map (·.size) = some kall.size := by rw [kall_size]; exact ksize
  have HI := Lib.hid kidx
  have HS := Lib.hid (fun l h => byN_none (l := l) h)
  have HY := Lib.hid (fun k hk h hno => byN_some (l := l) (k := k) hk h hno)
  have HG := Lib.hid hg
  generalize kall = KA at *
  clear hg
  go_enter Tryd.func12, Tryd.ntmps12
  go_wp2_with (with_reducible refine wpList_load_row rfl 50 (Operand.global 0) rfl 0 rfl T KA fr _ hheap Tryd.underlying50 rfl hsz ?_)
  clear hheap hsz
  go_loopw [7] (fun i wr => ∃ k : Nat, k ≤ 22 ∧ i = .int .i64 (k : Int) ∧ (∀ j, j < k → mm l j = false) ∧ Below w.heap.size w wr) (fun i _ => 22 - (intOf i).toNat)
  case atStart => exact ⟨0, by omega, rfl, fun j hj => by omega, Below.refl _ _⟩
  case round =>
    obtain ⟨k, hk, rfl, hno, hB⟩ := hrel
    have HNO := Lib.hid hno
    clear hno
    by_cases hlt : k < 22
    · have hrun := fun W => HI.out k hlt W
      have S := Lib.hid (KS.new (k : Int) HG.out hB)
      have HK := Lib.hid (fun W => kknown_x (k : Int) W)
      have HM : Hid (mm l k = (Typ.known (k : Int) && (Typ.name (k : Int) == l))) := Lib.hid (mm_two l k)
      have hB := Lib.hid hB
      cases hkn : Typ.known (k : Int) with
      | false =>
        rw [hkn] at HK HM
        have hkn := Lib.hid hkn
        go_wp2_with fail
        refine (S.out.call (HK.out _)).mono ?_
        rintro e w1 ⟨rfl, S⟩
        have S := Lib.hid S
        go_wp2_with fail
        go_roundw
        case rel => exact ⟨k + 1, by omega, by go_num, fun j hj => by
          rcases Nat.lt_or_ge j k with h | h
          · exact HNO.out j h
          · obtain rfl : j = k := by omega
            exact HM.out, S.out.b_⟩
        case measure => simp [intOf]; omega
      | true =>
        rw [hkn] at HK HM
        have hkn := Lib.hid hkn
        cases heq : (Typ.name (k : Int) == l) with
        | false =>
          rw [heq] at HM
          go_wp2_with fail
          refine (S.out.call (HK.out _)).mono ?_
          rintro e w1 ⟨rfl, S⟩
          obtain ⟨q0, q1, q2, q3, q4⟩ := S.cells
          have S := Lib.hid S
          go_wp2_with fail
          go_roundw
          case rel => exact ⟨k + 1, by omega, by go_num, fun j hj => by
            rcases Nat.lt_or_ge j k with h | h
            · exact HNO.out j h
            · obtain rfl : j = k := by omega
              exact HM.out, S.out.b_⟩
          case measure => simp [intOf]; omega
        | true =>
          rw [heq] at HM
          have HR := Lib.hid (HY.out k hlt HM.out HNO.out)
          go_wp2_with fail
          refine (S.out.call (HK.out _)).mono ?_
          rintro e w1 ⟨rfl, S⟩
          obtain ⟨q0, q1, q2, q3, q4⟩ := S.cells
          have S := Lib.hid S
          go_wp2_with fail
          go_ret2
          exact ⟨by rw [HR.out]; rfl, S.out.b_⟩
    · have HR := Lib.hid (HS.out l (fun j hj => HNO.out j (by omega)))
      have hB := Lib.hid hB
      go_wp2_with fail
      go_ret2
      exact ⟨by rw [HR.out]; rfl, hB.out⟩

set_option maxRecDepth 100000 in
set_option maxHeartbeats 4000000 in
theorem rbyname_any (l : List UInt8) (w : World) :
    Calls Tryd.prog 13 #[.string ⟨l.toArray⟩] w fun e w' => e = .returned (.tuple #[.int .i64 (byN l).1, .bool (byN l).2]) ∧ w = w' := by
  have HS := Lib.hid (fun l h => byN_none (l := l) h)
  have HY := Lib.hid (fun k hk h hno => byN_some (l := l) (k := k) hk h hno)
  have hnil : l = [] ∨ (l ≠ [] ∧ l.isEmpty = false) := by cases l <;> simp
  rcases hnil with rfl | ⟨hne, hemp⟩
  · have HR := Lib.hid (HS.out [] fun j _ => mm_nil j)
    go_enter Tryd.func13, Tryd.ntmps13
    go_wp2_with fail
    go_loop [4] (fun i => ∃ k : Nat, k ≤ 32 ∧ i = .int .i64 (k : Int)) (fun i => 32 - (intOf i).toNat)
    case atStart => exact ⟨1, by omega, rfl⟩
    case round =>
      obtain ⟨k, hk, rfl⟩ := hrel
      by_cases hlt : k < 32
      · go_wp2_with fail
        go_round
        case rel => exact ⟨k + 1, by omega, by go_num⟩
        case measure => simp [intOf]; omega
      · go_wp2_with fail
        go_ret2
        exact ⟨by rw [HR.out]; rfl, rfl⟩
  · have HNE := Lib.hid hne
    have hs0 : ((⟨l.toArray⟩ : ByteArray) == ⟨#[]⟩) = false := by
      have := ba_eq l []
      rw [decide_eq_false hne] at this
      exact this
    have hs1 : ((⟨l.toArray⟩ : ByteArray) != ⟨#[]⟩) = true := by rw [bne, hs0]; rfl
    clear hne
    go_enter Tryd.func13, Tryd.ntmps13
    go_wp2_with fail
    go_loop [4] (fun i => ∃ k : Nat, 1 ≤ k ∧ k ≤ 32 ∧ i = .int .i64 (k : Int) ∧ (∀ j, j < k → mm l j = false)) (fun i => 32 - (intOf i).toNat)
    case atStart => exact ⟨1, by omega, by omega, rfl, fun j hj => (Nat.lt_one_iff.1 hj) ▸ mm_zero l⟩
    case round =>
      obtain ⟨k, hk1, hk, rfl, hno⟩ := hrel
      have HNO := Lib.hid hno
      clear hno
      by_cases hlt : k < 32
      · have HK := Lib.hid (fun W => rname_any (k : Int) W)
        have HM : Hid (mm l k = (Typ.name (k : Int) == l)) := Lib.hid (by
          unfold mm
          have := HNE.out
          by_cases h : Typ.name (k : Int) = l
          · simp [h, this]
          · simp [h])
        cases heq : (Typ.name (k : Int) == l) with
        | false =>
          rw [heq] at HM
          go_wp2_with (go_at_call 23; refine (HK.out _).mono ?_; rintro e w1 ⟨rfl, rfl⟩)
          go_round
          case rel => exact ⟨k + 1, by omega, by omega, by go_num, fun j hj => by
            rcases Nat.lt_or_ge j k with h | h
            · exact HNO.out j h
            · obtain rfl : j = k := by omega
              exact HM.out⟩
          case measure => simp [intOf]; omega
        | true =>
          rw [heq] at HM
          have hk22 : k < 22 := by
            rcases Nat.lt_or_ge k 22 with h | h
            · exact h
            · have := HM.out; rw [mm_out h] at this; cases this
          have HR := Lib.hid (HY.out k hk22 HM.out HNO.out)
          go_wp2_with (go_at_call 23; refine (HK.out _).mono ?_; rintro e w1 ⟨rfl, rfl⟩)
          go_ret2
          exact ⟨by rw [HR.out]; rfl, rfl⟩
      · have HR := Lib.hid (HS.out l (fun j hj => HNO.out j (by omega)))
        go_wp2_with fail
        go_ret2
        exact ⟨by rw [HR.out]; rfl, rfl⟩
end Go.Proofs.YthmlbggckdnfhaaDoor
