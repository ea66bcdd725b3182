/-
  The document's Of: sought among all names.
-/
import Derived.Test.YtdakogmkpcldbaaDoorCanRef
import Derived.Test.YtdakogmkpcldbaaDoorCanOf
namespace Go.Proofs.YtdakogmkpcldbaaDoor
open Go.RowKit
set_option linter.unusedVariables false

/-- None of these names has the Id x. -/
def NoD (x k n d : Int) : Prop := ∀ d', 0 ≤ d' → d' < d → Can.idx k n d' ≠ (x, 0)
def NoN (x k n : Int) : Prop := ∀ n', 0 ≤ n' → n' < n → NoD x k n' 128
def NoK (x k : Int) : Prop := ∀ k', 1 ≤ k' → k' < k → NoN x k' 5
theorem noD_zero (x k n : Int) : NoD x k n 0 := fun d' h0 h1 => by omega
theorem noN_zero (x k : Int) : NoN x k 0 := fun d' h0 h1 => by omega
theorem noK_one (x : Int) : NoK x 1 := fun d' h0 h1 => by omega
theorem noD_next {x k n d : Int} (h : NoD x k n d) (h' : Can.idx k n d ≠ (x, 0)) : NoD x k n (d + 1) := fun d' h0 h1 => by
  by_cases e : d' = d
  · rw [e]; exact h'
  · exact h d' h0 (by omega)
theorem noN_next {x k n : Int} (h : NoN x k n) (h' : NoD x k n 128) : NoN x k (n + 1) := fun d' h0 h1 => by
  by_cases e : d' = n
  · rw [e]; exact h'
  · exact h d' h0 (by omega)
theorem noK_next {x k : Int} (h : NoK x k) (h' : NoN x k 5) : NoK x (k + 1) := fun d' h0 h1 => by
  by_cases e : d' = k
  · rw [e]; exact h'
  · exact h d' h0 (by omega)
theorem of_seen {x : Int} (h : NoK x 10) : Can.ofn x = ((0, 0, 0), false) :=
  Can.of_no fun k n d h1 h2 h3 h4 h5 h6 => h k h1 (by omega) n h3 (by omega) d h5 (by omega)
theorem of_hit {x k n d : Int} (h : Can.idx k n d = (x, 0)) : Can.ofn x = ((k, n, d), true) := by
  have := (Can.of_id (k := k) (n := n) (d := d) (by rw [h])).1
  rwa [h] at this

theorem size_rname : (Tryd.prog.info? 28).map (·.size) = some 3 := by kernel_rfl

set_option maxRecDepth 100000 in
set_option maxHeartbeats 4000000 in
theorem rof_any (x : Int) (w : World) :
    Calls Tryd.prog 12 #[.int .i64 x] w fun e w' => e = .returned (.tuple #[.agg #[.int .i64 (Can.ofn x).1.1, .int .i64 (Can.ofn x).1.2.1, .int .i64 (Can.ofn x).1.2.2], .bool (Can.ofn x).2]) ∧ Below w.heap.size w w' := by
  have HH := Lib.hid (fun k n d h => of_hit (x := x) (k := k) (n := n) (d := d) h)
  have HS := Lib.hid (fun h => of_seen (x := x) h)
  have K := Lib.hid (fun k n d W => rid_any k n d W)
  have ST := Lib.hid (OS.start 28 w)
  go_enter Tryd.func12, Tryd.ntmps12
  go_wp2_with fail
  generalize (w.alloc (.cells #[.int .i64 0, .int .i64 0, .int .i64 0] 28)) = W0 at *
  go_loopw [4] (fun i wr => ∃ k : Nat, 1 ≤ k ∧ k ≤ 10 ∧ i = .int .i64 (k : Int) ∧ NoK x (k : Int) ∧ OS 28 w wr) (fun i _ => 10 - (intOf i).toNat)
  case atStart => exact ⟨1, by omega, by omega, rfl, noK_one x, ST.out⟩
  case round =>
    obtain ⟨k, k1, k2, rfl, hK, hS⟩ := hrel
    have hK := Lib.hid hK
    have hS := Lib.hid hS
    clear ST
    by_cases hk : k ≤ 9
    · have dk : decide ((k : Int) ≤ 9) = true := decide_eq_true (by omega)
      go_wp2_with fail
      go_loopw [5] (fun i wr => ∃ n : Nat, n ≤ 5 ∧ i = .int .i64 (n : Int) ∧ NoN x (k : Int) (n : Int) ∧ OS 28 w wr) (fun i _ => 5 - (intOf i).toNat)
      case atStart => exact ⟨0, by omega, rfl, noN_zero x _, hS.out⟩
      case round =>
        obtain ⟨n, n2, rfl, hN, hS⟩ := hrel
        have hN := Lib.hid hN
        have hS := Lib.hid hS
        by_cases hn : n ≤ 4
        · have dn : decide ((n : Int) ≤ 4) = true := decide_eq_true (by omega)
          go_wp2_with fail
          go_loopw [6] (fun i wr => ∃ d : Nat, d ≤ 128 ∧ i = .int .i64 (d : Int) ∧ NoD x (k : Int) (n : Int) (d : Int) ∧ OS 28 w wr) (fun i _ => 128 - (intOf i).toNat)
          case atStart => exact ⟨0, by omega, rfl, noD_zero x _ _, hS.out⟩
          case round =>
            obtain ⟨d, d2, rfl, hD, hS⟩ := hrel
            have hD := Lib.hid hD
            have hS := Lib.hid hS
            by_cases hd : d ≤ 127
            · have C := Lib.hid (fun W => K.out (k : Int) (n : Int) (d : Int) W)
              have HH := Lib.hid (HH.out (k : Int) (n : Int) (d : Int))
              have hp : Can.idx (k : Int) (n : Int) (d : Int) = ((Can.idx (k : Int) (n : Int) (d : Int)).1, (Can.idx (k : Int) (n : Int) (d : Int)).2) := rfl
              have hp := Lib.hid hp
              generalize (Can.idx (k : Int) (n : Int) (d : Int)).1 = y at *
              generalize (Can.idx (k : Int) (n : Int) (d : Int)).2 = z at *
              go_wp2_with fail
              refine (C.out _).mono ?_
              rintro e w1 ⟨rfl, b1⟩
              have S1 := (hS.out.next (below_new wr (.cells #[.int .i64 (k : Int), .int .i64 (n : Int), .int .i64 (d : Int)] 28))).next b1
              have c0 : w1.cell? ⟨wr.heap.size, 0, none⟩ = some (.int .i64 (k : Int)) := cell_on (by simp [go_sem]) b1
              have c1 : w1.cell? ⟨wr.heap.size, 1, none⟩ = some (.int .i64 (n : Int)) := cell_on (by simp [go_sem]) b1
              have c2 : w1.cell? ⟨wr.heap.size, 2, none⟩ = some (.int .i64 (d : Int)) := cell_on (by simp [go_sem]) b1
              obtain ⟨q0, q1, q2, qf⟩ := S1.cells
              have S1 := Lib.hid S1
              clear b1
              by_cases hit : z = 0 ∧ y = x
              · have HR := Lib.hid (HH.out (by rw [hp.out, hit.1, hit.2]))
                have z0 : (z == 0) = true := by simpa using hit.1
                have y0 : (y == x) = true := by simpa using hit.2
                clear hit
                go_wp2_with fail
                obtain ⟨e1, e2⟩ := S1.out.set (.int .i64 (k : Int)) (.int .i64 (n : Int)) (.int .i64 (d : Int))
                (try simp only [Exit.inBlock, Exit.then])
                refine bodyPost_ret (results_row2 rfl _ _ w.heap.size _ _ _ _ rfl e1 Tryd.underlying28 rfl size_rname) rfl ⟨by rw [HR.out]; rfl, e2⟩
              · have hne : Can.idx (k : Int) (n : Int) (d : Int) ≠ (x, 0) := fun h => hit (by rw [hp.out] at h; simpa [and_comm] using h)
                have HD := Lib.hid (noD_next hD.out hne)
                by_cases hz : z = 0
                · have z0 : (z == 0) = true := by simpa using hz
                  have y0 : (y == x) = false := by simpa using fun h => hit ⟨hz, h⟩
                  clear hit hne hz
                  go_wp2_with fail
                  go_roundw
                  case rel => exact ⟨d + 1, by omega, by go_num, by exact_mod_cast HD.out, S1.out⟩
                  case measure => simp [intOf]; omega
                · have z0 : (z == 0) = false := by simpa using hz
                  clear hit hne hz
                  go_wp2_with fail
                  go_roundw
                  case rel => exact ⟨d + 1, by omega, by go_num, by exact_mod_cast HD.out, S1.out⟩
                  case measure => simp [intOf]; omega
            · have hD128 : NoD x (k : Int) (n : Int) 128 := by
                have := hD.out
                rwa [show (d : Int) = 128 by omega] at this
              have HN := Lib.hid (noN_next hN.out hD128)
              clear hD128
              go_wp2_with fail
              go_roundw
              case rel => exact ⟨n + 1, by omega, by go_num, by exact_mod_cast HN.out, hS.out⟩
              case measure => simp [intOf]; omega
        · have hN5 : NoN x (k : Int) 5 := by
            have := hN.out
            rwa [show (n : Int) = 5 by omega] at this
          have HK := Lib.hid (noK_next hK.out hN5)
          clear hN5
          go_wp2_with fail
          go_roundw
          case rel => exact ⟨k + 1, by omega, by omega, by go_num, by exact_mod_cast HK.out, hS.out⟩
          case measure => simp [intOf]; omega
    · have HR := Lib.hid (HS.out (by
        have := hK.out
        rwa [show (k : Int) = 10 by omega] at this))
      obtain ⟨q0, q1, q2, qf⟩ := hS.out.cells
      go_wp2_with fail
      obtain ⟨e1, e2⟩ := hS.out.set (.int .i64 0) (.int .i64 0) (.int .i64 0)
      (try simp only [Exit.inBlock, Exit.then])
      refine bodyPost_ret (results_row2 rfl _ _ w.heap.size _ _ _ _ rfl e1 Tryd.underlying28 rfl size_rname) rfl ⟨by rw [HR.out]; rfl, e2⟩
end Go.Proofs.YtdakogmkpcldbaaDoor
