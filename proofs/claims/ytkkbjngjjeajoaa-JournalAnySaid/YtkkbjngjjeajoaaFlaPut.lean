/-
  Program, Read, Bytes, Cut, Start.
-/
import Derived.Test.YtkkbjngjjeajoaaFlaErase
import Derived.Test.YtkkbjngjjeajoaaClone
namespace Go.Proofs.Ytkkbjngjjeajoaa
namespace Fla
open Go.RowKit Mem
set_option linter.unusedVariables false

/-- The slice at A reads as bs, and lies in neither of the blocks p and D. -/
def RdN (w : World) (p D : Nat) (A : Option Addr) (bs : List UInt8) : Prop :=
  bs = [] ∨ ∃ g off, A = some ⟨g, off, none⟩ ∧ g < w.heap.size ∧ g ≠ p ∧ g ≠ D ∧ ∀ j, j < bs.length → w.cell? ⟨g, off + j, none⟩ = some (.int .u8 (byt bs j))
section
variable {w w' W : World} {p D c : Nat} {s : Fl} {A : Option Addr} {bs : List UInt8}
theorem RdN.far (h : RdN w p D A bs) (hf : Far p D w w') : RdN w' p D A bs := by
  rcases h with rfl | ⟨g, off, e, hg, h1, h2, hc⟩
  · exact .inl rfl
  · exact .inr ⟨g, off, e, Nat.lt_of_lt_of_le hg hf.size, h1, h2, fun j hj => (World.cell?_of_block (w := w) (hf.block g hg h1 h2)).trans (hc j hj)⟩
theorem RdN.of_rd {B : Nat} (h : Rd w B A bs) (hB : B ≤ w.heap.size) (hp : B ≤ p) (hD : B ≤ D) : RdN w p D A bs := by
  rcases h with rfl | ⟨g, off, e, hg, hc⟩
  · exact .inl rfl
  · exact .inr ⟨g, off, e, by omega, by omega, by omega, hc⟩
theorem RdN.new {fr : Nat × Nat} (w : World) (t : TypeId) (bs : List UInt8) {cs : Array Value} (h : cs = (u8s bs).toArray) (hp : p < w.heap.size) (hD : D < w.heap.size) : RdN (w.alloc (.cells cs t fr)) p D (some ⟨w.heap.size, 0, none⟩) bs := by
  rcases Rd.newL (fr := fr) w t bs h with h1 | ⟨g, off, e, hg, hc⟩
  · exact .inl h1
  · cases e
    exact .inr ⟨_, _, rfl, hg, by omega, by omega, hc⟩
theorem RdN.at_ (h : RdN w p D A bs) {k : Nat} (hk : k < bs.length) : ∃ g off, A = some ⟨g, off, none⟩ ∧ w.cell? ⟨g, off + k, none⟩ = some (.int .u8 (byt bs k)) := by
  rcases h with rfl | ⟨g, off, e, _, _, _, hc⟩
  · simp at hk
  · exact ⟨g, off, e, hc k hk⟩

theorem reach_off (a n : Int) (h : s.on = false) : s.reachC a n = 7 := by unfold Fl.reachC; rw [h]; rfl
theorem reach_on (a n : Int) (h : s.on = true) : s.reachC a n = if s.inside a n then 0 else 9 := by unfold Fl.reachC; rw [h]; rfl
set_option maxHeartbeats 1000000 in
theorem reach_any (a n : Int) (a0 : -9223372036854775808 ≤ a) (a1 : a ≤ 9223372036854775807) (n0 : -9223372036854775808 ≤ n) (n1 : n ≤ 9223372036854775807) (h : IsF w p D c s) :
    Calls Try.prog 70 #[at_ p, .int .i64 a, .int .i64 n] w fun e w' => e = .returned (.int .i64 (s.reachC a n)) ∧ w = w' := by
  have H0 := Lib.hid (fnone_any h)
  have h10 := h.c10
  cases hon : s.on with
  | false =>
    rw [reach_off a n hon]
    rw [hon] at h10
    clear hon h
    go_enter Try.func70, Try.ntmps70
    go_wp2_with fail
    refine H0.out.mono ?_
    rintro e w1 ⟨rfl, rfl⟩
    go_wp2_with fail
    go_ret
    exact ⟨rfl, rfl⟩
  | true =>
    have HR := reach_on a n hon
    rw [hon] at h10
    have h0 := h.c0
    have hl := h.ok.len1
    by_cases ha : a < 0
    · have e : s.inside a n = false := by unfold Fl.inside; simp; omega
      rw [e] at HR
      rw [HR]
      clear hon h HR e
      go_enter Try.func70, Try.ntmps70
      go_wp2_with fail
      refine H0.out.mono ?_
      rintro e w1 ⟨rfl, rfl⟩
      go_wp2_with fail
      go_ret
      exact ⟨rfl, rfl⟩
    · by_cases hn : n < 0
      · have e : s.inside a n = false := by unfold Fl.inside; simp; omega
        rw [e] at HR
        rw [HR]
        clear hon h HR e
        go_enter Try.func70, Try.ntmps70
        go_wp2_with fail
        refine H0.out.mono ?_
        rintro e w1 ⟨rfl, rfl⟩
        go_wp2_with fail
        go_ret
        exact ⟨rfl, rfl⟩
      · by_cases hg : n ≤ (s.bs.length : Int) - a
        · have e : s.inside a n = true := by unfold Fl.inside; simp; omega
          rw [e] at HR
          rw [HR]
          clear hon h HR e
          go_enter Try.func70, Try.ntmps70
          go_wp2_with fail
          refine H0.out.mono ?_
          rintro e w1 ⟨rfl, rfl⟩
          go_wp2_with fail
          go_ret
          exact ⟨rfl, rfl⟩
        · have e : s.inside a n = false := by unfold Fl.inside; simp; omega
          rw [e] at HR
          rw [HR]
          clear hon h HR e
          go_enter Try.func70, Try.ntmps70
          go_wp2_with fail
          refine H0.out.mono ?_
          rintro e w1 ⟨rfl, rfl⟩
          go_wp2_with fail
          go_ret
          exact ⟨rfl, rfl⟩

/-- What is still to be programmed. -/
structure PI (s : Fl) (k : Nat) (x : List UInt8) (j : Nat) (u : Fl) : Prop where
  same : s.prog k x = u.prog (k + j) (x.drop j)
  ops : u.ops ≤ s.ops + j
  len : u.bs.length = s.bs.length
theorem PI.start (s : Fl) (k : Nat) (x : List UInt8) : PI s k x 0 s := ⟨by simp, by simp, rfl⟩
theorem PI.step {k j : Nat} {x : List UInt8} {u : Fl} (h : PI s k x j u) (hj : j < x.length) (hc : u.cuts = false) : PI s k x (j + 1) (u.put1 (k + j) (x.getD j 0)) := by
  refine ⟨?_, ?_, ?_⟩
  · rw [h.same, List.drop_eq_getElem_cons hj]
    simp only [Fl.prog, hc]
    rw [if_neg (by decide)]
    rw [List.getD_eq_getElem?_getD, List.getElem?_eq_getElem hj]
    rfl
  · rw [put1_ops _ _ hc]; have := h.ops; omega
  · rw [put1_len]; exact h.len
theorem PI.stop {k j : Nat} {x : List UInt8} {u : Fl} (h : PI s k x j u) (hj : j < x.length) (hc : u.cuts = true) : s.prog k x = (u.put1 (k + j) (x.getD j 0), 7) := by
  rw [h.same, List.drop_eq_getElem_cons hj]
  simp only [Fl.prog, hc]
  rw [if_pos trivial, List.getD_eq_getElem?_getD, List.getElem?_eq_getElem hj]
  rfl
theorem PI.done {k : Nat} {x : List UInt8} {u : Fl} (h : PI s k x x.length u) : s.prog k x = (u, 0) := by
  rw [h.same, List.drop_length]
  rfl

set_option maxHeartbeats 4000000 in
theorem program_any (n c' : Nat) (a : Int) (x : List UInt8) (a0 : -9223372036854775808 ≤ a) (a1 : a ≤ 9223372036854775807) (hx : RdN w p D A x) (hn : n = x.length) (hle : n ≤ 1099511627776) (h : IsF w p D c s) (ho : s.ops + n ≤ 4611686018427387904) :
    Calls Try.prog 76 #[at_ p, .int .i64 a, .slice A n c'] w (Ends p D c w (s.program a x).2 (s.program a x).1) := by
  subst hn
  have H0 := Lib.hid (reach_any a x.length a0 a1 (by omega) (by omega) h)
  unfold Fl.program
  by_cases hr : s.reachC a x.length = 0
  · rw [if_pos hr]
    rw [hr] at H0
    have hin : 0 ≤ a ∧ (x.length : Int) ≤ (s.bs.length : Int) - a := by
      cases hon : s.on with
      | false => rw [reach_off a _ hon] at hr; cases hr
      | true =>
        rw [reach_on a _ hon] at hr
        cases hi : s.inside a x.length with
        | false => rw [hi] at hr; cases hr
        | true => simp [Fl.inside] at hi; omega
    obtain ⟨k, rfl⟩ : ∃ k : Nat, a = (k : Int) := ⟨a.toNat, by omega⟩
    rw [Int.toNat_natCast]
    have hkx : k + x.length ≤ s.bs.length := by omega
    have hl1 := h.ok.len1
    have HX := Lib.hid hx
    have H := Lib.hid h
    generalize hq : s.prog k x = q
    have HQ := Lib.hid hq
    have HO := Lib.hid ho
    clear hr hin h hq hx a0 a1 ho
    go_enter Try.func76, Try.ntmps76
    go_wp2_with fail
    refine H0.out.mono ?_
    rintro e w1 ⟨rfl, rfl⟩
    go_wp2_with fail
    go_loopw [22] (fun i wr => ∃ (j : Nat) (u : Fl), j ≤ x.length ∧ i = .int .i64 (j : Int) ∧ IsF wr p D c u ∧ PI s k x j u ∧ Far p D w wr) (fun i _ => x.length - (intOf i).toNat)
    case atStart => exact ⟨0, s, Nat.zero_le _, rfl, H.out, PI.start _ _ _, Far.refl _ _ _⟩
    case round =>
      obtain ⟨j, u, hj, rfl, hi, hP, hF⟩ := hrel
      by_cases hlt : j < x.length
      · obtain ⟨g, off, rfl, hcx⟩ := (HX.out.far hF).at_ hlt
        have hbd := byt_bd x j
        have h0 := hi.c0
        rw [hP.len] at h0
        have hcap := hi.cap
        have hge : s.bs.length ≤ c := by rw [← hP.len]; exact hi.ge
        have huo : u.ops < 4611686018427387904 := by have := hP.ops; have := HO.out; omega
        have HB : Hid (byt x j = (((x.getD j 0).toNat : Nat) : Int)) := Lib.hid rfl
        have hkj : k + j < s.bs.length := by omega
        have HU := Lib.hid (fun W (hW : IsF W p D c u) => operate_p (k + j) (x.getD j 0) hW (by rw [hP.len]; omega) huo)
        have hput : ∀ b, (if u.cuts = true then (u.with_ (u.bs.set (k + j) (tornB (u.bs.getD (k + j) 0) b u.mask))).fell else (u.with_ (u.bs.set (k + j) (u.bs.getD (k + j) 0 &&& b))).past) = u.put1 (k + j) b := fun b => rfl
        rw [hput] at HU
        clear hput
        rw [← HB.out] at HU
        have HI := Lib.hid hi
        have HP := Lib.hid hP
        have HF := Lib.hid hF
        have hk0 : (0 : Int) ≤ (k : Int) := by omega
        have hjx : (j : Int) < (x.length : Int) := by omega
        have hkj2 : (k : Int) + (j : Int) < (s.bs.length : Int) := by omega
        cases hcu : u.cuts with
        | true =>
          rw [hcu, if_pos rfl] at HU
          have HS := Lib.hid (hP.stop hlt hcu)
          clear hcu hi hP hF huo
          generalize hu2 : u.put1 (k + j) (x.getD j 0) = u2 at *
          clear hu2
          generalize byt x j = xb at *
          go_wp2_with fail
          refine (HU.out _ (HI.out.alloc _)).mono ?_
          rintro e w3 ⟨rfl, i3, f3⟩
          have I3 := Lib.hid i3
          have F3 := Lib.hid ((HF.out.alloc _).trans f3)
          clear i3 f3
          go_wp2_with fail
          go_ret
          have e := HQ.out.symm.trans HS.out
          rw [e]
          exact ⟨rfl, I3.out, F3.out⟩
        | false =>
          rw [hcu, if_neg (by decide)] at HU
          have HS := Lib.hid (hP.step hlt hcu)
          clear hcu hi hP hF huo
          generalize hu2 : u.put1 (k + j) (x.getD j 0) = u2 at *
          clear hu2
          generalize byt x j = xb at *
          go_wp2_with fail
          refine (HU.out _ (HI.out.alloc _)).mono ?_
          rintro e w3 ⟨rfl, i3, f3⟩
          have I3 := Lib.hid i3
          have F3 := Lib.hid ((HF.out.alloc _).trans f3)
          clear i3 f3 h0 hcx
          go_wp2_with fail
          go_roundw
          case rel => exact ⟨j + 1, u2, by omega, by go_num, I3.out, HS.out, F3.out⟩
          case measure => simp [intOf]; omega
      · obtain rfl : j = x.length := by omega
        have HI := Lib.hid hi
        have HP := Lib.hid hP.done
        have HF := Lib.hid hF
        clear hi hP hF
        go_wp2_with fail
        go_ret
        have e := HQ.out.symm.trans HP.out
        rw [e]
        exact ⟨rfl, HI.out, HF.out⟩
  · rw [if_neg hr]
    have H := Lib.hid h
    have hb : (s.reachC a x.length != 0) = true := by simpa using hr
    generalize s.reachC a x.length = r at *
    clear hr h a0 a1
    go_enter Try.func76, Try.ntmps76
    go_wp2_with fail
    refine H0.out.mono ?_
    rintro e w1 ⟨rfl, rfl⟩
    go_wp2_with fail
    go_ret
    exact ⟨rfl, H.out, Far.refl _ _ _⟩
end
end Fla
end Go.Proofs.Ytkkbjngjjeajoaa
