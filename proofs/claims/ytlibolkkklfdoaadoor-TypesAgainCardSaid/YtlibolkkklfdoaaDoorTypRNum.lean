/-
  The document's number: digits read, minus the number gathered.
-/
import Derived.Test.YtlibolkkklfdoaaDoorTypNum
import Derived.Test.YtlibolkkklfdoaaDoorTypKnown
namespace Go.Proofs.YtlibolkkklfdoaaDoor
open Go.RowKit Mem
set_option linter.unusedVariables false

def numA (l : List UInt8) : Int × Int :=
  if Dec.decB l = false then (0, 1) else match Dec.numB l with | none => (0, 2) | some v => (v, 0)
theorem numA_form {l : List UInt8} (h : Dec.decB l = false) : numA l = (0, 1) := by unfold numA; rw [if_pos h]

theorem form_bad {a : Nat} {D : List UInt8} (ha : a ≤ 1) (h : D = [] ∨ (byt D 0 = 48 ∧ 1 < a + D.length)) : Dec.form (a == 1) D = false := by
  cases D with
  | nil => rfl
  | cons c r =>
    have h := h.resolve_left (by simp)
    have hc : c = 48 := UInt8.toNat_inj.1 (by have := h.1; simp [byt] at this; exact Int.ofNat_inj.1 this)
    subst hc
    unfold Dec.form
    by_cases h0 : (48 :: r) = [48]
    · rw [if_pos h0]
      have : a = 1 := by have := h.2; rw [h0] at this; simp at this; omega
      subst this
      rfl
    · rw [if_neg h0]
      rfl
theorem form_go {a : Nat} {D : List UInt8} (ha : a ≤ 1) (h : D ≠ []) (h2 : ¬ (byt D 0 = 48 ∧ 1 < a + D.length)) : Dec.form (a == 1) D = D.all Dec.isD := by
  cases D with
  | nil => exact absurd rfl h
  | cons c r =>
    unfold Dec.form
    by_cases h0 : (c :: r) = [48]
    · rw [if_pos h0]
      have ha0 : a = 0 := by
        cases h0
        have := h2
        simp [byt] at this
        omega
      subst ha0
      cases h0
      rfl
    · rw [if_neg h0]
      have hc : decide (c.toNat ≠ 48) = true := by
        simp
        intro e
        have e' : c = 48 := UInt8.toNat_inj.1 e
        subst e'
        cases r with
        | nil => exact h0 rfl
        | cons b r' => exact h2 ⟨rfl, by simp; omega⟩
      simp only [hc, Bool.true_and]
theorem split_at (l : List UInt8) (h : l ≠ []) : ∃ a D, a ≤ 1 ∧ l.length = a + D.length ∧ (∀ j, byt l (a + j) = byt D j) ∧ Dec.splitNeg l = (a == 1, D) ∧ (byt l 0 == 45) = (a == 1) := by
  rcases Dec.split_neg l with ⟨r, rfl, hs⟩ | ⟨hs, hne⟩
  · refine ⟨1, r, by omega, by simp; omega, fun j => ?_, hs, rfl⟩
    rw [Nat.add_comm]
    simp [byt]
  · refine ⟨0, l, by omega, by simp, fun j => by simp, hs, ?_⟩
    cases l with
    | nil => exact absurd rfl h
    | cons c r =>
      have : c ≠ 45 := fun e => hne r (by rw [e])
      simp [byt]
      intro e
      exact this (UInt8.toNat_inj.1 (Int.ofNat_inj.1 e))

structure NumI (V : Nat) (v : Int) (b : Bool) : Prop where
  no : b = false → v = -(V : Int) ∧ V ≤ 9223372036854775808
  yes : b = true → 9223372036854775808 < V
  bd : -9223372036854775808 ≤ v ∧ v ≤ 0
theorem NumI.start : NumI (Dec.val 0 (([] : List UInt8))) 0 false := ⟨fun _ => ⟨rfl, by decide⟩, (fun h => by cases h), by decide⟩
theorem tdiv_is {d : Int} (h0 : 0 ≤ d) (h1 : d ≤ 9) : (-9223372036854775808 + d).tdiv 10 = -((9223372036854775808 - d) / 10) := by
  rw [show (-9223372036854775808 + d : Int) = -(9223372036854775808 - d) by omega, Int.neg_tdiv, Int.tdiv_eq_ediv_of_nonneg (by omega)]
theorem NumI.wide {V : Nat} {v x : Int} {b : Bool} (I : NumI V v b) (h0 : ¬ x < 48) (h1 : ¬ 57 < x) (hq : v < (-9223372036854775808 + (x - 48)).tdiv 10) : NumI (V * 10 + (x.toNat - 48)) v true := by
  rw [tdiv_is (by omega) (by omega)] at hq
  refine ⟨(fun h => by cases h), fun _ => ?_, I.bd⟩
  cases b with
  | true => have := I.yes rfl; omega
  | false => have := I.no rfl; omega
theorem NumI.more {V : Nat} {v x : Int} {b : Bool} (I : NumI V v b) (h0 : ¬ x < 48) (h1 : ¬ 57 < x) (hq : (-9223372036854775808 + (x - 48)).tdiv 10 ≤ v) (hb : (!b) = true) : NumI (V * 10 + (x.toNat - 48)) (wrap64 (wrap64 (10 * v) - (x - 48))) b := by
  rw [tdiv_is (by omega) (by omega)] at hq
  obtain ⟨b0, b1⟩ := I.bd
  cases b with
  | true => cases hb
  | false =>
    have := I.no rfl
    have e : wrap64 (wrap64 (10 * v) - (x - 48)) = 10 * v - (x - 48) := by unfold wrap64; omega
    rw [e]
    exact ⟨fun _ => by omega, (fun h => by cases h), by omega⟩
theorem NumI.stay {V : Nat} {v x : Int} {b : Bool} (I : NumI V v b) (hb : (!b) = false) : NumI (V * 10 + (x.toNat - 48)) v b := by
  cases b with
  | false => cases hb
  | true => exact ⟨(fun h => by cases h), fun _ => by have := I.yes rfl; omega, I.bd⟩
theorem num_end {l D : List UInt8} {neg : Bool} {v : Int} {b : Bool} (hd : Dec.decB l = true) (hs : Dec.splitNeg l = (neg, D)) (I : NumI (Dec.val 0 D) v b) :
    numA l = if b then (0, 2) else if neg then (v, 0) else if v = -9223372036854775808 then (0, 2) else (-v, 0) := by
  unfold numA Dec.numB
  rw [if_neg (by rw [hd]; decide), hs]
  cases b with
  | true =>
    have := I.yes rfl
    cases neg with
    | true => simp only [if_true]; rw [if_neg (by omega)]
    | false => simp only [if_true, if_false, reduceCtorEq]; rw [if_neg (by omega)]
  | false =>
    obtain ⟨h1, h2⟩ := I.no rfl
    cases neg with
    | true => simp only [if_true, if_false, reduceCtorEq]; rw [if_pos h2, h1]
    | false =>
      simp only [if_false, reduceCtorEq]
      by_cases h : v = -9223372036854775808
      · rw [if_neg (by omega), if_pos h]
      · rw [if_pos (by omega), if_neg h, h1]; simp
theorem isD_byt {D : List UInt8} {k : Nat} (h : k < D.length) : Dec.isD D[k] = decide (48 ≤ byt D k ∧ byt D k ≤ 57) := by
  unfold Dec.isD
  rw [byt_at h]
  congr 1
  apply propext
  omega
theorem all_no {D : List UInt8} {k : Nat} (h : k < D.length) (hd : Dec.isD D[k] = false) : D.all Dec.isD = false := by
  rw [List.all_eq_false]
  exact ⟨D[k], List.getElem_mem h, by rw [hd]; decide⟩
theorem val_take {D : List UInt8} {k : Nat} (h : k < D.length) : Dec.val 0 (D.take (k + 1)) = Dec.val 0 (D.take k) * 10 + ((byt D k).toNat - 48) := by
  rw [List.take_succ_eq_append_getElem h, Dec.val_snoc, byt_at h]
  simp

set_option maxRecDepth 100000 in
set_option maxHeartbeats 1000000 in
theorem rnumber_any (l : List UInt8) (w : World) (hle : l.length ≤ 1000000) :
    Calls Tryd.prog 59 #[.string ⟨l.toArray⟩] w fun e w' => e = .returned (.tuple #[.int .i64 (numA l).1, .int .i64 (numA l).2]) ∧ w = w' := by
  by_cases hnil : l = []
  · subst hnil
    go_enter Tryd.func59, Tryd.ntmps59
    go_wp2_with fail
    go_ret2
    exact ⟨rfl, rfl⟩
  obtain ⟨a, D, ha, hlen, hat, hs, h45⟩ := split_at l hnil
  have HF : Hid (Dec.decB l = Dec.form (a == 1) D) := Lib.hid (by unfold Dec.decB; rw [hs])
  have hsz : (⟨l.toArray⟩ : ByteArray).size = l.length := tstr_size l
  have hpos : 0 < (⟨l.toArray⟩ : ByteArray).size := by rw [hsz]; cases l with | nil => exact absurd rfl hnil | cons _ _ => simp
  have hpos' : 0 < l.length := by rw [← hsz]; exact hpos
  have e0 := str_at l 0 hpos
  have HS := Lib.hid hs
  have HAT := Lib.hid hat
  clear hnil hs hat
  obtain ⟨b0, b1⟩ := byt_bd l 0
  by_cases hbad : D = [] ∨ (byt D 0 = 48 ∧ 1 < a + D.length)
  · have HN := Lib.hid (numA_form (HF.out.trans (form_bad ha hbad)))
    rcases hbad with hD | ⟨h48, hl1⟩
    · have ha1 : a = 1 := by rw [hD] at hlen; simp at hlen; omega
      subst ha1
      have hl1 : l.length = 1 := by rw [hD] at hlen; simpa using hlen
      have hL : (l.length : Int) = 1 := by omega
      simp only [beq_self_eq_true] at h45
      clear hD hlen
      go_enter Tryd.func59, Tryd.ntmps59
      go_wp2_with fail
      go_ret2
      exact ⟨by rw [HN.out]; rfl, rfl⟩
    · have hDpos : 0 < D.length := by
        cases D with
        | nil => simp [byt] at h48
        | cons _ _ => simp
      have e1 : ∀ h, ((((⟨l.toArray⟩ : ByteArray)[a]'h).toNat : Nat) : Int) = 48 := fun h => by rw [str_at]; exact (HAT.out 0).trans h48
      have hlo : a < (⟨l.toArray⟩ : ByteArray).size := by rw [hsz]; omega
      have e1' := e1 hlo
      have d1 : decide ((1 : Int) < (l.length : Int)) = true := by simp; omega
      have d0 : ((l.length : Int) == (a : Int)) = false := by simp; omega
      clear hlen h48 hDpos
      obtain rfl | rfl : a = 0 ∨ a = 1 := by omega
      · have h45' : (byt l 0 == 45) = false := h45
        have d0' : ((l.length : Int) == 0) = false := d0
        clear h45 e0 e1 d0
        go_enter Tryd.func59, Tryd.ntmps59
        go_wp2_with fail
        go_ret2
        exact ⟨by rw [HN.out]; rfl, rfl⟩
      · have h45' : (byt l 0 == 45) = true := h45
        have d0' : ((l.length : Int) == 1) = false := d0
        clear h45 e1 d0
        go_enter Tryd.func59, Tryd.ntmps59
        go_wp2_with fail
        go_ret2
        exact ⟨by rw [HN.out]; rfl, rfl⟩
  · have hD : D ≠ [] := fun h => hbad (.inl h)
    have hno : ¬ (byt D 0 = 48 ∧ 1 < a + D.length) := fun h => hbad (.inr h)
    have HG : Hid (Dec.decB l = D.all Dec.isD) := Lib.hid (HF.out.trans (form_go ha hD hno))
    have hDpos : 0 < D.length := by
      cases D with
      | nil => exact absurd rfl hD
      | cons _ _ => simp
    have hlo : a < (⟨l.toArray⟩ : ByteArray).size := by rw [hsz]; omega
    have e1 : ((((⟨l.toArray⟩ : ByteArray)[a]'hlo).toNat : Nat) : Int) = byt D 0 := by rw [str_at]; exact HAT.out 0
    have d0 : ((l.length : Int) == (a : Int)) = false := by simp; omega
    have hc : (byt D 0 == 48) = false ∨ (a = 0 ∧ (byt D 0 == 48) = true ∧ decide ((1 : Int) < (l.length : Int)) = false) := by
      by_cases h : byt D 0 = 48
      · right
        refine ⟨by omega, by rw [h]; rfl, by simp; omega⟩
      · left; simpa using h
    have HL := Lib.hid hlen
    obtain ⟨x0, x1⟩ := byt_bd D 0
    clear hbad hD hno hDpos hlen
    have hcs : (a = 0 ∧ (byt D 0 == 48) = false) ∨ (a = 1 ∧ (byt D 0 == 48) = false) ∨ (a = 0 ∧ (byt D 0 == 48) = true ∧ decide ((1 : Int) < (l.length : Int)) = false) := by
      rcases hc with h | h
      · rcases (show a = 0 ∨ a = 1 by omega) with h' | h'
        · exact .inl ⟨h', h⟩
        · exact .inr (.inl ⟨h', h⟩)
      · exact .inr (.inr h)
    clear hc
    rcases hcs with ⟨hv, c48⟩ | ⟨hv, c48⟩ | ⟨hv, c48, c1⟩
    focus
      have HAV : Hid ((a == 1) = false) := Lib.hid (by rw [hv]; rfl)
      have h45' : (byt D 0 == 45) = false := by have e : byt l 0 = byt D 0 := (by have := HAT.out 0; rwa [hv] at this); rw [← e, h45, hv]; rfl
      have d0' : ((l.length : Int) == 0) = false := by rw [hv] at d0; exact d0
      have e1' : ((((⟨l.toArray⟩ : ByteArray)[0]'hpos).toNat : Nat) : Int) = byt D 0 := by rw [str_at]; have := HAT.out 0; rwa [hv] at this
      have HV := Lib.hid hv
      clear h45 e0 e1 b0 b1 d0 hv
      go_enter Tryd.func59, Tryd.ntmps59
      go_wp2_with fail
      clear e1' c48 h45' d0' x0 x1 hlo hpos
    rotate_left
    focus
      have HAV : Hid ((a == 1) = true) := Lib.hid (by rw [hv]; rfl)
      have h45' : (byt l 0 == 45) = true := by rw [h45, hv]; rfl
      have d0' : ((l.length : Int) == 1) = false := by rw [hv] at d0; exact d0
      have hlo1 : 1 < (⟨l.toArray⟩ : ByteArray).size := by rw [hv] at hlo; exact hlo
      have e1' : ((((⟨l.toArray⟩ : ByteArray)[1]'hlo1).toNat : Nat) : Int) = byt D 0 := by rw [str_at]; have := HAT.out 0; rwa [hv] at this
      have HV := Lib.hid hv
      clear h45 e1 d0 hv
      go_enter Tryd.func59, Tryd.ntmps59
      go_wp2_with fail
      clear e1' e0 c48 h45' d0' x0 x1 hlo hlo1 hpos b0 b1
    rotate_left
    focus
      have HAV : Hid ((a == 1) = false) := Lib.hid (by rw [hv]; rfl)
      have h45' : (byt D 0 == 45) = false := by have e : byt l 0 = byt D 0 := (by have := HAT.out 0; rwa [hv] at this); rw [← e, h45, hv]; rfl
      have d0' : ((l.length : Int) == 0) = false := by rw [hv] at d0; exact d0
      have e1' : ((((⟨l.toArray⟩ : ByteArray)[0]'hpos).toNat : Nat) : Int) = byt D 0 := by rw [str_at]; have := HAT.out 0; rwa [hv] at this
      have HV := Lib.hid hv
      clear h45 e0 e1 b0 b1 d0 hv
      go_enter Tryd.func59, Tryd.ntmps59
      go_wp2_with fail
      clear e1' c48 h45' d0' c1 x0 x1 hlo hpos
    rotate_left
    all_goals
      go_loopw [5, 6, 7] (fun n wd i wr => ∃ (k x : Nat) (v : Int) (b : Bool), k ≤ D.length ∧ x = a + k ∧ i = .int .i64 (x : Int) ∧ n = .int .i64 v ∧ wd = .bool b ∧ (∀ c ∈ D.take k, Dec.isD c = true) ∧ NumI (Dec.val 0 (D.take k)) v b ∧ w = wr) (fun _ _ i _ => l.length - (intOf i).toNat)
      case atStart => exact ⟨0, a, 0, false, by omega, by omega, by rw [HV.out]; rfl, rfl, rfl, by simp, NumI.start, rfl⟩
      case round =>
        obtain ⟨k, x, v, b, hk, hx, rfl, rfl, rfl, hall, hI, rfl⟩ := hrel
        have HA := Lib.hid hall
        have HX := Lib.hid hx
        have HI := Lib.hid hI
        clear hall hx hI
        by_cases hlt : x < l.length
        · have hkl : k < D.length := by have := HL.out; have := HX.out; omega
          have hxs : x < (⟨l.toArray⟩ : ByteArray).size := by rw [hsz]; exact hlt
          have hcD : byt l x = byt D k := by rw [HX.out]; exact HAT.out k
          have e2 : ((((⟨l.toArray⟩ : ByteArray)[x]'hxs).toNat : Nat) : Int) = byt D k := by rw [str_at]; exact hcD
          have HCX := Lib.hid (isD_byt hkl)
          have HV' := Lib.hid (val_take hkl)
          have HKL := Lib.hid hkl
          obtain ⟨x0, x1⟩ := byt_bd D k
          clear hcD
          by_cases hlow : byt D k < 48
          · have HN := Lib.hid (numA_form (HG.out.trans (all_no hkl (HCX.out.trans (by simp; omega)))))
            go_wp2_with fail
            go_ret2
            exact ⟨by rw [HN.out]; rfl, rfl⟩
          · by_cases hhi : 57 < byt D k
            · have HN := Lib.hid (numA_form (HG.out.trans (all_no hkl (HCX.out.trans (by simp; omega)))))
              go_wp2_with fail
              go_ret2
              exact ⟨by rw [HN.out]; rfl, rfl⟩
            · obtain ⟨vl, vh⟩ := HI.out.bd
              have HA' : Hid (∀ c ∈ D.take (k + 1), Dec.isD c = true) := Lib.hid (by
                rw [List.take_succ_eq_append_getElem hkl]
                intro c hc
                rcases List.mem_append.1 hc with h | h
                · exact HA.out c h
                · simp at h
                  rw [h, HCX.out]
                  simp
                  omega)
              have HLO := Lib.hid hlow
              have HHI := Lib.hid hhi
              go_wp2_with fail
              · rename_i hq
                go_roundw
                case rel => exact ⟨k + 1, x + 1, v, true, by omega, by have := HX.out; omega, by go_num, rfl, rfl, HA'.out, by rw [HV'.out]; exact HI.out.wide HLO.out HHI.out hq, trivial⟩
                case measure => simp [intOf]; omega
              · rename_i hq hb
                go_roundw
                case rel => exact ⟨k + 1, x + 1, _, b, by omega, by have := HX.out; omega, by go_num, rfl, rfl, HA'.out, by rw [HV'.out]; exact HI.out.more HLO.out HHI.out hq hb, trivial⟩
                case measure => simp [intOf]; omega
              · rename_i hq hb
                go_roundw
                case rel => exact ⟨k + 1, x + 1, v, b, by omega, by have := HX.out; omega, by go_num, rfl, rfl, HA'.out, by rw [HV'.out]; exact HI.out.stay hb, trivial⟩
                case measure => simp [intOf]; omega
        · obtain rfl : k = D.length := by have := HL.out; have := HX.out; omega
          have hA := HA.out
          rw [List.take_length] at hA
          have hI := HI.out
          rw [List.take_length] at hI
          have HN := Lib.hid (num_end (HG.out.trans (List.all_eq_true.2 hA)) HS.out hI)
          obtain ⟨vl, vh⟩ := hI.bd
          clear hA hI
          cases b with
          | true =>
            have HN : Hid (numA l = (0, 2)) := HN
            go_wp2_with fail
            go_ret2
            exact ⟨by rw [HN.out]; rfl, rfl⟩
          | false =>
            rw [HAV.out] at HN
            by_cases hm : v = -9223372036854775808
            · subst hm
              go_wp2_with fail
              go_ret2
              exact ⟨by rw [HN.out]; rfl, rfl⟩
            · have hmb : (v == -9223372036854775808) = false := by simpa using hm
              have HM := Lib.hid hm
              go_wp2_with fail
              go_ret2
              exact ⟨by rw [HN.out]; simp [HM.out], rfl⟩
end Go.Proofs.YtlibolkkklfdoaaDoor
