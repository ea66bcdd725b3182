/-
  A region that draws its order and whose last operation waits for all the others, walked once in the order of its text, also where that last one writes what an earlier one reads.
-/
import Derived.Test.YtkkbjngjjeajoaaText
namespace Go.Proofs.Ytkkbjngjjeajoaa
namespace Txt
open Go

section
variable {P : Program} {ops : Array Oper} {Q : Exit → Act → World → Prop} {md : Region.Mode} {S : World → Prop}

/-- The form that is asked of the region: of all operations but number N. -/
def okN (md : Region.Mode) (ops : Array Oper) (N : Nat) : Bool :=
  (List.range ops.size).all fun k => match ops[k]? with
    | none => false
    | some o =>
      o.after.all (fun e => !Region.binds md e || decide (e.on < k)) &&
      ((match o.dst with | none => true | some d => decide (N ≤ k) || (List.range N).all fun j => j == k || dstOf ops j != some d) &&
      (o.looksAt ops).all fun d => (List.range N).all fun j => dstOf ops j != some d || o.after.any (fun e => Region.binds md e && e.on == j))

theorem okN_spec {N : Nat} (h : okN md ops N = true) {k : Nat} {o : Oper} (ho : ops[k]? = some o) :
    (∀ e ∈ o.after, Region.binds md e = true → e.on < k) ∧ (k < N → ∀ d, o.dst = some d → ∀ j, j < N → dstOf ops j = some d → j = k) ∧
    (∀ d ∈ o.looksAt ops, ∀ j, j < N → dstOf ops j = some d → ∃ e ∈ o.after, Region.binds md e = true ∧ e.on = j) := by
  have h1 := List.all_eq_true.1 h k (List.mem_range.2 (Array.getElem?_eq_some_iff.1 ho).1)
  simp only [ho, Bool.and_eq_true] at h1
  obtain ⟨ha, hd, hl⟩ := h1
  refine ⟨fun e he hb => ?_, fun hkN d hdd j hjN hj => ?_, fun d hdd j hjN hj => ?_⟩
  · have := Array.all_eq_true_iff_forall_mem.1 ha e he
    simpa [hb] using this
  · simp only [hdd, Bool.or_eq_true, decide_eq_true_eq, List.all_eq_true, List.mem_range] at hd
    rcases hd with hd | hd
    · omega
    · have := hd j hjN
      simpa [hj] using this
  · have := List.all_eq_true.1 (List.all_eq_true.1 hl d hdd) j (List.mem_range.2 hjN)
    simp only [hj, bne_self_eq_false, Bool.false_or] at this
    obtain ⟨e, he, hb⟩ := Array.any_eq_true'.1 this
    simp only [Bool.and_eq_true, beq_iff_eq] at hb
    exact ⟨e, he, hb.1, hb.2⟩

theorem ready_ofN {N : Nat} (hok : okN md ops N = true) {listed : Array Bool} (hz : listed.size = ops.size) : ∀ (n k : Nat), k < n → k < ops.size → listed.getD k true = false → Region.ready md ops listed ≠ [] := by
  intro n
  induction n with
  | zero => intro k h; omega
  | succ n ih =>
    intro k hk hks hl hr
    obtain ⟨o, ho⟩ : ∃ o, ops[k]? = some o := ⟨ops[k], Array.getElem?_eq_getElem hks⟩
    by_cases hall : ∀ e ∈ o.after, Region.binds md e = true → listed.getD e.on false = true
    · have : k ∈ Region.ready md ops listed := mem_ready.2 ⟨hl, o, ho, hall⟩
      rw [hr] at this; cases this
    · simp only [Classical.not_forall] at hall
      obtain ⟨e, he, hb, hne⟩ := hall
      have hlt := (okN_spec hok ho).1 e he hb
      refine ih e.on (by omega) (by omega) ?_ hr
      have : e.on < listed.size := by omega
      simp [this] at hne ⊢
      exact hne

theorem finalN {R : Act → World → Prop} {N : Nat} (hok : okN md ops N = true) : ∀ (n k : Nat) (a : Act), RunR P ops Q S R n k a → n + k = N → ∃ F : Act, F.defers = a.defers ∧ F.tmps.size = a.tmps.size ∧
    (∀ d, (∀ j, k ≤ j → j < N → dstOf ops j ≠ some d) → F.tmps[d]? = a.tmps[d]?) ∧
    (∀ j o, k ≤ j → j < N → ops[j]? = some o → ∃ (b : Act) (v : Value), b.defers = a.defers ∧ b.tmps.size = a.tmps.size ∧ (∀ d, (∀ i, j ≤ i → i < N → dstOf ops i ≠ some d) → F.tmps[d]? = b.tmps[d]?) ∧
      Step P ops Q S o v b ∧ (∀ d, o.dst = some d → F.tmps[d]? = (b.put o.dst v).tmps[d]?)) ∧
    (∀ w, S w → R F w) := by
  intro n
  induction n with
  | zero =>
    intro k a h hk
    exact ⟨a, rfl, rfl, fun _ _ => rfl, fun j o hj hjN ho => by omega, h⟩
  | succ n ih =>
    intro k a h hk
    obtain ⟨o, v, ho, hs, hr⟩ := h
    obtain ⟨F, f1, f2, f3, f4, f5⟩ := ih (k + 1) _ hr (by omega)
    have hdk : dstOf ops k = o.dst := by simp [dstOf, ho]
    have hall : ∀ d, (∀ j, k ≤ j → j < N → dstOf ops j ≠ some d) → F.tmps[d]? = a.tmps[d]? := fun d hd => by
      rw [f3 d fun j hj hjN => hd j (by omega) hjN, put_other _ _ _ _ (by rw [← hdk]; exact hd k (Nat.le_refl _) (by omega))]
    refine ⟨F, by rw [f1, put_defers], by rw [f2, put_size], hall, fun j oj hj hjN hoj => ?_, f5⟩
    rcases Nat.lt_or_ge k j with hlt | hge
    · obtain ⟨b, u, b1, b2, b3⟩ := f4 j oj hlt hjN hoj
      exact ⟨b, u, by rw [b1, put_defers], by rw [b2, put_size], b3⟩
    · have hjk : j = k := by omega
      subst hjk
      rw [ho] at hoj
      cases hoj
      refine ⟨a, v, rfl, rfl, hall, hs, fun d hd => ?_⟩
      refine f3 d fun i hi _ he => ?_
      have := (okN_spec hok ho).2.1 (by omega) d hd i (by omega) he
      omega

theorem anyN {N : Nat} (hN : ops.size = N + 1) (hok : okN md ops N = true) (htl : tailOk md ops N = true) (hsel : Region.noSelect ops = true)
    (hQ : ∀ c t t' d w, Q (.panic c) ⟨t, d⟩ w → Q (.panic c) ⟨t', d⟩ w) {F : Act}
    (f4 : ∀ j o, j < N → ops[j]? = some o → ∃ (b : Act) (v : Value), b.defers = F.defers ∧ b.tmps.size = F.tmps.size ∧ (∀ d, (∀ i, j ≤ i → i < N → dstOf ops i ≠ some d) → F.tmps[d]? = b.tmps[d]?) ∧
      Step P ops Q S o v b ∧ (∀ d, o.dst = some d → F.tmps[d]? = (b.put o.dst v).tmps[d]?)) (f5 : ∀ w, S w → wpOp P ops Q N (Q .normal) F w) :
    ∀ (fuel : Nat) (listed : Array Bool) (a : Act) (w : World), left ops listed = fuel + 1 → listed.size = ops.size → listed.getD N true = false → a.defers = F.defers → a.tmps.size = F.tmps.size →
      (∀ k o, ops[k]? = some o → listed.getD k true = true → ∀ e ∈ o.after, Region.binds md e = true → listed.getD e.on false = true) →
      (∀ d, (∀ j, j < N → listed.getD j true = false → dstOf ops j ≠ some d) → a.tmps[d]? = F.tmps[d]?) → S w → wpAny P md ops Q (fuel + 1) listed a w := by
  intro fuel
  induction fuel with
  | zero =>
    intro listed a w hf hz hlN hd hts hcl ht hS
    -- one is left: it is the last
    have hl : ∀ i, i < N → listed.getD i true = true := fun i hi => by
      cases h : listed.getD i true with
      | true => rfl
      | false =>
        have h1 := left_set (ops := ops) (listed := listed) (i := i) (by omega) hz h
        have h2 : (listed.setIfInBounds i true).getD N true = false := by rw [getD_set_ne true (by omega)]; exact hlN
        have h3 := left_set (ops := ops) (listed := listed.setIfInBounds i true) (i := N) (by omega) (by simpa using hz) h2
        omega
    have haF : a = F := by
      obtain ⟨t, d⟩ := a
      obtain ⟨t', d'⟩ := F
      have e1 : d = d' := hd
      have e2 : t = t' := Array.ext_getElem? fun i => ht i fun j hj hju => by rw [hl j hj] at hju; cases hju
      rw [e1, e2]
    subst haF
    refine ⟨fun hr => absurd hr (ready_ofN hok hz (N + 1) N (by omega) (by omega) hlN), fun i hi => ?_⟩
    obtain ⟨h0, o, ho, hall⟩ := mem_ready.1 hi
    have hiN : i = N := by
      rcases Nat.lt_or_ge i N with h | h
      · rw [hl i h] at h0; cases h0
      · have := (Array.getElem?_eq_some_iff.1 ho).1; omega
    subst hiN
    refine wpOp_mono (fun a' w' h => ⟨?_, h⟩) (f5 w hS)
    refine List.eq_nil_iff_forall_not_mem.2 fun k hk => ?_
    obtain ⟨h1, o', ho', _⟩ := mem_ready.1 hk
    by_cases hki : k = i
    · subst hki
      have : k < listed.size := by omega
      simp [this] at h1
    · rw [getD_set_ne true (Ne.symm hki), hl k (by have := (Array.getElem?_eq_some_iff.1 ho').1; omega)] at h1
      cases h1
  | succ fuel ih =>
    intro listed a w hf hz hlN hd hts hcl ht hS
    refine ⟨fun hr => absurd hr (ready_ofN hok hz (N + 1) N (by omega) (by omega) hlN), fun i hi => ?_⟩
    obtain ⟨h0, o, ho, hall⟩ := mem_ready.1 hi
    have his := (Array.getElem?_eq_some_iff.1 ho).1
    obtain ⟨k1, k2, k3⟩ := okN_spec hok ho
    by_cases hiN : i = N
    · -- the last one: then all the others are listed, and one alone is left
      subst hiN
      have hl := tail_listed htl (listed := listed) (fun k o' ho' h e he hb => by
        rcases h with h | h
        · exact hcl k o' ho' h e he hb
        · subst h; rw [ho] at ho'; cases ho'; exact hall e he hb) hz hN
      have h1 := left_set (ops := ops) (listed := listed) (i := i) his hz h0
      have h2 : left ops (listed.setIfInBounds i true) = 0 := by
        unfold left
        refine List.length_eq_zero_iff.2 (List.filter_eq_nil_iff.2 fun k hk => ?_)
        have hk' := List.mem_range.1 hk
        by_cases hki : k = i
        · subst hki
          have : k < listed.size := by omega
          simp [this]
        · have := hl (i - k + 1) k (by omega) (by omega)
          rw [getD_set_ne true (Ne.symm hki), this]
          decide
      omega
    · obtain ⟨b, v, b1, b2, b3, b4, b5⟩ := f4 i o (by omega) ho
      refine Step.at (Region.noSelect_spec hsel i o · · ho) b4 (by rw [hd, b1]) (by rw [hts, b2]) (fun d hdl => ?_) hQ ho hS fun w' hS' => ?_
      · rw [ht d fun j hj hju he => ?_, b3 d fun j hj hjN he => ?_]
        · obtain ⟨e, he1, he2, he3⟩ := k3 d hdl j hjN he
          have := k1 e he1 he2
          omega
        · obtain ⟨e, he1, he2, he3⟩ := k3 d hdl j hj he
          have := hall e he1 he2
          rw [he3] at this
          have hjs : j < listed.size := by omega
          simp [hjs] at hju this; rw [this] at hju; cases hju
      · refine ih _ _ _ ?_ (by simpa using hz) (by rw [getD_set_ne true hiN]; exact hlN) (by rw [put_defers, hd]) (by rw [put_size, hts]) (fun k ok hok' hlk e he hb => ?_) (fun d hdj => ?_) hS'
        · have := left_set his hz h0; omega
        · by_cases hki : k = i
          · subst hki
            rw [ho] at hok'; cases hok'
            exact getD_set_true (hall e he hb)
          · rw [getD_set_ne true (Ne.symm hki)] at hlk
            exact getD_set_true (hcl k ok hok' hlk e he hb)
        · have hidx : dstOf ops i = o.dst := by simp [dstOf, ho]
          by_cases hdd : o.dst = some d
          · rw [b5 d hdd, hdd]
            exact put_same _ _ _ _ (by rw [hts, b2])
          · rw [put_other _ _ _ _ hdd]
            refine ht d fun j hj hju he => ?_
            by_cases hji : j = i
            · subst hji; exact hdd (hidx ▸ he)
            · exact hdj j hj (by rw [getD_set_ne true (Ne.symm hji)]; exact hju) he

/-- **The law for a region whose last operation waits for all the others.** -/
theorem wp_region_tailN {id : Nat} {a : Act} {w : World} (N : Nat) (S : World → Prop) (hN : ops.size = N + 1) (hm : P.follows .mixedOrders = true) (hok : okN .any ops N = true) (htl : tailOk .any ops N = true) (hsel : Region.noSelect ops = true)
    (hQ : ∀ c t t' d w, Q (.panic c) ⟨t, d⟩ w → Q (.panic c) ⟨t', d⟩ w) (hS : S w.drew) (h : RunR P ops Q S (wpOp P ops Q N (Q .normal)) N 0 a) : (Code.region id ops true).wp P Q a w := by
  obtain ⟨F, f1, f2, f3, f4, f5⟩ := finalN (N := N) hok N 0 a h (by omega)
  refine wp_region_any hm ?_
  rw [hN]
  refine anyN hN hok htl hsel hQ (fun j o hj ho => ?_) f5 N _ a _ ?_ (by simp [hN]) (by simp) f1.symm f2.symm (fun k o ho hl => ?_) (fun d hd => ?_) hS
  · obtain ⟨b, v, b1, b2, b3⟩ := f4 j o (Nat.zero_le _) hj ho
    exact ⟨b, v, by rw [b1, f1], by rw [b2, f2], b3⟩
  · unfold left
    have : (List.range ops.size).filter (fun i => !(Array.replicate (N + 1) false).getD i true) = List.range ops.size := List.filter_eq_self.2 fun i hi => by
      have := List.mem_range.1 hi
      rw [hN] at this
      simp [this]
    rw [this, List.length_range, hN]
  · have := (Array.getElem?_eq_some_iff.1 ho).1
    rw [hN] at this
    simp [this] at hl
  · refine (f3 d fun j _ hj => ?_).symm
    exact hd j hj (by have : j < N + 1 := by omega
                      simp [this])

end
end Txt
end Go.Proofs.Ytkkbjngjjeajoaa
