/-
  A region that draws its order, walked once in the order of its text: where each temporary is written once, no operation looks at what a later one writes, and each operation, in every world that meets S, leaves one value and a world that meets S, whatever order is drawn ends in the same temporaries.
-/
import Derived.Deep.RegionHeld
namespace Go.Proofs.YtpdnfdpoebhjoaaDoor
namespace Txt
open Go

section
variable {P : Program} {ops : Array Oper} {Q : Exit → Act → World → Prop} {md : Region.Mode} {S : World → Prop}

def dstOf (ops : Array Oper) (k : Nat) : Option Tmp := (ops[k]?).bind (·.dst)

/-- The form that is asked of the region. -/
def ok (md : Region.Mode) (ops : Array Oper) : Bool :=
  (List.range ops.size).all fun k => match ops[k]? with
    | none => false
    | some o =>
      o.after.all (fun e => !Region.binds md e || decide (e.on < k)) &&
      ((match o.dst with | none => true | some d => (List.range ops.size).all fun j => j == k || dstOf ops j != some d) &&
      (o.looksAt ops).all fun d => (List.range ops.size).all fun j => dstOf ops j != some d || o.after.any (fun e => Region.binds md e && e.on == j))

theorem ok_spec (h : ok md ops = true) {k : Nat} {o : Oper} (ho : ops[k]? = some o) :
    (∀ e ∈ o.after, Region.binds md e = true → e.on < k) ∧ (∀ d, o.dst = some d → ∀ j, dstOf ops j = some d → j = k) ∧
    (∀ d ∈ o.looksAt ops, ∀ j, dstOf ops j = some d → ∃ e ∈ o.after, Region.binds md e = true ∧ e.on = j) := by
  have lt : ∀ {j : Nat} {d : Tmp}, dstOf ops j = some d → j < ops.size := fun {j d} hj => by
    unfold dstOf at hj
    rcases Nat.lt_or_ge j ops.size with h | h
    · exact h
    · rw [Array.getElem?_eq_none h] at hj; cases hj
  have h1 := List.all_eq_true.1 h k (List.mem_range.2 (Array.getElem?_eq_some_iff.1 ho).1)
  simp only [ho, Bool.and_eq_true] at h1
  obtain ⟨ha, hd, hl⟩ := h1
  refine ⟨fun e he hb => ?_, fun d hdd j hj => ?_, fun d hdd j hj => ?_⟩
  · have := Array.all_eq_true_iff_forall_mem.1 ha e he
    simpa [hb] using this
  · simp only [hdd, List.all_eq_true, List.mem_range] at hd
    have := hd j (lt hj)
    simpa [hj] using this
  · have := List.all_eq_true.1 (List.all_eq_true.1 hl d hdd) j (List.mem_range.2 (lt hj))
    simp only [hj, bne_self_eq_false, Bool.false_or] at this
    obtain ⟨e, he, hb⟩ := Array.any_eq_true'.1 this
    simp only [Bool.and_eq_true, beq_iff_eq] at hb
    exact ⟨e, he, hb.1, hb.2⟩

/-- One operation, from a state, in every world that meets S. -/
def Step (P : Program) (ops : Array Oper) (Q : Exit → Act → World → Prop) (S : World → Prop) (o : Oper) (v : Value) (a : Act) : Prop :=
  ∀ w, S w → if Region.wanted o (yielded ops a.tmps) = true then o.wp P a w (fun a' w' => a' = a.put o.dst v ∧ S w') Q else a.put o.dst undef = a.put o.dst v ∧ S w

/-- The operations from number k on, n of them, in the order of the text. -/
def Run (P : Program) (ops : Array Oper) (Q : Exit → Act → World → Prop) (S : World → Prop) : Nat → Nat → Act → Prop
  | 0, _, a => ∀ w, S w → Q .normal a w
  | n + 1, k, a => ∃ o v, ops[k]? = some o ∧ Step P ops Q S o v a ∧ Run P ops Q S n (k + 1) (a.put o.dst v)

theorem put_defers (a : Act) (d : Option Tmp) (v : Value) : (a.put d v).defers = a.defers := by cases d <;> rfl
theorem put_size (a : Act) (d : Option Tmp) (v : Value) : (a.put d v).tmps.size = a.tmps.size := by cases d <;> simp [Act.put]
theorem put_other (a : Act) (d : Option Tmp) (v : Value) (t : Tmp) (h : d ≠ some t) : (a.put d v).tmps[t]? = a.tmps[t]? := by
  cases d with
  | none => rfl
  | some d => exact Array.getElem?_setIfInBounds_ne (fun e => h (by rw [e]))
theorem put_same (a b : Act) (d : Tmp) (v : Value) (h : a.tmps.size = b.tmps.size) : (a.put (some d) v).tmps[d]? = (b.put (some d) v).tmps[d]? := by
  simp only [Act.put, Array.getElem?_setIfInBounds_self, h]
theorem put_eq {a b : Act} {d : Option Tmp} {u v : Value} (hs : a.tmps.size = b.tmps.size) (h : b.put d u = b.put d v) : a.put d u = a.put d v := by
  cases d with
  | none => rfl
  | some d =>
    rcases Nat.lt_or_ge d b.tmps.size with hd | hd
    · have h1 := congrArg (fun x : Act => x.tmps[d]?) h
      simp only [Act.put, Array.getElem?_setIfInBounds_self, hd, if_true] at h1
      rw [Option.some.inj h1]
    · have : a.tmps.size ≤ d := by omega
      simp [Act.put, Array.setIfInBounds_eq_of_size_le this]

/-- What a run in the order of the text leaves, and what each operation met there. -/
theorem final (hok : ok md ops = true) : ∀ (n k : Nat) (a : Act), Run P ops Q S n k a → n + k = ops.size → ∃ F : Act, F.defers = a.defers ∧ F.tmps.size = a.tmps.size ∧
    (∀ d, (∀ j, k ≤ j → dstOf ops j ≠ some d) → F.tmps[d]? = a.tmps[d]?) ∧
    (∀ j o, k ≤ j → ops[j]? = some o → ∃ (b : Act) (v : Value), b.defers = a.defers ∧ b.tmps.size = a.tmps.size ∧ (∀ d, (∀ i, j ≤ i → dstOf ops i ≠ some d) → F.tmps[d]? = b.tmps[d]?) ∧
      Step P ops Q S o v b ∧ (∀ d, o.dst = some d → F.tmps[d]? = (b.put o.dst v).tmps[d]?)) ∧
    (∀ w, S w → Q .normal F w) := by
  intro n
  induction n with
  | zero =>
    intro k a h hk
    refine ⟨a, rfl, rfl, fun _ _ => rfl, fun j o hj ho => ?_, h⟩
    have := (Array.getElem?_eq_some_iff.1 ho).1
    omega
  | succ n ih =>
    intro k a h hk
    obtain ⟨o, v, ho, hs, hr⟩ := h
    obtain ⟨F, f1, f2, f3, f4, f5⟩ := ih (k + 1) _ hr (by omega)
    have hdk : dstOf ops k = o.dst := by simp [dstOf, ho]
    have hall : ∀ d, (∀ j, k ≤ j → dstOf ops j ≠ some d) → F.tmps[d]? = a.tmps[d]? := fun d hd => by
      rw [f3 d fun j hj => hd j (by omega), put_other _ _ _ _ (by rw [← hdk]; exact hd k (Nat.le_refl _))]
    refine ⟨F, by rw [f1, put_defers], by rw [f2, put_size], hall, fun j oj hj hoj => ?_, f5⟩
    rcases Nat.lt_or_ge k j with hlt | hge
    · obtain ⟨b, u, b1, b2, b3⟩ := f4 j oj hlt hoj
      exact ⟨b, u, by rw [b1, put_defers], by rw [b2, put_size], b3⟩
    · have hjk : j = k := by omega
      subst hjk
      rw [ho] at hoj
      cases hoj
      refine ⟨a, v, rfl, rfl, hall, hs, fun d hd => ?_⟩
      refine f3 d fun i hi he => ?_
      have := (ok_spec hok ho).2.1 d hd i he
      omega

theorem eval_of {a b : Act} {x : Operand} (h : ∀ t, x = .tmp t → a.tmps[t]? = b.tmps[t]?) : a.eval x = b.eval x := by
  cases x with
  | tmp t =>
    have := h t rfl
    simp only [Act.eval, Array.getD_eq_getD_getElem?, this]
  | _ => rfl

/-- A step at another state that reads the same. -/
theorem Step.at {o : Oper} {v : Value} {a b : Act} (hsel : ∀ cs c, o.op ≠ .select cs c) (hs : Step P ops Q S o v b) (hd : a.defers = b.defers) (hz : a.tmps.size = b.tmps.size)
    (hl : ∀ d ∈ o.looksAt ops, a.tmps[d]? = b.tmps[d]?) (hQ : ∀ c t t' d w, Q (.panic c) ⟨t, d⟩ w → Q (.panic c) ⟨t', d⟩ w)
    {i : Nat} (hi : ops[i]? = some o) {K : Act → World → Prop} {w : World} (hS : S w) (hK : ∀ w', S w' → K (a.put o.dst v) w') : wpOp P ops Q i K a w := by
  have hx : execOp a.eval o = execOp b.eval o := execOp_congr o hsel fun x hx => eval_of fun t ht => hl t (by
    subst ht
    exact List.mem_append_left _ (List.mem_filterMap.2 ⟨.tmp t, by simpa using hx, rfl⟩))
  have hw : Region.wanted o (yielded ops a.tmps) = Region.wanted o (yielded ops b.tmps) := by
    unfold Region.wanted
    cases hg : o.guard with
    | none => rfl
    | some gw =>
      obtain ⟨g, want⟩ := gw
      have hy : yielded ops a.tmps g = yielded ops b.tmps g := by
        unfold yielded
        cases ht : (ops[g]?).bind (·.dst) with
        | none => rfl
        | some t =>
          have := hl t (by simp [Oper.looksAt, hg, ht])
          simp only [Option.bind_some, this]
      simp only [hy]
  have hp : ∀ c w', Q (.panic c) b w' → Q (.panic c) a w' := fun c w' h => by
    have h2 := hQ c b.tmps a.tmps b.defers w' h
    rw [← hd] at h2
    exact h2
  have back : ∀ u w', (b.put o.dst u = b.put o.dst v ∧ S w') → K (a.put o.dst u) w' := fun u w' h => by
    rw [put_eq hz h.1]; exact hK w' h.2
  have h0 := hs w hS
  unfold wpOp
  simp only [hi]
  rw [hw]
  split
  · rename_i hwt
    simp only [hwt, if_true] at h0
    refine .inl ?_
    unfold Oper.wp at *
    rw [hx]
    generalize (execOp b.eval o).run P w = r at *
    cases r with
    | ok n w' =>
      cases n <;> simp only [Oper.upon] at h0 ⊢
      case value u => exact back u w' h0
      case skip => exact back _ w' h0
      case defer d =>
        have := congrArg (fun x : Act => x.defers.length) h0.1
        simp only [put_defers, List.length_cons] at this
        omega
      case enter f args =>
        refine Calls.mono h0 fun e w'' he => ?_
        cases e with
        | returned u => exact back u w'' he
        | panicked c => exact hp _ _ he
        | outgrown => exact he
      case row row args => exact Rows.mono h0 fun u w'' he => back u w'' he
    | halt x w' =>
      cases x <;> simp only [Oper.upon] at h0 ⊢
      case panic u => exact hp _ _ h0
  · rename_i hwt
    simp only [hwt] at h0
    exact back undef w h0

def left (ops : Array Oper) (listed : Array Bool) : Nat := ((List.range ops.size).filter fun i => !listed.getD i true).length
theorem filter_one {l : List Nat} (hn : l.Nodup) {p q : Nat → Bool} {i : Nat} (hi : i ∈ l) (hp : p i = true) (hq : q i = false) (ho : ∀ j, j ≠ i → q j = p j) : (l.filter p).length = (l.filter q).length + 1 := by
  induction l with
  | nil => cases hi
  | cons x l ih =>
    obtain ⟨h1, h2⟩ := List.nodup_cons.1 hn
    by_cases hx : x = i
    · subst hx
      have : l.filter p = l.filter q := List.filter_congr fun j hj => (ho j (fun e => h1 (e ▸ hj))).symm
      simp [hp, hq, this]
    · have hi' : i ∈ l := (List.mem_cons.1 hi).resolve_left (fun e => hx e.symm)
      have := ih h2 hi'
      simp only [List.filter_cons, ho x hx]
      split <;> simp [this]
theorem left_set {listed : Array Bool} {i : Nat} (hi : i < ops.size) (hz : listed.size = ops.size) (h : listed.getD i true = false) : left ops listed = left ops (listed.setIfInBounds i true) + 1 := by
  unfold left
  refine filter_one List.nodup_range (List.mem_range.2 hi) (by simpa using h) ?_ fun j hj => ?_
  · have : i < listed.size := by omega
    simp [this]
  · rw [getD_set_ne true (Ne.symm hj)]

theorem ready_of (hok : ok md ops = true) {listed : Array Bool} (hz : listed.size = ops.size) : ∀ (n k : Nat), k < n → k < ops.size → listed.getD k true = false → Region.ready md ops listed ≠ [] := by
  intro n
  induction n with
  | zero => intro k h; omega
  | succ n ih =>
    intro k hk hks hl hr
    obtain ⟨o, ho⟩ : ∃ o, ops[k]? = some o := ⟨ops[k], Array.getElem?_eq_getElem hks⟩
    by_cases hall : ∀ e ∈ o.after, Region.binds md e = true → listed.getD e.on false = true
    · have : k ∈ Region.ready md ops listed := mem_ready.2 ⟨hl, o, ho, hall⟩
      rw [hr] at this; cases this
    · simp only [Classical.not_forall] at hall
      obtain ⟨e, he, hb, hne⟩ := hall
      have hlt := (ok_spec hok ho).1 e he hb
      refine ih e.on (by omega) (by omega) ?_ hr
      have : e.on < listed.size := by omega
      simp [this] at hne ⊢
      exact hne

/-- Whatever order is drawn. -/
theorem any (hok : ok md ops = true) (hsel : Region.noSelect ops = true) (hQ : ∀ c t t' d w, Q (.panic c) ⟨t, d⟩ w → Q (.panic c) ⟨t', d⟩ w) {F : Act}
    (f4 : ∀ j o, ops[j]? = some o → ∃ (b : Act) (v : Value), b.defers = F.defers ∧ b.tmps.size = F.tmps.size ∧ (∀ d, (∀ i, j ≤ i → dstOf ops i ≠ some d) → F.tmps[d]? = b.tmps[d]?) ∧
      Step P ops Q S o v b ∧ (∀ d, o.dst = some d → F.tmps[d]? = (b.put o.dst v).tmps[d]?)) (f5 : ∀ w, S w → Q .normal F w) :
    ∀ (fuel : Nat) (listed : Array Bool) (a : Act) (w : World), left ops listed = fuel → listed.size = ops.size → a.defers = F.defers → a.tmps.size = F.tmps.size →
      (∀ d, (∀ j, listed.getD j true = false → dstOf ops j ≠ some d) → a.tmps[d]? = F.tmps[d]?) → S w → wpAny P md ops Q fuel listed a w := by
  have done : ∀ (listed : Array Bool) (a : Act) (w : World), (∀ i, i < ops.size → listed.getD i true = true) → listed.size = ops.size → a.defers = F.defers → 
      (∀ d, (∀ j, listed.getD j true = false → dstOf ops j ≠ some d) → a.tmps[d]? = F.tmps[d]?) → S w → Q .normal a w := fun listed a w hl hz hd ht hS => by
    have : a = F := by
      obtain ⟨t, d⟩ := a
      obtain ⟨t', d'⟩ := F
      have e1 : d = d' := hd
      have e2 : t = t' := Array.ext_getElem? fun i => ht i fun j hj => by
        rcases Nat.lt_or_ge j ops.size with h | h
        · rw [hl j h] at hj; cases hj
        · simp [dstOf, Array.getElem?_eq_none h]
      rw [e1, e2]
    rw [this]; exact f5 w hS
  intro fuel
  induction fuel with
  | zero =>
    intro listed a w hf hz hd hts ht hS
    have hl : ∀ i, i < ops.size → listed.getD i true = true := fun i hi => by
      have := List.length_eq_zero_iff.1 hf
      have := (List.filter_eq_nil_iff.1 this) i (List.mem_range.2 hi)
      simpa using this
    refine ⟨?_, done listed a w hl hz hd ht hS⟩
    refine List.eq_nil_iff_forall_not_mem.2 fun i hi => ?_
    obtain ⟨h0, o, ho, _⟩ := mem_ready.1 hi
    rw [hl i (Array.getElem?_eq_some_iff.1 ho).1] at h0
    cases h0
  | succ fuel ih =>
    intro listed a w hf hz hd hts ht hS
    refine ⟨fun hr => ?_, fun i hi => ?_⟩
    · refine done listed a w (fun i hi => ?_) hz hd ht hS
      cases h : listed.getD i true with
      | true => rfl
      | false => exact absurd hr (ready_of hok hz (i + 1) i (by omega) hi h)
    · obtain ⟨h0, o, ho, hall⟩ := mem_ready.1 hi
      obtain ⟨b, v, b1, b2, b3, b4, b5⟩ := f4 i o ho
      obtain ⟨k1, k2, k3⟩ := ok_spec hok ho
      have his := (Array.getElem?_eq_some_iff.1 ho).1
      refine Step.at (Region.noSelect_spec hsel i o · · ho) b4 (by rw [hd, b1]) (by rw [hts, b2]) (fun d hdl => ?_) hQ ho hS fun w' hS' => ?_
      · rw [ht d fun j hj he => ?_, b3 d fun j hj he => ?_]
        · obtain ⟨e, he1, he2, he3⟩ := k3 d hdl j he
          have := k1 e he1 he2
          omega
        · obtain ⟨e, he1, he2, he3⟩ := k3 d hdl j he
          have := hall e he1 he2
          rw [he3] at this
          rcases Nat.lt_or_ge j listed.size with h | h
          · simp [h] at hj this; rw [this] at hj; cases hj
          · simp [Array.getElem?_eq_none h] at this
      · refine ih _ _ _ ?_ (by simpa using hz) (by rw [put_defers, hd]) (by rw [put_size, hts]) (fun d hdj => ?_) hS'
        · have := left_set his hz h0; omega
        · have hidx : dstOf ops i = o.dst := by simp [dstOf, ho]
          by_cases hdd : o.dst = some d
          · rw [b5 d hdd, hdd]
            exact put_same _ _ _ _ (by rw [hts, b2])
          · rw [put_other _ _ _ _ hdd]
            refine ht d fun j hj he => ?_
            by_cases hji : j = i
            · subst hji; exact hdd (hidx ▸ he)
            · exact hdj j (by rw [getD_set_ne true (Ne.symm hji)]; exact hj) he

/-- **The law.** -/
theorem wp_region_text {id : Nat} {a : Act} {w : World} (S : World → Prop) (hm : P.follows .mixedOrders = true) (hok : ok .any ops = true) (hsel : Region.noSelect ops = true)
    (hQ : ∀ c t t' d w, Q (.panic c) ⟨t, d⟩ w → Q (.panic c) ⟨t', d⟩ w) (hS : S w.drew) (h : Run P ops Q S ops.size 0 a) : (Code.region id ops true).wp P Q a w := by
  obtain ⟨F, f1, f2, f3, f4, f5⟩ := final hok ops.size 0 a h (by omega)
  refine wp_region_any hm ?_
  refine any hok hsel hQ (fun j o ho => ?_) f5 ops.size _ a _ ?_ (by simp) f1.symm f2.symm (fun d hd => ?_) hS
  · obtain ⟨b, v, b1, b2, b3⟩ := f4 j o (Nat.zero_le _) ho
    exact ⟨b, v, by rw [b1, f1], by rw [b2, f2], b3⟩
  · unfold left
    have : (List.range ops.size).filter (fun i => !(Array.replicate ops.size false).getD i true) = List.range ops.size := List.filter_eq_self.2 fun i hi => by
      have := List.mem_range.1 hi
      simp [this]
    rw [this, List.length_range]
  · refine (f3 d fun j _ => ?_).symm
    rcases Nat.lt_or_ge j ops.size with hj | hj
    · exact hd j (by simp [hj])
    · simp [dstOf, Array.getElem?_eq_none hj]

/-! ### A region whose last operation waits for all the others: it may break S -/
/-- Each operation but number N has a later one that waits for it. -/
def tailOk (md : Region.Mode) (ops : Array Oper) (N : Nat) : Bool :=
  (List.range N).all fun j => (List.range (N + 1)).any fun k => decide (j < k) && (match ops[k]? with | some o => o.after.any (fun e => Region.binds md e && e.on == j) | none => false)

theorem tail_listed {N : Nat} (h : tailOk md ops N = true) {listed : Array Bool}
    (hcl : ∀ k o, ops[k]? = some o → (listed.getD k true = true ∨ k = N) → ∀ e ∈ o.after, Region.binds md e = true → listed.getD e.on false = true) (hz : listed.size = ops.size) (hN : ops.size = N + 1) :
    ∀ (n j : Nat), N - j < n → j < N → listed.getD j true = true := by
  intro n
  induction n with
  | zero => intro j h; omega
  | succ n ih =>
    intro j hj hjN
    have h1 := List.all_eq_true.1 h j (List.mem_range.2 hjN)
    obtain ⟨k, hk, hk2⟩ := List.any_eq_true.1 h1
    have hkN := List.mem_range.1 hk
    simp only [Bool.and_eq_true, decide_eq_true_eq] at hk2
    obtain ⟨hjk, ho⟩ := hk2
    cases hok : ops[k]? with
    | none => simp [hok] at ho
    | some o =>
      simp only [hok] at ho
      obtain ⟨e, he, hb⟩ := Array.any_eq_true'.1 ho
      simp only [Bool.and_eq_true, beq_iff_eq] at hb
      have hl : listed.getD k true = true ∨ k = N := by
        by_cases hkn : k = N
        · exact .inr hkn
        · exact .inl (ih k (by omega) (by omega))
      have := hcl k o hok hl e he hb.1
      rw [hb.2] at this
      have hlt : j < listed.size := by omega
      simp [hlt] at this ⊢
      exact this

/-- The operations from number k on, n of them, in the order of the text; R behind them. -/
def RunR (P : Program) (ops : Array Oper) (Q : Exit → Act → World → Prop) (S : World → Prop) (R : Act → World → Prop) : Nat → Nat → Act → Prop
  | 0, _, a => ∀ w, S w → R a w
  | n + 1, k, a => ∃ o v, ops[k]? = some o ∧ Step P ops Q S o v a ∧ RunR P ops Q S R n (k + 1) (a.put o.dst v)

theorem finalR {R : Act → World → Prop} {N : Nat} (hok : ok md ops = true) : ∀ (n k : Nat) (a : Act), RunR P ops Q S R n k a → n + k = N → ∃ F : Act, F.defers = a.defers ∧ F.tmps.size = a.tmps.size ∧
    (∀ d, (∀ j, k ≤ j → j < N → dstOf ops j ≠ some d) → F.tmps[d]? = a.tmps[d]?) ∧
    (∀ j o, k ≤ j → j < N → ops[j]? = some o → ∃ (b : Act) (v : Value), b.defers = a.defers ∧ b.tmps.size = a.tmps.size ∧ (∀ d, (∀ i, j ≤ i → i < N → dstOf ops i ≠ some d) → F.tmps[d]? = b.tmps[d]?) ∧
      Step P ops Q S o v b ∧ (∀ d, o.dst = some d → F.tmps[d]? = (b.put o.dst v).tmps[d]?)) ∧
    (∀ w, S w → R F w) := by
  intro n
  induction n with
  | zero =>
    intro k a h hk
    exact ⟨a, rfl, rfl, fun _ _ => rfl, fun j o hj hjN ho => by omega, h⟩
  | succ n ih =>
    intro k a h hk
    obtain ⟨o, v, ho, hs, hr⟩ := h
    obtain ⟨F, f1, f2, f3, f4, f5⟩ := ih (k + 1) _ hr (by omega)
    have hdk : dstOf ops k = o.dst := by simp [dstOf, ho]
    have hall : ∀ d, (∀ j, k ≤ j → j < N → dstOf ops j ≠ some d) → F.tmps[d]? = a.tmps[d]? := fun d hd => by
      rw [f3 d fun j hj hjN => hd j (by omega) hjN, put_other _ _ _ _ (by rw [← hdk]; exact hd k (Nat.le_refl _) (by omega))]
    refine ⟨F, by rw [f1, put_defers], by rw [f2, put_size], hall, fun j oj hj hjN hoj => ?_, f5⟩
    rcases Nat.lt_or_ge k j with hlt | hge
    · obtain ⟨b, u, b1, b2, b3⟩ := f4 j oj hlt hjN hoj
      exact ⟨b, u, by rw [b1, put_defers], by rw [b2, put_size], b3⟩
    · have hjk : j = k := by omega
      subst hjk
      rw [ho] at hoj
      cases hoj
      refine ⟨a, v, rfl, rfl, hall, hs, fun d hd => ?_⟩
      refine f3 d fun i hi _ he => ?_
      have := (ok_spec hok ho).2.1 d hd i he
      omega

theorem anyR {N : Nat} (hN : ops.size = N + 1) (hok : ok md ops = true) (htl : tailOk md ops N = true) (hsel : Region.noSelect ops = true)
    (hQ : ∀ c t t' d w, Q (.panic c) ⟨t, d⟩ w → Q (.panic c) ⟨t', d⟩ w) {F : Act}
    (f4 : ∀ j o, j < N → ops[j]? = some o → ∃ (b : Act) (v : Value), b.defers = F.defers ∧ b.tmps.size = F.tmps.size ∧ (∀ d, (∀ i, j ≤ i → i < N → dstOf ops i ≠ some d) → F.tmps[d]? = b.tmps[d]?) ∧
      Step P ops Q S o v b ∧ (∀ d, o.dst = some d → F.tmps[d]? = (b.put o.dst v).tmps[d]?)) (f5 : ∀ w, S w → wpOp P ops Q N (Q .normal) F w) :
    ∀ (fuel : Nat) (listed : Array Bool) (a : Act) (w : World), left ops listed = fuel + 1 → listed.size = ops.size → listed.getD N true = false → a.defers = F.defers → a.tmps.size = F.tmps.size →
      (∀ k o, ops[k]? = some o → listed.getD k true = true → ∀ e ∈ o.after, Region.binds md e = true → listed.getD e.on false = true) →
      (∀ d, (∀ j, j < N → listed.getD j true = false → dstOf ops j ≠ some d) → a.tmps[d]? = F.tmps[d]?) → S w → wpAny P md ops Q (fuel + 1) listed a w := by
  intro fuel
  induction fuel with
  | zero =>
    intro listed a w hf hz hlN hd hts hcl ht hS
    -- one is left: it is the last
    have hl : ∀ i, i < N → listed.getD i true = true := fun i hi => by
      cases h : listed.getD i true with
      | true => rfl
      | false =>
        have h1 := left_set (ops := ops) (listed := listed) (i := i) (by omega) hz h
        have h2 : (listed.setIfInBounds i true).getD N true = false := by rw [getD_set_ne true (by omega)]; exact hlN
        have h3 := left_set (ops := ops) (listed := listed.setIfInBounds i true) (i := N) (by omega) (by simpa using hz) h2
        omega
    have haF : a = F := by
      obtain ⟨t, d⟩ := a
      obtain ⟨t', d'⟩ := F
      have e1 : d = d' := hd
      have e2 : t = t' := Array.ext_getElem? fun i => ht i fun j hj hju => by rw [hl j hj] at hju; cases hju
      rw [e1, e2]
    subst haF
    refine ⟨fun hr => absurd hr (ready_of hok hz (N + 1) N (by omega) (by omega) hlN), fun i hi => ?_⟩
    obtain ⟨h0, o, ho, hall⟩ := mem_ready.1 hi
    have hiN : i = N := by
      rcases Nat.lt_or_ge i N with h | h
      · rw [hl i h] at h0; cases h0
      · have := (Array.getElem?_eq_some_iff.1 ho).1; omega
    subst hiN
    refine wpOp_mono (fun a' w' h => ⟨?_, h⟩) (f5 w hS)
    refine List.eq_nil_iff_forall_not_mem.2 fun k hk => ?_
    obtain ⟨h1, o', ho', _⟩ := mem_ready.1 hk
    by_cases hki : k = i
    · subst hki
      have : k < listed.size := by omega
      simp [this] at h1
    · rw [getD_set_ne true (Ne.symm hki), hl k (by have := (Array.getElem?_eq_some_iff.1 ho').1; omega)] at h1
      cases h1
  | succ fuel ih =>
    intro listed a w hf hz hlN hd hts hcl ht hS
    refine ⟨fun hr => absurd hr (ready_of hok hz (N + 1) N (by omega) (by omega) hlN), fun i hi => ?_⟩
    obtain ⟨h0, o, ho, hall⟩ := mem_ready.1 hi
    have his := (Array.getElem?_eq_some_iff.1 ho).1
    obtain ⟨k1, k2, k3⟩ := ok_spec hok ho
    by_cases hiN : i = N
    · -- the last one: then all the others are listed, and one alone is left
      subst hiN
      have hl := tail_listed htl (listed := listed) (fun k o' ho' h e he hb => by
        rcases h with h | h
        · exact hcl k o' ho' h e he hb
        · subst h; rw [ho] at ho'; cases ho'; exact hall e he hb) hz hN
      have h1 := left_set (ops := ops) (listed := listed) (i := i) his hz h0
      have h2 : left ops (listed.setIfInBounds i true) = 0 := by
        unfold left
        refine List.length_eq_zero_iff.2 (List.filter_eq_nil_iff.2 fun k hk => ?_)
        have hk' := List.mem_range.1 hk
        by_cases hki : k = i
        · subst hki
          have : k < listed.size := by omega
          simp [this]
        · have := hl (i - k + 1) k (by omega) (by omega)
          rw [getD_set_ne true (Ne.symm hki), this]
          decide
      omega
    · obtain ⟨b, v, b1, b2, b3, b4, b5⟩ := f4 i o (by omega) ho
      refine Step.at (Region.noSelect_spec hsel i o · · ho) b4 (by rw [hd, b1]) (by rw [hts, b2]) (fun d hdl => ?_) hQ ho hS fun w' hS' => ?_
      · rw [ht d fun j hj hju he => ?_, b3 d fun j hj hjN he => ?_]
        · obtain ⟨e, he1, he2, he3⟩ := k3 d hdl j he
          have := k1 e he1 he2
          omega
        · obtain ⟨e, he1, he2, he3⟩ := k3 d hdl j he
          have := hall e he1 he2
          rw [he3] at this
          have hjs : j < listed.size := by omega
          simp [hjs] at hju this; rw [this] at hju; cases hju
      · refine ih _ _ _ ?_ (by simpa using hz) (by rw [getD_set_ne true hiN]; exact hlN) (by rw [put_defers, hd]) (by rw [put_size, hts]) (fun k ok hok' hlk e he hb => ?_) (fun d hdj => ?_) hS'
        · have := left_set his hz h0; omega
        · by_cases hki : k = i
          · subst hki
            rw [ho] at hok'; cases hok'
            exact getD_set_true (hall e he hb)
          · rw [getD_set_ne true (Ne.symm hki)] at hlk
            exact getD_set_true (hcl k ok hok' hlk e he hb)
        · have hidx : dstOf ops i = o.dst := by simp [dstOf, ho]
          by_cases hdd : o.dst = some d
          · rw [b5 d hdd, hdd]
            exact put_same _ _ _ _ (by rw [hts, b2])
          · rw [put_other _ _ _ _ hdd]
            refine ht d fun j hj hju he => ?_
            by_cases hji : j = i
            · subst hji; exact hdd (hidx ▸ he)
            · exact hdj j hj (by rw [getD_set_ne true (Ne.symm hji)]; exact hju) he

/-- **The law for a region whose last operation waits for all the others.** -/
theorem wp_region_tail {id : Nat} {a : Act} {w : World} (N : Nat) (S : World → Prop) (hN : ops.size = N + 1) (hm : P.follows .mixedOrders = true) (hok : ok .any ops = true) (htl : tailOk .any ops N = true) (hsel : Region.noSelect ops = true)
    (hQ : ∀ c t t' d w, Q (.panic c) ⟨t, d⟩ w → Q (.panic c) ⟨t', d⟩ w) (hS : S w.drew) (h : RunR P ops Q S (wpOp P ops Q N (Q .normal)) N 0 a) : (Code.region id ops true).wp P Q a w := by
  obtain ⟨F, f1, f2, f3, f4, f5⟩ := finalR (N := N) hok N 0 a h (by omega)
  refine wp_region_any hm ?_
  rw [hN]
  refine anyR hN hok htl hsel hQ (fun j o hj ho => ?_) f5 N _ a _ ?_ (by simp [hN]) (by simp) f1.symm f2.symm (fun k o ho hl => ?_) (fun d hd => ?_) hS
  · obtain ⟨b, v, b1, b2, b3⟩ := f4 j o (Nat.zero_le _) hj ho
    exact ⟨b, v, by rw [b1, f1], by rw [b2, f2], b3⟩
  · unfold left
    have : (List.range ops.size).filter (fun i => !(Array.replicate (N + 1) false).getD i true) = List.range ops.size := List.filter_eq_self.2 fun i hi => by
      have := List.mem_range.1 hi
      rw [hN] at this
      simp [this]
    rw [this, List.length_range, hN]
  · have := (Array.getElem?_eq_some_iff.1 ho).1
    rw [hN] at this
    simp [this] at hl
  · refine (f3 d fun j _ hj => ?_).symm
    exact hd j hj (by have : j < N + 1 := by omega
                      simp [this])

/-- The next operation, the state behind it written out. -/
theorem stepR {R : Act → World → Prop} {n k : Nat} {o : Oper} {a a' : Act} (ho : ops[k]? = some o)
    (h : ∀ w, S w → ∀ K : Act → World → Prop, Shut (∀ w', S w' → K a' w') → if Region.wanted o (yielded ops a.tmps) = true then o.wp P a w K Q else K (a.put o.dst undef) w)
    (e : ∃ v, a' = a.put o.dst v) (r : RunR P ops Q S R n (k + 1) a') : RunR P ops Q S R (n + 1) k a := by
  obtain ⟨v, rfl⟩ := e
  refine ⟨o, v, ho, fun w hS => ?_, r⟩
  exact h w hS (fun a' w' => a' = a.put o.dst v ∧ S w') fun w' hS' => ⟨rfl, hS'⟩
/-- The last operation. -/
theorem lastR {k i : Nat} {o : Oper} {a : Act} (ho : ops[i]? = some o)
    (h : ∀ w, S w → ∀ K : Act → World → Prop, Shut (∀ a' w', Q .normal a' w' → K a' w') → if Region.wanted o (yielded ops a.tmps) = true then o.wp P a w K Q else K (a.put o.dst undef) w) :
    RunR P ops Q S (wpOp P ops Q i (Q .normal)) 0 k a := fun w hS => wpOp_step ho fun K' hK => h w hS K' fun a' w' hq => hK a' w' hq

/-- The next operation of the text. -/
theorem next {n k : Nat} {o : Oper} {v : Value} {a : Act} (ho : ops[k]? = some o)
    (h : ∀ w, S w → ∀ K : Act → World → Prop, (∀ a' w', a' = a.put o.dst v → S w' → K a' w') → if Region.wanted o (yielded ops a.tmps) = true then o.wp P a w K Q else K (a.put o.dst undef) w)
    (r : Run P ops Q S n (k + 1) (a.put o.dst v)) : Run P ops Q S (n + 1) k a :=
  ⟨o, v, ho, fun w hS => by
    have := h w hS (fun a' w' => a' = a.put o.dst v ∧ S w') fun a' w' e s => ⟨e, s⟩
    exact this, r⟩
/-- The same, the state behind it written out. -/
theorem step {n k : Nat} {o : Oper} {a a' : Act} (ho : ops[k]? = some o)
    (h : ∀ w, S w → ∀ K : Act → World → Prop, Shut (∀ w', S w' → K a' w') → if Region.wanted o (yielded ops a.tmps) = true then o.wp P a w K Q else K (a.put o.dst undef) w)
    (e : ∃ v, a' = a.put o.dst v) (r : Run P ops Q S n (k + 1) a') : Run P ops Q S (n + 1) k a := by
  obtain ⟨v, rfl⟩ := e
  exact next ho (fun w hS K hK => h w hS K (fun w' hS' => hK _ w' rfl hS')) r
/-- The law, the number of operations written out. -/
theorem wp_region_textN {id : Nat} {a : Act} {w : World} (N : Nat) (S : World → Prop) (hN : ops.size = N) (hm : P.follows .mixedOrders = true) (hok : ok .any ops = true) (hsel : Region.noSelect ops = true)
    (hQ : ∀ c t t' d w, Q (.panic c) ⟨t, d⟩ w → Q (.panic c) ⟨t', d⟩ w) (hS : S w.drew) (h : Run P ops Q S N 0 a) : (Code.region id ops true).wp P Q a w :=
  wp_region_text S hm hok hsel hQ hS (hN ▸ h)
theorem last {k : Nat} {a : Act} (h : ∀ w, S w → Q .normal a w) : Run P ops Q S 0 k a := h
end
end Txt
end Go.Proofs.YtpdnfdpoebhjoaaDoor
