/-
  A region that draws its order, walked once in the order of its text, where one operation's value differs from order to order (a call that makes memory), and one other operation alone looks at it, whose own value is the same in every order.
-/
import Derived.Test.YtpdnfdpoebhjoaaDoorText
namespace Go.Proofs.YtpdnfdpoebhjoaaDoor
namespace Txt
open Go

section
variable {P : Program} {ops : Array Oper} {Q : Exit → Act → World → Prop} {md : Region.Mode} {S : World → Prop} {V : Value → World → Prop}

/-- S, and once the value is there, V of it. -/
def T (S : World → Prop) (V : Value → World → Prop) (ou : Option Value) (w : World) : Prop := S w ∧ ∀ u, ou = some u → V u w

theorem put_comm (a : Act) (t d : Tmp) (u v : Value) (h : d ≠ t) : (a.put (some d) v).put (some t) u = (a.put (some t) u).put (some d) v := by
  simp only [Act.put]
  congr 1
  refine Array.ext_getElem? fun i => ?_
  simp only [Array.getElem?_setIfInBounds, Array.size_setIfInBounds]
  by_cases h1 : t = i
  · by_cases h2 : d = i
    · exact absurd (h2.trans h1.symm) h
    · simp [h1, h2]
  · by_cases h2 : d = i
    · simp [h1, h2]
    · simp [h1, h2]

/-- An operation at another state that reads the same. -/
theorem wp_move {o : Oper} {a b : Act} (hsel : ∀ cs c, o.op ≠ .select cs c) (hd : a.defers = b.defers) (hz : a.tmps.size = b.tmps.size)
    (hl : ∀ d ∈ o.looksAt ops, a.tmps[d]? = b.tmps[d]?) (hQ : ∀ c t t' d w, Q (.panic c) ⟨t, d⟩ w → Q (.panic c) ⟨t', d⟩ w)
    {X : Value → World → Prop} {K : Act → World → Prop} {w : World} (h : o.wp P b w (fun a' w' => ∃ u, a' = b.put o.dst u ∧ X u w') Q) (hK : ∀ u w', X u w' → K (a.put o.dst u) w') : o.wp P a w K Q := by
  have hx : execOp a.eval o = execOp b.eval o := execOp_congr o hsel fun x hx => eval_of fun t ht => hl t (by
    subst ht
    exact List.mem_append_left _ (List.mem_filterMap.2 ⟨.tmp t, by simpa using hx, rfl⟩))
  have hp : ∀ c w', Q (.panic c) b w' → Q (.panic c) a w' := fun c w' h => by
    have h2 := hQ c b.tmps a.tmps b.defers w' h
    rw [← hd] at h2
    exact h2
  have back : ∀ u w', (∃ u', b.put o.dst u = b.put o.dst u' ∧ X u' w') → K (a.put o.dst u) w' := fun u w' ⟨u', h1, h2⟩ => by
    rw [put_eq hz h1]; exact hK u' w' h2
  unfold Oper.wp at *
  rw [hx]
  generalize (execOp b.eval o).run P w = r at *
  cases r with
  | ok n w' =>
    cases n <;> simp only [Oper.upon] at h ⊢
    case value u => exact back u w' h
    case skip => exact back _ w' h
    case defer d =>
      obtain ⟨u, h1, _⟩ := h
      have := congrArg (fun x : Act => x.defers.length) h1
      simp only [put_defers, List.length_cons] at this
      omega
    case enter f args =>
      refine Calls.mono h fun e w'' he => ?_
      cases e with
      | returned u => exact back u w'' he
      | panicked c => exact hp _ _ he
      | outgrown => exact he
    case row row args => exact Rows.mono h fun u w'' he => back u w'' he
  | halt x w' =>
    cases x <;> simp only [Oper.upon] at h ⊢
    case panic u => exact hp _ _ h

/-- What is asked of one operation: k its number, i the one whose value differs, c the one that looks at it, t its slot. -/
def AskV (P : Program) (ops : Array Oper) (Q : Exit → Act → World → Prop) (S : World → Prop) (V : Value → World → Prop) (i c : Nat) (t : Tmp) (k : Nat) (o : Oper) (v : Value) (a : Act) : Prop :=
  (k ≠ i ∧ k ≠ c ∧ ∀ ou, Step P ops Q (T S V ou) o v a) ∨
  (k = i ∧ ∀ w, S w → Region.wanted o (yielded ops a.tmps) = true ∧ o.wp P a w (fun a' w' => ∃ u, a' = a.put o.dst u ∧ T S V (some u) w') Q) ∨
  (k = c ∧ k ≠ i ∧ ∀ u, Step P ops Q (T S V (some u)) o v (a.put (some t) u))

def RunV (P : Program) (ops : Array Oper) (Q : Exit → Act → World → Prop) (S : World → Prop) (V : Value → World → Prop) (i c : Nat) (t : Tmp) : Nat → Nat → Act → Prop
  | 0, _, a => ∀ u w, S w → Q .normal (a.put (some t) u) w
  | n + 1, k, a => ∃ o v, ops[k]? = some o ∧ AskV P ops Q S V i c t k o v a ∧ RunV P ops Q S V i c t n (k + 1) (a.put o.dst v)

theorem finalV {i c : Nat} {t : Tmp} (hok : ok md ops = true) : ∀ (n k : Nat) (a : Act), RunV P ops Q S V i c t n k a → n + k = ops.size → ∃ F : Act, F.defers = a.defers ∧ F.tmps.size = a.tmps.size ∧
    (∀ d, (∀ j, k ≤ j → dstOf ops j ≠ some d) → F.tmps[d]? = a.tmps[d]?) ∧
    (∀ j o, k ≤ j → ops[j]? = some o → ∃ (b : Act) (v : Value), b.defers = a.defers ∧ b.tmps.size = a.tmps.size ∧ (∀ d, (∀ i, j ≤ i → dstOf ops i ≠ some d) → F.tmps[d]? = b.tmps[d]?) ∧
      AskV P ops Q S V i c t j o v b ∧ (∀ d, o.dst = some d → F.tmps[d]? = (b.put o.dst v).tmps[d]?)) ∧
    (∀ u w, S w → Q .normal (F.put (some t) u) w) := by
  intro n
  induction n with
  | zero =>
    intro k a h hk
    refine ⟨a, rfl, rfl, fun _ _ => rfl, fun j o hj ho => ?_, h⟩
    have := (Array.getElem?_eq_some_iff.1 ho).1
    omega
  | succ n ih =>
    intro k a h hk
    obtain ⟨o, v, ho, hs, hr⟩ := h
    obtain ⟨F, f1, f2, f3, f4, f5⟩ := ih (k + 1) _ hr (by omega)
    have hdk : dstOf ops k = o.dst := by simp [dstOf, ho]
    have hall : ∀ d, (∀ j, k ≤ j → dstOf ops j ≠ some d) → F.tmps[d]? = a.tmps[d]? := fun d hd => by
      rw [f3 d fun j hj => hd j (by omega), put_other _ _ _ _ (by rw [← hdk]; exact hd k (Nat.le_refl _))]
    refine ⟨F, by rw [f1, put_defers], by rw [f2, put_size], hall, fun j oj hj hoj => ?_, f5⟩
    rcases Nat.lt_or_ge k j with hlt | hge
    · obtain ⟨b, u, b1, b2, b3⟩ := f4 j oj hlt hoj
      exact ⟨b, u, by rw [b1, put_defers], by rw [b2, put_size], b3⟩
    · have hjk : j = k := by omega
      subst hjk
      rw [ho] at hoj
      cases hoj
      refine ⟨a, v, rfl, rfl, hall, hs, fun d hd => ?_⟩
      refine f3 d fun i hi he => ?_
      have := (ok_spec hok ho).2.1 d hd i he
      omega

/-- The form that is asked of the region beside ok: i writes t, c alone looks at it. -/
def okV (ops : Array Oper) (i c : Nat) (t : Tmp) : Bool :=
  dstOf ops i == some t && (List.range ops.size).all fun k => match ops[k]? with
    | none => false
    | some o => if k == c then (o.looksAt ops).contains t else !(o.looksAt ops).contains t
theorem okV_spec {i c : Nat} {t : Tmp} (h : okV ops i c t = true) : dstOf ops i = some t ∧ ∀ k o, ops[k]? = some o → (k = c → t ∈ o.looksAt ops) ∧ (k ≠ c → t ∉ o.looksAt ops) := by
  unfold okV at h
  rw [Bool.and_eq_true] at h
  refine ⟨by simpa using h.1, fun k o ho => ?_⟩
  have h1 := List.all_eq_true.1 h.2 k (List.mem_range.2 (Array.getElem?_eq_some_iff.1 ho).1)
  simp only [ho] at h1
  by_cases e : k = c
  · rw [if_pos (by simpa using e)] at h1
    exact ⟨fun _ => by simpa using h1, fun hn => absurd e hn⟩
  · rw [if_neg (by simpa using e)] at h1
    exact ⟨fun he => absurd he e, fun _ => by simpa using h1⟩

/-- Whatever order is drawn. -/
theorem anyV {i c : Nat} {t : Tmp} (hok : ok md ops = true) (hokv : okV ops i c t = true) (hsel : Region.noSelect ops = true) (hQ : ∀ c t t' d w, Q (.panic c) ⟨t, d⟩ w → Q (.panic c) ⟨t', d⟩ w) {F : Act}
    (f4 : ∀ j o, ops[j]? = some o → ∃ (b : Act) (v : Value), b.defers = F.defers ∧ b.tmps.size = F.tmps.size ∧ (∀ d, (∀ i, j ≤ i → dstOf ops i ≠ some d) → F.tmps[d]? = b.tmps[d]?) ∧
      AskV P ops Q S V i c t j o v b ∧ (∀ d, o.dst = some d → F.tmps[d]? = (b.put o.dst v).tmps[d]?)) (f5 : ∀ u w, S w → Q .normal (F.put (some t) u) w) :
    ∀ (fuel : Nat) (listed : Array Bool) (ou : Option Value) (a : Act) (w : World), left ops listed = fuel → listed.size = ops.size → a.defers = F.defers → a.tmps.size = F.tmps.size →
      (∀ d, d ≠ t → (∀ j, listed.getD j true = false → dstOf ops j ≠ some d) → a.tmps[d]? = F.tmps[d]?) →
      (listed.getD i true = true → ∃ u, ou = some u ∧ a.put (some t) u = a) → (listed.getD i true = false → ou = none) → T S V ou w → wpAny P md ops Q fuel listed a w := by
  obtain ⟨hit, hlook⟩ := okV_spec hokv
  have hio : ∃ o, ops[i]? = some o ∧ o.dst = some t := by
    unfold dstOf at hit
    cases h : ops[i]? with
    | none => rw [h] at hit; cases hit
    | some o => rw [h] at hit; exact ⟨o, rfl, hit⟩
  obtain ⟨oi, hoi, hoit⟩ := hio
  have huniq : ∀ j, dstOf ops j = some t → j = i := fun j hj => (ok_spec hok hoi).2.1 t hoit j hj
  have done : ∀ (listed : Array Bool) (ou : Option Value) (a : Act) (w : World), (∀ i, i < ops.size → listed.getD i true = true) → listed.size = ops.size → a.defers = F.defers → a.tmps.size = F.tmps.size →
      (∀ d, d ≠ t → (∀ j, listed.getD j true = false → dstOf ops j ≠ some d) → a.tmps[d]? = F.tmps[d]?) → (listed.getD i true = true → ∃ u, ou = some u ∧ a.put (some t) u = a) → T S V ou w → Q .normal a w := fun listed ou a w hl hz hd hts ht hu hS => by
    obtain ⟨u, _, hau⟩ := hu (hl i (Array.getElem?_eq_some_iff.1 hoi).1)
    have : a = F.put (some t) u := by
      rw [← hau]
      obtain ⟨s, d⟩ := a
      obtain ⟨s', d'⟩ := F
      have e1 : d = d' := hd
      subst e1
      simp only [Act.put]
      congr 1
      refine Array.ext_getElem? fun x => ?_
      have hts' : s.size = s'.size := hts
      by_cases hx : x = t
      · subst hx
        simp only [Array.getElem?_setIfInBounds_self, hts']
      · rw [Array.getElem?_setIfInBounds_ne (fun e => hx e.symm), Array.getElem?_setIfInBounds_ne (fun e => hx e.symm)]
        refine ht x hx fun j hj => ?_
        rcases Nat.lt_or_ge j ops.size with h | h
        · rw [hl j h] at hj; cases hj
        · simp [dstOf, Array.getElem?_eq_none h]
    rw [this]; exact f5 u w hS.1
  intro fuel
  induction fuel with
  | zero =>
    intro listed ou a w hf hz hd hts ht hu hnu hS
    have hl : ∀ i, i < ops.size → listed.getD i true = true := fun i hi => by
      have := List.length_eq_zero_iff.1 hf
      have := (List.filter_eq_nil_iff.1 this) i (List.mem_range.2 hi)
      simpa using this
    refine ⟨?_, done listed ou a w hl hz hd hts ht hu hS⟩
    refine List.eq_nil_iff_forall_not_mem.2 fun i hi => ?_
    obtain ⟨h0, o, ho, _⟩ := mem_ready.1 hi
    rw [hl i (Array.getElem?_eq_some_iff.1 ho).1] at h0
    cases h0
  | succ fuel ih =>
    intro listed ou a w hf hz hd hts ht hu hnu hS
    refine ⟨fun hr => ?_, fun j hj => ?_⟩
    · refine done listed ou a w (fun i hi => ?_) hz hd hts ht hu hS
      cases h : listed.getD i true with
      | true => rfl
      | false => exact absurd hr (ready_of hok hz (i + 1) i (by omega) hi h)
    · obtain ⟨h0, o, ho, hall⟩ := mem_ready.1 hj
      obtain ⟨b, v, b1, b2, b3, b4, b5⟩ := f4 j o ho
      obtain ⟨k1, k2, k3⟩ := ok_spec hok ho
      have hjs := (Array.getElem?_eq_some_iff.1 ho).1
      have hidx : dstOf ops j = o.dst := by simp [dstOf, ho]
      have agree : ∀ d ∈ o.looksAt ops, d ≠ t → a.tmps[d]? = b.tmps[d]? := fun d hdl hdt => by
        rw [ht d hdt fun x hx he => ?_, b3 d fun x hx he => ?_]
        · obtain ⟨e, he1, he2, he3⟩ := k3 d hdl x he
          have := k1 e he1 he2
          omega
        · obtain ⟨e, he1, he2, he3⟩ := k3 d hdl x he
          have := hall e he1 he2
          rw [he3] at this
          rcases Nat.lt_or_ge x listed.size with h | h
          · simp [h] at hx this; rw [this] at hx; cases hx
          · simp [Array.getElem?_eq_none h] at this
      have hleft : left ops (listed.setIfInBounds j true) = fuel := by have := left_set hjs hz h0; omega
      -- the slots behind an operation of number j that puts v
      have slots : ∀ v', (∀ d, d ≠ t → o.dst = some d → (b.put o.dst v').tmps[d]? = F.tmps[d]?) → ∀ d, d ≠ t → (∀ x, (listed.setIfInBounds j true).getD x true = false → dstOf ops x ≠ some d) → (a.put o.dst v').tmps[d]? = F.tmps[d]? := fun v' hv' d hdt hdj => by
        by_cases hdd : o.dst = some d
        · rw [← hv' d hdt hdd, hdd]
          exact put_same _ _ _ _ (by rw [hts, b2])
        · rw [put_other _ _ _ _ hdd]
          refine ht d hdt fun x hx he => ?_
          by_cases hxj : x = j
          · subst hxj; exact hdd (hidx ▸ he)
          · exact hdj x (by rw [getD_set_ne true (Ne.symm hxj)]; exact hx) he
      rcases b4 with ⟨hji, hjc, hstep⟩ | ⟨hji, hspec⟩ | ⟨hjc, hji, hstep⟩
      · refine Step.at (Region.noSelect_spec hsel j o · · ho) (hstep ou) (by rw [hd, b1]) (by rw [hts, b2]) (fun d hdl => agree d hdl fun e => (hlook j o ho).2 hjc (e ▸ hdl)) hQ ho hS fun w' hS' => ?_
        refine ih _ ou _ _ hleft (by simpa using hz) (by rw [put_defers, hd]) (by rw [put_size, hts]) (slots v fun d _ hd => (b5 d hd).symm) (fun hl => ?_) (fun hl => ?_) hS'
        · rw [getD_set_ne true hji] at hl
          obtain ⟨u, hu1, hu2⟩ := hu hl
          refine ⟨u, hu1, ?_⟩
          cases hdst : o.dst with
          | none => exact hu2
          | some d =>
            have hdt : d ≠ t := fun e => hji (huniq j (by rw [hidx, hdst, e]))
            rw [put_comm _ _ _ _ _ hdt, hu2]
        · rw [getD_set_ne true hji] at hl
          exact hnu hl
      · subst hji
        have hou := hnu h0
        subst hou
        obtain ⟨hwt, hwp⟩ := hspec w hS.1
        have hw : Region.wanted o (yielded ops a.tmps) = Region.wanted o (yielded ops b.tmps) := by
          unfold Region.wanted
          cases hg : o.guard with
          | none => rfl
          | some gw =>
            obtain ⟨g, want⟩ := gw
            have hy : yielded ops a.tmps g = yielded ops b.tmps g := by
              unfold yielded
              cases hgt : (ops[g]?).bind (·.dst) with
              | none => rfl
              | some x =>
                have hxl : x ∈ o.looksAt ops := by simp [Oper.looksAt, hg, hgt]
                have hxt : x ≠ t := fun e => by
                  subst e
                  obtain ⟨e, he1, he2, he3⟩ := k3 x hxl j hit
                  have := k1 e he1 he2
                  omega
                have := agree x hxl hxt
                simp only [Option.bind_some, this]
            simp only [hy]
        unfold wpOp
        simp only [ho]
        rw [hw, hwt]
        refine .inl ?_
        refine wp_move (Region.noSelect_spec hsel j o · · ho) (by rw [hd, b1]) (by rw [hts, b2]) (fun d hdl => agree d hdl fun e => ?_) hQ hwp fun u w' hS' => ?_
        · subst e
          obtain ⟨e, he1, he2, he3⟩ := k3 d hdl j hit
          have := k1 e he1 he2
          omega
        · have hdt : o.dst = some t := hidx.symm.trans hit
          refine ih _ (some u) _ _ hleft (by simpa using hz) (by rw [put_defers, hd]) (by rw [put_size, hts]) (slots u fun d hdn hd => by rw [hdt] at hd; cases hd; exact absurd rfl hdn) (fun _ => ⟨u, rfl, ?_⟩) (fun hl => ?_) hS'
          · rw [hdt]
            simp only [Act.put]
            congr 1
            refine Array.ext_getElem? fun x => ?_
            simp only [Array.getElem?_setIfInBounds, Array.size_setIfInBounds]
            by_cases hx : t = x <;> simp [hx]
          · have : j < listed.size := by omega
            simp [this] at hl
      · subst hjc
        have htl := (hlook j o ho).1 rfl
        obtain ⟨e, he1, he2, he3⟩ := k3 t htl i hit
        have hli := hall e he1 he2
        rw [he3] at hli
        have hli' : listed.getD i true = true := by
          have : i < listed.size := by have := (Array.getElem?_eq_some_iff.1 hoi).1; omega
          simp [this] at hli ⊢
          exact hli
        obtain ⟨u, hu1, hu2⟩ := hu hli'
        subst hu1
        refine Step.at (b := b.put (some t) u) (Region.noSelect_spec hsel j o · · ho) (hstep u) (by rw [put_defers, hd, b1]) (by rw [put_size, hts, b2]) (fun d hdl => ?_) hQ ho hS fun w' hS' => ?_
        · by_cases hdt : d = t
          · subst hdt
            rw [← hu2]
            exact put_same _ _ _ _ (by rw [hts, b2])
          · rw [put_other _ _ _ _ (fun e => hdt (by injection e with e; exact e.symm))]
            exact agree d hdl hdt
        · refine ih _ (some u) _ _ hleft (by simpa using hz) (by rw [put_defers, hd]) (by rw [put_size, hts]) (slots v fun d _ hd => (b5 d hd).symm) (fun hl => ⟨u, rfl, ?_⟩) (fun hl => ?_) hS'
          · cases hdst : o.dst with
            | none => exact hu2
            | some d =>
              have hdt : d ≠ t := fun e => hji (huniq j (by rw [hidx, hdst, e]))
              rw [put_comm _ _ _ _ _ hdt, hu2]
          · rw [getD_set_ne true hji] at hl
            rw [hli'] at hl
            cases hl

/-- **The law.** N: how many operations; i: the one whose value differs; c: the one that looks at it; t: its slot. -/
theorem wp_region_textV {id : Nat} {a : Act} {w : World} (N i c : Nat) (t : Tmp) (S : World → Prop) (V : Value → World → Prop) (hN : ops.size = N) (hm : P.follows .mixedOrders = true) (hok : ok .any ops = true) (hokv : okV ops i c t = true) (hsel : Region.noSelect ops = true)
    (hQ : ∀ c t t' d w, Q (.panic c) ⟨t, d⟩ w → Q (.panic c) ⟨t', d⟩ w) (hS : S w.drew) (h : RunV P ops Q S V i c t N 0 a) : (Code.region id ops true).wp P Q a w := by
  obtain ⟨F, f1, f2, f3, f4, f5⟩ := finalV hok N 0 a h (by omega)
  refine wp_region_any hm ?_
  have hi : i < ops.size := by
    have := (okV_spec hokv).1
    unfold dstOf at this
    rcases Nat.lt_or_ge i ops.size with h | h
    · exact h
    · rw [Array.getElem?_eq_none h] at this; cases this
  refine anyV (S := S) (V := V) hok hokv hsel hQ (fun j o ho => ?_) f5 ops.size _ none a _ ?_ (by simp) f1.symm f2.symm (fun d _ hd => ?_) (fun hl => ?_) (fun _ => rfl) ⟨hS, fun _ h => by cases h⟩
  · obtain ⟨b, v, b1, b2, b3⟩ := f4 j o (Nat.zero_le _) ho
    exact ⟨b, v, by rw [b1, f1], by rw [b2, f2], b3⟩
  · unfold left
    have : (List.range ops.size).filter (fun i => !(Array.replicate ops.size false).getD i true) = List.range ops.size := List.filter_eq_self.2 fun i hi => by
      have := List.mem_range.1 hi
      simp [this]
    rw [this, List.length_range]
  · refine (f3 d fun j _ hj => ?_).symm
    by_cases hjs : j < ops.size
    · exact hd j (by simp [hjs]) hj
    · simp [dstOf, Array.getElem?_eq_none (Nat.le_of_not_lt hjs)] at hj
  · simp [hi] at hl

/-- An ordinary operation. -/
theorem stepV {i c : Nat} {t : Tmp} {n k : Nat} {o : Oper} {a a' : Act} (ho : ops[k]? = some o) (hki : k ≠ i) (hkc : k ≠ c)
    (h : ∀ ou w, T S V ou w → ∀ K : Act → World → Prop, Shut (∀ w', T S V ou w' → K a' w') → if Region.wanted o (yielded ops a.tmps) = true then o.wp P a w K Q else K (a.put o.dst undef) w)
    (e : ∃ v, a' = a.put o.dst v) (r : RunV P ops Q S V i c t n (k + 1) a') : RunV P ops Q S V i c t (n + 1) k a := by
  obtain ⟨v, rfl⟩ := e
  refine ⟨o, v, ho, .inl ⟨hki, hkc, fun ou w hS => ?_⟩, r⟩
  exact h ou w hS (fun a' w' => a' = a.put o.dst v ∧ T S V ou w') fun w' hS' => ⟨rfl, hS'⟩
/-- The one whose value differs. -/
theorem specV {i c : Nat} {t : Tmp} {n k : Nat} {o : Oper} {a a' : Act} (ho : ops[k]? = some o) (hk : k = i) (hw : Region.wanted o (yielded ops a.tmps) = true)
    (h : ∀ w, S w → ∀ K : Act → World → Prop, Shut (∀ u w', T S V (some u) w' → K (a.put o.dst u) w') → o.wp P a w K Q)
    (e : a' = a.put o.dst undef) (r : RunV P ops Q S V i c t n (k + 1) a') : RunV P ops Q S V i c t (n + 1) k a := by
  subst e
  exact ⟨o, undef, ho, .inr (.inl ⟨hk, fun w hS => ⟨hw, h w hS (fun a' w' => ∃ u, a' = a.put o.dst u ∧ T S V (some u) w') fun u w' hS' => ⟨u, rfl, hS'⟩⟩⟩), r⟩
/-- The one that looks at it. -/
theorem lookV {i c : Nat} {t : Tmp} {n k : Nat} {o : Oper} {a a' : Act} (v : Value) (ho : ops[k]? = some o) (hk : k = c) (hki : k ≠ i)
    (h : ∀ u w, T S V (some u) w → ∀ K : Act → World → Prop, Shut (∀ w', T S V (some u) w' → K ((a.put (some t) u).put o.dst v) w') → if Region.wanted o (yielded ops (a.put (some t) u).tmps) = true then o.wp P (a.put (some t) u) w K Q else K ((a.put (some t) u).put o.dst undef) w)
    (e : a' = a.put o.dst v) (r : RunV P ops Q S V i c t n (k + 1) a') : RunV P ops Q S V i c t (n + 1) k a := by
  subst e
  refine ⟨o, v, ho, .inr (.inr ⟨hk, hki, fun u w hS => ?_⟩), r⟩
  exact h u w hS (fun a' w' => a' = (a.put (some t) u).put o.dst v ∧ T S V (some u) w') fun w' hS' => ⟨rfl, hS'⟩
theorem lastV {i c : Nat} {t : Tmp} {k : Nat} {a : Act} (h : ∀ u w, S w → Q .normal (a.put (some t) u) w) : RunV P ops Q S V i c t 0 k a := h
end
end Txt
end Go.Proofs.YtpdnfdpoebhjoaaDoor
