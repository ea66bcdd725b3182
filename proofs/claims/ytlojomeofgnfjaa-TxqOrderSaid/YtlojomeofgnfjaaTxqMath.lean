/-
  Plain facts of a queue in the order of the bus: rows sorted by insertion behind all that do not go behind; its first is the earliest of those that go ahead of all. No program is named here.
-/
import Derived.Test.YtlojomeofgnfjaaProg
namespace Go.Proofs.Ytlojomeofgnfjaa
namespace Txq
set_option linter.unusedVariables false

section
variable {α : Type} (key : α → Int)

/-- Put f behind all that do not go behind it. -/
def ins (f : α) : List α → List α
  | [] => [f]
  | g :: l => if key f < key g then f :: g :: l else g :: ins f l
/-- Put one after the other. -/
def srt (l : List α) : List α := l.foldl (fun acc f => ins key f acc) []

theorem ins_length (f : α) (l : List α) : (ins key f l).length = l.length + 1 := by
  induction l with
  | nil => rfl
  | cons g l ih =>
    unfold ins
    split
    · rfl
    · simp [ih]
theorem mem_ins (f x : α) (l : List α) : x ∈ ins key f l ↔ x = f ∨ x ∈ l := by
  induction l with
  | nil => simp [ins]
  | cons g l ih =>
    unfold ins
    split
    · simp
    · simp only [List.mem_cons, ih]
      constructor
      · rintro (h | h | h)
        · exact .inr (.inl h)
        · exact .inl h
        · exact .inr (.inr h)
      · rintro (h | h | h)
        · exact .inr (.inl h)
        · exact .inl h
        · exact .inr (.inr h)
/-- The place where it comes to stand. -/
theorem ins_at (f : α) : ∀ (l : List α) (p : Nat), p ≤ l.length → (∀ j, (h : j < l.length) → j < p → ¬ key f < key l[j]) → (∀ h : p < l.length, key f < key l[p]) → ins key f l = l.take p ++ f :: l.drop p
  | [], p, hp, _, _ => by
    obtain rfl : p = 0 := by simpa using hp
    rfl
  | g :: l, 0, _, _, h1 => by
    have := h1 (by simp)
    simp only [List.getElem_cons_zero] at this
    simp [ins, this]
  | g :: l, p + 1, hp, h0, h1 => by
    have hg := h0 0 (by simp) (by omega)
    simp only [List.getElem_cons_zero] at hg
    have ih := ins_at f l p (by simpa using hp) (fun j h hj => by
      have := h0 (j + 1) (by simpa using h) (by omega)
      rwa [List.getElem_cons_succ] at this) (fun h => by
      have := h1 (by simpa using h)
      rwa [List.getElem_cons_succ] at this)
    simp [ins, hg, ih]
theorem srt_snoc (l : List α) (f : α) : srt key (l ++ [f]) = ins key f (srt key l) := by simp [srt]
theorem srt_nil : srt key [] = [] := rfl
theorem srt_length (l : List α) : (srt key l).length = l.length := by
  have : ∀ (l acc : List α), (l.foldl (fun acc f => ins key f acc) acc).length = l.length + acc.length := by
    intro l
    induction l with
    | nil => intro acc; simp
    | cons g l ih => intro acc; rw [List.foldl_cons, ih, ins_length]; simp; omega
  simpa [srt] using this l []
theorem mem_srt (x : α) (l : List α) : x ∈ srt key l ↔ x ∈ l := by
  have : ∀ (l acc : List α), x ∈ l.foldl (fun acc f => ins key f acc) acc ↔ x ∈ l ∨ x ∈ acc := by
    intro l
    induction l with
    | nil => intro acc; simp
    | cons g l ih =>
      intro acc
      rw [List.foldl_cons, ih, mem_ins, List.mem_cons]
      constructor
      · rintro (h | h | h)
        · exact .inl (.inr h)
        · exact .inl (.inl h)
        · exact .inr h
      · rintro ((h | h) | h)
        · exact .inr (.inl h)
        · exact .inl h
        · exact .inr (.inr h)
  simpa [srt] using this l []

/-- k is the place of the one that goes ahead of all others among the first i: of those that are alike the earliest. -/
def First (l : List α) (i k : Nat) : Prop := k < i ∧ i ≤ l.length ∧ ∃ m, l[k]? = some m ∧ (∀ j x, l[j]? = some x → j < i → key m ≤ key x) ∧ (∀ j x, l[j]? = some x → j < k → key m < key x)
theorem First.one {l : List α} (h : l ≠ []) : First key l 1 0 := by
  have hl : 0 < l.length := List.length_pos_iff.2 h
  refine ⟨by omega, by omega, l[0], List.getElem?_eq_getElem hl, fun j x hx hj => ?_, fun j x hx hj => by omega⟩
  obtain rfl : j = 0 := by omega
  rw [List.getElem?_eq_getElem hl] at hx
  cases hx
  exact Int.le_refl _
theorem First.keep {l : List α} {i k : Nat} (h : First key l i k) (hi : i < l.length) {m : α} (hm : l[k]? = some m) (hn : ¬ key l[i] < key m) : First key l (i + 1) k := by
  obtain ⟨h1, h2, m', e, h3, h4⟩ := h
  rw [e] at hm
  cases hm
  refine ⟨by omega, by omega, _, e, fun j x hx hj => ?_, h4⟩
  by_cases hji : j = i
  · subst hji
    rw [List.getElem?_eq_getElem hi] at hx
    cases hx
    omega
  · exact h3 j x hx (by omega)
theorem First.turn {l : List α} {i k : Nat} (h : First key l i k) (hi : i < l.length) {m : α} (hm : l[k]? = some m) (hn : key l[i] < key m) : First key l (i + 1) i := by
  obtain ⟨h1, h2, m', e, h3, h4⟩ := h
  rw [e] at hm
  cases hm
  refine ⟨by omega, by omega, l[i], List.getElem?_eq_getElem hi, fun j x hx hj => ?_, fun j x hx hj => ?_⟩
  · by_cases hji : j = i
    · subst hji
      rw [List.getElem?_eq_getElem hi] at hx
      cases hx
      exact Int.le_refl _
    · have := h3 j x hx (by omega)
      omega
  · have := h3 j x hx (by omega)
    omega

theorem ins_front (m : α) (l : List α) (h : ∀ x ∈ l, key m < key x) : ins key m l = m :: l := by
  cases l with
  | nil => rfl
  | cons g l => simp [ins, h g (by simp)]
theorem fold_front (m : α) : ∀ (b acc : List α), (∀ x ∈ b, key m ≤ key x) → b.foldl (fun acc f => ins key f acc) (m :: acc) = m :: b.foldl (fun acc f => ins key f acc) acc
  | [], acc, _ => rfl
  | x :: b, acc, h => by
    have hx := h x (by simp)
    rw [List.foldl_cons, List.foldl_cons, show ins key x (m :: acc) = m :: ins key x acc by simp [ins]; omega]
    exact fold_front m b _ fun y hy => h y (by simp [hy])
/-- The first one taken out. -/
theorem srt_first {l : List α} {k : Nat} (h : First key l l.length k) : ∃ m, l[k]? = some m ∧ srt key l = m :: srt key (l.take k ++ l.drop (k + 1)) := by
  obtain ⟨h1, h2, m, e, h3, h4⟩ := h
  refine ⟨m, e, ?_⟩
  have hl : l = l.take k ++ m :: l.drop (k + 1) := by
    have : l[k] = m := by rw [List.getElem?_eq_getElem h1] at e; exact Option.some.inj e
    rw [← this, List.getElem_cons_drop, List.take_append_drop]
  have ha : ∀ x ∈ srt key (l.take k), key m < key x := fun x hx => by
    rw [mem_srt] at hx
    obtain ⟨j, hj, rfl⟩ := List.getElem_of_mem hx
    rw [List.length_take] at hj
    rw [List.getElem_take]
    exact h4 j _ (List.getElem?_eq_getElem (by omega)) (by omega)
  have hb : ∀ x ∈ l.drop (k + 1), key m ≤ key x := fun x hx => by
    obtain ⟨j, hj, rfl⟩ := List.getElem_of_mem hx
    rw [List.length_drop] at hj
    rw [List.getElem_drop]
    exact h3 (k + 1 + j) _ (List.getElem?_eq_getElem (by omega)) (by omega)
  have e1 : srt key l = (l.drop (k + 1)).foldl (fun acc f => ins key f acc) (ins key m (srt key (l.take k))) := by
    conv => lhs; rw [hl]
    simp [srt, List.foldl_append]
  rw [e1, ins_front key m _ ha, fold_front key m _ _ hb]
  congr 1
  simp [srt, List.foldl_append]
theorem without_length {l : List α} {k : Nat} (h : k < l.length) : (l.take k ++ l.drop (k + 1)).length + 1 = l.length := by
  simp
  omega

/-- One goes ahead of the other, or is alike and was put earlier. -/
def Ahead (x y : α × Nat) : Prop := key x.1 < key y.1 ∨ (key x.1 = key y.1 ∧ x.2 < y.2)
theorem ins_pair (f : α) (j : Nat) : ∀ l : List (α × Nat), l.Pairwise (Ahead key) → (∀ x ∈ l, x.2 < j) → (ins (fun x => key x.1) (f, j) l).Pairwise (Ahead key)
  | [], _, _ => by simp [ins]
  | g :: l, hp, hj => by
    have hp' := List.pairwise_cons.1 hp
    unfold ins
    split
    · rename_i h
      refine List.pairwise_cons.2 ⟨fun x hx => ?_, hp⟩
      rcases List.mem_cons.1 hx with rfl | hx
      · exact .inl h
      · have := hp'.1 x hx
        unfold Ahead at this
        exact .inl (by simp only at h ⊢; omega)
    · rename_i h
      refine List.pairwise_cons.2 ⟨fun x hx => ?_, ins_pair f j l hp'.2 fun x hx => hj x (by simp [hx])⟩
      rw [mem_ins] at hx
      rcases hx with rfl | hx
      · have := hj g (by simp)
        unfold Ahead
        simp only at h ⊢
        omega
      · exact hp'.1 x hx
/-- All with the number of their putting, in the order of the bus. -/
def ord (l : List α) : List (α × Nat) := srt (fun x => key x.1) l.zipIdx
theorem zip_snoc (l : List α) (f : α) : (l ++ [f]).zipIdx = l.zipIdx ++ [(f, l.length)] := by
  rw [List.zipIdx_append]
  simp
theorem ord_nil : ord key ([] : List α) = [] := rfl
theorem ord_snoc (l : List α) (f : α) : ord key (l ++ [f]) = ins (fun x => key x.1) (f, l.length) (ord key l) := by
  unfold ord
  rw [zip_snoc, srt_snoc]
theorem mem_ord (l : List α) (x : α × Nat) : x ∈ ord key l ↔ l[x.2]? = some x.1 := by
  unfold ord
  rw [mem_srt, List.mem_zipIdx_iff_getElem?]
theorem ord_length (l : List α) : (ord key l).length = l.length := by unfold ord; rw [srt_length]; simp
theorem rev_ind {p : List α → Prop} (h0 : p []) (h1 : ∀ l f, p l → p (l ++ [f])) (l : List α) : p l := by
  have : ∀ r : List α, p r.reverse := by
    intro r
    induction r with
    | nil => exact h0
    | cons f r ih => rw [List.reverse_cons]; exact h1 _ _ ih
  simpa using this l.reverse
theorem ord_pair (l : List α) : (ord key l).Pairwise (Ahead key) := by
  refine rev_ind (p := fun l => (ord key l).Pairwise (Ahead key)) ?_ ?_ l
  · simp [ord_nil]
  · intro l f ih
    rw [ord_snoc]
    refine ins_pair key f l.length _ ih fun x hx => ?_
    rw [mem_ord] at hx
    exact (List.getElem?_eq_some_iff.1 hx).1
theorem ins_map (f : α) (j : Nat) : ∀ l : List (α × Nat), (ins (fun x => key x.1) (f, j) l).map (·.1) = ins key f (l.map (·.1))
  | [] => rfl
  | g :: l => by
    simp only [ins, List.map_cons]
    split
    · simp
    · simp [ins_map f j l]
theorem ord_map (l : List α) : (ord key l).map (·.1) = srt key l := by
  refine rev_ind (p := fun l => (ord key l).map (·.1) = srt key l) rfl ?_ l
  intro l f ih
  rw [ord_snoc, ins_map, ih, srt_snoc]
theorem ord_at {l : List α} {i : Nat} {x : α × Nat} (h : (ord key l)[i]? = some x) : l[x.2]? = some x.1 :=
  (mem_ord key l x).1 (List.mem_of_getElem? h)
theorem ord_ahead {l : List α} {a i : Nat} {x y : α × Nat} (ha : (ord key l)[a]? = some x) (hi : (ord key l)[i]? = some y) (h : a < i) : Ahead key x y := by
  obtain ⟨h1, rfl⟩ := List.getElem?_eq_some_iff.1 ha
  obtain ⟨h2, rfl⟩ := List.getElem?_eq_some_iff.1 hi
  exact List.pairwise_iff_getElem.1 (ord_pair key l) a i h1 h2 h
/-- None stands there twice. -/
theorem ord_apart {l : List α} {a i : Nat} {x y : α × Nat} (ha : (ord key l)[a]? = some x) (hi : (ord key l)[i]? = some y) (h : a < i) : x.2 ≠ y.2 := by
  intro e
  have h1 := ord_at key ha
  have h2 := ord_at key hi
  rw [e, h2] at h1
  have e1 : y.1 = x.1 := Option.some.inj h1
  have := ord_ahead key ha hi h
  unfold Ahead at this
  rw [e1] at this
  omega
/-- What is alike and was put earlier stands ahead. -/
theorem ord_earlier {l : List α} {i k : Nat} {y : α × Nat} (hi : (ord key l)[i]? = some y) (hk : k < y.2) (h : l[k]? = some y.1) : ∃ a x, a < i ∧ (ord key l)[a]? = some x ∧ x.2 = k := by
  have hm : (y.1, k) ∈ ord key l := (mem_ord key l _).2 h
  obtain ⟨a, ha⟩ := List.getElem?_of_mem hm
  refine ⟨a, _, ?_, ha, rfl⟩
  rcases Nat.lt_trichotomy a i with h' | h' | h'
  · exact h'
  · subst h'
    rw [ha] at hi
    have := congrArg (fun z => (Option.getD z (y.1, 0)).2) hi
    simp at this
    rw [← this] at hk
    simp at hk
  · have := ord_ahead key hi ha h'
    unfold Ahead at this
    simp only at this
    omega
end

/-- A frame's rank on the bus. -/
def rank (i : Int) (r : Bool) : Int := 2 * i + if r = true then 1 else 0
theorem rank_before (i : Int) (r : Bool) (j : Int) (s : Bool) : (decide (i < j) || (decide (i = j) && (!r && s))) = decide (rank i r < rank j s) := by
  unfold rank
  cases r <;> cases s
  all_goals simp
  all_goals (try omega)
  all_goals (try (by_cases h : i < j <;> by_cases h' : i = j <;> simp [h, h'] <;> omega))
theorem rank_eq {i : Int} {r : Bool} {j : Int} {s : Bool} : rank i r = rank j s ↔ i = j ∧ r = s := by
  unfold rank
  cases r <;> cases s
  all_goals simp
  all_goals omega
end Txq
end Go.Proofs.Ytlojomeofgnfjaa
