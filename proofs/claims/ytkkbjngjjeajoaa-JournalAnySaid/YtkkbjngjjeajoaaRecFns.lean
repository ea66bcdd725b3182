/-
  What package record does: right, Right, Build and its closure, Parse and its closure, Blank.
-/
import Derived.Test.YtkkbjngjjeajoaaProg
import Derived.Test.YtkkbjngjjeajoaaRecMath
import Derived.Test.YtkkbjngjjeajoaaSumSeal
namespace Go.Proofs.Ytkkbjngjjeajoaa
namespace Rec
open Go.RowKit Mem
set_option linter.unusedVariables false

/-- A record as a value. -/
abbrev rec_ (k n : Int) (v : Value) : Value := .agg #[.int .i64 k, .int .u32 n, v]

set_option maxHeartbeats 400000 in
theorem right_any (k n : Int) (l : Nat) (w : World) (k1 : -9223372036854775808 ≤ k) (k2 : k ≤ 9223372036854775807) (n1 : 0 ≤ n) (n2 : n ≤ 4294967295) (hl : l ≤ 9223372036854775807) :
    Calls Try.prog 130 #[.int .i64 k, .int .u32 n, .int .i64 (l : Int)] w fun e w' => e = .returned (.int .i64 (err k n l)) ∧ w = w' := by
  have h : ∀ z : Int, (z = 1 ∧ ¬ ((k = 1 ∨ k = 2 ∧ l = 0) ∧ n ≠ 0)) ∨ (((k = 1 ∨ k = 2 ∧ l = 0) ∧ n ≠ 0) ∧ (960 < l ∧ z = 3 ∨ ¬ 960 < l ∧ z = 0)) → (Ending.returned (.int .i64 z) = .returned (.int .i64 (err k n l))) := by
    intro z hz
    unfold err
    split
    · split
      · rw [show z = 3 by omega]
      · rw [show z = 0 by omega]
    · rw [show z = 1 by omega]
  have H := Lib.hid h
  clear h
  go_enter Try.func130, Try.ntmps130
  go_wp2_with fail
  all_goals
    go_ret
    refine ⟨H.out _ ?_, rfl⟩
    clear H
    simp only [beq_iff_eq, beq_eq_false_iff_ne, ne_eq] at *
    simp only [true_and, and_true]
    omega

set_option maxHeartbeats 400000 in
theorem Right_any (k n : Int) (A : Option Addr) (l c : Nat) (w : World) (k1 : -9223372036854775808 ≤ k) (k2 : k ≤ 9223372036854775807) (n1 : 0 ≤ n) (n2 : n ≤ 4294967295) (hl : l ≤ 9223372036854775807) :
    Calls Try.prog 117 #[rec_ k n (.slice A l c)] w fun e w' => e = .returned (.int .i64 (err k n l)) ∧ Below w.heap.size w w' := by
  go_enter Try.func117, Try.ntmps117
  go_wp2_with fail
  refine (right_any k n l _ k1 k2 n1 n2 hl).mono ?_
  rintro e w' ⟨rfl, rfl⟩
  go_wp2_with fail
  go_ret
  exact ⟨rfl, (Below.refl _ _).alloc (Nat.le_refl _) _⟩

/-- The cell at g, at or above base, holds a slice of its own above it, which reads as bs. -/
def Bc (w : World) (base g : Nat) (bs : List UInt8) : Prop :=
  base ≤ g ∧ g < w.heap.size ∧ ∃ v, w.cell? ⟨g, 0, none⟩ = some v ∧ w.frozen? ⟨g, 0, none⟩ = false ∧ Own w (g + 1) 5 v bs

/-- A cell at g, at or above base, that may be written. -/
def Cl (w : World) (base g : Nat) : Prop := base ≤ g ∧ g < w.heap.size ∧ (∃ u, w.cell? ⟨g, 0, none⟩ = some u) ∧ w.frozen? ⟨g, 0, none⟩ = false
theorem Bc.cl {w : World} {base g : Nat} {bs : List UInt8} (h : Bc w base g bs) : Cl w base g := by
  obtain ⟨hb, hg, u, hc, hf, ho⟩ := h
  exact ⟨hb, hg, ⟨u, hc⟩, hf⟩
theorem Cl.kept {w w' : World} {base g : Nat} (h : Cl w base g) (hg : w'.heap[g]? = w.heap[g]?) (hs : w.heap.size ≤ w'.heap.size) : Cl w' base g := by
  obtain ⟨hb, hl, ⟨u, hc⟩, hf⟩ := h
  refine ⟨hb, by omega, ⟨u, ?_⟩, ?_⟩
  · rw [← hc]
    simp [World.cell?, hg]
  · unfold World.frozen? at hf ⊢
    simpa [hg] using hf
/-- An own slice in the cell's place. -/
theorem Cl.set {w w2 : World} {base g : Nat} (h : Cl w base g) (b2 : Below w.heap.size w w2) {v : Value} {xs : List UInt8} (o : Own w2 w.heap.size 5 v xs) :
    Bc (w2.setCell ⟨g, 0, none⟩ v) base g xs ∧ w.grownBy (w2.setCell ⟨g, 0, none⟩ v) (some g) := by
  have h2 := h.kept (b2.block g h.2.1) b2.size
  obtain ⟨hb, hg, _, _⟩ := h
  obtain ⟨_, hg2, ⟨u, hc2⟩, hf2⟩ := h2
  have hz := b2.size
  refine ⟨⟨hb, by simp [World.setCell]; omega, v, World.cell?_setCell_same _ _ _ hc2, ?_, ?_⟩, ?_⟩
  · rw [World.frozen?_setCell]
    exact hf2
  · refine ⟨o.1, ?_⟩
    rcases o.2 with hn | ⟨g', cap, cur, hv, hbg, hgg, rest⟩
    · exact .inl hn
    · refine .inr ⟨g', cap, cur, hv, by omega, ?_, rest⟩
      rw [Below.heap_setCell w2 ⟨g, 0, none⟩ v g' (by show ¬ g' = g; omega)]
      exact hgg
  · exact grown_far ⟨b2.os, b2.tape, b2.output, b2.size, fun i hi _ => b2.block i hi⟩ (.inl rfl) _
theorem Bc.grown {w w2 : World} {base g : Nat} {bs : List UInt8} (h : Bc w base g bs) {B : Nat} (b2 : Below B w w2) (hB : w.heap.size ≤ B) : Bc w2 base g bs := by
  obtain ⟨hb, hg, u, hc, hf, ho⟩ := h
  have hz := b2.size
  refine ⟨hb, by omega, u, (b2.cell (p := ⟨g, 0, none⟩) (by show g < B; omega)).trans hc, ?_, ho.below b2 hB⟩
  have := b2.block g (by omega)
  unfold World.frozen? at hf ⊢
  simpa [this] using hf

set_option maxHeartbeats 400000 in
theorem put1_any (g base : Nat) (bs : List UInt8) (wd num : Int) (w : World) (h : Bc w base g bs) (hle : bs.length ≤ 1099511627776)
    (h1 : 1 ≤ wd) (h2 : wd ≤ 8) (h3 : 0 ≤ num) (h4 : num < 256 ^ wd.toNat) :
    Calls Try.prog 118 #[.int .i64 wd, .int .u64 num, .pointer (some ⟨g, 0, none⟩)] w fun e w' => e = .returned (.tuple #[]) ∧ Bc w' base g (bs ++ Oct.bytes num wd.toNat) ∧ w.grownBy w' (some g) := by
  have hB := Lib.hid h
  obtain ⟨hb, hg, v, hc, hf, ho⟩ := h
  obtain ⟨A, c, rfl, hr⟩ := ho.form
  have H := Lib.hid (put_ok A bs.length c bs wd num w hr rfl hle h1 h2 h3 h4)
  clear hr h4
  generalize bs ++ Oct.bytes num wd.toNat = T at *
  go_enter Try.func118, Try.ntmps118
  go_wp2_with fail
  refine H.out.mono ?_
  rintro e w2 ⟨v2, rfl, o2, b2⟩
  unfold pairOk
  have hc2 := (b2.cell (p := ⟨g, 0, none⟩) hg).trans hc
  have hf2 : w2.frozen? ⟨g, 0, none⟩ = false := by
    have := b2.block g hg
    unfold World.frozen? at hf ⊢
    simpa [this] using hf
  have R := Lib.hid (hB.out.cl.set b2 o2)
  obtain ⟨A2, c2, rfl, hr2⟩ := o2.form
  go_wp2_with fail
  go_end0
  exact ⟨rfl, R.out⟩

/-- The cells of a record that stands at block p. -/
def Rc (W : World) (p : Nat) (k n : Int) (v : Value) : Prop := W.cell? ⟨p, 0, none⟩ = some (.int .i64 k) ∧ W.cell? ⟨p, 1, none⟩ = some (.int .u32 n) ∧ W.cell? ⟨p, 2, none⟩ = some v
theorem Rc.new (w : World) (k n : Int) (v : Value) (t : TypeId) : Rc (w.alloc (.cells #[.int .i64 k, .int .u32 n, v] t)) w.heap.size k n v := by
  refine ⟨?_, ?_, ?_⟩ <;> simp
theorem Rc.kept {W W' : World} {p : Nat} {k n : Int} {v : Value} (h : Rc W p k n v) (hg : W'.heap[p]? = W.heap[p]?) : Rc W' p k n v := by
  have e : ∀ j, W'.cell? ⟨p, j, none⟩ = W.cell? ⟨p, j, none⟩ := fun j => by simp [World.cell?, hg]
  exact ⟨(e 0).trans h.1, (e 1).trans h.2.1, (e 2).trans h.2.2⟩
/-- While Build runs: the record at w's next block, the bytes so far at g. -/
structure BS (w W : World) (g : Nat) (k n : Int) (v : Value) (bs : List UInt8) : Prop where
  c : Bc W (w.heap.size + 1) g bs
  r : Rc W w.heap.size k n v
  b : Below w.heap.size w W
theorem BS.grown {w W W' : World} {g : Nat} {k n : Int} {v : Value} {bs bs' : List UInt8} (h : BS w W g k n v bs) (hg : W.grownBy W' (some g)) (hc : Bc W' (w.heap.size + 1) g bs') : BS w W' g k n v bs' := by
  have h1 := h.c.1
  have h2 := h.c.2.1
  exact ⟨hc, h.r.kept (hg.block _ (by omega) (by intro e; injection e with e; omega)), h.b.grown hg h.b.size (fun i hi => by injection hi with hi; omega)⟩
theorem BS.load {w W : World} {g : Nat} {k n : Int} {v : Value} {bs : List UInt8} (h : BS w W g k n v bs) : ∃ A c, W.cell? ⟨g, 0, none⟩ = some (.slice A bs.length c) ∧ Own W (g + 1) 5 (.slice A bs.length c) bs := by
  obtain ⟨_, _, u, hc, _, ho⟩ := h.c
  obtain ⟨A, c, rfl, _⟩ := ho.form
  exact ⟨A, c, hc, ho⟩

theorem putS_any {w W : World} {g : Nat} {k n : Int} {v : Value} {bs : List UInt8} (h : BS w W g k n v bs) (wd num : Int) (hle : bs.length ≤ 1099511627776) (h1 : 1 ≤ wd) (h2 : wd ≤ 8) (h3 : 0 ≤ num) (h4 : num < 256 ^ wd.toNat) :
    Calls Try.prog 118 #[.int .i64 wd, .int .u64 num, .pointer (some ⟨g, 0, none⟩)] W fun e W' => e = .returned (.tuple #[]) ∧ BS w W' g k n v (bs ++ Oct.bytes num wd.toNat) :=
  (put1_any g _ bs wd num W h.c hle h1 h2 h3 h4).mono fun _ _ ⟨he, hc, hg⟩ => ⟨he, h.grown hg hc⟩

set_option maxHeartbeats 1000000 in
theorem build_no (k n : Int) (A : Option Addr) (c : Nat) (d : List UInt8) (w : World) (k1 : -9223372036854775808 ≤ k) (k2 : k ≤ 9223372036854775807) (n1 : 0 ≤ n) (n2 : n ≤ 4294967295) (hl : d.length ≤ 140737488355328) (he : err k n d.length ≠ 0) :
    Calls Try.prog 97 #[rec_ k n (.slice A d.length c)] w fun e w' => e = .returned (.tuple #[.slice none 0 0, .int .i64 (err k n d.length)]) ∧ Below w.heap.size w w' := by
  have H := Lib.hid (fun W => Right_any k n A d.length c W k1 k2 n1 n2 (by omega))
  have he' : (err k n d.length != 0) = true := by simp [he]
  generalize err k n d.length = E at *
  go_enter Try.func97, Try.ntmps97
  go_wp2_with fail
  refine (H.out _).mono ?_
  rintro e w2 ⟨rfl, b2⟩
  have B2 := ((Below.refl w.heap.size w).alloc (Nat.le_refl _) _).trans (b2.mono (by simp))
  go_wp2_with fail
  go_ret2
  exact ⟨rfl, B2⟩

set_option maxHeartbeats 1000000 in
theorem build_ok (k n : Int) (A : Option Addr) (c : Nat) (d : List UInt8) (w : World) (hr : Rd w w.heap.size A d) (k1 : -9223372036854775808 ≤ k) (k2 : k ≤ 9223372036854775807) (n1 : 0 ≤ n) (n2 : n ≤ 4294967295) (hl : d.length ≤ 140737488355328) (he : err k n d.length = 0) :
    Calls Try.prog 97 #[rec_ k n (.slice A d.length c)] w (Made 5 w (build k n d) (fun v => .tuple #[v, .int .i64 0])) := by
  obtain ⟨i0, hi, hz0, hz1, hz2⟩ := info_parts info_u8
  have hmf : ∀ (fn : Fn) (first cap : Array Value) (w : World), (Instr.makeFunc fn first cap).run Try.prog w = .ok (.func fn first cap) w := fun _ _ _ _ => rfl
  have H := Lib.hid (fun W => Right_any k n A d.length c W k1 k2 n1 n2 (by omega))
  have hE := err_ok he
  rw [he] at H
  obtain ⟨hk, hn, hd⟩ := hE
  have R0 := Lib.hid (Rc.new w k n (.slice A d.length c) 39)
  have hB : build k n d = Sum.seal_ (((Oct.bytes 87 1 ++ Oct.bytes k 1) ++ Oct.bytes n 4) ++ Oct.bytes (d.length : Int) 2 ++ d) ++ Oct.bytes 0 1 := rfl
  have hk8 : 0 ≤ k ∧ k < 256 := by omega
  clear hk he
  go_enter Try.func97, Try.ntmps97
  go_wp2_with fail
  refine (H.out _).mono ?_
  rintro e w2 ⟨rfl, b2⟩
  have hz2' := b2.size
  simp only [World.size_alloc] at hz2'
  have S0 : BS w (w2.alloc (.cells #[.slice none 0 0] 22)) w2.heap.size k n (.slice A d.length c) [] := by
    refine ⟨⟨by omega, by simp, .slice none 0 0, by simp, by simp, Own.nil _ _ _⟩, R0.out.kept ?_, ?_⟩
    · rw [Below.heap_alloc _ _ _ (by omega)]
      exact b2.block _ (by simp)
    · exact (((Below.refl w.heap.size w).alloc (Nat.le_refl _) _).trans (b2.mono (by simp))).alloc (by omega) _
  go_wp2_with fail
  refine (putS_any S0 1 87 (by simp) (by omega) (by omega) (by omega) (by decide)).mono ?_
  rintro e w3 ⟨rfl, S1⟩
  simp only [List.nil_append] at S1
  have ⟨c0, c1, c2⟩ := S1.r
  clear S0
  go_wp2_with fail
  refine (putS_any S1 1 k (by simp [Oct.bytes_length]) (by omega) (by omega) (by omega) (show k < 256 ^ 1 by omega)).mono ?_
  rintro e w4 ⟨rfl, S2⟩
  clear c0 c1 c2 S1
  have ⟨c0, c1, c2⟩ := S2.r
  go_wp2_with fail
  refine (putS_any S2 4 n (by simp [Oct.bytes_length]) (by omega) (by omega) (by omega) (show n < 256 ^ 4 by omega)).mono ?_
  rintro e w5 ⟨rfl, S3⟩
  clear c0 c1 c2 S2
  have ⟨c0, c1, c2⟩ := S3.r
  go_wp2_with fail
  refine (putS_any S3 2 (d.length : Int) (by simp [Oct.bytes_length]) (by omega) (by omega) (by omega) (show (d.length : Int) < 256 ^ 2 by omega)).mono ?_
  rintro e w6 ⟨rfl, S4⟩
  clear c0 c1 c2 S3
  have ⟨c0, c1, c2⟩ := S4.r
  have hT : (((Oct.bytes 87 (1 : Int).toNat ++ Oct.bytes k (1 : Int).toNat) ++ Oct.bytes n (4 : Int).toNat) ++ Oct.bytes (d.length : Int) (2 : Int).toNat).length = 8 := by simp [Oct.bytes_length]
  have hB' := Lib.hid hB
  clear hB
  rw [show (1 : Int).toNat = 1 from rfl, show (4 : Int).toNat = 4 from rfl, show (2 : Int).toNat = 2 from rfl] at S4 hT
  generalize ((Oct.bytes 87 1 ++ Oct.bytes k 1) ++ Oct.bytes n 4) ++ Oct.bytes (d.length : Int) 2 = T at *
  obtain ⟨A1, c1', l1, o1⟩ := S4.load
  rw [hT] at l1 o1
  have rd := hr.below S4.b
  have gb := S4.c.1
  have gl := S4.c.2.1
  go_wp2_with (at_builtin; refine wpList_app _ rfl (.tmp 31) (.tmp 33) 22 rfl (w2.heap.size + 1) 5 i0 Try.underlying22 hi hz0 hz1 hz2 (.slice A1 8 c1') T rfl o1 A d.length c d rfl rfl w.heap.size rd (by omega) (by omega) ?_; intro v2 w7 o2 g2 t2)
  have hTd : (T ++ d).length = d.length + 8 := by simp [hT]; omega
  obtain ⟨A2, c2', rfl, rd2⟩ := o2.form_n hTd
  have nb : ∀ k, (Value.slice A1 8 c1').ownBlock = some k → w2.heap.size + 1 ≤ k := fun k hk => (o1.lt k hk).1
  have cl7 := S4.c.cl.kept (g2.block _ gl (by intro e; have := nb _ e.symm; omega)) g2.size
  have r7 := S4.r.kept (g2.block _ (by omega) (by intro e; have := nb _ e.symm; omega))
  have b7 := S4.b.grown g2 S4.b.size (fun k hk => by have := nb k hk; omega)
  clear c0 c1 c2 S4 o1 o2 g2 t2 nb rd l1
  refine (seal_any A2 (d.length + 8) c2' (T ++ d) w7 rd2 hTd.symm (by omega)).mono ?_
  rintro e w8 ⟨v3, rfl, o3, b3⟩
  unfold id
  have S8 := Lib.hid (cl7.set b3 o3)
  have hc8 := (cl7.kept (b3.block _ cl7.2.1) b3.size)
  obtain ⟨_, _, ⟨u8, hcu⟩, hfu⟩ := hc8
  have hsl : (Sum.seal_ (T ++ d)).length = d.length + 12 := by rw [Sum.seal_length, hTd]
  obtain ⟨A3, c3', rfl, rd3⟩ := o3.form_n hsl
  have gl7 := cl7.2.1
  have b8 := b7.trans (b3.mono b7.size)
  have S9 : BS w (w8.setCell ⟨w2.heap.size, 0, none⟩ (.slice A3 (d.length + 12) c3')) w2.heap.size k n (.slice A d.length c) (Sum.seal_ (T ++ d)) := by
    refine ⟨S8.out.1, r7.kept (S8.out.2.block _ (by have := b7.size; omega) (by intro e; injection e with e; omega)), b7.grown S8.out.2 b7.size (fun i hi => by injection hi with hi; omega)⟩
  clear S8 cl7 r7
  generalize hS : Sum.seal_ (T ++ d) = S at *
  have hsl' := Lib.hid hsl
  clear hsl hTd hT
  go_wp2_with fail
  refine (putS_any S9 1 0 (by rw [hsl'.out]; omega) (by omega) (by omega) (by omega) (by decide)).mono ?_
  rintro e w10 ⟨rfl, S10⟩
  rw [show (1 : Int).toNat = 1 from rfl] at S10
  obtain ⟨A4, c4', l4, o4⟩ := S10.load
  have B10 := S10.b
  generalize S ++ Oct.bytes 0 1 = U at *
  go_wp2_with fail
  go_ret2
  rw [hB'.out]
  exact ⟨_, rfl, o4.lower (by omega), B10⟩

end Rec
end Go.Proofs.Ytkkbjngjjeajoaa
