/-
  The document's flash of bytes, as long as nothing was done with it.
-/
import Derived.Test.YtkkbjngjjeajoaaFlaBytes
import Derived.Test.YtkkbjngjjeajoaaIntsOwn
import Derived.Test.YtkkbjngjjeajoaaText
import Derived.IntWalk
namespace Go.Proofs.Ytkkbjngjjeajoaa
namespace Fla
open Go.RowKit Mem
set_option linter.unusedVariables false

theorem info_int : (Try.prog.info? 3).map (fun i => (i.zero, i.size, i.bytes)) = some (some (.int .i64 0), 1, 8) := by kernel_rfl
def RT : TypeId := 75
def rcells (VB VW : Value) (m : Int) : List Value := [VB, VW, .int .i64 m, .bool false, .int .i64 (-1), .int .u32 0, .int .i64 0]
/-- The document's flash stands in block r. -/
structure IsR (W : World) (r : Nat) (bs : List UInt8) (n : Nat) (m : Int) (AB : Option Addr) (cB : Nat) (AW : Option Addr) (cW : Nat) : Prop where
  blk : W.heap[r]? = some (.cells (rcells (.slice AB bs.length cB) (.slice AW n cW) m).toArray RT (0, 0))
  rb : Rd W W.heap.size AB bs
  rw : RdI .i64 W W.heap.size AW (List.replicate n 0)
section
variable {W W' : World} {r n : Nat} {bs : List UInt8} {m : Int} {AB AW : Option Addr} {cB cW : Nat}
theorem IsR.lt (h : IsR W r bs n m AB cB AW cW) : r < W.heap.size := (Array.getElem?_eq_some_iff.1 h.blk).1
theorem IsR.c0 (h : IsR W r bs n m AB cB AW cW) : W.cell? ⟨r, 0, none⟩ = some (.slice AB bs.length cB) := cell_of h.blk rfl
theorem IsR.c1 (h : IsR W r bs n m AB cB AW cW) : W.cell? ⟨r, 1, none⟩ = some (.slice AW n cW) := cell_of h.blk rfl
theorem IsR.c2 (h : IsR W r bs n m AB cB AW cW) : W.cell? ⟨r, 2, none⟩ = some (.int .i64 m) := cell_of h.blk rfl
theorem IsR.c3 (h : IsR W r bs n m AB cB AW cW) : W.cell? ⟨r, 3, none⟩ = some (.bool false) := cell_of h.blk rfl
theorem IsR.c6 (h : IsR W r bs n m AB cB AW cW) : W.cell? ⟨r, 6, none⟩ = some (.int .i64 0) := cell_of h.blk rfl
theorem IsR.below (h : IsR W r bs n m AB cB AW cW) (b : Below W.heap.size W W') : IsR W' r bs n m AB cB AW cW :=
  ⟨(b.block r h.lt).trans h.blk, (h.rb.below b).mono b.size, (h.rw.below b).mono b.size⟩
theorem IsR.drew (h : IsR W r bs n m AB cB AW cW) : IsR W.drew r bs n m AB cB AW cW := ⟨h.blk, h.rb, h.rw⟩
theorem IsR.wear (h : IsR W r bs n m AB cB AW cW) {j : Nat} (hj : j < n) : ∃ g off, AW = some ⟨g, off, none⟩ ∧ W.cell? ⟨g, off + j, none⟩ = some (.int .i64 0) := by
  obtain ⟨g, off, e, _, hc⟩ := h.rw.at_ (j := j) (by simpa using hj)
  refine ⟨g, off, e, hc.trans ?_⟩
  simp [List.getD_eq_getElem?_getD, hj]
end

theorem ownI_at {k : IntKind} {W : World} {base g : Nat} {e : TypeId} {v : Value} {zs : List Int} (h : OwnI k W base e v zs) (hg : v.ownBlock = some g) : base ≤ g ∧ g < W.heap.size := by
  rcases h.2 with ⟨rfl, _⟩ | ⟨g', cap, cur, rfl, hb, hh, _⟩
  · cases hg
  · simp only [Value.ownBlock] at hg
    cases hg
    exact ⟨hb, (Array.getElem?_eq_some_iff.1 hh).1⟩
theorem ownI_kept {k : IntKind} {W W' : World} {base : Nat} {e : TypeId} {v : Value} {zs : List Int} (h : OwnI k W base e v zs) (hk : ∀ g, v.ownBlock = some g → W'.heap[g]? = W.heap[g]?) : OwnI k W' base e v zs := by
  refine ⟨h.1, ?_⟩
  rcases h.2 with h1 | ⟨g', cap, cur, rfl, hb, hh, hr⟩
  · exact .inl h1
  · exact .inr ⟨g', cap, cur, rfl, hb, (hk g' rfl).trans hh, hr⟩
/-- The loop of Of: the bytes lie in v1, k zeros in the row of wear. -/
structure RofL (w2 wr : World) (r : Nat) (v1 vW : Value) (m : Int) (k : Nat) : Prop where
  blk : wr.heap[r]? = some (.cells (rcells v1 vW m).toArray RT (0, 0))
  own : OwnI .i64 wr w2.heap.size 3 vW (List.replicate k 0)
  far : Far r r w2 wr
theorem RofL.next {w2 wr w' : World} {r : Nat} {v1 vW v' : Value} {m : Int} {k : Nat} (h : RofL w2 wr r v1 vW m k) (hr : r < w2.heap.size) (o : Obj)
    (ho : OwnI .i64 w' w2.heap.size 3 v' (List.replicate k 0 ++ [0])) (g : (wr.alloc o).grownBy w' vW.ownBlock) :
    RofL w2 (w'.setCell ⟨r, 1, none⟩ v') r v1 v' m (k + 1) ∧ w'.heap[r]? = some (.cells (rcells v1 vW m).toArray RT (0, 0)) := by
  have hs := h.far.size
  have hne : ∀ x, x < w2.heap.size → some x ≠ vW.ownBlock := fun x hx e => by
    have := (ownI_at h.own e.symm).1
    omega
  have hne' : ∀ x, v'.ownBlock = some x → x ≠ r := fun x hx e => by
    have := (ownI_at ho hx).1
    omega
  have hA : ∀ x, x < wr.heap.size → (wr.alloc o).heap[x]? = wr.heap[x]? := fun x hx => Below.heap_alloc _ _ _ (by omega)
  have hb : w'.heap[r]? = some (.cells (rcells v1 vW m).toArray RT (0, 0)) := by
    rw [g.block r (by simp; omega) (hne r hr), hA r (by omega)]
    exact h.blk
  refine ⟨⟨set_of hb rfl, ?_, ?_⟩, hb⟩
  · rw [List.replicate_succ']
    exact ownI_kept ho fun x hx => Below.heap_setCell w' ⟨r, 1, none⟩ v' x (hne' x hx)
  · refine Far.set_p (p := r) ⟨g.os.trans h.far.os, g.tape.trans h.far.tape, g.output.trans h.far.output, ?_, fun x hx h1 h2 => ?_⟩ 1 v'
    · have := g.size
      simp at this
      omega
    · rw [g.block x (by simp; omega) (hne x hx), hA x (by omega)]
      exact h.far.block x hx h1 h2

/-- The document's flash has its blocks from lo on. -/
structure FarR (lo r : Nat) (AB AW : Option Addr) : Prop where
  r : lo ≤ r
  b : ∀ a, AB = some a → lo ≤ a.block
  w : ∀ a, AW = some a → lo ≤ a.block
theorem IsR.grown {W W' : World} {r n k lo : Nat} {bs : List UInt8} {m : Int} {AB AW : Option Addr} {cB cW : Nat} (h : IsR W r bs n m AB cB AW cW) (f : FarR lo r AB AW) (g : W.grownBy W' (some k)) (hk : k < lo) : IsR W' r bs n m AB cB AW cW := by
  refine ⟨(g.block r h.lt (by have := f.r; simp; omega)).trans h.blk, ?_, ?_⟩
  · rcases h.rb with rfl | ⟨x, off, rfl, hx, hc⟩
    · exact .inl rfl
    · have := f.b _ rfl
      exact .inr ⟨x, off, rfl, Nat.lt_of_lt_of_le hx g.size, fun j hj => (World.cell?_of_block (w := W) (g.block x hx (by simp at this ⊢; omega))).trans (hc j hj)⟩
  · rcases h.rw with e | ⟨x, off, rfl, hx, hc⟩
    · exact .inl e
    · have := f.w _ rfl
      exact .inr ⟨x, off, rfl, Nat.lt_of_lt_of_le hx g.size, fun j hj => (World.cell?_of_block (w := W) (g.block x hx (by simp at this ⊢; omega))).trans (hc j hj)⟩

def RofEnds (w : World) (bs : List UInt8) (n : Nat) (m : Int) (e : Ending) (W : World) : Prop :=
  ∃ r AB cB AW cW, e = .returned (.tuple #[at_ r, .bool true]) ∧ IsR W r bs n m AB cB AW cW ∧ Below w.heap.size w W ∧ FarR w.heap.size r AB AW

set_option maxRecDepth 100000 in
set_option maxHeartbeats 2000000 in
theorem rof_yes (A : Option Addr) (n c : Nat) (m : Int) (bs : List UInt8) (w : World) (hr : Rd w w.heap.size A bs) (hn : n = bs.length) (m1 : m ≤ 9223372036854775807) (hok : ofB bs.length m = true) :
    Calls Try.prog 11 #[.slice A n c, .int .i64 m] w (RofEnds w bs (bs.length / 1024) m) := by
  subst hn
  have hb : bs.length % 1024 = 0 ∧ 1 ≤ bs.length / 1024 ∧ bs.length / 1024 ≤ 8 ∧ 1 ≤ m := by
    simp [ofB, canB] at hok; omega
  obtain ⟨i0, hi, hz0, hz1, hz2⟩ := info_parts Byt.info_u8
  obtain ⟨i1, hj, hy0, hy1, hy2⟩ := info_parts info_int
  have hi := Lib.hid hi
  have hz0 := Lib.hid hz0
  have hz1 := Lib.hid hz1
  have hz2 := Lib.hid hz2
  have hj := Lib.hid hj
  have hy0 := Lib.hid hy0
  have hy1 := Lib.hid hy1
  have hy2 := Lib.hid hy2
  have HR := Lib.hid hr
  obtain ⟨q, hq⟩ : ∃ q, bs.length / 1024 = q := ⟨_, rfl⟩
  rw [hq]
  have e1 : ((bs.length : Int) % 1024) = 0 := by omega
  have e2 : ((bs.length : Int) / 1024) = (q : Int) := by omega
  have e3 : ((bs.length : Int) == 0) = false := beq_eq_false_iff_ne.2 (by omega)
  have e4 : (bs.length : Int) ≤ 8192 := by omega
  have e5 : 1 ≤ m := hb.2.2.2
  have e6 : (q : Int) ≤ 8 := by omega
  have HL : Hid (bs.length ≤ 8192) := Lib.hid (by omega)
  clear hok hr hb hq
  go_enter Try.func11, Try.ntmps11
  have HB : Hid (Below w.heap.size w (w.alloc (Obj.cells #[Value.slice none 0 0, Value.slice none 0 0, Value.int IntKind.i64 m, Value.bool false, Value.int IntKind.i64 (-1), Value.int IntKind.u32 0, Value.int IntKind.i64 0] 75))) := Lib.hid ((Below.refl _ _).alloc (Nat.le_refl _) _)
  obtain ⟨w0, hw0⟩ : ∃ w0, w.alloc (Obj.cells #[Value.slice none 0 0, Value.slice none 0 0, Value.int IntKind.i64 m, Value.bool false, Value.int IntKind.i64 (-1), Value.int IntKind.u32 0, Value.int IntKind.i64 0] 75) = w0 := ⟨_, rfl⟩
  have hs0 : w0.heap.size = w.heap.size + 1 := by rw [← hw0]; simp
  have hk0 : w0.heap[w.heap.size]? = some (.cells (rcells (.slice none 0 0) (.slice none 0 0) m).toArray RT (0, 0)) := by rw [← hw0]; exact heap_alloc_new w _
  rw [hw0] at HB
  have HR0 := Lib.hid (HR.out.below HB.out)
  have HS0 := Lib.hid hs0
  have HK0 := Lib.hid hk0
  have W0 := Lib.hid hw0
  have c0 : w0.cell? ⟨w.heap.size, 0, none⟩ = some (.slice none 0 0) := cell_of hk0 rfl
  clear hw0 hs0 hk0
  go_wp2_with (at_builtin; go_loud (rw [W0.out]); go_loud (refine wpList_app _ rfl (.tmp 35) (.tmp 36) 22 rfl (w.heap.size + 1) 5 i0 Try.underlying22 hi.out hz0.out hz1.out hz2.out (.slice none 0 0) [] rfl (Own.nil _ _ _) A bs.length c bs rfl rfl w.heap.size HR0.out (by have := HL.out; simp; omega) (by rw [HS0.out]; omega) ?_); intro v1 w1 o1 g1 t1; simp only [List.nil_append] at o1; obtain ⟨AB, cB, hv, r1⟩ := rdN_own (p := w.heap.size) (D := w.heap.size) o1 (by omega) (by omega); have ha1 : ∀ a, AB = some a → w.heap.size + 1 ≤ a.block := (fun a ha => (o1.lt a.block (by rw [hv, ha]; rfl)).1); have HA1 := Lib.hid ha1; clear ha1; subst hv; have hk1 : w1.heap[w.heap.size]? = some (.cells (rcells (.slice none 0 0) (.slice none 0 0) m).toArray RT (0, 0)) := (g1.block _ (by rw [HS0.out]; omega) (by simp [Value.ownBlock])).trans HK0.out; have f1 := frozen_of_row w1 w.heap.size 0 _ RT hk1; have c1 := cell_of (j := 0) hk1 rfl; have B1 : Hid (Below w.heap.size w w1) := Lib.hid (HB.out.grown g1 (by rw [HS0.out]; omega) (by simp [Value.ownBlock])); have HK1 := Lib.hid hk1; have R1 := Lib.hid r1; clear o1 g1 t1 hk1 r1 c0)
  obtain ⟨w2, hw2⟩ : ∃ w2, w1.setCell ⟨w.heap.size, 0, none⟩ (.slice AB bs.length cB) = w2 := ⟨_, rfl⟩
  have hk2 : w2.heap[w.heap.size]? = some (.cells (rcells (.slice AB bs.length cB) (.slice none 0 0) m).toArray RT (0, 0)) := by rw [← hw2]; exact set_of HK1.out rfl
  have r2 : RdN w2 w.heap.size w.heap.size AB bs := R1.out.far (by rw [← hw2]; exact (Far.refl _ _ w1).set_p 0 _)
  have b2 : Below w.heap.size w w2 := by rw [← hw2]; exact B1.out.setCell (Nat.le_refl _) _
  have hrlt : w.heap.size < w2.heap.size := (Array.getElem?_eq_some_iff.1 hk2).1
  rw [hw2]
  have HK2 := Lib.hid hk2
  have R2 := Lib.hid r2
  have B2 := Lib.hid b2
  have HRL := Lib.hid hrlt
  clear hw2 hk2 r2 b2 hrlt HK1 R1 B1 HR0 HK0 HS0 W0 HB c1 f1
  go_loopw [7] (fun i wr => ∃ (k : Nat) (vW : Value), k ≤ q ∧ i = .int .i64 (k : Int) ∧ RofL w2 wr w.heap.size (.slice AB bs.length cB) vW m k) (fun i _ => q - (intOf i).toNat)
  case atStart => exact ⟨0, .slice none 0 0, Nat.zero_le _, rfl, HK2.out, World.ownsRow_nil _ _ _ _, Far.refl _ _ _⟩
  case round =>
    obtain ⟨k, vW, hk, rfl, L⟩ := hrel
    have hkq : (k : Int) ≤ 8 := by omega
    by_cases hlt : k < q
    · have hki : (k : Int) < (q : Int) := by omega
      have hc := cell_of (j := 1) L.blk rfl
      obtain ⟨AW, cW, hv, rW⟩ := L.own.form
      subst hv
      have hlr : (List.replicate k (0 : Int)).length = k := by simp
      rw [hlr] at L hc
      have LL := Lib.hid L
      clear hlr
      have HB2 := Lib.hid (Nat.le_of_lt HRL.out)
      have hsz := Lib.hid L.far.size
      clear L rW
      go_wp2_with (at_builtin; go_loud (refine wpList_appI _ .i64 rfl (.tmp 51) (.tmp 52) 73 rfl w2.heap.size 3 i1 8 Try.underlying73 hj.out hy0.out hy1.out hy2.out (by omega) _ (List.replicate k 0) rfl (LL.out.own.alloc _) (some ⟨wr.heap.size, 0, none⟩) 1 1 [0] rfl rfl (wr.heap.size + 1) (RdI.new1 _ _ _ _) (by simp; omega) (by have := hsz.out; simp; omega) ?_); intro v' w' own' gr'; go_loud (obtain ⟨L2, hb'⟩ := LL.out.next HRL.out _ own' gr'); have c' := cell_of (j := 1) hb' rfl; have f' := frozen_of_row w' w.heap.size 1 _ RT hb'; obtain ⟨A', cc', hv', _⟩ := own'.form; have hlr2 : (List.replicate k (0 : Int) ++ [0]).length = k + 1 := (by simp); rw [hlr2] at hv'; clear hlr2; subst hv'; have L3 := Lib.hid L2; clear own' gr' hb' L2)
      refine ⟨⟨k + 1, _, hlt, by go_num, L3.out⟩, ?_⟩
      show q - ((k : Int) + 1).toNat < q - ((k : Int)).toNat
      omega
    · obtain rfl : k = q := by omega
      obtain ⟨AW, cW, hv, rW⟩ := L.own.form
      subst hv
      have hlr : (List.replicate k (0 : Int)).length = k := by simp
      rw [hlr] at L
      have hw1 : ∀ a, AW = some a → w2.heap.size ≤ a.block := fun a ha => (ownI_at L.own (by rw [ha]; rfl)).1
      have HW1 := Lib.hid hw1
      have LL := Lib.hid L
      have RW := Lib.hid rW
      clear hw1
      clear L rW
      go_wp2_with fail
      go_ret2
      refine ⟨w.heap.size, AB, cB, AW, cW, rfl, ⟨LL.out.blk, ((R2.out.far LL.out.far)).rd, RW.out⟩, ?_⟩
      refine ⟨B2.out.trans (LL.out.far.below (Nat.le_of_lt HRL.out) (Nat.le_refl _) (Nat.le_refl _)), Nat.le_refl _, fun a ha => Nat.le_of_succ_le (HA1.out a ha), fun a ha => ?_⟩
      have := HW1.out a ha
      have := HRL.out
      omega

set_option maxRecDepth 100000 in
set_option maxHeartbeats 2000000 in
theorem rof_no (A : Option Addr) (n c : Nat) (m : Int) (w : World) (hle : (n : Int) ≤ 9223372036854775807) (hok : ofB n m = false) :
    Calls Try.prog 11 #[.slice A n c, .int .i64 m] w fun e w' => (∃ r, e = .returned (.tuple #[at_ r, .bool false])) ∧ Below w.heap.size w w' := by
  have hcase : n = 0 ∨ (0 < n ∧ ¬ (n : Int) % 1024 = 0) ∨ (0 < n ∧ (n : Int) % 1024 = 0 ∧ 8192 < (n : Int)) ∨ (0 < n ∧ (n : Int) % 1024 = 0 ∧ (n : Int) ≤ 8192 ∧ m < 1) := by
    simp [ofB, canB] at hok; omega
  clear hok
  have HB := Lib.hid (fun o => (Below.refl w.heap.size w).alloc (Nat.le_refl _) o)
  rcases hcase with rfl | ⟨h0, h1⟩ | ⟨h0, h1, h2⟩ | ⟨h0, h1, h2, h3⟩
  · go_enter Try.func11, Try.ntmps11
    go_wp2_with fail
    go_ret2
    exact ⟨⟨_, rfl⟩, HB.out _⟩
  · have e3 : ((n : Int) == 0) = false := beq_eq_false_iff_ne.2 (by omega)
    have e4 : ((n : Int) % 1024 != 0) = true := bne_iff_ne.2 h1
    clear h0 h1
    go_enter Try.func11, Try.ntmps11
    go_wp2_with fail
    go_ret2
    exact ⟨⟨_, rfl⟩, HB.out _⟩
  · have e3 : ((n : Int) == 0) = false := beq_eq_false_iff_ne.2 (by omega)
    clear h0
    go_enter Try.func11, Try.ntmps11
    go_wp2_with fail
    go_ret2
    exact ⟨⟨_, rfl⟩, HB.out _⟩
  · have e3 : ((n : Int) == 0) = false := beq_eq_false_iff_ne.2 (by omega)
    clear h0
    go_enter Try.func11, Try.ntmps11
    go_wp2_with fail
    go_ret2
    exact ⟨⟨_, rfl⟩, HB.out _⟩

section
variable {W : World} {r n : Nat} {bs : List UInt8} {m : Int} {AB AW : Option Addr} {cB cW : Nat}

def rleftV (n : Nat) (m i : Int) : Int := if 0 ≤ i ∧ i < (n : Int) then m else 0
theorem rleft_any (i : Int) (h : IsR W r bs n m AB cB AW cW) (hn : (n : Int) ≤ 8) (m0 : 0 ≤ m) (m1 : m ≤ 9223372036854775807) :
    Calls Try.prog 83 #[at_ r, .int .i64 i] W fun e w' => e = .returned (.int .i64 (rleftV n m i)) ∧ Below W.heap.size W w' := by
  have c1 := h.c1
  have c2 := h.c2
  have hW := Lib.hid (fun j (hj : j < n) => h.wear hj)
  have H := Lib.hid h
  clear h
  by_cases h0 : i < 0
  · rw [show rleftV n m i = 0 from if_neg (by omega)]
    go_enter Try.func83, Try.ntmps83
    go_wp2_with fail
    go_ret
    exact ⟨rfl, Below.refl _ _⟩
  · by_cases h1 : (n : Int) ≤ i
    · rw [show rleftV n m i = 0 from if_neg (by omega)]
      go_enter Try.func83, Try.ntmps83
      go_wp2_with fail
      go_ret
      exact ⟨rfl, Below.refl _ _⟩
    · obtain ⟨j, rfl⟩ : ∃ j : Nat, i = (j : Int) := ⟨i.toNat, by omega⟩
      obtain ⟨g, off, rfl, hc⟩ := hW.out j (by omega)
      have hji : (j : Int) < (n : Int) := by omega
      rw [show rleftV n m j = m from if_pos (by omega)]
      have hX := Lib.hid (fun W' (h : IsR W' r bs n m AB cB (some ⟨g, off, none⟩) cW) => by obtain ⟨g', off', e, hc'⟩ := h.wear (j := j) (by omega); cases e; exact hc')
      have hm64 : IntKind.i64.wrap m = m := IntWalk.i64_in _ (by omega)
      go_enter Try.func83, Try.ntmps83
      go_wp2_with fail
      refine Txt.wp_region_textN 13 (fun W' => Below W.heap.size W W' ∧ IsR W' r bs n m AB cB (some ⟨g, off, none⟩) cW) (by kernel_rfl) (by kernel_rfl) (by kernel_rfl) (by kernel_rfl) (fun _ _ _ _ _ h => h) ⟨(Below.refl _ _).drew, H.out.drew⟩ ?_
      clear H c1 c2 hc
      repeat (
        apply Txt.step rfl
        · intro W' hS K hK
          have c1 := hS.2.c1
          have c2 := hS.2.c2
          have hc := hX.out _ hS.2
          go_simp
          exact hK.out _ hS
        · first | exact ⟨_, rfl⟩ | exact ⟨undef, rfl⟩)
      refine Txt.last fun W' hS => ?_
      have S := Lib.hid hS.1
      clear hS
      go_wp2_with fail
      go_ret
      exact ⟨rfl, S.out⟩

end

end Fla
end Go.Proofs.Ytkkbjngjjeajoaa
