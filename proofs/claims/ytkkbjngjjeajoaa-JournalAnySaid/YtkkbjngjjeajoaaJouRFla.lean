/-
  The document's flash, its slices its own: Of, and what programming and erasing make of it.
  The document's flash: one byte, Program, Erase, no cut being planned.
-/
import Derived.Test.YtkkbjngjjeajoaaFlaRef
import Derived.Test.YtkkbjngjjeajoaaJouInts
import Derived.IntWalk
import Derived.Test.YtkkbjngjjeajoaaText
namespace Go.Proofs.Ytkkbjngjjeajoaa
namespace Jou
open Go.RowKit Mem Fla
set_option linter.unusedVariables false
set_option linter.unusedSimpArgs false
set_option maxRecDepth 100000

def gcells (VB VW : Value) (m o : Int) : List Value := [VB, VW, .int .i64 m, .bool false, .int .i64 (-1), .int .u32 0, .int .i64 o]
/-- The document's flash stands in block r: its bytes, its wears, o operations; no cut is planned. -/
structure IsG (W : World) (r : Nat) (bs : List UInt8) (ws : List Int) (m o : Int) (AB : Option Addr) (cB : Nat) (AW : Option Addr) (cW : Nat) : Prop where
  blk : W.heap[r]? = some (.cells (gcells (.slice AB bs.length cB) (.slice AW ws.length cW) m o).toArray RT (0, 0))
  ob : Own W (r + 1) E (.slice AB bs.length cB) bs
  ow : OwnI .i64 W (r + 1) 3 (.slice AW ws.length cW) ws
  sep : ∀ a b, AB = some a → AW = some b → a.block < b.block
theorem ownI_low {k : IntKind} {W : World} {base b : Nat} {e : TypeId} {v : Value} {zs : List Int} (h : OwnI k W base e v zs) (hb : b ≤ base) : OwnI k W b e v zs := by
  refine ⟨h.1, ?_⟩
  rcases h.2 with h1 | ⟨g', cap, cur, rfl, hb', hh, hr⟩
  · exact .inl h1
  · exact .inr ⟨g', cap, cur, rfl, by omega, hh, hr⟩
theorem ownI_keep {k : IntKind} {W W' : World} {base : Nat} {e : TypeId} {v : Value} {zs : List Int} (h : OwnI k W base e v zs) (hk : ∀ g, g < W.heap.size → base ≤ g → W'.heap[g]? = W.heap[g]?) : OwnI k W' base e v zs := by
  refine ⟨h.1, ?_⟩
  rcases h.2 with h1 | ⟨g', cap, cur, rfl, hb, hh, hr⟩
  · exact .inl h1
  · exact .inr ⟨g', cap, cur, rfl, hb, (hk g' (Array.getElem?_eq_some_iff.1 hh).1 hb).trans hh, hr⟩
section
variable {W W' : World} {r : Nat} {bs : List UInt8} {ws : List Int} {m o : Int} {AB AW : Option Addr} {cB cW : Nat}
theorem IsG.lt (h : IsG W r bs ws m o AB cB AW cW) : r < W.heap.size := (Array.getElem?_eq_some_iff.1 h.blk).1
theorem IsG.keep (h : IsG W r bs ws m o AB cB AW cW) (hk : ∀ k, k < W.heap.size → r ≤ k → W'.heap[k]? = W.heap[k]?) : IsG W' r bs ws m o AB cB AW cW :=
  ⟨(hk r h.lt (Nat.le_refl _)).trans h.blk, own_keep h.ob fun k h1 h2 => hk k h1 (by omega), ownI_keep h.ow fun k h1 h2 => hk k h1 (by omega), h.sep⟩
theorem IsG.below (h : IsG W r bs ws m o AB cB AW cW) {B : Nat} (b : Below B W W') (hB : W.heap.size ≤ B) : IsG W' r bs ws m o AB cB AW cW := h.keep fun k h1 _ => b.block k (by omega)
theorem IsG.c0 (h : IsG W r bs ws m o AB cB AW cW) : W.cell? ⟨r, 0, none⟩ = some (.slice AB bs.length cB) := Fla.cell_of h.blk rfl
theorem IsG.c1 (h : IsG W r bs ws m o AB cB AW cW) : W.cell? ⟨r, 1, none⟩ = some (.slice AW ws.length cW) := Fla.cell_of h.blk rfl
theorem IsG.c2 (h : IsG W r bs ws m o AB cB AW cW) : W.cell? ⟨r, 2, none⟩ = some (.int .i64 m) := Fla.cell_of h.blk rfl
theorem IsG.c3 (h : IsG W r bs ws m o AB cB AW cW) : W.cell? ⟨r, 3, none⟩ = some (.bool false) := Fla.cell_of h.blk rfl
theorem IsG.c4 (h : IsG W r bs ws m o AB cB AW cW) : W.cell? ⟨r, 4, none⟩ = some (.int .i64 (-1)) := Fla.cell_of h.blk rfl
theorem IsG.c6 (h : IsG W r bs ws m o AB cB AW cW) : W.cell? ⟨r, 6, none⟩ = some (.int .i64 o) := Fla.cell_of h.blk rfl
theorem IsG.free (h : IsG W r bs ws m o AB cB AW cW) (j : Nat) : W.frozen? ⟨r, j, none⟩ = false := frozen_of_row W r j _ RT h.blk
end
def GofEnds (w : World) (bs : List UInt8) (n : Nat) (m : Int) (e : Ending) (W : World) : Prop :=
  ∃ r AB cB AW cW, e = .returned (.tuple #[at_ r, .bool true]) ∧ IsG W r bs (List.replicate n 0) m 0 AB cB AW cW ∧ Below w.heap.size w W ∧ w.heap.size ≤ r

set_option maxHeartbeats 2000000 in
theorem gof_yes (A : Option Addr) (n c : Nat) (m : Int) (bs : List UInt8) (w : World) (hr : Rd w w.heap.size A bs) (hn : n = bs.length) (m1 : m ≤ 9223372036854775807) (hok : ofB bs.length m = true) :
    Calls Try.prog 11 #[.slice A n c, .int .i64 m] w (GofEnds w bs (bs.length / 1024) m) := by
  subst hn
  have hb : bs.length % 1024 = 0 ∧ 1 ≤ bs.length / 1024 ∧ bs.length / 1024 ≤ 8 ∧ 1 ≤ m := by
    simp [ofB, canB] at hok; omega
  obtain ⟨i0, hi, hz0, hz1, hz2⟩ := info_parts Byt.info_u8
  obtain ⟨i1, hj, hy0, hy1, hy2⟩ := info_parts info_int
  have hi := Lib.hid hi
  have hz0 := Lib.hid hz0
  have hz1 := Lib.hid hz1
  have hz2 := Lib.hid hz2
  have hj := Lib.hid hj
  have hy0 := Lib.hid hy0
  have hy1 := Lib.hid hy1
  have hy2 := Lib.hid hy2
  have HR := Lib.hid hr
  obtain ⟨q, hq⟩ : ∃ q, bs.length / 1024 = q := ⟨_, rfl⟩
  rw [hq]
  have e1 : ((bs.length : Int) % 1024) = 0 := by omega
  have e2 : ((bs.length : Int) / 1024) = (q : Int) := by omega
  have e3 : ((bs.length : Int) == 0) = false := beq_eq_false_iff_ne.2 (by omega)
  have e4 : (bs.length : Int) ≤ 8192 := by omega
  have e5 : 1 ≤ m := hb.2.2.2
  have e6 : (q : Int) ≤ 8 := by omega
  have HL : Hid (bs.length ≤ 8192) := Lib.hid (by omega)
  clear hok hr hb hq
  go_enter Try.func11, Try.ntmps11
  have HB : Hid (Below w.heap.size w (w.alloc (Obj.cells #[Value.slice none 0 0, Value.slice none 0 0, Value.int IntKind.i64 m, Value.bool false, Value.int IntKind.i64 (-1), Value.int IntKind.u32 0, Value.int IntKind.i64 0] 75))) := Lib.hid ((Below.refl _ _).alloc (Nat.le_refl _) _)
  obtain ⟨w0, hw0⟩ : ∃ w0, w.alloc (Obj.cells #[Value.slice none 0 0, Value.slice none 0 0, Value.int IntKind.i64 m, Value.bool false, Value.int IntKind.i64 (-1), Value.int IntKind.u32 0, Value.int IntKind.i64 0] 75) = w0 := ⟨_, rfl⟩
  have hs0 : w0.heap.size = w.heap.size + 1 := by rw [← hw0]; simp
  have hk0 : w0.heap[w.heap.size]? = some (.cells (rcells (.slice none 0 0) (.slice none 0 0) m).toArray RT (0, 0)) := by rw [← hw0]; exact heap_alloc_new w _
  rw [hw0] at HB
  have HR0 := Lib.hid (HR.out.below HB.out)
  have HS0 := Lib.hid hs0
  have HK0 := Lib.hid hk0
  have W0 := Lib.hid hw0
  have c0 : w0.cell? ⟨w.heap.size, 0, none⟩ = some (.slice none 0 0) := Fla.cell_of hk0 rfl
  clear hw0 hs0 hk0
  go_wp2_with (at_builtin; go_loud (rw [W0.out]); go_loud (refine wpList_app _ rfl (.tmp 35) (.tmp 36) 22 rfl (w.heap.size + 1) 5 i0 Try.underlying22 hi.out hz0.out hz1.out hz2.out (.slice none 0 0) [] rfl (Own.nil _ _ _) A bs.length c bs rfl rfl w.heap.size HR0.out (by have := HL.out; simp; omega) (by rw [HS0.out]; omega) ?_); intro v1 w1 o1 g1 t1; simp only [List.nil_append] at o1; obtain ⟨AB, cB, hv, r1⟩ := rdN_own (p := w.heap.size) (D := w.heap.size) o1 (by omega) (by omega); have ha1 : ∀ a, AB = some a → w.heap.size + 1 ≤ a.block := (fun a ha => (o1.lt a.block (by rw [hv, ha]; rfl)).1); have HA1 := Lib.hid ha1; clear ha1; subst hv; have OB1 := Lib.hid o1; have hk1 : w1.heap[w.heap.size]? = some (.cells (rcells (.slice none 0 0) (.slice none 0 0) m).toArray RT (0, 0)) := (g1.block _ (by rw [HS0.out]; omega) (by simp [Value.ownBlock])).trans HK0.out; have f1 := frozen_of_row w1 w.heap.size 0 _ RT hk1; have c1 := Fla.cell_of (j := 0) hk1 rfl; have B1 : Hid (Below w.heap.size w w1) := Lib.hid (HB.out.grown g1 (by rw [HS0.out]; omega) (by simp [Value.ownBlock])); have HK1 := Lib.hid hk1; have R1 := Lib.hid r1; clear o1 g1 t1 hk1 r1 c0)
  obtain ⟨w2, hw2⟩ : ∃ w2, w1.setCell ⟨w.heap.size, 0, none⟩ (.slice AB bs.length cB) = w2 := ⟨_, rfl⟩
  have hk2 : w2.heap[w.heap.size]? = some (.cells (rcells (.slice AB bs.length cB) (.slice none 0 0) m).toArray RT (0, 0)) := by rw [← hw2]; exact set_of HK1.out rfl
  have r2 : RdN w2 w.heap.size w.heap.size AB bs := R1.out.far (by rw [← hw2]; exact (Far.refl _ _ w1).set_p 0 _)
  have b2 : Below w.heap.size w w2 := by rw [← hw2]; exact B1.out.setCell (Nat.le_refl _) _
  have hrlt : w.heap.size < w2.heap.size := (Array.getElem?_eq_some_iff.1 hk2).1
  rw [hw2]
  have ob2 : Own w2 (w.heap.size + 1) E (.slice AB bs.length cB) bs := by
    rw [← hw2]
    exact own_keep OB1.out fun k _ hk => Below.heap_setCell w1 ⟨w.heap.size, 0, none⟩ _ k (by show k ≠ w.heap.size; omega)
  have OB2 := Lib.hid ob2
  clear ob2 OB1
  have HK2 := Lib.hid hk2
  have R2 := Lib.hid r2
  have B2 := Lib.hid b2
  have HRL := Lib.hid hrlt
  clear hw2 hk2 r2 b2 hrlt HK1 R1 B1 HR0 HK0 HS0 W0 HB c1 f1
  go_loopw [7] (fun i wr => ∃ (k : Nat) (vW : Value), k ≤ q ∧ i = .int .i64 (k : Int) ∧ RofL w2 wr w.heap.size (.slice AB bs.length cB) vW m k) (fun i _ => q - (intOf i).toNat)
  case atStart => exact ⟨0, .slice none 0 0, Nat.zero_le _, rfl, HK2.out, World.ownsRow_nil _ _ _ _, Far.refl _ _ _⟩
  case round =>
    obtain ⟨k, vW, hk, rfl, L⟩ := hrel
    have hkq : (k : Int) ≤ 8 := by omega
    by_cases hlt : k < q
    · have hki : (k : Int) < (q : Int) := by omega
      have hc := Fla.cell_of (j := 1) L.blk rfl
      obtain ⟨AW, cW, hv, rW⟩ := L.own.form
      subst hv
      have hlr : (List.replicate k (0 : Int)).length = k := by simp
      rw [hlr] at L hc
      have LL := Lib.hid L
      clear hlr
      have HB2 := Lib.hid (Nat.le_of_lt HRL.out)
      have hsz := Lib.hid L.far.size
      clear L rW
      go_wp2_with (at_builtin; go_loud (refine wpList_appI _ .i64 rfl (.tmp 51) (.tmp 52) 73 rfl w2.heap.size 3 i1 8 Try.underlying73 hj.out hy0.out hy1.out hy2.out (by omega) _ (List.replicate k 0) rfl (LL.out.own.alloc _) (some ⟨wr.heap.size, 0, none⟩) 1 1 [0] rfl rfl (wr.heap.size + 1) (RdI.new1 _ _ _ _) (by simp; omega) (by have := hsz.out; simp; omega) ?_); intro v' w' own' gr'; go_loud (obtain ⟨L2, hb'⟩ := LL.out.next HRL.out _ own' gr'); have c' := Fla.cell_of (j := 1) hb' rfl; have f' := frozen_of_row w' w.heap.size 1 _ RT hb'; obtain ⟨A', cc', hv', _⟩ := own'.form; have hlr2 : (List.replicate k (0 : Int) ++ [0]).length = k + 1 := (by simp); rw [hlr2] at hv'; clear hlr2; subst hv'; have L3 := Lib.hid L2; clear own' gr' hb' L2)
      refine ⟨⟨k + 1, _, hlt, by go_num, L3.out⟩, ?_⟩
      show q - ((k : Int) + 1).toNat < q - ((k : Int)).toNat
      omega
    · obtain rfl : k = q := by omega
      obtain ⟨AW, cW, hv, rW⟩ := L.own.form
      subst hv
      have hlr : (List.replicate k (0 : Int)).length = k := by simp
      rw [hlr] at L
      have hw1 : ∀ a, AW = some a → w2.heap.size ≤ a.block := fun a ha => (ownI_at L.own (by rw [ha]; rfl)).1
      have HW1 := Lib.hid hw1
      have LL := Lib.hid L
      have RW := Lib.hid rW
      clear hw1
      clear L rW
      go_wp2_with fail
      go_ret2
      have hf := LL.out.far
      have hbs := LL.out.own
      have hsz2 := HRL.out
      refine ⟨w.heap.size, AB, cB, AW, cW, rfl, ⟨?_, ?_, ?_, ?_⟩, B2.out.trans (hf.below (Nat.le_of_lt HRL.out) (Nat.le_refl _) (Nat.le_refl _)), Nat.le_refl _⟩
      · have := LL.out.blk
        rw [List.length_replicate]
        exact this
      · exact own_keep OB2.out fun k h1 h2 => hf.block k h1 (by omega) (by omega)
      · have h := hbs
        rw [List.length_replicate]
        exact ownI_low h (by omega)
      · intro a b ha hb
        have h1 := HW1.out b hb
        have h2 := (OB2.out.lt a.block (by rw [ha]; rfl)).2
        omega
end Jou
end Go.Proofs.Ytkkbjngjjeajoaa

namespace Go.Proofs.Ytkkbjngjjeajoaa
namespace Jou
open Go.RowKit Mem Fla
set_option linter.unusedVariables false
set_option linter.unusedSimpArgs false
set_option maxRecDepth 100000
section
variable {w w' W W' : World} {r : Nat} {bs : List UInt8} {ws : List Int} {m o : Int} {AB AW : Option Addr} {cB cW : Nat}
/-- The blocks of the document's flash. -/
def GX (r : Nat) (AB AW : Option Addr) (k : Nat) : Prop := k = r ∨ (∃ a, AB = some a ∧ a.block = k) ∨ (∃ a, AW = some a ∧ a.block = k)
/-- The slice at A reads as x, and lies in none of the blocks X. -/
def RdX (X : Nat → Prop) (w : World) (A : Option Addr) (x : List UInt8) : Prop :=
  x = [] ∨ ∃ g off, A = some ⟨g, off, none⟩ ∧ g < w.heap.size ∧ ¬ X g ∧ ∀ j, j < x.length → w.cell? ⟨g, off + j, none⟩ = some (.int .u8 (byt x j))
theorem RdX.far {X : Nat → Prop} {A : Option Addr} {x : List UInt8} (h : RdX X w A x) (hf : FarS X w w') : RdX X w' A x := by
  rcases h with rfl | ⟨g, off, e, hg, h1, hc⟩
  · exact .inl rfl
  · exact .inr ⟨g, off, e, Nat.lt_of_lt_of_le hg hf.size, h1, fun j hj => (World.cell?_of_block (w := w) (hf.block g hg h1)).trans (hc j hj)⟩
theorem RdX.at_ {X : Nat → Prop} {A : Option Addr} {x : List UInt8} (h : RdX X w A x) {k : Nat} (hk : k < x.length) : ∃ g off, A = some ⟨g, off, none⟩ ∧ w.cell? ⟨g, off + k, none⟩ = some (.int .u8 (byt x k)) := by
  rcases h with rfl | ⟨g, off, e, _, _, hc⟩
  · simp at hk
  · exact ⟨g, off, e, hc k hk⟩
/-- What an operation leaves: the flash with other bytes, nothing else is changed. -/
structure GTo (w : World) (r n : Nat) (ws : List Int) (m o : Int) (AB : Option Addr) (cB : Nat) (AW : Option Addr) (cW : Nat) (w' : World) : Prop where
  g : ∃ bs : List UInt8, bs.length = n ∧ IsG w' r bs ws m o AB cB AW cW
  far : FarS (GX r AB AW) w w'
theorem rtorn_any (h : IsG w r bs ws m o AB cB AW cW) (o0 : 0 ≤ o) (o1 : o ≤ 1099511627776) :
    Calls Try.prog 85 #[at_ r] w fun e w' => e = .returned (.bool false) ∧ IsG w' r bs ws m (o + 1) AB cB AW cW ∧ FarS (GX r AB AW) w w' := by
  have k4 := h.c4
  have k6 := h.c6
  have z6 := h.free 6
  have H := Lib.hid h
  clear h
  go_enter Try.func85, Try.ntmps85
  go_wp2_with fail
  go_ret
  have hk : ∀ k, k ≠ r → (w.setCell ⟨r, 6, none⟩ (.int .i64 (o + 1))).heap[k]? = w.heap[k]? := fun k hk => Below.heap_setCell w ⟨r, 6, none⟩ _ k hk
  exact ⟨rfl, ⟨set_of H.out.blk rfl, own_keep H.out.ob fun k _ h2 => hk k (by omega), ownI_keep H.out.ow fun k _ h2 => hk k (by omega), H.out.sep⟩, (FarS.refl (GX r AB AW) w).set ⟨r, 6, none⟩ (.inl rfl) _⟩
theorem ownI_keep2 {k : IntKind} {W W' : World} {base n c : Nat} {e : TypeId} {A : Option Addr} {zs : List Int} (h : OwnI k W base e (.slice A n c) zs) (hk : ∀ g, (∃ a, A = some a ∧ a.block = g) → W'.heap[g]? = W.heap[g]?) : OwnI k W' base e (.slice A n c) zs := by
  refine ⟨h.1, ?_⟩
  rcases h.2 with h1 | ⟨g', cap, cur, hv, hb, hh, hr⟩
  · exact .inl h1
  · have hv2 := hv
    injection hv2 with e1
    exact .inr ⟨g', cap, cur, hv, hb, (hk g' ⟨_, e1, rfl⟩).trans hh, hr⟩
theorem ownI_rd0 {k : IntKind} {w : World} {base n c : Nat} {e : TypeId} {A : Option Addr} {zs : List Int} (h : OwnI k w base e (.slice A n c) zs) (h0 : 0 < zs.length) : ∃ g off, A = some ⟨g, 0, none⟩ ∧ base ≤ g ∧ ∀ j, j < zs.length → w.cell? ⟨g, (off : Nat) * 0 + j, none⟩ = some (.int k (zs.getD j 0)) := by
  rcases h.2 with ⟨hv, hn⟩ | ⟨g', cap, cur, hv, hb, hh, hr⟩
  · omega
  · injection hv with e1 e2 e3
    subst e1
    refine ⟨g', 0, rfl, hb, fun j hj => ?_⟩
    rw [Nat.mul_zero, Nat.zero_add]
    have h2 := h
    subst e2
    exact h2.cell rfl hj
def pw (i : Nat) : Int := ([1, 2, 4, 8, 16, 32, 64, 128, 0] : List Int).getD i 0
set_option maxHeartbeats 4000000 in
theorem rone_any (k : Nat) (b : Int) (b0 : 0 ≤ b) (b1 : b ≤ 255) (hk : k < bs.length) (h : IsG w r bs ws m o AB cB AW cW) (o0 : 0 ≤ o) (o1 : o ≤ 1099511627776) (hl : bs.length ≤ 8192) :
    Calls Try.prog 86 #[at_ r, .int .i64 (k : Int), .int .u8 b] w fun e w' => e = .returned (.int .i64 0) ∧ GTo w r bs.length ws m (o + 1) AB cB AW cW w' := by
  have HT := Lib.hid (rtorn_any h o0 o1)
  clear h
  go_enter Try.func86, Try.ntmps86
  go_wp2_with fail
  refine HT.out.mono ?_
  rintro e w1 ⟨rfl, G, F⟩
  have k0 := G.c0
  obtain ⟨gB, cap, hv, hgB, hgs, hc1, hc2⟩ := G.ob.some_ (by omega)
  injection hv with hA _ hc
  subst hA
  subst hc
  have kb := G.ob.cell rfl hk
  have zb := G.ob.free rfl k
  have hbd := byt_bd bs k
  have G := Lib.hid G
  have F := Lib.hid F
  generalize byt bs k = nv0 at *
  go_wp2_with fail
  go_loopw [8, 9, 10] (fun n p i wr => ∃ (j : Nat) (nv : Int), j ≤ 8 ∧ (0 ≤ nv ∧ nv ≤ 255) ∧ n = .int .u8 nv ∧ p = .int .u8 (pw j) ∧ i = .int .i64 (j : Int) ∧ w1 = wr) (fun _ _ i _ => 8 - (intOf i).toNat)
  case atStart => exact ⟨0, nv0, by omega, hbd, rfl, rfl, rfl, rfl⟩
  case round =>
    obtain ⟨j, nv, hj, ⟨n0, n1⟩, rfl, rfl, rfl, rfl⟩ := hrel
    by_cases hlt : j < 8
    · rcases (by omega : j = 0 ∨ j = 1 ∨ j = 2 ∨ j = 3 ∨ j = 4 ∨ j = 5 ∨ j = 6 ∨ j = 7) with rfl | rfl | rfl | rfl | rfl | rfl | rfl | rfl
      · rw [show pw 0 = 1 from rfl]
        go_wp2_with fail
        all_goals
          go_roundw
          case rel => exact ⟨1, _, by omega, ⟨by omega, by omega⟩, rfl, rfl, by first | rfl | trivial, by first | rfl | trivial⟩
          case measure => simp [intOf]
      · rw [show pw 1 = 2 from rfl]
        go_wp2_with fail
        all_goals
          go_roundw
          case rel => exact ⟨2, _, by omega, ⟨by omega, by omega⟩, rfl, rfl, by first | rfl | trivial, by first | rfl | trivial⟩
          case measure => simp [intOf]
      · rw [show pw 2 = 4 from rfl]
        go_wp2_with fail
        all_goals
          go_roundw
          case rel => exact ⟨3, _, by omega, ⟨by omega, by omega⟩, rfl, rfl, by first | rfl | trivial, by first | rfl | trivial⟩
          case measure => simp [intOf]
      · rw [show pw 3 = 8 from rfl]
        go_wp2_with fail
        all_goals
          go_roundw
          case rel => exact ⟨4, _, by omega, ⟨by omega, by omega⟩, rfl, rfl, by first | rfl | trivial, by first | rfl | trivial⟩
          case measure => simp [intOf]
      · rw [show pw 4 = 16 from rfl]
        go_wp2_with fail
        all_goals
          go_roundw
          case rel => exact ⟨5, _, by omega, ⟨by omega, by omega⟩, rfl, rfl, by first | rfl | trivial, by first | rfl | trivial⟩
          case measure => simp [intOf]
      · rw [show pw 5 = 32 from rfl]
        go_wp2_with fail
        all_goals
          go_roundw
          case rel => exact ⟨6, _, by omega, ⟨by omega, by omega⟩, rfl, rfl, by first | rfl | trivial, by first | rfl | trivial⟩
          case measure => simp [intOf]
      · rw [show pw 6 = 64 from rfl]
        go_wp2_with fail
        all_goals
          go_roundw
          case rel => exact ⟨7, _, by omega, ⟨by omega, by omega⟩, rfl, rfl, by first | rfl | trivial, by first | rfl | trivial⟩
          case measure => simp [intOf]
      · rw [show pw 7 = 128 from rfl]
        go_wp2_with fail
        all_goals
          go_roundw
          case rel => exact ⟨8, _, by omega, ⟨by omega, by omega⟩, rfl, rfl, by first | rfl | trivial, by first | rfl | trivial⟩
          case measure => simp [intOf]
    · obtain rfl : j = 8 := by omega
      obtain ⟨x, hx⟩ : ∃ x : UInt8, nv = ((x.toNat : Nat) : Int) := ⟨UInt8.ofNat nv.toNat, by simp; omega⟩
      subst hx
      have k0 := G.out.c0
      go_wp2_with fail
      go_ret
      have hs := G.out.ob.store rfl k (x := ((x.toNat : Nat) : Int)) (b := x) rfl
      have hne : ∀ q, q ≠ gB → (w1.setCell ⟨gB, k, none⟩ (.int .u8 ((x.toNat : Nat) : Int))).heap[q]? = w1.heap[q]? := fun q hq => Below.heap_setCell w1 ⟨gB, k, none⟩ _ q hq
      refine ⟨rfl, ⟨bs.set k x, by simp, ⟨?_, ?_, ?_, G.out.sep⟩⟩, F.out.set ⟨gB, k, none⟩ (.inr (.inl ⟨_, rfl, rfl⟩)) _⟩
      · rw [List.length_set]
        exact (hne r (by omega)).trans G.out.blk
      · rw [List.length_set]
        exact hs
      · refine ownI_keep2 G.out.ow fun q hq => hne q fun e => ?_
        subst e
        obtain ⟨a, ha, hq⟩ := hq
        have := G.out.sep _ a rfl ha
        rw [hq] at this
        exact Nat.lt_irrefl _ this
set_option maxHeartbeats 1000000 in
theorem rprogram_any (a n c' : Nat) (A : Option Addr) (x : List UInt8) (hx : RdX (GX r AB AW) w A x) (hn : n = x.length) (ha : a + x.length ≤ bs.length) (h : IsG w r bs ws m o AB cB AW cW) (o0 : 0 ≤ o) (o1 : o ≤ 100000) (hl : bs.length ≤ 8192) :
    Calls Try.prog 56 #[at_ r, .int .i64 (a : Int), .slice A n c'] w fun e w' => e = .returned (.int .i64 0) ∧ GTo w r bs.length ws m (o + x.length) AB cB AW cW w' := by
  subst hn
  have k0 := h.c0
  have k3 := h.c3
  have H := Lib.hid h
  have HX := Lib.hid hx
  have ha0 : (0 : Int) ≤ (a : Int) := by omega
  have ha1 : (a : Int) ≤ (bs.length : Int) := by omega
  have ha2 : (x.length : Int) ≤ (bs.length : Int) - (a : Int) := by omega
  have hli : (bs.length : Int) ≤ 8192 := by omega
  have hd1 : decide (bs.length < a) = false := by simp; omega
  have hd2 : decide ((a : Int) < 0) = false := by simp
  have hd3 : decide ((bs.length : Int) - (a : Int) < (x.length : Int)) = false := by simp; omega
  clear h hx
  go_enter Try.func56, Try.ntmps56
  go_wp2_with fail
  go_loopw [7] (fun i wr => ∃ (j : Nat) (bs' : List UInt8), j ≤ x.length ∧ i = .int .i64 (j : Int) ∧ bs'.length = bs.length ∧ IsG wr r bs' ws m (o + j) AB cB AW cW ∧ FarS (GX r AB AW) w wr) (fun i _ => x.length - (intOf i).toNat)
  case atStart => exact ⟨0, bs, by omega, rfl, rfl, by simpa using H.out, FarS.refl _ _⟩
  case round =>
    obtain ⟨j, bs', hj, rfl, hbl, G, F⟩ := hrel
    by_cases hlt : j < x.length
    · obtain ⟨g, off, rfl, hcx⟩ := (HX.out.far F).at_ hlt
      have hbd := byt_bd x j
      have HO := Lib.hid (rone_any (a + j) (byt x j) hbd.1 hbd.2 (by omega) G (by omega) (by omega) (by omega))
      rw [show ((a + j : Nat) : Int) = (a : Int) + (j : Int) by omega] at HO
      have F := Lib.hid F
      have hjx : (j : Int) < (x.length : Int) := by omega
      have hxl : (x.length : Int) ≤ 8192 := by omega
      clear G
      generalize byt x j = y at *
      go_wp2_with fail
      refine HO.out.mono ?_
      rintro e w2 ⟨rfl, ⟨⟨bs2, hb2, G2⟩, F2⟩⟩
      have G2 := Lib.hid G2
      have F3 := Lib.hid (F.out.trans F2)
      clear F2
      go_wp2_with fail
      go_roundw
      case rel =>
        exact ⟨j + 1, bs2, by omega, by go_num, hb2.trans hbl, by have := G2.out; rw [show o + ((j + 1 : Nat) : Int) = o + (j : Int) + 1 by omega]; exact this, F3.out⟩
      case measure => simp [intOf]; omega
    · obtain rfl : j = x.length := by omega
      have G := Lib.hid G
      go_wp2_with fail
      go_ret
      exact ⟨rfl, ⟨bs', hbl, G.out⟩, F⟩
theorem own_keep2 {W W' : World} {base n c : Nat} {e : TypeId} {A : Option Addr} {zs : List UInt8} (h : Own W base e (.slice A n c) zs) (hk : ∀ g, (∃ a, A = some a ∧ a.block = g) → W'.heap[g]? = W.heap[g]?) : Own W' base e (.slice A n c) zs := by
  refine ⟨h.1, ?_⟩
  rcases h.2 with h1 | ⟨g', cap, cur, hv, hb, hh, hr⟩
  · exact .inl h1
  · have hv2 := hv
    injection hv2 with e1
    exact .inr ⟨g', cap, cur, hv, hb, (hk g' ⟨_, e1, rfl⟩).trans hh, hr⟩
theorem IsG.setB {gB : Nat} (h : IsG W r bs ws m o (some ⟨gB, 0, none⟩) cB AW cW) (hgB : r + 1 ≤ gB) (k : Nat) (x : UInt8) : IsG (W.setCell ⟨gB, k, none⟩ (.int .u8 ((x.toNat : Nat) : Int))) r (bs.set k x) ws m o (some ⟨gB, 0, none⟩) cB AW cW := by
  have hs := h.ob.store rfl k (x := ((x.toNat : Nat) : Int)) (b := x) rfl
  have hne : ∀ q, q ≠ gB → (W.setCell ⟨gB, k, none⟩ (.int .u8 ((x.toNat : Nat) : Int))).heap[q]? = W.heap[q]? := fun q hq => Below.heap_setCell W ⟨gB, k, none⟩ _ q hq
  refine ⟨?_, ?_, ?_, h.sep⟩
  · rw [List.length_set]
    exact (hne r (by omega)).trans h.blk
  · rw [List.length_set]
    exact hs
  · refine ownI_keep2 h.ow fun q hq => hne q fun e => ?_
    subst e
    obtain ⟨a, ha, hq⟩ := hq
    have := h.sep _ a rfl ha
    rw [hq] at this
    exact Nat.lt_irrefl _ this
theorem IsG.setW {gW n : Nat} (h : IsG W r bs ws m o AB cB (some ⟨gW, 0, none⟩) cW) (hn : n < ws.length) (y : Int) : IsG (W.setCell ⟨gW, n, none⟩ (.int .i64 y)) r bs (ws.set n y) m o AB cB (some ⟨gW, 0, none⟩) cW := by
  have hs := h.ow.store rfl n y
  have hlt := h.ow.lt
  have hne : ∀ q, q ≠ gW → (W.setCell ⟨gW, n, none⟩ (.int .i64 y)).heap[q]? = W.heap[q]? := fun q hq => Below.heap_setCell W ⟨gW, n, none⟩ _ q hq
  refine ⟨?_, ?_, ?_, h.sep⟩
  · rw [List.length_set]
    exact (hne r (by omega)).trans h.blk
  · refine own_keep2 h.ob fun q hq => hne q fun e => ?_
    subst e
    obtain ⟨a, ha, hq⟩ := hq
    have := h.sep a _ ha rfl
    rw [hq] at this
    exact Nat.lt_irrefl _ this
  · rw [List.length_set]
    exact hs
set_option maxHeartbeats 1000000 in
theorem rerase_any (n : Nat) (hn : n < ws.length) (hw : ws.getD n 0 < m) (hw0 : 0 ≤ ws.getD n 0 ∧ ws.getD n 0 ≤ 1000) (hlen : n * 1024 + 1024 ≤ bs.length) (h : IsG w r bs ws m o AB cB AW cW) (o0 : 0 ≤ o) (o1 : o ≤ 100000) (hl : bs.length ≤ 8192) (h8 : ws.length ≤ 8) :
    Calls Try.prog 55 #[at_ r, .int .i64 (n : Int)] w fun e w' => e = .returned (.int .i64 0) ∧ GTo w r bs.length (ws.set n (ws.getD n 0 + 1)) m (o + 1) AB cB AW cW w' := by
  have k1 := h.c1
  have k2 := h.c2
  have k3 := h.c3
  have H := Lib.hid h
  obtain ⟨gW, offW, hAW, hgW, hcW⟩ := ownI_rd0 h.ow (by omega)
  subst hAW
  have kw := hcW n hn
  rw [Nat.mul_zero, Nat.zero_add] at kw
  have zw := h.ow.free rfl n
  have hni : (n : Int) < (ws.length : Int) := by omega
  have hn0 : (0 : Int) ≤ (n : Int) := by omega
  have hwi : (ws.length : Int) ≤ 8 := by omega
  have hge : decide (ws.getD n 0 ≥ m) = false := by simpa using hw
  have hd1 : decide (ws.length ≤ n) = false := by simp; omega
  have hd2 : decide ((n : Int) < 0) = false := by simp
  obtain ⟨hw0, hw1⟩ := hw0
  have HW := Lib.hid (fun x : Int => h.ow.store rfl n x)
  generalize ws.getD n 0 = y at *
  clear hcW
  go_enter Try.func55, Try.ntmps55
  go_wp2_with fail
  go_quiet (fail)
  have S0 : IsG (w.drewN nq) r bs ws m o AB cB (some ⟨gW, 0, none⟩) cW := H.out.below (below_drewN (Below.refl _ _) _) (Nat.le_refl _)
  have F0 : FarS (GX r AB (some ⟨gW, 0, none⟩)) w (w.drewN nq) := .of_below (below_drewN (Below.refl _ _) _) (Nat.le_refl _)
  have kw' : (w.drewN nq).cell? ⟨gW, n, none⟩ = some (.int .i64 y) := kw
  have S1 := Lib.hid (And.intro S0 (And.intro F0 kw'))
  clear S0 F0 kw' H HW k1 k2 k3 kw zw h
  go_wp2_with fail
  generalize w.drewN nq = wd at *
  refine Txt.wp_region_tail 14 (fun W => IsG W r bs ws m o AB cB (some ⟨gW, 0, none⟩) cW ∧ FarS (GX r AB (some ⟨gW, 0, none⟩)) w W ∧ W.cell? ⟨gW, n, none⟩ = some (.int .i64 y)) (by kernel_rfl) (by kernel_rfl) (by kernel_rfl) (by kernel_rfl) (by kernel_rfl) (fun _ _ _ _ _ h => h) ⟨S1.out.1.below (Below.refl _ _).drew (Nat.le_refl _), S1.out.2.1.drew, S1.out.2.2⟩ ?_
  clear S1
  iterate 14 (
    apply Txt.stepR rfl
    · intro W hS K hK
      have q1 := hS.1.c1
      have q2 := hS.2.2
      have HS := Lib.hid hS
      clear hS
      go_simp
      first
        | exact hK.out _ HS.out
        | (go_wp2_with fail; exact hK.out _ HS.out)
    · first | exact ⟨_, rfl⟩ | exact ⟨undef, rfl⟩)
  refine Txt.lastR rfl ?_
  intro W hS K hK
  have G := hS.1
  have q2 := hS.2.2
  have z2 := G.ow.free rfl n
  have F1 := Lib.hid (hS.2.1.set ⟨gW, n, none⟩ (.inr (.inr ⟨_, rfl, rfl⟩)) (.int .i64 (y + 1)))
  have G1 := Lib.hid (G.setW hn (y + 1))
  clear hS G
  go_simp
  have hwr : IntKind.i64.wrap (y + 1) = y + 1 := IntWalk.i64_in _ (by omega)
  rw [hwr]
  refine hK.out _ _ ?_
  clear hK K
  generalize W.setCell ⟨gW, n, none⟩ (.int .i64 (y + 1)) = w2 at *
  have HT := Lib.hid (rtorn_any G1.out o0 (by omega))
  clear hwr q2 z2
  go_wp2_with fail
  refine HT.out.mono ?_
  rintro e w3 ⟨rfl, G, F⟩
  have F3 := Lib.hid (F1.out.trans F)
  have G := Lib.hid G
  clear F HT G1 F1
  go_wp2_with fail
  go_loopw [7] (fun i wr => ∃ (j : Nat) (bs' : List UInt8), j ≤ 1024 ∧ i = .int .i64 (j : Int) ∧ bs'.length = bs.length ∧ IsG wr r bs' (ws.set n (y + 1)) m (o + 1) AB cB (some ⟨gW, 0, none⟩) cW ∧ FarS (GX r AB (some ⟨gW, 0, none⟩)) w wr) (fun i _ => 1024 - (intOf i).toNat)
  case atStart => exact ⟨0, bs, by omega, rfl, rfl, G.out, F3.out⟩
  case round =>
    clear G F3
    obtain ⟨j, bs', hj, rfl, hbl, G, F⟩ := hrel
    by_cases hlt : j < 1024
    · obtain ⟨gB, cap, hv, hgB, hgs, hc1, hc2⟩ := G.ob.some_ (by omega)
      injection hv with hA _ hc
      subst hA
      subst hc
      have k0 := G.c0
      have kb := G.ob.cell rfl (j := n * 1024 + j) (by omega)
      have zb := G.ob.free rfl (n * 1024 + j)
      have G2 := Lib.hid (G.setB hgB (n * 1024 + j) 255)
      have F2 := Lib.hid (F.set ⟨gB, n * 1024 + j, none⟩ (.inr (.inl ⟨_, rfl, rfl⟩)) (.int .u8 255))
      have hj0 : (0 : Int) ≤ (j : Int) := by omega
      have hji : (j : Int) < 1024 := by omega
      have hix : (n : Int) * 1024 + (j : Int) < (bs'.length : Int) := by omega
      have hni8 : (n : Int) ≤ 8 := by omega
      clear G F
      go_wp2_with fail
      go_roundw
      case rel => exact ⟨j + 1, bs'.set (n * 1024 + j) 255, by omega, by go_num, by rw [List.length_set]; exact hbl, G2.out, F2.out⟩
      case measure => simp [intOf]; omega
    · obtain rfl : j = 1024 := by omega
      have G := Lib.hid G
      go_wp2_with fail
      go_ret
      exact ⟨rfl, ⟨bs', hbl, G.out⟩, F⟩
end
end Jou
end Go.Proofs.Ytkkbjngjjeajoaa
