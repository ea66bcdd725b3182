/-
  Bytes between two signs.
-/
import Derived.Test.YtlibolkkklfdoaaDoorTypCheck
import Derived.Lib.SlBytesConst
import Derived.ArgAppend
namespace Go.Proofs.YtlibolkkklfdoaaDoor
open Go.RowKit Mem
set_option linter.unusedVariables false

theorem tstr_app (a b : List UInt8) : (⟨a.toArray⟩ : ByteArray) ++ ⟨b.toArray⟩ = ⟨(a ++ b).toArray⟩ := by
  apply ByteArray.ext
  simp
theorem tstr_size (a : List UInt8) : (⟨a.toArray⟩ : ByteArray).size = a.length := by simp [ByteArray.size]
theorem trun_app (W : World) (a b : List UInt8) (h : a.length + b.length ≤ 1000000) : (Op.stringOp .add ⟨a.toArray⟩ ⟨b.toArray⟩).run Tryd.prog W = .ok (.string ⟨(a ++ b).toArray⟩) W := by
  rw [← tstr_app]
  simp [Op.stringOp, tstr_size]
  omega

def escB (x : Int) : Bool := x == 34 || x == 92
def qStep (c : UInt8) : List UInt8 := if escB (c.toNat : Int) then [92, c] else [c]
def qBody (bs : List UInt8) : List UInt8 := (bs.map qStep).flatten
def qAll (bs : List UInt8) : List UInt8 := [34] ++ qBody bs ++ [34]
theorem qBody_take {bs : List UInt8} {k : Nat} (h : k < bs.length) : qBody (bs.take (k + 1)) = qBody (bs.take k) ++ qStep bs[k] := by
  unfold qBody
  rw [List.take_succ_eq_append_getElem h, List.map_append, List.flatten_append]
  simp
theorem qStep_le (c : UInt8) : (qStep c).length ≤ 2 := by unfold qStep; split <;> simp
theorem qBody_le (bs : List UInt8) : (qBody bs).length ≤ 2 * bs.length := by
  induction bs with
  | nil => simp [qBody]
  | cons c r ih =>
    have := qStep_le c
    have e : qBody (c :: r) = qStep c ++ qBody r := by simp [qBody]
    rw [e]
    simp
    omega
theorem byt_at {bs : List UInt8} {k : Nat} (h : k < bs.length) : byt bs k = ((bs[k].toNat : Nat) : Int) := by simp [byt, h]

theorem esc_any (x : Int) (w : World) :
    Calls Tryd.prog 70 #[.int .u8 x] w fun e w' => e = .returned (.bool (escB x)) ∧ w = w' := by
  by_cases h : x = 34
  · subst h
    go_enter Tryd.func70, Tryd.ntmps70
    go_wp2_with fail
    go_ret
    exact ⟨rfl, rfl⟩
  · have h1 : (x == 34) = false := by simpa using h
    have HE : Hid (escB x = (x == 92)) := Lib.hid (by unfold escB; rw [h1]; rfl)
    have e34 : ((((⟨#[34]⟩ : ByteArray)[0]'(by decide)).toNat : Nat) : Int) = 34 := rfl
    clear h
    go_enter Tryd.func70, Tryd.ntmps70
    go_wp2_with fail
    go_ret
    exact ⟨by rw [HE.out]; rfl, rfl⟩

theorem tinfo_u8 : (Tryd.prog.info? 5).map (fun i => (i.zero, i.size, i.bytes)) = some (some (.int .u8 0), 1, 1) := by kernel_rfl
/-- A slice of the call's own, or one that is full and reads so: what is appended goes behind it. -/
def Gat (w : World) (base : Nat) (e : TypeId) (v : Value) (bs : List UInt8) : Prop :=
  Own w base e v bs ∨ ∃ ad, v = .slice (some ad) bs.length bs.length ∧ Rd w w.heap.size (some ad) bs ∧ 0 < bs.length
theorem Gat.alloc {w : World} {base : Nat} {e : TypeId} {v : Value} {bs : List UInt8} (h : Gat w base e v bs) (o : Obj) : Gat (w.alloc o) base e v bs := by
  rcases h with h | ⟨ad, h1, h2, h3⟩
  · exact .inl (h.alloc o)
  · exact .inr ⟨ad, h1, (h2.below ((Below.refl _ _).alloc (Nat.le_refl _) o)).mono (by simp), h3⟩
theorem Gat.form {w : World} {base : Nat} {e : TypeId} {v : Value} {bs : List UInt8} (h : Gat w base e v bs) : ∃ A c, v = .slice A bs.length c ∧ Rd w w.heap.size A bs := by
  rcases h with h | ⟨ad, h1, h2, h3⟩
  · exact h.form
  · exact ⟨_, _, h1, h2⟩
section
variable {P : Program} (w : World) {ops : Array Oper} {rest : List Oper} {o : Oper} {a : Act} {Q : Exit → Act → World → Prop}
theorem wpList_appG (hgd : o.guard = none) (s x : Operand) (t : TypeId)
    (ho : o.op = .call { callee := .builtin .append, args := #[s, x], argTypes := #[t, t] })
    (base : Nat) (e : TypeId) (i : TypeInfo) (ht : P.underlying t = some (.slice e)) (hi : P.info? e = some i) (hz : i.zero = some (.int .u8 0)) (hsize : i.size = 1) (hby : i.bytes = 1)
    (v : Value) (bs : List UInt8) (hs : a.eval s = v) (hown : Gat w base e v bs)
    (A : Option Addr) (m c : Nat) (new : List UInt8) (hx : a.eval x = .slice A m c) (hm : m = new.length) (hp : 0 < new.length) (B : Nat) (hr : Rd w B A new) (hb : bs.length + new.length ≤ 140737488355328) (hbase : base ≤ w.heap.size)
    (h : ∀ v' w', Gat w' base e v' (bs ++ new) → Below base w w' → wpList P ops Q rest (a.put o.dst v') w') : wpList P ops Q (o :: rest) a w := by
  rcases hown with hown | ⟨ad, rfl, hrd, hpos⟩
  · exact wpList_app w hgd s x t ho base e i ht hi hz hsize hby v bs hs hown A m c new hx hm B hr hb hbase fun v' w' h1 h2 _ => h v' w' (.inl h1) ((Below.refl base w).grown h2 hbase (fun g hg => (hown.lt g hg).1))
  · subst hm
    obtain ⟨ad2, rfl, hc⟩ := hr.cells hp
    obtain ⟨ad1, e1, hc1⟩ := hrd.cells hpos
    cases e1
    refine wpList_append_grows w hgd s x t ho e i (.int .u8 0) 1 1 ht hi hz hsize hby rfl (by omega) (some ad) bs.length bs.length (u8s bs) hs (fun h => by cases h) (by simp [u8s_length]) (fun b hb2 => by cases hb2; exact hc1)
      ad2 new.length c (u8s new) hx (by simp [u8s_length]) hc (u8s_one new) (by omega) (by simp only [maxLen]; omega) (by omega) fun v' w' h1 h2 => ?_
    have h3 : Own w' w.heap.size e v' (bs ++ new) := by
      unfold Own
      rw [u8s_append, List.length_append]
      exact h1
    exact h v' w' (.inl (h3.lower hbase)) ((Below.refl base w).grown h2 hbase (fun g hg => by cases hg))
end

set_option maxRecDepth 100000 in
set_option maxHeartbeats 2000000 in
theorem quoted_any (A : Option Addr) (n c : Nat) (bs : List UInt8) (w : World) (hr : Rd w w.heap.size A bs) (hn : n = bs.length) (hle : n ≤ 10000) :
    Calls Tryd.prog 52 #[.slice A n c] w fun e w' => e = .returned (.string ⟨(qAll bs).toArray⟩) ∧ Below w.heap.size w w' := by
  subst hn
  obtain ⟨i0, hi, hz0, hz1, hz2⟩ := info_parts tinfo_u8
  have HR := Lib.hid hr
  have HE := Lib.hid (fun x W => esc_any x W)
  have kc := fun (w : World) (C : Array Value) (n c : Nat) => Lib.run_convert_bytes_const (P := Tryd.prog) w 31 5 C n c Tryd.underlying31 Tryd.underlying5
  clear hr
  go_enter Tryd.func52, Tryd.ntmps52
  go_wp2_with fail
  go_loopw [3, 10] (fun v i wr => ∃ k : Nat, k ≤ bs.length ∧ i = .int .i64 (k : Int) ∧ Gat wr w.heap.size 5 v ([34] ++ qBody (bs.take k)) ∧ Below w.heap.size w wr) (fun _ i _ => bs.length - (intOf i).toNat)
  case atStart => exact ⟨0, by omega, rfl, .inr ⟨_, rfl, by simpa [qBody] using Rd.newL (cs := #[.int .u8 34]) (fr := (1, 2)) w 5 [34] rfl, by simp [qBody]⟩, (Below.refl _ _).alloc (Nat.le_refl _) _⟩
  case round =>
    obtain ⟨k, hk, rfl, hown, hb⟩ := hrel
    have hql : (qBody (bs.take k)).length ≤ 2 * k := Nat.le_trans (qBody_le _) (by simp; omega)
    by_cases hlt : k < bs.length
    · obtain ⟨g, off, rfl, hgB, hc⟩ := (HR.out.below hb).at_ hlt
      have hk0 : (0 : Int) ≤ (k : Int) := by omega
      have hk1 : (k : Int) < (bs.length : Int) := by omega
      have HT := Lib.hid (qBody_take hlt)
      have HX := Lib.hid (byt_at hlt)
      obtain ⟨ch, hch⟩ : ∃ ch, bs[k] = ch := ⟨_, rfl⟩
      rw [hch] at HT HX
      have hbd := byt_bd bs k
      obtain ⟨x0, x1⟩ := hbd
      generalize byt bs k = x at *
      clear hch
      have hsz := hb.size
      cases hes : escB x with
      | true =>
        have HS : Hid (qStep ch = [92, ch]) := Lib.hid (by unfold qStep; rw [← HX.out, if_pos hes])
        have HE' := Lib.hid (HE.out x)
        rw [hes] at HE'
        have hes := Lib.hid hes
        go_wp2_with (first
          | (go_at_call 70; refine (HE'.out _).mono ?_; rintro e w' ⟨rfl, rfl⟩)
          | (at_builtin; refine wpList_appG _ rfl (.tmp 16) (.tmp 17) 31 rfl w.heap.size 5 i0 Tryd.underlying31 hi hz0 hz1 hz2 _ ([34] ++ qBody (bs.take k)) rfl (hown.alloc _) (some ⟨wr.heap.size, 0, none⟩) 1 1 [92] rfl rfl (by simp) (wr.heap.size + 1) (Rd.new1 _ _ rfl) (by simp; omega) (by simp; omega) ?_; intro v1 w1 own1 gr1; have hb1 : Below w.heap.size w w1 := (hb.alloc hsz _).trans gr1; have hs1 := hb1.size; clear gr1)
          | (at_builtin; refine wpList_appG _ rfl (.tmp 19) (.tmp 21) 31 rfl w.heap.size 5 i0 Tryd.underlying31 hi hz0 hz1 hz2 _ ([34] ++ qBody (bs.take k) ++ [92]) rfl (own1.alloc _) (some ⟨w1.heap.size, 0, none⟩) 1 1 [ch] rfl rfl (by simp) (w1.heap.size + 1) (Rd.new1 _ _ HX.out) (by simp; omega) (by simp; omega) ?_; intro v2 w2 own2 gr2; have hb2 : Below w.heap.size w w2 := (hb1.alloc hs1 _).trans gr2; clear gr2))
        have R : Gat w2 w.heap.size 5 v2 ([34] ++ qBody (bs.take (k + 1))) := by
          rw [HT.out, HS.out]
          simpa using own2
        clear own1 own2 hb1 hown hb
        go_roundw
        case rel => exact ⟨k + 1, by omega, by go_num, R, hb2⟩
        case measure => simp [intOf]; omega
      | false =>
        have HS : Hid (qStep ch = [ch]) := Lib.hid (by unfold qStep; rw [← HX.out, if_neg (by rw [hes]; decide)])
        have HE' := Lib.hid (HE.out x)
        rw [hes] at HE'
        have hes := Lib.hid hes
        go_wp2_with (first
          | (go_at_call 70; refine (HE'.out _).mono ?_; rintro e w' ⟨rfl, rfl⟩)
          | (at_builtin; refine wpList_appG _ rfl (.tmp 19) (.tmp 21) 31 rfl w.heap.size 5 i0 Tryd.underlying31 hi hz0 hz1 hz2 _ ([34] ++ qBody (bs.take k)) rfl (hown.alloc _) (some ⟨wr.heap.size, 0, none⟩) 1 1 [ch] rfl rfl (by simp) (wr.heap.size + 1) (Rd.new1 _ _ HX.out) (by simp; omega) (by simp; omega) ?_; intro v2 w2 own2 gr2; have hb2 : Below w.heap.size w w2 := (hb.alloc hsz _).trans gr2; clear gr2))
        have R : Gat w2 w.heap.size 5 v2 ([34] ++ qBody (bs.take (k + 1))) := by
          rw [HT.out, HS.out]
          simpa using own2
        clear own2 hown hb
        go_roundw
        case rel => exact ⟨k + 1, by omega, by go_num, R, hb2⟩
        case measure => simp [intOf]; omega
    · obtain rfl : k = bs.length := by omega
      have hown' := hown
      rw [show bs.take bs.length = bs from List.take_length] at hown'
      obtain ⟨A2, c2, rfl, hr2⟩ := hown'.form
      have hs := run_str hr2 ([34] ++ qBody bs).length c2 rfl 31 5 9 Tryd.underlying31 Tryd.underlying5 Tryd.underlying9
      have hq2 := qBody_le bs
      have ha : ∀ W, (Op.stringOp .add ⟨([34] ++ qBody bs).toArray⟩ ⟨#[34]⟩).run Tryd.prog W = .ok (.string ⟨(qAll bs).toArray⟩) W := fun W => trun_app W ([34] ++ qBody bs) [34] (by simp; omega)
      clear hown hown' hr2 hq2 hql
      obtain ⟨Z, hZ⟩ : ∃ Z, (⟨(qAll bs).toArray⟩ : ByteArray) = Z := ⟨_, rfl⟩
      rw [hZ] at ha
      have HZ := Lib.hid hZ
      clear hZ
      generalize (⟨([34] ++ qBody bs).toArray⟩ : ByteArray) = Y at *
      generalize ([34] ++ qBody bs).length = nn at *
      go_wp2_with fail
      go_ret
      exact ⟨by rw [HZ.out]; rfl, hb⟩
end Go.Proofs.YtlibolkkklfdoaaDoor
