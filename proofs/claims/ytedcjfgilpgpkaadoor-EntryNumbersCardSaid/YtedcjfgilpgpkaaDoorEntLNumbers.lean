/-
  EntryNumbers: its walk.
-/
import Derived.Test.YtedcjfgilpgpkaaDoorEntKnown
import Derived.Test.YtedcjfgilpgpkaaDoorEntLift
import Derived.Test.YtedcjfgilpgpkaaDoorTypRound
namespace Go.Proofs.YtedcjfgilpgpkaaDoor
namespace Ent
open Go.RowKit Mem
set_option linter.unusedVariables false
set_option linter.unusedSimpArgs false
set_option maxRecDepth 100000

/-- What is accepted of a number's entry. -/
theorem num_val {t mx lo hi : Int} {bs : List UInt8} (hn : Typ.isNum t = true) (h : valN t mx lo hi bs = 0) :
    (decA t bs).2 = 0 ∧ ¬ (decA t bs).1 < lo ∧ ¬ hi < (decA t bs).1 ∧ (bs.length : Int) = Typ.size t := by
  have key : (decA t bs).2 = 0 → (bs.length : Int) = Typ.size t := by
    intro h0
    unfold decA at h0
    rw [if_neg (by rw [hn]; decide)] at h0
    by_cases h1 : (bs.length : Int) < Typ.size t
    · rw [if_pos h1] at h0; simp at h0
    · rw [if_neg h1] at h0
      by_cases h2 : Typ.size t < (bs.length : Int)
      · rw [if_pos h2] at h0; simp at h0
      · omega
  rcases val_ways t mx lo hi bs with ⟨_, e⟩ | ⟨_, _, _, e⟩ | ⟨_, _, _, e⟩ | ⟨_, _, _, e⟩ | ⟨_, _, _, _, e⟩ | ⟨_, _, _, _, _, e⟩ | ⟨_, _, h1, h2, h3, _⟩ | ⟨_, e, _⟩ | ⟨_, e, _⟩ | ⟨_, e, _⟩
  · omega
  · omega
  · omega
  · omega
  · omega
  · omega
  · exact ⟨h1, h2, h3, key h1⟩
  · rw [hn] at e; cases e
  · rw [hn] at e; cases e
  · rw [hn] at e; cases e
/-- What comes of a number's bytes. -/
theorem num_back {t n mx lo hi : Int} {bs : List UInt8} (hn : Typ.isNum t = true) (h : decA t bs = (n, 0)) :
    (n < lo ∧ valN t mx lo hi bs = 101253170) ∨ (¬ n < lo ∧ hi < n ∧ valN t mx lo hi bs = 101253169) ∨ (¬ n < lo ∧ ¬ hi < n ∧ valN t mx lo hi bs = 0) := by
  rcases val_ways t mx lo hi bs with ⟨e, _⟩ | ⟨_, _, e, _⟩ | ⟨_, _, e, _⟩ | ⟨_, _, e, _⟩ | ⟨_, _, _, h1, e⟩ | ⟨_, _, _, h1, h2, e⟩ | ⟨_, _, _, h1, h2, e⟩ | ⟨_, e, _⟩ | ⟨_, e, _⟩ | ⟨_, e, _⟩
  · rw [num_known hn] at e; cases e
  · rw [h] at e; cases e
  · rw [h] at e; cases e
  · rw [h] at e; cases e
  · rw [h] at h1; exact .inl ⟨h1, e⟩
  · rw [h] at h1 h2; exact .inr (.inl ⟨h1, h2, e⟩)
  · rw [h] at h1 h2; exact .inr (.inr ⟨h1, h2, e⟩)
  · rw [hn] at e; cases e
  · rw [hn] at e; cases e
  · rw [hn] at e; cases e
/-- What Encode gives of a number's type. -/
theorem num_enc {t n : Int} (hn : Typ.isNum t = true) : (encA t n).2 ≠ 0 ∨ ((encA t n).2 = 0 ∧ decA t (encA t n).1 = (n, 0)) := by
  unfold encA
  rw [if_neg (by rw [hn]; decide)]
  cases h : inLim t n with
  | false => left; simp
  | true =>
    right
    rw [if_neg (by decide)]
    exact ⟨rfl, enc_dec t n hn h⟩
theorem right_ok {ix sub : Int} {nm : List UInt8} {t ac : Int} {mp st : Bool} {mx lo hi : Int} {d : List UInt8} (hn : Typ.isNum t = true) (h : rightN ix sub nm t ac mp st mx lo hi d = 0) : ¬ hi < lo := by
  rcases right_prog ix sub nm t ac mp st mx lo hi d with ⟨_, e⟩ | ⟨_, _, e⟩ | ⟨_, _, _, e⟩ | ⟨_, _, _, _, e⟩ | ⟨_, _, _, _, _, e⟩ | ⟨_, _, _, _, _, _, e⟩ | ⟨_, _, _, _, hb, _, _⟩
  · omega
  · omega
  · omega
  · omega
  · omega
  · omega
  · rw [bound_num hn] at hb
    have := of_decide_eq_true hb
    omega
theorem ans_rd {W : World} {a : List UInt8 × Int} {f : Nat} {args : Array Value} (h : Calls Tryd.prog f args W (Ans 5 W a)) :
    Calls Tryd.prog f args W fun e w' => ∃ A c, e = .returned (.tuple #[.slice A a.1.length c, .int .i64 a.2]) ∧ Rd w' w'.heap.size A a.1 ∧ Below W.heap.size W w' :=
  h.mono (by
    rintro e w' ⟨v, rfl, o, b⟩
    obtain ⟨A, c, rfl, hr⟩ := o.form
    exact ⟨A, c, rfl, hr, b⟩)

set_option maxHeartbeats 8000000 in
theorem numbers_law (x : En) (n : Int) (B : Option Addr) (k : Nat) (bs : List UInt8) (w : World) (hx : x.Ok w) (hn0 : -9223372036854775808 ≤ n) (hn1 : n ≤ 9223372036854775807) (hr : Rd w w.heap.size B bs) (hm : bs.length ≤ maxLen) (hg : TG w) :
    Calls Tryd.prog 6 #[x.val, .int .i64 n, .slice B bs.length k] w fun e w' => e = .returned (.bool true) ∧ Below w.heap.size w w' := by
  have hmx := hx.mx
  have hd := hx.rd
  clear hx
  obtain ⟨ix, sub, nm, ty, ac, mp, st, mx, lo, hi, A, d, c⟩ := x
  show Calls Tryd.prog 6 #[ent ix sub nm ty ac mp st mx lo hi (.slice A d.length c), .int .i64 n, .slice B bs.length k] w _
  have hd : Rd w w.heap.size A d := hd
  have hmx : I64 mx := hmx
  have S := Lib.hid (ES.new (row ix sub nm ty ac mp st mx lo hi (.slice A d.length c)) hg)
  have KN := Lib.hid (fun W (hG : TG W) => known_any W hG)
  have L1 := Lib.hid (fun W => light_any ix sub nm ty ac mp st mx lo hi A d.length c W)
  have L2 := Lib.hid (fun W (hG : TG W) => tlimits_any ty W hG)
  have hlen : (bs.length : Int) ≤ 9223372036854775807 := by unfold maxLen at hm; omega
  clear hm
  have way1 : ∀ (l1 : Bool) (m : Nat) (hm : (m : Int) ≤ 9223372036854775807), (l1 = false ∨ 2000 < (m : Int)) → (∀ W, Calls Tryd.prog 8 #[ent ix sub nm ty ac mp st mx lo hi (.slice A d.length c)] W fun e w' => e = .returned (.bool l1) ∧ Below W.heap.size W w') →
      Calls Tryd.prog 6 #[ent ix sub nm ty ac mp st mx lo hi (.slice A d.length c), .int .i64 n, .slice B m k] w fun e w' => e = .returned (.bool true) ∧ Below w.heap.size w w' := by
    intro l1 m hlm hor L1
    have L1 := Lib.hid L1
    clear hlen hr hd hg hmx
    generalize (Value.slice A d.length c) = v at *
    cases l1 with
    | false =>
      clear hor
      go_enter Tryd.func6, Tryd.ntmps6
      go_wp2_with fail
      refine (S.out.call (L1.out _)).mono ?_
      clear S
      rintro e w1 ⟨rfl, S⟩
      have S := Lib.hid S
      go_wp2_with fail
      refine (S.out.call (KN.out _ S.out.g)).mono ?_
      clear S
      rintro e w1 ⟨rfl, S⟩
      have S := Lib.hid S
      go_wp2_with fail
      go_ret
      exact ⟨rfl, S.out.b_⟩
    | true =>
      have hbig : 2000 < (m : Int) := by simpa using hor
      clear hor
      go_enter Tryd.func6, Tryd.ntmps6
      go_wp2_with fail
      refine (S.out.call (L1.out _)).mono ?_
      clear S
      rintro e w1 ⟨rfl, S⟩
      have S := Lib.hid S
      go_wp2_with fail
      refine (S.out.call (KN.out _ S.out.g)).mono ?_
      clear S
      rintro e w1 ⟨rfl, S⟩
      have S := Lib.hid S
      go_wp2_with fail
      go_ret
      exact ⟨rfl, S.out.b_⟩
  by_cases hl : d.length ≤ 2000 ∧ nm.length ≤ 2000
  rotate_left
  · exact way1 false bs.length hlen (.inl rfl) (by rw [show decide (d.length ≤ 2000 ∧ nm.length ≤ 2000) = false from decide_eq_false hl] at L1; exact L1.out)
  rw [show decide (d.length ≤ 2000 ∧ nm.length ≤ 2000) = true from decide_eq_true hl] at L1
  by_cases hbig : 2000 < (bs.length : Int)
  · exact way1 true bs.length hlen (.inr hbig) L1.out
  clear way1
  have KR := Lib.hid (fun W (hR : Rd W W.heap.size A d) (hG : TG W) => right_any ix sub nm ty ac mp st mx lo hi A d.length c d W (by omega) hmx.1 hmx.2 hR rfl (by omega) hG)
  have KV := Lib.hid (fun A' (m c' : Nat) (zs : List UInt8) (hm : m = zs.length) (hm2 : m ≤ 1099511627776) W (hR : Rd W W.heap.size A' zs) (hG : TG W) => value_any ix sub nm ty ac mp st mx lo hi (.slice A d.length c) A' m c' zs W hmx.1 hmx.2 hR hm hm2 hG)
  have KD := Lib.hid (fun W (hR : Rd W W.heap.size B bs) (hG : TG W) => decode_any B bs.length k bs ty W hR rfl (by omega) hG)
  have KS := Lib.hid (fun W (hG : TG W) => tsize_any ty W hG)
  have KE := Lib.hid (fun W (hG : TG W) => ans_rd (encode_any ty n hn0 hn1 W hG))
  have HR := Lib.hid hr
  have HD := Lib.hid hd
  clear hr hd hg hmx hl
  go_enter Tryd.func6, Tryd.ntmps6
  go_wp2_with fail
  refine (S.out.call (L1.out _)).mono ?_
  clear S
  rintro e w1 ⟨rfl, S⟩
  have S := Lib.hid S
  obtain ⟨x0, x1, x2, x3, x4, x5, x6, x7, x8, x9, x10⟩ := S.out.cells
  go_wp2_with fail
  refine (S.out.call (L2.out _ S.out.g)).mono ?_
  clear S x0 x1 x2 x3 x4 x5 x6 x7 x8 x9 x10 L1 L2
  rintro e w2 ⟨rfl, S⟩
  have S := Lib.hid S
  cases hnum : Typ.isNum ty with
  | false =>
    clear hnum
    generalize Typ.low ty = low at *
    generalize Typ.high ty = high at *
    go_wp2_with fail
    refine (S.out.call (KN.out _ S.out.g)).mono ?_
    clear S
    rintro e w1 ⟨rfl, S⟩
    have S := Lib.hid S
    go_wp2_with fail
    go_ret
    exact ⟨rfl, S.out.b_⟩
  | true =>
    have HNum := Lib.hid hnum
    clear hnum
    have HOK := Lib.hid (fun h => right_ok (ix := ix) (sub := sub) (nm := nm) (ac := ac) (mp := mp) (st := st) (mx := mx) (lo := lo) (hi := hi) (d := d) HNum.out h)
    have HV := Lib.hid (fun h => num_val (mx := mx) (lo := lo) (hi := hi) (bs := bs) HNum.out h)
    have HE := Lib.hid (num_enc (n := n) HNum.out)
    have HB := Lib.hid (fun h => num_back (n := n) (mx := mx) (lo := lo) (hi := hi) (bs := (encA ty n).1) HNum.out h)
    have KV1 := Lib.hid (fun W (hR : Rd W W.heap.size B bs) (hG : TG W) => KV.out B bs.length k bs rfl (by omega) W hR hG)
    have hel : (encA ty n).1.length ≤ 1099511627776 := by
      unfold encA
      split
      · simp
      · split
        · simp
        · have := (size_facts ty HNum.out).2.1
          simp [Oct.bytes]
          omega
    have KV2 := Lib.hid (fun A' c' W (hR : Rd W W.heap.size A' (encA ty n).1) (hG : TG W) => KV.out A' (encA ty n).1.length c' (encA ty n).1 rfl hel W hR hG)
    clear HNum KV hel
    generalize Typ.low ty = low at *
    generalize Typ.high ty = high at *
    generalize rightN ix sub nm ty ac mp st mx lo hi d = R at *
    obtain ⟨E, hE⟩ : ∃ E, encA ty n = E := ⟨_, rfl⟩
    rw [hE] at KE HE HB KV2
    clear hE
    obtain ⟨zs, g⟩ := E
    have HE := Lib.hid (show g ≠ 0 ∨ (g = 0 ∧ decA ty zs = (n, 0)) from HE.out)
    have KE := Lib.hid (show ∀ W, TG W → Calls Tryd.prog 29 #[.int .i64 ty, .int .i64 n] W fun e w' => ∃ A c, e = .returned (.tuple #[.slice A zs.length c, .int .i64 g]) ∧ Rd w' w'.heap.size A zs ∧ Below W.heap.size W w' from KE.out)
    have KV2 := Lib.hid (show ∀ A' c' W, Rd W W.heap.size A' zs → TG W → Calls Tryd.prog 24 #[ent ix sub nm ty ac mp st mx lo hi (.slice A d.length c), .slice A' zs.length c'] W fun e w' => e = .returned (.int .u32 (valN ty mx lo hi zs)) ∧ Below W.heap.size W w' from KV2.out)
    have HB := Lib.hid (show decA ty zs = (n, 0) → (n < lo ∧ valN ty mx lo hi zs = 101253170) ∨ (¬ n < lo ∧ hi < n ∧ valN ty mx lo hi zs = 101253169) ∨ (¬ n < lo ∧ ¬ hi < n ∧ valN ty mx lo hi zs = 0) from HB.out)
    obtain ⟨x0, x1, x2, x3, x4, x5, x6, x7, x8, x9, x10⟩ := S.out.cells
    go_wp2_with fail
    refine (S.out.call (KR.out _ ((HD.out.below S.out.b_).mono S.out.b_.size) S.out.g)).mono ?_
    clear S x0 x1 x2 x3 x4 x5 x6 x7 x8 x9 x10
    rintro e w3 ⟨rfl, S⟩
    have S := Lib.hid S
    by_cases hR : R = 0
    rotate_left
    · clear HOK HV HE HB KV1 KV2
      go_wp2_with fail
      refine (S.out.call (KN.out _ S.out.g)).mono ?_
      clear S
      rintro e w1 ⟨rfl, S⟩
      have S := Lib.hid S
      go_wp2_with fail
      go_ret
      exact ⟨rfl, S.out.b_⟩
    · subst hR
      have HL := Lib.hid (HOK.out rfl)
      clear HOK KR
      obtain ⟨x0, x1, x2, x3, x4, x5, x6, x7, x8, x9, x10⟩ := S.out.cells
      generalize valN ty mx lo hi bs = V at *
      go_wp2_with fail
      refine (S.out.call (KV1.out _ ((HR.out.below S.out.b_).mono S.out.b_.size) S.out.g)).mono ?_
      clear S x0 x1 x2 x3 x4 x5 x6 x7 x8 x9 x10 KV1
      rintro e w4 ⟨rfl, S⟩
      have S := Lib.hid S
      obtain ⟨x0, x1, x2, x3, x4, x5, x6, x7, x8, x9, x10⟩ := S.out.cells
      by_cases hV : V = 0
      · subst hV
        obtain ⟨v1, v2, v3, v4⟩ := HV.out rfl
        clear HV
        rw [← v4] at KS
        clear v4
        generalize decA ty bs = D at *
        obtain ⟨m, f⟩ := D
        obtain rfl : f = 0 := v1
        have v2 : decide (m < lo) = false := by simpa using v2
        have v3 : decide (hi < m) = false := by simpa using v3
        go_wp2_with fail
        refine (S.out.call (KD.out _ ((HR.out.below S.out.b_).mono S.out.b_.size) S.out.g)).mono ?_
        clear S x0 x1 x2 x3 x4 x5 x6 x7 x8 x9 x10 KD
        rintro e w5 ⟨rfl, S⟩
        have S := Lib.hid S
        obtain ⟨x0, x1, x2, x3, x4, x5, x6, x7, x8, x9, x10⟩ := S.out.cells
        go_wp2_with fail
        refine (S.out.call (KS.out _ S.out.g)).mono ?_
        clear S x0 x1 x2 x3 x4 x5 x6 x7 x8 x9 x10 KS v2 v3
        rintro e w6 ⟨rfl, S⟩
        have S := Lib.hid S
        obtain ⟨x0, x1, x2, x3, x4, x5, x6, x7, x8, x9, x10⟩ := S.out.cells
        go_wp2_with fail
        refine (KE.out _ S.out.g).mono ?_
        rintro e w5 ⟨A5, c5, he, hR5, b⟩
        have S5 := Lib.hid (S.out.next b)
        have R5 := Lib.hid hR5
        clear S b hR5 x0 x1 x2 x3 x4 x5 x6 x7 x8 x9 x10
        subst he
        rcases HE.out with h | ⟨rfl, h⟩
        · clear HE HB
          go_wp2_with fail
          refine (S5.out.call (KN.out _ S5.out.g)).mono ?_
          clear S5
          rintro e w9 ⟨rfl, S⟩
          have S := Lib.hid S
          go_wp2_with fail
          go_ret
          exact ⟨rfl, S.out.b_⟩
        · have h3 := HB.out h
          clear HB HE h
          obtain ⟨x0, x1, x2, x3, x4, x5, x6, x7, x8, x9, x10⟩ := S5.out.cells
          obtain ⟨V2, hV2⟩ : ∃ V2, valN ty mx lo hi zs = V2 := ⟨_, rfl⟩
          rw [hV2] at h3 KV2
          clear hV2
          go_wp2_with fail
          refine (S5.out.call (KV2.out _ _ _ R5.out S5.out.g)).mono ?_
          clear S5 R5 x0 x1 x2 x3 x4 x5 x6 x7 x8 x9 x10
          rintro e w6 ⟨rfl, S⟩
          have S := Lib.hid S
          obtain ⟨x0, x1, x2, x3, x4, x5, x6, x7, x8, x9, x10⟩ := S.out.cells
          have hL := HL.out
          rcases h3 with ⟨h, rfl⟩ | ⟨h, h1, rfl⟩ | ⟨h, h1, rfl⟩
          · have d1 : decide (lo ≤ n) = false := by simp; omega
            have d3 : decide (n < lo) = true := by simp; omega
            have d4 : decide (hi < n) = false := by simp; omega
            go_wp2_with fail
            refine (S.out.call (KN.out _ S.out.g)).mono ?_
            clear S x0 x1 x2 x3 x4 x5 x6 x7 x8 x9 x10
            rintro e w9 ⟨rfl, S⟩
            have S := Lib.hid S
            go_wp2_with fail
            go_ret
            exact ⟨rfl, S.out.b_⟩
          · have d1 : decide (lo ≤ n) = true := by simp; omega
            have d2 : decide (n ≤ hi) = false := by simp; omega
            have d3 : decide (n < lo) = false := by simp; omega
            have d4 : decide (hi < n) = true := by simp; omega
            go_wp2_with fail
            refine (S.out.call (KN.out _ S.out.g)).mono ?_
            clear S x0 x1 x2 x3 x4 x5 x6 x7 x8 x9 x10
            rintro e w9 ⟨rfl, S⟩
            have S := Lib.hid S
            go_wp2_with fail
            go_ret
            exact ⟨rfl, S.out.b_⟩
          · have d1 : decide (lo ≤ n) = true := by simp; omega
            have d2 : decide (n ≤ hi) = true := by simp; omega
            have d3 : decide (n < lo) = false := by simp; omega
            have d4 : decide (hi < n) = false := by simp; omega
            go_wp2_with fail
            refine (S.out.call (KN.out _ S.out.g)).mono ?_
            clear S x0 x1 x2 x3 x4 x5 x6 x7 x8 x9 x10
            rintro e w9 ⟨rfl, S⟩
            have S := Lib.hid S
            go_wp2_with fail
            go_ret
            exact ⟨rfl, S.out.b_⟩
      · clear HV KD KS
        go_wp2_with fail
        refine (KE.out _ S.out.g).mono ?_
        rintro e w5 ⟨A5, c5, he, hR5, b⟩
        have S5 := Lib.hid (S.out.next b)
        have R5 := Lib.hid hR5
        clear S b hR5 x0 x1 x2 x3 x4 x5 x6 x7 x8 x9 x10
        subst he
        rcases HE.out with h | ⟨rfl, h⟩
        · clear HE HB
          go_wp2_with fail
          refine (S5.out.call (KN.out _ S5.out.g)).mono ?_
          clear S5
          rintro e w9 ⟨rfl, S⟩
          have S := Lib.hid S
          go_wp2_with fail
          go_ret
          exact ⟨rfl, S.out.b_⟩
        · have h3 := HB.out h
          clear HB HE h
          obtain ⟨x0, x1, x2, x3, x4, x5, x6, x7, x8, x9, x10⟩ := S5.out.cells
          obtain ⟨V2, hV2⟩ : ∃ V2, valN ty mx lo hi zs = V2 := ⟨_, rfl⟩
          rw [hV2] at h3 KV2
          clear hV2
          go_wp2_with fail
          refine (S5.out.call (KV2.out _ _ _ R5.out S5.out.g)).mono ?_
          clear S5 R5 x0 x1 x2 x3 x4 x5 x6 x7 x8 x9 x10
          rintro e w6 ⟨rfl, S⟩
          have S := Lib.hid S
          obtain ⟨x0, x1, x2, x3, x4, x5, x6, x7, x8, x9, x10⟩ := S.out.cells
          have hL := HL.out
          rcases h3 with ⟨h, rfl⟩ | ⟨h, h1, rfl⟩ | ⟨h, h1, rfl⟩
          · have d1 : decide (lo ≤ n) = false := by simp; omega
            have d3 : decide (n < lo) = true := by simp; omega
            have d4 : decide (hi < n) = false := by simp; omega
            go_wp2_with fail
            refine (S.out.call (KN.out _ S.out.g)).mono ?_
            clear S x0 x1 x2 x3 x4 x5 x6 x7 x8 x9 x10
            rintro e w9 ⟨rfl, S⟩
            have S := Lib.hid S
            go_wp2_with fail
            go_ret
            exact ⟨rfl, S.out.b_⟩
          · have d1 : decide (lo ≤ n) = true := by simp; omega
            have d2 : decide (n ≤ hi) = false := by simp; omega
            have d3 : decide (n < lo) = false := by simp; omega
            have d4 : decide (hi < n) = true := by simp; omega
            go_wp2_with fail
            refine (S.out.call (KN.out _ S.out.g)).mono ?_
            clear S x0 x1 x2 x3 x4 x5 x6 x7 x8 x9 x10
            rintro e w9 ⟨rfl, S⟩
            have S := Lib.hid S
            go_wp2_with fail
            go_ret
            exact ⟨rfl, S.out.b_⟩
          · have d1 : decide (lo ≤ n) = true := by simp; omega
            have d2 : decide (n ≤ hi) = true := by simp; omega
            have d3 : decide (n < lo) = false := by simp; omega
            have d4 : decide (hi < n) = false := by simp; omega
            go_wp2_with fail
            refine (S.out.call (KN.out _ S.out.g)).mono ?_
            clear S x0 x1 x2 x3 x4 x5 x6 x7 x8 x9 x10
            rintro e w9 ⟨rfl, S⟩
            have S := Lib.hid S
            go_wp2_with fail
            go_ret
            exact ⟨rfl, S.out.b_⟩
end Ent
end Go.Proofs.YtedcjfgilpgpkaaDoor
