/-
  The laws' fixed calls.
-/
import Derived.Test.YtlibolkkklfdoaaDoorTypText
import Derived.Test.YtlibolkkklfdoaaDoorShelf
namespace Go.Proofs.YtlibolkkklfdoaaDoor
open Go.RowKit Mem
set_option linter.unusedVariables false

/-- What a walk holds on to: nothing that was there is changed, and the variables hold what they held. -/
structure TS (w W : World) : Prop where
  b : Below w.heap.size w W
  g : TG W
theorem TS.start {w : World} (hg : TG w) : TS w w := ⟨Below.refl _ _, hg⟩
theorem TS.next {w W W' : World} (h : TS w W) (hb : Below W.heap.size W W') : TS w W' := ⟨h.b.trans (hb.mono h.b.size), h.g.below hb (Nat.le_refl _)⟩
theorem TS.call {w W : World} {f : Nat} {args : Array Value} {v : Value} (S : TS w W)
    (h : Calls Tryd.prog f args W fun e w' => e = .returned v ∧ Below W.heap.size W w') : Calls Tryd.prog f args W fun e w' => e = .returned v ∧ TS w w' :=
  h.mono (by rintro e w' ⟨rfl, b⟩; exact ⟨rfl, S.next b⟩)
theorem TS.same {w W : World} {f : Nat} {args : Array Value} {v : Value} (S : TS w W)
    (h : Calls Tryd.prog f args W fun e w' => e = .returned v ∧ W = w') : Calls Tryd.prog f args W fun e w' => e = .returned v ∧ TS w w' :=
  h.mono (by rintro e w' ⟨rfl, rfl⟩; exact ⟨rfl, S⟩)
theorem TS.ans {w W : World} {f : Nat} {args : Array Value} {T : TypeId} {a : List UInt8 × Int} (S : TS w W)
    (h : Calls Tryd.prog f args W (Ans T W a)) : Calls Tryd.prog f args W fun e w' => ∃ A c, e = .returned (.tuple #[.slice A a.1.length c, .int .i64 a.2]) ∧ Rd w' w'.heap.size A a.1 ∧ TS w w' :=
  h.mono (by
    rintro e w' ⟨v, rfl, o, b⟩
    obtain ⟨A, c, rfl, hr⟩ := o.form
    exact ⟨A, c, rfl, hr, S.next b⟩)

theorem dec07 (w : World) : Calls Tryd.prog 71 #[.string ⟨#[48, 55]⟩] w fun e w' => e = .returned (.bool false) ∧ w = w' := by
  have HC := Lib.hid (fun W => (Tryd.strings_CutPrefix ⟨#[48, 55]⟩ ⟨#[45]⟩ W))
  have e48 : ((((⟨#[48, 55]⟩ : ByteArray)[0]'(by decide)).toNat : Nat) : Int) = 48 := rfl
  rw [show (⟨(Lib.trimPrefix (⟨#[48, 55]⟩ : ByteArray).data.toList (⟨#[45]⟩ : ByteArray).data.toList).toArray⟩ : ByteArray) = ⟨#[48, 55]⟩ from rfl, show Lib.hasPrefix (⟨#[48, 55]⟩ : ByteArray).data.toList (⟨#[45]⟩ : ByteArray).data.toList = false from rfl] at HC
  go_enter Tryd.func71, Tryd.ntmps71
  go_wp2_with fail
  refine (HC.out _).mono ?_
  rintro e w1 ⟨rfl, rfl⟩
  go_wp2_with fail
  go_ret
  exact ⟨rfl, rfl⟩
theorem parse07n (w : World) : Calls Tryd.prog 56 #[.int .i64 5, .string ⟨#[48, 55]⟩] w fun e w' => e = .returned (.tuple #[.slice none 0 0, .int .i64 4]) ∧ w = w' := by
  have HC := Lib.hid (fun W => dec07 W)
  go_enter Tryd.func56, Tryd.ntmps56
  go_wp2_with fail
  refine (HC.out _).mono ?_
  rintro e w1 ⟨rfl, rfl⟩
  go_wp2_with fail
  go_ret2
  exact ⟨rfl, rfl⟩
theorem parse07 (w : World) (hg : TG w) : Calls Tryd.prog 34 #[.int .i64 5, .string ⟨#[48, 55]⟩] w fun e w' => e = .returned (.tuple #[.slice none 0 0, .int .i64 4]) ∧ Below w.heap.size w w' := by
  have H1 := Lib.hid (about_x 5 w hg)
  have H2 := Lib.hid (fun W => kknown_x 5 W)
  have H3 := Lib.hid (fun W => knum_x 5 W)
  have H4 := Lib.hid (fun W => parse07n W)
  have HG := Lib.hid hg
  rw [show Typ.known 5 = true from rfl] at H2
  rw [show Typ.isNum 5 = true from rfl] at H3
  clear hg
  go_enter Tryd.func34, Tryd.ntmps34
  go_wp2_with fail
  refine H1.out.mono ?_
  rintro e w1 ⟨rfl, b1⟩
  have S := KS.new 5 HG.out b1
  have b1 := Lib.hid b1
  obtain ⟨q0, q1, q2, q3, q4⟩ := S.cells
  have S := Lib.hid S
  go_wp2_with fail
  refine (S.out.call (H2.out _)).mono ?_
  clear S q0 q1 q2 q3 q4
  rintro e w2 ⟨rfl, S⟩
  obtain ⟨q0, q1, q2, q3, q4⟩ := S.cells
  have S := Lib.hid S
  go_wp2_with fail
  refine (S.out.call (H3.out _)).mono ?_
  clear S q0 q1 q2 q3 q4
  rintro e w3 ⟨rfl, S⟩
  have S := Lib.hid S
  go_wp2_with fail
  refine (H4.out _).mono ?_
  rintro e w4 ⟨rfl, rfl⟩
  go_wp2_with fail
  go_ret2
  exact ⟨rfl, S.out.b_⟩

/-- Show of a text. -/
theorem show_text (A : Option Addr) (n c : Nat) (bs : List UInt8) (w : World) (hr : Rd w w.heap.size A bs) (hn : n = bs.length) (hle : n ≤ 1099511627776) (hok : chkA 9 256 bs = 0) (hg : TG w) :
    Calls Tryd.prog 32 #[.int .i64 9, .slice A n c] w fun e w' => e = .returned (.tuple #[.string ⟨(qAll bs).toArray⟩, .int .i64 0]) ∧ Below w.heap.size w w' := by
  have hlen : bs.length ≤ 256 := by
    rcases Nat.lt_or_ge 256 bs.length with h | h
    · unfold chkA at hok
      rw [if_neg (by decide), if_neg (by decide), if_pos (.inr (by omega))] at hok
      cases hok
    · exact h
  have S0 := Lib.hid (TS.start hg)
  have H1 := Lib.hid (fun W (S : TS w W) => S.call (check_any A n c bs 9 256 (by omega) (by omega) W ((hr.below S.b).mono S.b.size) hn hle S.g))
  rw [hok] at H1
  have H2 := Lib.hid (fun W (S : TS w W) => S.call (about_x 9 W S.g))
  have H3 := Lib.hid (fun W (S : TS w W) => S.call (knum_x 9 W))
  rw [show Typ.isNum 9 = false from rfl] at H3
  have H4 := Lib.hid (fun W (S : TS w W) => S.call (quoted_any A n c bs W ((hr.below S.b).mono S.b.size) hn (by omega)))
  clear hr hg hok hn
  go_enter Tryd.func32, Tryd.ntmps32
  go_wp2_with fail
  refine (H1.out _ S0.out).mono ?_
  clear S0
  rintro e w1 ⟨rfl, S⟩
  have S := Lib.hid S
  go_wp2_with fail
  refine (H2.out _ S.out).mono ?_
  clear S
  rintro e w2 ⟨rfl, S⟩
  have S := Lib.hid S
  go_wp2_with fail
  refine (H3.out _ S.out).mono ?_
  clear S
  rintro e w3 ⟨rfl, S⟩
  have S := Lib.hid S
  go_wp2_with fail
  refine (H4.out _ S.out).mono ?_
  clear S
  rintro e w4 ⟨rfl, S⟩
  have S := Lib.hid S
  go_wp2_with fail
  go_ret2
  exact ⟨rfl, S.out.b⟩

theorem fixed_facts : encA 3 (-2) = ([254, 255], 0) ∧ decA 6 [1, 2] = (513, 0) ∧ chkA 9 256 [97, 34, 98] = 0 ∧ qAll [97, 34, 98] = [34, 97, 92, 34, 98, 34] ∧ Typ.name 6 = [117, 49, 54] ∧ Typ.known 0 = false := by decide +kernel

theorem rd_next {W W' : World} {A : Option Addr} {bs : List UInt8} (h : Rd W W.heap.size A bs) (hb : Below W.heap.size W W') : Rd W' W'.heap.size A bs := (h.below hb).mono hb.size

set_option maxRecDepth 100000 in
set_option maxHeartbeats 4000000 in
theorem fixed_any (w : World) (hg : TG w) :
    Calls Tryd.prog 9 #[] w fun e w' => e = .returned (.bool true) ∧ Below w.heap.size w w' := by
  obtain ⟨f1, f2, f3, f4, f5, f6⟩ := fixed_facts
  have S0 := Lib.hid (TS.start hg)
  have H1 := Lib.hid (fun W (S : TS w W) => S.ans (encode_any 3 (-2) (by omega) (by omega) W S.g))
  rw [f1] at H1
  have H2 := Lib.hid (fun W (S : TS w W) (g : Nat) (c : Nat) (h : Rd W W.heap.size (some ⟨g, 0, none⟩) [1, 2]) => (decode_any (some ⟨g, 0, none⟩) 2 c [1, 2] 6 W h rfl (by omega) S.g))
  rw [f2] at H2
  have H3 := Lib.hid (fun W (S : TS w W) (g : Nat) (c : Nat) (h : Rd W W.heap.size (some ⟨g, 0, none⟩) [97, 34, 98]) => (show_text (some ⟨g, 0, none⟩) 3 c [97, 34, 98] W h rfl (by omega) f3 S.g))
  rw [f4] at H3
  have H4 := Lib.hid (fun W (S : TS w W) => (parse07 W S.g))
  have H5 := Lib.hid (fun W (S : TS w W) => (tname_any 6 W S.g))
  rw [f5] at H5
  have H6 := Lib.hid (fun W (S : TS w W) => (tknown_any 0 W S.g))
  rw [f6] at H6
  have kc := fun (w : World) (C : Array Value) (n c : Nat) => Lib.run_convert_bytes_const (P := Tryd.prog) w 31 5 C n c Tryd.underlying31 Tryd.underlying5
  clear f1 f2 f3 f4 f5 f6 hg
  go_enter Tryd.func9, Tryd.ntmps9
  go_wp2_with fail
  refine (H1.out _ S0.out).mono ?_
  clear S0 H1
  rintro e w1 ⟨A1, c1, rfl, r1, S⟩
  have S := Lib.hid S
  have R := Lib.hid r1
  clear r1
  go_wp2_with fail
  have b2 := (Below.refl w1.heap.size w1).alloc (Nat.le_refl _) (.cells #[.int .u8 1, .int .u8 2] 5)
  have S2 := S.out.next b2
  have R2 := rd_next R.out b2
  refine (H2.out _ S2 _ _ (Rd.newL (cs := #[.int .u8 1, .int .u8 2]) w1 5 [1, 2] rfl)).mono ?_
  rintro e w2 ⟨rfl, b3⟩
  have S3 := Lib.hid (S2.next b3)
  have R3 := Lib.hid (rd_next R2 b3)
  clear S S2 H2 R R2 b2 b3
  go_wp2_with fail
  have b2 := (Below.refl w2.heap.size w2).alloc (Nat.le_refl _) (.cells #[.int .u8 97, .int .u8 34, .int .u8 98] 5 (3, 4))
  have S2 := S3.out.next b2
  have R2 := rd_next R3.out b2
  refine (H3.out _ S2 _ _ (Rd.newL (cs := #[.int .u8 97, .int .u8 34, .int .u8 98]) (fr := (3, 4)) w2 5 [97, 34, 98] rfl)).mono ?_
  rintro e w3 ⟨rfl, b3⟩
  have S := Lib.hid (S2.next b3)
  have R := Lib.hid (rd_next R2 b3)
  clear S2 H3 R2 b2 b3 S3 R3
  go_wp2_with fail
  refine (H4.out _ S.out).mono ?_
  rintro e w4 ⟨rfl, b3⟩
  have S2 := Lib.hid (S.out.next b3)
  have R2 := Lib.hid (rd_next R.out b3)
  clear S R b3
  have hs := run_str R2.out 2 c1 rfl 31 5 9 Tryd.underlying31 Tryd.underlying5 Tryd.underlying9
  go_wp2_with fail
  refine (H5.out _ S2.out).mono ?_
  rintro e w5 ⟨rfl, b3⟩
  have S := Lib.hid (S2.out.next b3)
  clear S2 b3 hs
  go_wp2_with fail
  refine (H6.out _ S.out).mono ?_
  rintro e w6 ⟨rfl, b3⟩
  have S2 := Lib.hid (S.out.next b3)
  clear S b3
  go_wp2_with fail
  go_ret
  exact ⟨rfl, S2.out.b⟩
end Go.Proofs.YtlibolkkklfdoaaDoor
