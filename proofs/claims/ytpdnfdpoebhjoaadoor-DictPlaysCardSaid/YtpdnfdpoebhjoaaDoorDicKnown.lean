/-
  A law's dictionary; the laws' fixed calls; Light.
-/
import Derived.Test.YtpdnfdpoebhjoaaDoorDicNew
import Derived.Test.YtpdnfdpoebhjoaaDoorDicMore
import Derived.Test.YtpdnfdpoebhjoaaDoorDicVals
import Derived.Test.YtpdnfdpoebhjoaaDoorDicReset
namespace Go.Proofs.YtpdnfdpoebhjoaaDoor
namespace Dic
open Go.RowKit Mem Ent
set_option linter.unusedVariables false
set_option linter.unusedSimpArgs false
set_option maxRecDepth 100000

/-- A law's dictionary: all of it lies from block B on, nothing that was there before the law is changed. -/
structure LD (w W : World) (p : Nat) (v : Value) (B : Nat) (s : Ds) : Prop where
  b : Below w.heap.size w W
  g : TG W
  d : HasD W p v (· < B) s
  wB : w.heap.size ≤ B
  BW : B ≤ W.heap.size
  i : Inv s
section
variable {w W W' : World} {p : Nat} {v : Value} {B : Nat} {s s' : Ds}
theorem LD.next (h : LD w W p v B s) (b : Below W.heap.size W W') : LD w W' p v B s :=
  ⟨h.b.trans (b.mono h.b.size), h.g.below b (Nat.le_refl _), h.d.below b, h.wB, Nat.le_trans h.BW b.size, h.i⟩
theorem LD.upd (hg : TG w) (h : LD w W p v B s) (d : HasD W' p v (· < B) s') (u : Upd (fun q => v.ownBlock = some q) W W') (i : Inv s') : LD w W' p v B s' := by
  have b : Below w.heap.size w W' := h.b.trans (u.below h.b.size fun k hk => by
    have := h.d.np.2.2 k hk
    have := h.wB
    omega)
  exact ⟨b, hg.below b (Nat.le_refl _), d, h.wB, Nat.le_trans h.BW u.size, i⟩
theorem LD.nlt (h : LD w W p v B s) : ∀ q, q < B → q < W.heap.size := fun q hq => by have := h.BW; omega
theorem LD.start {e : Ending} {l : List Ev} (hb : Below w.heap.size w W) (hg : TG w) (h : NewEnds W l e W') : (∃ v, (newA l).1 = 0 ∧ e = .returned (.tuple #[ptr W.heap.size, .int .i64 0, .int .i64 0]) ∧ LD w W' W.heap.size v W.heap.size (first l)) ∨ ((newA l).1 ≠ 0 ∧ e = .returned (.tuple #[.pointer none, .int .i64 (newA l).1, .int .i64 (newA l).2]) ∧ Below w.heap.size w W') := by
  obtain ⟨b, h | h⟩ := h
  · obtain ⟨h1, h2, v, h3⟩ := h
    have b' := hb.trans (b.mono hb.size)
    exact .inl ⟨v, h1, h2, b', hg.below b' (Nat.le_refl _), h3, hb.size, b.size, inv_first h1⟩
  · exact .inr ⟨h.1, h.2, hb.trans (b.mono hb.size)⟩
theorem LD.may (h : LD w W p v B s) (ix sub : Int) {A : Option Addr} {n cb : Nat} {bs : List UInt8} (hb : Rd W W.heap.size A bs) (hn : n = bs.length) (hl : bs.length ≤ 1000) :
    Calls Tryd.prog 34 #[ptr p, .int .i64 ix, .int .i64 sub, .slice A n cb] W fun e w' => e = .returned (.int .u32 (s.may ix sub bs)) ∧ LD w w' p v B s ∧ Below W.heap.size W w' := by
  subst hn
  exact ((set_any h.d h.i h.nlt ix sub (cb := cb) hb hl h.g).1).mono fun e w' ⟨h1, h2⟩ => ⟨h1, h.next h2, h2⟩
theorem LD.set (hg : TG w) (h : LD w W p v B s) (ix sub : Int) {A : Option Addr} {n cb : Nat} {bs : List UInt8} (hb : Rd W W.heap.size A bs) (hn : n = bs.length) (hl : bs.length ≤ 1000) :
    Calls Tryd.prog 18 #[ptr p, .int .i64 ix, .int .i64 sub, .slice A n cb] W fun e w' => e = .returned (.int .u32 (s.may ix sub bs)) ∧ LD w w' p v B (s.upon (s.may ix sub bs) ix sub bs) := by
  subst hn
  exact ((set_any h.d h.i h.nlt ix sub (cb := cb) hb hl h.g).2).mono fun e w' ⟨h1, h2, h3⟩ => ⟨h1, h.upd hg h2 h3 (h.i.upon fun e => may_zero e)⟩
theorem LD.poke (hg : TG w) (h : LD w W p v B s) (ix sub : Int) {A : Option Addr} {n cb : Nat} {bs : List UInt8} (hb : Rd W W.heap.size A bs) (hn : n = bs.length) (hl : bs.length ≤ 1000) :
    Calls Tryd.prog 30 #[ptr p, .int .i64 ix, .int .i64 sub, .slice A n cb] W fun e w' => e = .returned (.int .u32 (s.poke ix sub bs)) ∧ LD w w' p v B (s.upon (s.poke ix sub bs) ix sub bs) := by
  subst hn
  exact (poke_any h.d h.i h.nlt ix sub (cb := cb) hb hl h.g).mono fun e w' ⟨h1, h2, h3⟩ => ⟨h1, h.upd hg h2 h3 (h.i.upon fun e => e)⟩
theorem LD.get (h : LD w W p v B s) (ix sub : Int) : Calls Tryd.prog 19 #[ptr p, .int .i64 ix, .int .i64 sub] W fun e w' => (∃ x, e = .returned (.tuple #[x, .int .u32 (s.get ix sub).2]) ∧ Own w' W.heap.size YT x (s.get ix sub).1) ∧ LD w w' p v B s ∧ Below W.heap.size W w' :=
  (get_any h.d h.i ix sub).mono fun e w' ⟨x, h1, h2, h3⟩ => ⟨⟨x, h1, h2⟩, h.next h3, h3⟩
theorem LD.reset (hg : TG w) (h : LD w W p v B s) : Calls Tryd.prog 36 #[ptr p] W fun e w' => e = .returned (.tuple #[]) ∧ LD w w' p v B s.reset :=
  (reset_any h.d).mono fun e w' ⟨h1, h2, h3⟩ => ⟨h1, h.upd hg h2 h3 h.i.reset⟩
theorem LD.len (h : LD w W p v B s) : Calls Tryd.prog 17 #[ptr p] W fun e w' => e = .returned (.int .i64 (s.l.length : Int)) ∧ LD w w' p v B s :=
  (len_any h.d).mono fun e w' ⟨h1, h2⟩ => ⟨h1, h2 ▸ h⟩
end

/-- The laws' own entry. -/
def ev0 : Ev := ⟨4119, 0, [98, 101, 97, 116], 6, 4, false, false, 0, 10, 1000, [20, 0]⟩
theorem kn_new : newA [ev0] = (0, 0) := newA_ok (by decide) fun i hi => by
  obtain rfl : i = 0 := by simpa using hi
  decide +kernel
def ks0 : Ds := ⟨[ev0], [[20, 0]]⟩
def ks1 : Ds := ⟨[ev0], [[30, 0]]⟩
theorem kn_s0 : first [ev0] = ks0 := rfl
theorem kn1 : ks0.may 4119 0 [30, 0] = 0 := by decide +kernel
theorem kn2 : ks0.upon 0 4119 0 [30, 0] = ks1 := rfl
theorem kn3 : ks1.get 4119 0 = ([30, 0], 0) := by decide +kernel
theorem kn4 : (ks1.get 4119 1).2 = 101253137 := by decide +kernel
theorem kn5 : (ks1.get 4120 0).2 = 100794368 := by decide +kernel
theorem kn6 : ks1.may 4119 0 [1, 0] = 101253170 := by decide +kernel
theorem ks1_len : (ks1.l.length : Int) = 1 := rfl
def en0 (A : Option Addr) : En := ⟨4119, 0, [98, 101, 97, 116], 6, 4, false, false, 0, 10, 1000, A, [20, 0], 2⟩
theorem rd_two (w : World) (a b : UInt8) : Rd (w.alloc (.cells #[.int .u8 (a.toNat : Int), .int .u8 (b.toNat : Int)] 5)) (w.alloc (.cells #[.int .u8 (a.toNat : Int), .int .u8 (b.toNat : Int)] 5)).heap.size (some ⟨w.heap.size, 0, none⟩) [a, b] :=
  (Rd.new2 w _ rfl rfl).mono (by simp)
theorem kn_rd (w : World) : RdE ((w.alloc (.cells #[.int .u8 20, .int .u8 0] 5)).alloc (.cells #[.int .i64 4119, .int .i64 0, .string ⟨#[98, 101, 97, 116]⟩, .int .i64 6, .int .i64 4, .bool false, .bool false, .int .i64 0, .int .i64 10, .int .i64 1000, .slice (some ⟨w.heap.size, 0, none⟩) 2 2] 38))
    ((w.alloc (.cells #[.int .u8 20, .int .u8 0] 5)).alloc (.cells #[.int .i64 4119, .int .i64 0, .string ⟨#[98, 101, 97, 116]⟩, .int .i64 6, .int .i64 4, .bool false, .bool false, .int .i64 0, .int .i64 10, .int .i64 1000, .slice (some ⟨w.heap.size, 0, none⟩) 2 2] 38)).heap.size
    (some ⟨w.heap.size + 1, 0, none⟩) [en0 (some ⟨w.heap.size, 0, none⟩)] := by
  have h := new_cells (w.alloc (.cells #[.int .u8 20, .int .u8 0] 5)) (enl (en0 (some ⟨w.heap.size, 0, none⟩))) 38
  have b2 := one_b (w.alloc (.cells #[.int .u8 20, .int .u8 0] 5)) (.cells (enl (en0 (some ⟨w.heap.size, 0, none⟩))).toArray 38)
  refine ⟨.inr ⟨w.heap.size + 1, 0, rfl, by simp, fun j hj i hi => ?_⟩, fun j hj => ?_⟩
  · obtain rfl : j = 0 := by simpa using hj
    have hi' : i < (enl (en0 (some ⟨w.heap.size, 0, none⟩))).length := hi
    have h1 := h i _ (List.getElem?_eq_getElem hi')
    rw [Addr.add_lit] at h1
    simp only [World.size_alloc] at h1
    rw [show (0 : Nat) + 0 * 11 + i = 0 + i by omega]
    refine h1.trans ?_
    exact (List.getElem?_eq_getElem hi').symm
  · obtain rfl : j = 0 := by simpa using hj
    exact ((rd_two w 20 0).below b2).mono b2.size

theorem ev0_ok : EvOk ev0 := ⟨⟨by decide, by decide⟩, ⟨by decide, by decide⟩, by decide, ⟨by decide, by decide⟩, ⟨by decide, by decide⟩, ⟨by decide, by decide⟩, ⟨by decide, by decide⟩, ⟨by decide, by decide⟩, by decide⟩
theorem rd_30 (w : World) : Rd (w.alloc (.cells #[.int .u8 30, .int .u8 0] 5)) (w.alloc (.cells #[.int .u8 30, .int .u8 0] 5)).heap.size (some ⟨w.heap.size, 0, none⟩) [30, 0] := rd_two w 30 0
theorem rd_1 (w : World) : Rd (w.alloc (.cells #[.int .u8 1, .int .u8 0] 5)) (w.alloc (.cells #[.int .u8 1, .int .u8 0] 5)).heap.size (some ⟨w.heap.size, 0, none⟩) [1, 0] := rd_two w 1 0
/-- Are the entries few, and their texts short? -/
def lightB (es : List En) : Bool := decide (es.length ≤ 200) && es.all fun x => decide (x.d.length ≤ 1000) && decide (x.nm.length ≤ 1000)
set_option maxHeartbeats 2000000 in
theorem light_any (A : Option Addr) (c : Nat) (es : List En) (W : World) (hr : RdE W W.heap.size A es) (hn : es.length ≤ maxLen) (hd : ∀ j, j < es.length → (es.getD j enZ).d.length ≤ maxLen ∧ (es.getD j enZ).nm.length ≤ maxLen) :
    Calls Tryd.prog 4 #[.slice A es.length c] W fun e w' => e = .returned (.bool (lightB es)) ∧ W = w' := by
  unfold maxLen at hn hd
  by_cases hbig : 200 < es.length
  · have HB : Hid (lightB es = false) := Lib.hid (by unfold lightB; rw [decide_eq_false (by omega)]; rfl)
    clear hr hd
    generalize es.length = n at *
    go_enter Tryd.func4, Tryd.ntmps4
    go_wp2_with fail
    go_ret
    exact ⟨by rw [HB.out]; rfl, rfl⟩
  · have HR := Lib.hid (fun k (hk : k < es.length) => hr.at hk rfl)
    have YES := Lib.hid (fun (h : ∀ k, k < es.length → (es.getD k enZ).d.length ≤ 1000 ∧ (es.getD k enZ).nm.length ≤ 1000) => show lightB es = true by
      unfold lightB
      rw [decide_eq_true (by omega), Bool.true_and, List.all_eq_true]
      intro x hx
      obtain ⟨k, hk, rfl⟩ := List.getElem_of_mem hx
      have := h k hk
      simpa [List.getD_eq_getElem?_getD, hk] using this)
    have NO := Lib.hid (fun k (hk : k < es.length) (h : ¬ ((es.getD k enZ).d.length ≤ 1000 ∧ (es.getD k enZ).nm.length ≤ 1000)) => show lightB es = false by
      unfold lightB
      rw [Bool.and_eq_false_iff]
      right
      rw [List.all_eq_false]
      refine ⟨es.getD k enZ, getD_mem hk, ?_⟩
      simpa using h)
    have HD := Lib.hid hd
    clear hr hd
    generalize lightB es = L at *
    go_enter Tryd.func4, Tryd.ntmps4
    go_wp2_with fail
    go_loop [3] (fun iv => ∃ k : Nat, k ≤ es.length ∧ iv = .int .i64 (k : Int) ∧ Hid (∀ a, a < k → (es.getD a enZ).d.length ≤ 1000 ∧ (es.getD a enZ).nm.length ≤ 1000)) (fun iv => es.length - (intOf iv).toNat)
    case atStart => exact ⟨0, by omega, rfl, Lib.hid (fun a h => by omega)⟩
    case round =>
      obtain ⟨k, hk, rfl, hA⟩ := hrel
      by_cases hlt : k < es.length
      · obtain ⟨g, off, e, hg, ⟨q0, q1, q2, q3, q4, q5, q6, q7, q8, q9, q10⟩, _⟩ := HR.out k hlt
        subst e
        have NO := Lib.hid (NO.out k hlt)
        have NEXT := Lib.hid (fun (h : (es.getD k enZ).d.length ≤ 1000 ∧ (es.getD k enZ).nm.length ≤ 1000) a (ha : a < k + 1) => show (es.getD a enZ).d.length ≤ 1000 ∧ (es.getD a enZ).nm.length ≤ 1000 by
          rcases Nat.lt_or_ge a k with h1 | h1
          · exact hA.out a h1
          · obtain rfl : a = k := by omega
            exact h)
        obtain ⟨hd1, hd2⟩ := HD.out k hlt
        have j1 : (0 : Int) ≤ (k : Int) := by omega
        have j2 : (k : Int) < (es.length : Int) := by omega
        clear HR YES HD hA
        generalize es.getD k enZ = x at *
        have SZ := siz x.nm
        by_cases h1 : x.d.length ≤ 1000
        · have d1 : decide (1000 < (x.d.length : Int)) = false := decide_eq_false (by omega)
          have d1' : decide (1000 < x.d.length) = false := decide_eq_false (by omega)
          by_cases h2 : x.nm.length ≤ 1000
          · have N1 := Lib.hid (NEXT.out ⟨h1, h2⟩)
            have d2 : decide (1000 < (x.nm.length : Int)) = false := decide_eq_false (by omega)
            have d2' : decide (1000 < x.nm.length) = false := decide_eq_false (by omega)
            clear NEXT NO
            go_wp2_with fail
            go_round
            case rel => exact ⟨k + 1, by omega, by go_num, N1⟩
            case measure => simp [intOf]; omega
          · have N1 := Lib.hid (NO.out (fun h => h2 h.2))
            have d2 : decide (1000 < (x.nm.length : Int)) = true := decide_eq_true (by omega)
            have d2' : decide (1000 < x.nm.length) = true := decide_eq_true (by omega)
            clear NEXT NO
            go_wp2_with fail
            go_ret
            exact ⟨by rw [N1.out]; rfl, rfl⟩
        · have N1 := Lib.hid (NO.out (fun h => h1 h.1))
          have d1 : decide (1000 < (x.d.length : Int)) = true := decide_eq_true (by omega)
          have d1' : decide (1000 < x.d.length) = true := decide_eq_true (by omega)
          clear NEXT NO
          go_wp2_with fail
          go_ret
          exact ⟨by rw [N1.out]; rfl, rfl⟩
      · have hE : k = es.length := by omega
        have Y := Lib.hid (YES.out (by rw [← hE]; exact hA.out))
        clear HR NO HD hA YES
        go_wp2_with fail
        go_ret
        exact ⟨by rw [Y.out]; rfl, rfl⟩

set_option maxHeartbeats 4000000 in
theorem known_any (w : World) (hg : TG w) : Calls Tryd.prog 5 #[] w fun e w' => e = .returned (.bool true) ∧ Below w.heap.size w w' := by
  have b2 := two_b w (.cells #[.int .u8 20, .int .u8 0] 5) (.cells #[.int .i64 4119, .int .i64 0, .string ⟨#[98, 101, 97, 116]⟩, .int .i64 6, .int .i64 4, .bool false, .bool false, .int .i64 0, .int .i64 10, .int .i64 1000, .slice (some ⟨w.heap.size, 0, none⟩) 2 2] 38)
  have N := Lib.hid (new_any (some ⟨w.heap.size + 1, 0, none⟩) 1 [en0 (some ⟨w.heap.size, 0, none⟩)] _ (kn_rd w) (fun j hj => by
    obtain rfl : j = 0 := by simpa using hj
    exact ev0_ok) (hg.below b2 (Nat.le_refl _)) (by unfold maxLen; simp))
  have B2 := Lib.hid b2
  have HG := Lib.hid hg
  clear b2 hg
  go_enter Tryd.func5, Tryd.ntmps5
  go_wp2_with fail
  refine N.out.mono ?_
  intro e w1 h
  have hl : [en0 (some ⟨w.heap.size, 0, none⟩)].map ev = [ev0] := rfl
  rw [hl] at h
  rcases LD.start B2.out HG.out h with ⟨v, _, rfl, L⟩ | ⟨h0, _⟩
  rotate_left
  · rw [kn_new] at h0; exact absurd rfl h0
  rw [kn_s0] at L
  have hp : ((w.alloc (.cells #[.int .u8 20, .int .u8 0] 5)).alloc (.cells #[.int .i64 4119, .int .i64 0, .string ⟨#[98, 101, 97, 116]⟩, .int .i64 6, .int .i64 4, .bool false, .bool false, .int .i64 0, .int .i64 10, .int .i64 1000, .slice (some ⟨w.heap.size, 0, none⟩) 2 2] 38)).heap.size = w.heap.size + 1 + 1 := by simp
  rw [hp] at L ⊢
  have L := Lib.hid L
  clear N h hl B2 hp
  generalize w.heap.size + 1 + 1 = p at *
  have L1 := Lib.hid (L.out.next (one_b w1 (.cells #[.int .u8 30, .int .u8 0] 5)))
  have K1 := L1.out.set HG.out 4119 0 (cb := 2) (n := 2) (rd_30 w1) rfl (by decide)
  rw [kn1, kn2] at K1
  have K1 := Lib.hid K1
  clear L L1
  go_wp2_with fail
  refine K1.out.mono ?_
  rintro e w2 ⟨rfl, L⟩
  have K2 := L.get 4119 0
  rw [kn3] at K2
  have K2 := Lib.hid K2
  clear L K1
  go_wp2_with fail
  refine K2.out.mono ?_
  rintro e w3 ⟨⟨x, rfl, o⟩, L, _⟩
  obtain ⟨A3, c3, rfl, r3⟩ := o.form
  have R3 := Lib.hid (show Rd w3 w3.heap.size A3 [30, 0] from r3)
  have K3 := L.get 4119 1
  rw [kn4] at K3
  have K3 := Lib.hid K3
  clear L K2 o r3
  go_wp2_with fail
  refine K3.out.mono ?_
  rintro e w4 ⟨⟨x, rfl, o⟩, L, b⟩
  have R4 := Lib.hid ((R3.out.below b).mono b.size)
  obtain ⟨A4, c4, rfl, r4⟩ := o.form
  have K4 := L.get 4120 0
  rw [kn5] at K4
  have K4 := Lib.hid K4
  clear L K3 o r4 R3 b
  go_wp2_with fail
  refine K4.out.mono ?_
  rintro e w5 ⟨⟨x, rfl, o⟩, L, b⟩
  have R5 := (R4.out.below b).mono b.size
  obtain ⟨A5, c5, rfl, r5⟩ := o.form
  have cv := run_str (P := Tryd.prog) R5 2 c3 rfl 36 5 9 Tryd.underlying36 Tryd.underlying5 Tryd.underlying9
  have L1 := Lib.hid (L.next (one_b w5 (.cells #[.int .u8 1, .int .u8 0] 5)))
  have K5 := L1.out.set HG.out 4119 0 (cb := 2) (n := 2) (rd_1 w5) rfl (by decide)
  rw [kn6] at K5
  have K5 := Lib.hid K5
  have UP : Hid (ks1.upon 101253170 4119 0 [1, 0] = ks1) := Lib.hid rfl
  clear L L1 K4 o r5 R5 R4 b
  go_wp2_with fail
  refine K5.out.mono ?_
  rintro e w6 ⟨rfl, L⟩
  rw [UP.out] at L
  have K6 := L.len
  rw [ks1_len] at K6
  have K6 := Lib.hid K6
  clear L K5 cv UP
  go_wp2_with fail
  refine K6.out.mono ?_
  rintro e w7 ⟨rfl, L⟩
  have BE := Lib.hid L.b
  clear L K6
  go_wp2_with fail
  go_ret
  exact ⟨rfl, BE.out⟩
end Dic
end Go.Proofs.YtpdnfdpoebhjoaaDoor
