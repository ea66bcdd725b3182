/-
  The laws' own bytes: data; what is compared: Same.
  The fixed calls that every statement of layer 9 makes come out as they must.
-/
import Derived.Test.YtkkbjngjjeajoaaJouReady
import Derived.Test.YtkkbjngjjeajoaaJouOps
import Derived.Test.YtkkbjngjjeajoaaOctMath
import Derived.Test.YtkkbjngjjeajoaaRecRef
import Derived.Test.YtkkbjngjjeajoaaFlaKnown
import Derived.Lib.SlBytesConst
namespace Go.Proofs.Ytkkbjngjjeajoaa
namespace Jou
open Go.RowKit Mem Fla Rec Sec
set_option linter.unusedVariables false
set_option linter.unusedSimpArgs false
set_option maxRecDepth 100000
/-- Bytes of a known number, in new memory. -/
def DataTo (w : World) (n : Nat) (e : Ending) (w' : World) : Prop := ∃ v bs, e = .returned v ∧ bs.length = n ∧ Own w' w.heap.size E v bs ∧ Below w.heap.size w w'
set_option maxHeartbeats 1000000 in
theorem data_any (o : OpV) (ho : o.Ok) (i : Nat) (hi : i ≤ 1000000) (w : World) :
    Calls Try.prog 15 #[.agg o.vals, .int .i64 (i : Int)] w (DataTo w (o.z.toNat % 1001)) := by
  obtain ⟨k, K, z, n, m⟩ := o
  obtain ⟨_, _, _, _, z0, z1, _, _, m0, m1⟩ := ho
  simp only [OpV.vals] at *
  obtain ⟨i0, hii, hz0, hz1, hz2⟩ := info_parts Byt.info_u8
  have hii := Lib.hid hii
  have hz0 := Lib.hid hz0
  have hz1 := Lib.hid hz1
  have hz2 := Lib.hid hz2
  obtain ⟨zn, rfl⟩ : ∃ zn : Nat, z = (zn : Int) := ⟨z.toNat, by omega⟩
  rw [Int.toNat_natCast]
  have hX := Lib.hid (fun k : Nat => Oct.xor_byte (((k : Int) + i) % 256) (m % 256) (by omega) (by omega) (by omega) (by omega))
  go_enter Try.func15, Try.ntmps15
  go_wp2_with fail
  have R0 := heap_alloc_new w (.cells #[.int .i64 k, .int .i64 K, .int .u16 (zn : Int), .int .i64 n, .int .u32 m] 26)
  have hmod : ((zn : Int).tmod 1001) = ((zn % 1001 : Nat) : Int) := by rw [Int.tmod_eq_emod_of_nonneg (by omega)]; omega
  go_loopw [5, 6] (fun v k' wr => ∃ (j : Nat) (bs : List UInt8), j ≤ zn % 1001 ∧ k' = .int .i64 (j : Int) ∧ bs.length = j ∧ Own wr (w.heap.size + 1) E v bs ∧ wr.heap[w.heap.size]? = some (.cells #[.int .i64 k, .int .i64 K, .int .u16 (zn : Int), .int .i64 n, .int .u32 m] 26 (0, 0)) ∧ Below w.heap.size w wr) (fun _ k' _ => zn % 1001 - (intOf k').toNat)
  case atStart => exact ⟨0, [], by omega, rfl, rfl, Own.nil _ _ _, R0, below1 _ _⟩
  case round =>
    obtain ⟨j, bs, hj, rfl, hlen, hown, row, hb⟩ := hrel
    have c2 := cell_of row 2
    have c4 := cell_of row 4
    have hsz := (Array.getElem?_eq_some_iff.1 row).1
    by_cases hlt : j < zn % 1001
    · obtain ⟨y, hy⟩ := hX.out j
      have hltd : (j : Int) < ((zn % 1001 : Nat) : Int) := by omega
      have hbs := hb.size
      have rowA : ∀ o, (wr.alloc o).heap[w.heap.size]? = some (.cells #[.int .i64 k, .int .i64 K, .int .u16 (zn : Int), .int .i64 n, .int .u32 m] 26 (0, 0)) := fun o => (Below.heap_alloc _ _ _ hsz).trans row
      go_wp2_with (at_builtin; refine wpList_app _ rfl (.tmp 15) (.tmp 24) 22 rfl (w.heap.size + 1) 5 i0 Try.underlying22 hii.out hz0.out hz1.out hz2.out _ bs rfl (hown.alloc _) (some ⟨wr.heap.size, 0, none⟩) 1 1 [y] rfl rfl (wr.heap.size + 1) (Rd.new1 _ _ rfl) (by rw [hlen]; simp; omega) (by rw [World.size_alloc]; omega) ?_; intro v1 w1 o1 g1 t1; have nb : ∀ g, v1.ownBlock = some g → True := fun _ _ => trivial; have b1 : Below w.heap.size w w1 := (hb.alloc hbs _).grown g1 (alloc_le hbs _) (fun g hg => by have := (hown.lt g hg).1; omega); have r1 := (g1.block w.heap.size (by rw [World.size_alloc]; omega) (fun e => by have := (hown.lt _ e.symm).1; omega)).trans (rowA _); have O1 := Lib.hid o1; have B1 := Lib.hid b1; have R1 := Lib.hid r1; clear o1 b1 g1 t1 r1 nb rowA)
      go_roundw
      case rel => exact ⟨j + 1, bs ++ [y], by omega, by go_num, by simp [hlen], O1.out, R1.out, B1.out⟩
      case measure => simp [intOf]; omega
    · have hltd : ¬ (j : Int) < ((zn % 1001 : Nat) : Int) := by omega
      obtain rfl : j = zn % 1001 := by omega
      go_wp2_with fail
      go_ret
      exact ⟨_, bs, rfl, hlen, hown.lower (by omega), hb⟩
theorem dataZ_any (z m : Int) (z0 : 0 ≤ z) (z1 : z ≤ 65535) (m0 : 0 ≤ m) (m1 : m ≤ 4294967295) (i : Nat) (hi : i ≤ 1000000) (w : World) :
    Calls Try.prog 15 #[.agg #[.int .i64 0, .int .i64 0, .int .u16 z, .int .i64 0, .int .u32 m], .int .i64 (i : Int)] w (DataTo w (z.toNat % 1001)) :=
  data_any ⟨0, 0, z, 0, m⟩ ⟨by show (_ : Int) ≤ 0; omega, by show (0 : Int) ≤ _; omega, by show (_ : Int) ≤ 0; omega, by show (0 : Int) ≤ _; omega, z0, z1, by show (_ : Int) ≤ 0; omega, by show (0 : Int) ≤ _; omega, m0, m1⟩ i hi w
end Jou
end Go.Proofs.Ytkkbjngjjeajoaa

namespace Go.Proofs.Ytkkbjngjjeajoaa
namespace Jou
open Go.RowKit Mem Fla Rec Sec
set_option linter.unusedVariables false
set_option linter.unusedSimpArgs false
set_option maxRecDepth 100000

/-- What a law holds on to: a journal of its own, and nothing that was there is changed. -/
structure JS (w W : World) (q L p D c : Nat) (s : Fl) : Prop where
  b : Below w.heap.size w W
  j : IsJ W q L p D c s
  hp : w.heap.size ≤ p
  hD : w.heap.size ≤ D
section
variable {w W W' : World} {q L p D c : Nat} {s s' : Fl} {f : Nat} {args : Array Value} {v : Value}
theorem JS.ls (S : JS w W q L p D c s) : LS w W p D c s := ⟨S.b, S.j.fl, S.hp, S.hD⟩
theorem JS.next (S : JS w W q L p D c s) (h : Below W.heap.size W W') : JS w W' q L p D c s := ⟨S.b.trans (h.mono S.b.size), S.j.below h (Nat.le_refl _), S.hp, S.hD⟩
theorem JS.alloc (S : JS w W q L p D c s) (o : Obj) : JS w (W.alloc o) q L p D c s := S.next ((Below.refl _ _).alloc (Nat.le_refl _) o)
theorem JS.drew (S : JS w W q L p D c s) : JS w W.drew q L p D c s := S.next (Below.refl _ _).drew
theorem JS.call (S : JS w W q L p D c s) (h : Calls Try.prog f args W fun e w' => e = .returned v ∧ Below W.heap.size W w') : Calls Try.prog f args W fun e w' => e = .returned v ∧ JS w w' q L p D c s :=
  h.mono (by rintro e w' ⟨rfl, b⟩; exact ⟨rfl, S.next b⟩)
theorem JS.same (S : JS w W q L p D c s) (h : Calls Try.prog f args W fun e w' => e = .returned v ∧ W = w') : Calls Try.prog f args W fun e w' => e = .returned v ∧ JS w w' q L p D c s :=
  h.mono (by rintro e w' ⟨rfl, rfl⟩; exact ⟨rfl, S⟩)
/-- Blocks of the journal, apart from all that is below it. -/
theorem JS.jx (S : JS w W q L p D c s) {k : Nat} (h : JX q L p D k) : w.heap.size ≤ k := by
  have h1 := S.hp
  have h2 := S.hD
  have h3 := S.j.pq
  have h4 := S.j.fd.qL
  unfold JX at h
  omega
theorem JS.lay {r : Fl × Int} {e : Ending} (S : JS w W q L p D c s) (h : LayTo (JX q L p D) q L p D c W r e W') : e = .returned (.int .i64 r.2) ∧ LS w W' p D c r.1 ∧ FarS (JX q L p D) W W' ∧ (r.2 ≠ 7 → JS w W' q L p D c r.1) := by
  have hb : Below w.heap.size w W' := S.b.trans (h.far.below S.b.size fun k hk => S.jx hk)
  exact ⟨h.ret, ⟨hb, h.fl, S.hp, S.hD⟩, h.far, fun h7 => ⟨hb, h.j h7, S.hp, S.hD⟩⟩
theorem opened (S : LS w W p D c s) {e : Ending} (h : e = .returned (.tuple #[at_ W.heap.size, .int .i64 0]) ∧ IsJ W' W.heap.size (W.heap.size + 1) p D c s ∧ Below W.heap.size W W') :
    e = .returned (.tuple #[at_ W.heap.size, .int .i64 0]) ∧ JS w W' W.heap.size (W.heap.size + 1) p D c s :=
  ⟨h.1, S.b.trans (h.2.2.mono S.b.size), h.2.1, S.hp, S.hD⟩
end

theorem own_rd {W : World} {b : Nat} {t : TypeId} {A : Option Addr} {n c : Nat} {bs : List UInt8} (h : Own W b t (.slice A n c) bs) : Rd W W.heap.size A bs := by
  obtain ⟨A', c', e, r⟩ := h.form
  injection e with e1
  rw [e1]
  exact r
/-- A journal, and bytes behind it. -/
structure JB (w W : World) (q L p D c : Nat) (s : Fl) (A : Option Addr) (cc : Nat) (bs : List UInt8) : Prop where
  j : JS w W q L p D c s
  o : Own W (L + 1) E (.slice A bs.length cc) bs
section
variable {w W W' : World} {q L p D c : Nat} {s : Fl} {A : Option Addr} {cc : Nat} {bs : List UInt8} {f : Nat} {args : Array Value} {v : Value}
theorem JB.next (S : JB w W q L p D c s A cc bs) (h : Below W.heap.size W W') : JB w W' q L p D c s A cc bs := ⟨S.j.next h, S.o.below h (Nat.le_refl _)⟩
theorem JB.same (S : JB w W q L p D c s A cc bs) (h : Calls Try.prog f args W fun e w' => e = .returned v ∧ W = w') : Calls Try.prog f args W fun e w' => e = .returned v ∧ JB w w' q L p D c s A cc bs :=
  h.mono (by rintro e w' ⟨rfl, rfl⟩; exact ⟨rfl, S⟩)
theorem JB.call (S : JB w W q L p D c s A cc bs) (h : Calls Try.prog f args W fun e w' => e = .returned v ∧ Below W.heap.size W w') : Calls Try.prog f args W fun e w' => e = .returned v ∧ JB w w' q L p D c s A cc bs :=
  h.mono (by rintro e w' ⟨rfl, b⟩; exact ⟨rfl, S.next b⟩)
theorem JB.notx (S : JB w W q L p D c s A cc bs) {k : Nat} (hk : L + 1 ≤ k) : ¬ JX q L p D k := fun hx => by
  have h3 := S.j.j.pq
  have h4 := S.j.j.Dq
  have h5 := S.j.j.fd.qL
  unfold JX at hx
  omega
theorem JB.rd (S : JB w W q L p D c s A cc bs) : Rd W W.heap.size A bs := own_rd S.o
theorem JB.lay {r : Fl × Int} {e : Ending} (S : JB w W q L p D c s A cc bs) (h : LayTo (JX q L p D) q L p D c W r e W') : e = .returned (.int .i64 r.2) ∧ LS w W' p D c r.1 ∧ FarS (JX q L p D) W W' ∧ (r.2 ≠ 7 → JB w W' q L p D c r.1 A cc bs) := by
  obtain ⟨h1, h2, h3, h4⟩ := S.j.lay h
  exact ⟨h1, h2, h3, fun h7 => ⟨h4 h7, own_keep S.o fun k a b => h3.block k a (S.notx b)⟩⟩
end
/-- What stands while known answers. -/
structure KS (w W : World) (q L p D c : Nat) (s : Fl) (g : Nat) (A5 : Option Addr) (c5 : Nat) (A6 : Option Addr) (c6 : Nat) : Prop where
  j : JS w W q L p D c s
  row : W.heap[g]? = some (.cells #[.int .i64 1, .int .u32 1, .slice A5 1 c5] 39 (0, 0))
  gL : L < g
  o5 : Own W (L + 1) E (.slice A5 1 c5) [97]
  o6 : Own W (L + 1) E (.slice A6 2 c6) [87, 1]
section
variable {w W W' : World} {q L p D c : Nat} {s : Fl} {g : Nat} {A5 A6 : Option Addr} {c5 c6 : Nat}
theorem KS.next (S : KS w W q L p D c s g A5 c5 A6 c6) (h : Below W.heap.size W W') : KS w W' q L p D c s g A5 c5 A6 c6 :=
  ⟨S.j.next h, (h.block _ (Array.getElem?_eq_some_iff.1 S.row).1).trans S.row, S.gL, S.o5.below h (Nat.le_refl _), S.o6.below h (Nat.le_refl _)⟩
theorem KS.lay (S : KS w W q L p D c s g A5 c5 A6 c6) {e : Ending} (h : LayTo (JX q L p D) q L p D c W (s, 1) e W') : e = .returned (.int .i64 1) ∧ KS w W' q L p D c s g A5 c5 A6 c6 := by
  obtain ⟨h1, _, h3, h4⟩ := S.j.lay h
  have hb : ∀ k, L + 1 ≤ k → ¬ JX q L p D k := fun k hk hx => by
    have h3 := S.j.j.pq
    have h4 := S.j.j.Dq
    have h5 := S.j.j.fd.qL
    unfold JX at hx
    omega
  exact ⟨h1, h4 (by show (1 : Int) ≠ 7; decide), (h3.block _ (Array.getElem?_eq_some_iff.1 S.row).1 (hb _ S.gL)).trans S.row, S.gL, own_keep S.o5 fun k a b => h3.block k a (hb k b), own_keep S.o6 fun k a b => h3.block k a (hb k b)⟩
end
set_option maxHeartbeats 4000000 in
theorem known_any (w : World) : Calls Try.prog 9 #[] w fun e w' => e = .returned (.bool true) ∧ Below w.heap.size w w' := by
  have HN := Lib.hid (fun W => Fla.new_yes 3 9 (by omega) (by omega) (by omega) (by omega) W)
  have e0 : List.replicate (3 * 1024) (255 : UInt8) = blankN 3 := rfl
  rw [e0] at HN
  obtain ⟨a1, a2, a3, a4, a5, a6, a7⟩ := app_first 3 9 [97] (by omega) (by omega) (by omega) (by omega) (by simp)
  obtain ⟨tc, te, hte⟩ : ∃ tc te, tell (one 3 9 [97]).bs = ⟨1, 1, [97], tc, te⟩ := by
    cases h : tell (one 3 9 [97]).bs with
    | mk k n d x y =>
      rw [h] at a3 a4 a5
      simp only at a3 a4 a5
      rw [a3, a4, a5]
      exact ⟨x, y, rfl⟩
  have hap : app (Fl.new (blankN 3) 9) 1 [97] = (one 3 9 [97], 0) := by rw [← a1]; rfl
  have hops : (one 3 9 [97]).ops ≤ 1000 := app_ops (new_ok 3 9 (by omega) (by omega) (by omega) (by omega))
  have HR := read2 (d := [97]) (n := 3) a6 a7 (by omega) (by simp)
  have HB := app_bad (one 3 9 [97]) a6 (by rw [a4]; omega)
  have hnb : nsec (Fl.new (blankN 3) 9).bs = 3 := nsec_blank 3
  have htb : tell (Fl.new (blankN 3) 9).bs = Lk.zero := tell_blank 3
  have hwb : newest (Fl.new (blankN 3) 9).bs = none := newest_blank 3
  have hon0 : (Fl.new (blankN 3) 9).on = true := rfl
  have ho0 : (Fl.new (blankN 3) 9).ops = 0 := rfl
  generalize Fl.new (blankN 3) 9 = s0 at *
  generalize one 3 9 [97] = s1 at *
  clear a1 a7 e0
  have H1 := Lib.hid (fun W p D c (S : LS w W p D c s0) => (open_ok S.i hon0 (by omega)).mono (fun e w' h => opened S h))
  have H2 := Lib.hid (fun W q L p D c (S : JS w W q L p D c s0) => last_any S.j)
  rw [htb, hwb] at H2
  have H3 := Lib.hid (fun W q L p D c A cc (S : JS w W q L p D c s0) (hr : Rd W W.heap.size A [97]) => (append_any 1 A cc [97] (by omega) (by omega) S.j hr (by simp) (by omega)).mono (fun e w' h => S.lay h))
  rw [hap] at H3
  have H4 := Lib.hid (fun W q L p D c (S : JS w W q L p D c s1) => last_any S.j)
  have H5 := Lib.hid (fun W q L p D c (S : JS w W q L p D c s1) => Fla.read_any 0 2 (by omega) (by omega) (by omega) (by omega) S.j.fl)
  rw [HR] at H5
  have H6 := Lib.hid (fun W q L p D c (S : JS w W q L p D c s1) => at_any S.j)
  rw [a2] at H6 H4
  rw [hte] at H4
  simp only [Option.isSome_some, Option.isSome_none, Option.getD_some] at H2 H4 H6
  have hops : s1.ops + 2000 ≤ 4611686018427387904 := by omega
  have HB := Lib.hid HB
  clear hnb htb hwb hon0 ho0 hap HR a2 a3 a4 a5 a6 hte
  go_enter Try.func9, Try.ntmps9
  go_wp2_with fail
  refine (HN.out _).mono ?_
  intro e w1 h1
  obtain ⟨p, rfl, S⟩ := ls_new h1
  have S := Lib.hid S
  clear h1
  generalize w.heap.size = D at S
  go_wp2_with fail
  refine (H1.out _ _ _ _ S.out).mono ?_
  rintro e w2 ⟨rfl, S⟩
  have S := Lib.hid S
  generalize w1.heap.size = q at S ⊢
  go_wp2_with fail
  refine (H2.out _ _ _ _ _ _ S.out).mono ?_
  rintro e w3 ⟨v, rfl, o, b⟩
  have S := Lib.hid (S.out.next b)
  obtain ⟨A3, c3, rfl, _⟩ := o.form
  clear o b
  have cw : ∀ C n c, (convert 22 22 (.slice (some ⟨w3.heap.size + 1, 0, none⟩) n c)).run Try.prog ((w3.alloc (.cells #[.int .i64 Lk.zero.k, .int .u32 Lk.zero.n, .slice A3 Lk.zero.d.length c3] 39)).alloc (.cells C 5)) = .ok (.slice (some ⟨w3.heap.size + 1, 0, none⟩) n c) ((w3.alloc (.cells #[.int .i64 Lk.zero.k, .int .u32 Lk.zero.n, .slice A3 Lk.zero.d.length c3] 39)).alloc (.cells C 5 (C.size, C.size + 1))) := fun C n c => by
    have := Lib.run_convert_bytes_const (P := Try.prog) (w3.alloc (.cells #[.int .i64 Lk.zero.k, .int .u32 Lk.zero.n, .slice A3 Lk.zero.d.length c3] 39)) 22 5 C n c Try.underlying22 Try.underlying5
    rwa [World.size_alloc] at this
  have RD := Rd.newL (fr := (1, 2)) (cs := #[.int .u8 97]) (w3.alloc (.cells #[.int .i64 Lk.zero.k, .int .u32 Lk.zero.n, .slice A3 Lk.zero.d.length c3] 39)) 5 [97] rfl
  have SA := Lib.hid ((S.out.alloc (.cells #[.int .i64 Lk.zero.k, .int .u32 Lk.zero.n, .slice A3 Lk.zero.d.length c3] 39)).alloc (.cells #[.int .u8 97] 5 (1, 2)))
  have eA : (w3.alloc (.cells #[.int .i64 Lk.zero.k, .int .u32 Lk.zero.n, .slice A3 Lk.zero.d.length c3] 39)).heap.size = w3.heap.size + 1 := World.size_alloc _ _
  rw [eA] at RD
  clear eA
  have H3' := Lib.hid (H3.out _ _ _ _ _ _ _ 1 SA.out RD)
  clear S SA RD
  go_wp2_with fail
  refine H3'.out.mono ?_
  rintro e w4 ⟨rfl, _, _, S⟩
  have S := Lib.hid (S (by simp))
  have SL := S
  clear cw H3'
  simp only
  go_wp2_with fail
  refine (H4.out _ _ _ _ _ _ S.out).mono ?_
  rintro e w5 ⟨v, rfl, o, b⟩
  have S := Lib.hid (S.out.next b)
  obtain ⟨A5, c5, rfl, _⟩ := o.form
  have hL4 : q + 1 < w4.heap.size := SL.out.j.fd.l.lt
  have hb5 := below1 w5 (.cells #[.int .i64 1, .int .u32 1, .slice A5 1 c5] 39)
  have S := Lib.hid (S.out.next hb5)
  have O5 := Lib.hid ((o.lower (show q + 1 + 1 ≤ w4.heap.size from hL4)).below hb5 (Nat.le_refl _))
  have R5 := Lib.hid (heap_alloc_new w5 (.cells #[.int .i64 1, .int .u32 1, .slice A5 1 c5] 39))
  have hLg : q + 1 < w5.heap.size := Nat.lt_of_lt_of_le hL4 b.size
  clear o b SL
  have H5' := Lib.hid (H5.out _ _ _ _ _ _ S.out)
  go_wp2_with fail
  refine H5'.out.mono ?_
  rintro e w6 ⟨v, rfl, o, b⟩
  have hL6 := S.out.j.fd.l.lt
  obtain ⟨A6, c6, rfl, _⟩ := o.form
  have K : Hid (KS w w6 q (q + 1) p D (3 * 1024) s1 w5.heap.size A5 c5 A6 c6) := Lib.hid ⟨S.out.next b, (b.block _ (by simp)).trans R5.out, hLg, O5.out.below b (Nat.le_refl _), o.lower hL6⟩
  clear o b S O5 R5 hb5 H5' H5 H4
  generalize w5.heap.size = g at *
  have q1 := cell_of K.out.row 1
  have q2 := cell_of K.out.row 2
  have s5 := run_str (own_rd K.out.o5) 1 c5 rfl 22 5 9 Try.underlying22 Try.underlying5 Try.underlying9
  have H6' := Lib.hid (H6.out _ _ _ _ _ _ K.out.j)
  go_wp2_with fail
  refine H6'.out.mono ?_
  rintro e w7 ⟨rfl, b7⟩
  have K := Lib.hid (K.out.next b7)
  clear q1 q2 s5 b7 H6' H6
  have s6 := run_str (own_rd K.out.o6) 2 c6 rfl 22 5 9 Try.underlying22 Try.underlying5 Try.underlying9
  have H7' := Lib.hid ((append_any 3 none 0 [] (by omega) (by omega) K.out.j.j (.inl rfl) (by simp) hops).mono (fun e w' h => K.out.lay (by rw [HB.out] at h; exact h)))
  go_wp2_with fail
  refine H7'.out.mono ?_
  rintro e w8 ⟨rfl, K8⟩
  have B8 := K8.j.b
  clear K8
  go_wp2_with fail
  go_ret
  exact ⟨rfl, B8⟩
end Jou
end Go.Proofs.Ytkkbjngjjeajoaa
