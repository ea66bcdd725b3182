/-
  Proved: TxqPlays, for any room and whatever is done, one after the other: answers, and all frames in order, are as the document says.
-/
import Derived.Test.YticlncdkcfdimaaRows
import Derived.Test.YticlncdkcfdimaaFrmLift
import Derived.Test.YticlncdkcfdimaaFrmAll
import Derived.Test.YticlncdkcfdimaaTxqSpoil
import Derived.Test.YticlncdkcfdimaaTextV
import Derived.Deep.CutRange
import Derived.Deep.CutBlock
import Derived.Deep.RegionHeld3
namespace Go.Proofs.Yticlncdkcfdimaa.txqPlays
open Go.ChangeShapes Go.WideShapes Go.ChangeAt Go.RowKit Mem Frm Txq
open Go.ChangeMaps (open_string shut_string)
set_option linter.unusedVariables false
set_option linter.unusedSimpArgs false
set_option maxRecDepth 100000

theorem new4 (W : World) (x y z u : Value) (t : TypeId) : (W.alloc (.cells #[x, y, z, u] t)).cell? ⟨W.heap.size, 0, none⟩ = some x ∧ (W.alloc (.cells #[x, y, z, u] t)).cell? ⟨W.heap.size, 1, none⟩ = some y ∧ (W.alloc (.cells #[x, y, z, u] t)).cell? ⟨W.heap.size, 2, none⟩ = some z ∧ (W.alloc (.cells #[x, y, z, u] t)).cell? ⟨W.heap.size, 3, none⟩ = some u :=
  ⟨cell_of (l := [x, y, z, u]) (heap_alloc_new W _) rfl, cell_of (l := [x, y, z, u]) (heap_alloc_new W _) rfl, cell_of (l := [x, y, z, u]) (heap_alloc_new W _) rfl, cell_of (l := [x, y, z, u]) (heap_alloc_new W _) rfl⟩
theorem start {w w1 w2 : World} {p n : Nat} (b1 : Below w.heap.size w w1) (q1 : IsQ w1 p (· = p) none 0 [] n 0 false) (hp : w.heap.size ≤ p) (b2 : Below w1.heap.size w1 w2) (q2 : IsR w2 w1.heap.size (· = p) (.slice none 0 0) [] n 0 false) :
    PQ w w2 (· = p) p w1.heap.size (.slice none 0 0) ⟨[], n, 0, false⟩ ⟨[], n, 0, false⟩ :=
  ⟨b1.trans (b2.mono b1.size), ⟨none, 0, [], q1.keep b2.size (b2.block p q1.lt) (fun g hg _ => b2.block g hg) (fun g hg n => by
    rcases n with n | n | n
    · exact n
    · omega
    · simp [Value.ownBlock] at n) (.inl rfl), rfl⟩, ⟨[], q2, rfl⟩, rfl, fun g e => by subst e; exact ⟨hp, Nat.lt_of_lt_of_le q1.lt b2.size⟩, b1.size, fun g hg => by simp [Value.ownBlock] at hg⟩

/-- What one round holds in memory: the Op, the frame that is lent. -/
structure LC (b0 g cap : Nat) (o : Ov) (B : Nat) (W : World) : Prop where
  c10 : W.heap[b0]? = some (.cells #[.int .i64 o.k, .int .i64 o.f.id, .bool o.f.r, .slice o.f.A o.f.d.length o.f.c] 36)
  c11 : W.heap[b0 + 1]? = some (.cells #[.int .i64 o.f.id, .bool o.f.r, .slice (some ⟨g, 0, none⟩) o.f.d.length cap] 34)
  le : LentAt W B 5 g cap o.f.d
  ge : b0 + 1 < g
theorem LC.ch {b0 g cap B : Nat} {o : Ov} {W W' : World} (h : LC b0 g cap o B W) {x : Nat} {y : Option Nat} (c : Ch x y W W') (hx : x < b0) (hy : ∀ q, y = some q → q < b0) : LC b0 g cap o B W' := by
  have k : ∀ q, b0 ≤ q → q < W.heap.size → W'.heap[q]? = W.heap[q]? := fun q h1 h2 => c.block q h2 (by omega) (fun e => by have := hy q e; omega)
  have hg := h.le.2.2.2.2
  have hge := h.ge
  exact ⟨(k _ (Nat.le_refl _) (lt_of h.c10)).trans h.c10, (k _ (by omega) (lt_of h.c11)).trans h.c11, ⟨h.le.1.kept_block (k g (by omega) hg), h.le.2.1, h.le.2.2.1, h.le.2.2.2.1, Nat.lt_of_lt_of_le hg c.size⟩, hge⟩
theorem LC.drew {b0 g cap B : Nat} {o : Ov} {W : World} (h : LC b0 g cap o B W) : LC b0 g cap o B W.drew := ⟨h.c10, h.c11, h.le, h.ge⟩
theorem LC.six {b0 g cap B : Nat} {o : Ov} {W : World} (h : LC b0 g cap o B W) : W.cell? ⟨b0 + 1, 0, none⟩ = some (.int .i64 o.f.id) ∧ W.cell? ⟨b0 + 1, 1, none⟩ = some (.bool o.f.r) ∧ W.cell? ⟨b0 + 1, 2, none⟩ = some (.slice (some ⟨g, 0, none⟩) o.f.d.length cap) ∧
    W.cell? ⟨b0, 1, none⟩ = some (.int .i64 o.f.id) ∧ W.cell? ⟨b0, 2, none⟩ = some (.bool o.f.r) ∧ W.cell? ⟨b0, 3, none⟩ = some (.slice o.f.A o.f.d.length o.f.c) := by
  obtain ⟨a, b, c, _⟩ := cell3 h.c11
  exact ⟨a, b, c, cell_of (l := [.int .i64 o.k, .int .i64 o.f.id, .bool o.f.r, .slice o.f.A o.f.d.length o.f.c]) h.c10 rfl, cell_of (l := [.int .i64 o.k, .int .i64 o.f.id, .bool o.f.r, .slice o.f.A o.f.d.length o.f.c]) h.c10 rfl, cell_of (l := [.int .i64 o.k, .int .i64 o.f.id, .bool o.f.r, .slice o.f.A o.f.d.length o.f.c]) h.c10 rfl⟩
theorem put_lost (s : Qs) (f : Fr) : (s.put f).1.lost ≤ s.lost + 1 ∧ (s.put f).1.room = s.room := by
  unfold Qs.put
  split
  · split
    · exact ⟨Nat.le_refl _, rfl⟩
    · exact ⟨Nat.le_succ _, rfl⟩
  · exact ⟨Nat.le_succ _, rfl⟩
theorem put_vals (s : Qs) (f : Fr) : (s.put f).2 = 0 ∨ (s.put f).2 = 6 ∨ (s.put f).2 = 9 ∨ (s.put f).2 = 3 ∨ (s.put f).2 = 4 := by
  unfold Qs.put
  split
  · split
    · exact .inr (.inl rfl)
    · exact .inl rfl
  · rename_i h
    have := err_cases f.id f.r f.d.length
    simp only [Fr.err] at h ⊢
    omega
theorem take_lost (s : Qs) : s.take.1.lost = s.lost ∧ s.take.1.room = s.room := by
  unfold Qs.take
  split <;> exact ⟨rfl, rfl⟩

def VV (t : Qs) (u : Value) (W : World) : Prop := ∃ A c gs, u = .slice A (List.length gs) c ∧ gs.map Fv.fr = srt key t.l ∧ RdF W W.heap.size A gs
set_option maxHeartbeats 16000000 in
theorem walk (room : Int) (A : Option Addr) (c : Nat) (os : List Ov) (w : World)
    (hroom : -9223372036854775808 ≤ room ∧ room ≤ 9223372036854775807) (hr : RdT w w.heap.size A os) (hm : os.length ≤ maxLen) (ho : ∀ j, j < os.length → (os.getD j Ov.zero).Ok) :
    Calls Try.prog 3 #[.int .i64 room, .slice A os.length c] w fun e w' => e = .returned (.bool true) ∧ Below w.heap.size w w' := by
  unfold maxLen at hm
  have KN := Lib.hid known_any
  have LI := Lib.hid (light_any A c os w hr (by omega) ho)
  have RD := Lib.hid (fun W (b : Below w.heap.size w W) => hr.below b)
  have HO := Lib.hid ho
  clear hr ho
  by_cases hgood : 1 ≤ room ∧ room ≤ 64
  · obtain ⟨n, rfl⟩ : ∃ n : Nat, room = (n : Int) := ⟨room.toNat, by omega⟩
    have N0 := Lib.hid (new_any n (by omega) (by omega) w (· = w.heap.size) rfl)
    have R0 := Lib.hid (fun W nk => rnew_any n (by omega) (by omega) W (· = w.heap.size) nk)
    clear hgood hroom
    go_enter Try.func3, Try.ntmps3
    go_wp2_with fail
    refine LI.out.mono ?_
    rintro e w1 ⟨b, rfl, hb, rfl⟩
    have HB := Lib.hid hb
    clear hb LI
    cases b with
    | false =>
      go_wp2_with fail
      refine (KN.out _).mono ?_
      rintro e w3 ⟨rfl, b3⟩
      have B3 := Lib.hid b3
      clear b3
      go_wp2_with fail
      go_ret
      exact ⟨rfl, B3.out⟩
    | true =>
      have HD := Lib.hid (HB.out rfl)
      clear HB
      go_wp2_with fail
      refine N0.out.mono ?_
      rintro e w1 ⟨rfl, q1, b1⟩
      have Q1 := Lib.hid q1
      have B1 := Lib.hid b1
      clear q1 b1 N0
      go_wp2_with fail
      refine (R0.out _ (fun g e => e ▸ Q1.out.lt)).mono ?_
      rintro e w2 ⟨rfl, q2, b2⟩
      have P2 := Lib.hid (start B1.out Q1.out (Nat.le_refl _) b2 q2)
      clear q2 b2 R0 Q1 B1
      generalize w1.heap.size = r at *
      generalize w.heap.size = p0 at P2
      go_wp2_with fail
      go_loopw [5, 9] (fun qv iv wr => ∃ (k p : Nat) (v : Value) (s t : Qs), k ≤ os.length ∧ k ≤ 80 ∧ qv = at_ p ∧ iv = .int .i64 (k : Int) ∧ Hid (PQ w wr (· = p) p r v s t) ∧ Hid (SR s t) ∧ s.lost ≤ k) (fun qv iv _ => os.length - (intOf iv).toNat)
      case atStart => exact ⟨0, p0, _, _, _, by omega, by omega, rfl, rfl, P2, Lib.hid ⟨rfl, rfl, rfl, rfl⟩, Nat.le_refl _⟩
      case round =>
        obtain ⟨k, p, v, s, t, hk, hk8, rfl, rfl, hP, hS, hlost⟩ := hrel
        clear P2
        by_cases hlt : k < os.length
        · by_cases h80 : k < 80
          · obtain ⟨g, off, hA, hg, q0, q1, q2, q3, hrd⟩ := (RD.out _ hP.out.b).four hlt rfl
            subst hA
            have ok := HO.out k hlt
            have hd := HD.out k hlt h80
            have i0 : (0 : Int) ≤ (k : Int) := by omega
            have i1 : (k : Int) < (os.length : Int) := by omega
            have hrd := Lib.hid hrd
            have hrd0 := Lib.hid ((RD.out w (Below.refl _ _)).2 k hlt)
            have ok := Lib.hid ok
            generalize os.getD k Ov.zero = O at q0 q1 q2 q3 hrd hrd0 ok hd
            obtain ⟨x0, x1, x2, x3⟩ := new4 wr (.int .i64 O.k) (.int .i64 O.f.id) (.bool O.f.r) (.slice O.f.A O.f.d.length O.f.c) 36
            have X1 := Lib.hid (hP.out.new (.cells #[.int .i64 O.k, .int .i64 O.f.id, .bool O.f.r, .slice O.f.A O.f.d.length O.f.c] 36))
            have BN := Lib.hid ((Below.refl wr.heap.size wr).alloc (Nat.le_refl _) (.cells #[.int .i64 O.k, .int .i64 O.f.id, .bool O.f.r, .slice O.f.A O.f.d.length O.f.c] 36))
            have C10 := Lib.hid (heap_alloc_new wr (.cells #[.int .i64 O.k, .int .i64 O.f.id, .bool O.f.r, .slice O.f.A O.f.d.length O.f.c] 36))
            have S1 := Lib.hid (show (wr.alloc (.cells #[.int .i64 O.k, .int .i64 O.f.id, .bool O.f.r, .slice O.f.A O.f.d.length O.f.c] 36)).heap.size = wr.heap.size + 1 by simp)
            go_upto_block 2 with fail
            generalize wr.alloc (.cells #[.int .i64 O.k, .int .i64 O.f.id, .bool O.f.r, .slice O.f.A O.f.d.length O.f.c] 36) = W1 at *
            go_cut [5, 11, 12, 13, 14, 15, 16] from 43 to 180 (fun qv a1 a2 a3 a4 a5 a6 wx => ∃ (p : Nat) (v : Value) (s t : Qs), qv = at_ p ∧ Hid (PQ w wx (· = p) p r v s t) ∧ Hid (SR s t) ∧ s.lost ≤ k + 1)
            case first =>
              clear q0 q1 q2 q3
              have hK : O.k = 0 ∨ O.k = 1 ∨ O.k = 2 ∨ O.k = 3 ∨ (O.k ≠ 0 ∧ O.k ≠ 1 ∧ O.k ≠ 2 ∧ O.k ≠ 3) := by omega
              rcases hK with hK | hK | hK | hK | ⟨h0, h1, h2, h3⟩
              · rw [hK]
                have LE := Lib.hid (fun W (b : Below wr.heap.size wr W) => lent_any O.f.A O.f.d.length O.f.c O.f.d W ((hrd.out.below (b.mono hP.out.b.size)).mono (Nat.le_trans hP.out.b.size b.size)) rfl (by omega))
                have BF := Lib.hid (BN.out.alloc (by have := S1.out; omega) (.cells #[.int .i64 O.f.id, .bool O.f.r, .slice O.f.A O.f.d.length O.f.c] 34))
                have C11 := Lib.hid (heap_alloc_new W1 (.cells #[.int .i64 O.f.id, .bool O.f.r, .slice O.f.A O.f.d.length O.f.c] 34))
                have C10' := Lib.hid ((Below.heap_alloc W1 (.cells #[.int .i64 O.f.id, .bool O.f.r, .slice O.f.A O.f.d.length O.f.c] 34) _ (lt_of C10.out)).trans C10.out)
                have S2 := Lib.hid (show (W1.alloc (.cells #[.int .i64 O.f.id, .bool O.f.r, .slice O.f.A O.f.d.length O.f.c] 34)).heap.size = wr.heap.size + 2 by have := S1.out; simp; omega)
                have y3 := cell_of (j := 3) (l := [.int .i64 O.k, .int .i64 O.f.id, .bool O.f.r, .slice O.f.A O.f.d.length O.f.c]) C10'.out rfl
                rw [S1.out] at C11
                go_wp2_with fail
                refine (LE.out _ BF.out).mono ?_
                rintro e w3 ⟨gl, cap, rfl, le, b3⟩
                have LE3 := Lib.hid le
                have G3 := Lib.hid (show wr.heap.size + 1 < gl by have := le.2.2.2.1; have := S2.out; omega)
                have C11_3 := Lib.hid ((b3.block _ (lt_of C11.out)).trans C11.out)
                have C10_3 := Lib.hid ((b3.block _ (lt_of C10'.out)).trans C10'.out)
                have B3 := Lib.hid (BF.out.trans (b3.mono BF.out.size))
                have B4 := Lib.hid (B3.out.setCell (p := ⟨wr.heap.size + 1, 2, none⟩) (by simp) (.slice (some ⟨gl, 0, none⟩) O.f.d.length cap))
                have L4 := Lib.hid (show LC wr.heap.size gl cap O _ (w3.setCell ⟨wr.heap.size + 1, 2, none⟩ (.slice (some ⟨gl, 0, none⟩) O.f.d.length cap)) from
                  ⟨(Below.heap_setCell w3 ⟨wr.heap.size + 1, 2, none⟩ _ wr.heap.size (by simp)).trans C10_3.out, set3_2 C11_3.out _, ⟨le.1.kept_block (Below.heap_setCell w3 ⟨wr.heap.size + 1, 2, none⟩ _ gl (by have := G3.out; simp; omega)), le.2.1, le.2.2.1, le.2.2.2.1, by have := le.2.2.2.2; simpa [World.setCell] using this⟩, G3.out⟩)
                obtain ⟨u0, u1, u2, uf⟩ := cell3 C11_3.out
                have P4 := Lib.hid (hP.out.lock B4.out)
                have KG := Lib.hid (show (gl = p ∨ (wr.heap.size ≤ gl ∧ gl < (w3.setCell ⟨wr.heap.size + 1, 2, none⟩ (.slice (some ⟨gl, 0, none⟩) O.f.d.length cap)).heap.size)) ∧ gl ≠ p from by
                  have h1 := L4.out.le.2.2.2.2
                  have h2 := G3.out
                  have h3 := hP.out.q.lt
                  exact ⟨.inr ⟨by omega, h1⟩, by omega⟩)
                clear le b3 y3 x0 x1 x2 x3 C10' C11 C11_3 C10_3 BF B3 LE X1 LE3
                have s2 := B4.out.size
                generalize hw4 : w3.setCell ⟨wr.heap.size + 1, 2, none⟩ (.slice (some ⟨gl, 0, none⟩) O.f.d.length cap) = w4 at *
                have hpl := Lib.hid hP.out.q.lt
                have hrl := Lib.hid hP.out.rr.lt
                have hvl := Lib.hid (fun q (hq : v.ownBlock = some q) => hP.out.rr.vlt hq)
                have hE := (hS.out.put O.f.fr).1
                have QP := Lib.hid (fun W K v t (P : PQ w W K p r v s t) B (L : LC wr.heap.size gl cap O B W) => show Calls Try.prog 12 #[at_ p, frm O.f.id O.f.r (.slice (some ⟨gl, 0, none⟩) O.f.d.length cap)] W fun e w' => e = .returned (.int .i64 (s.put O.f.fr).2) ∧ PQ w w' K p r v (s.put O.f.fr).1 t ∧ Ch p none W w' from P.put (by omega) ⟨O.f.id, O.f.r, some ⟨gl, 0, none⟩, O.f.d, cap⟩ ⟨ok.out.f.k0, ok.out.f.k1, ok.out.f.l⟩ L.le.rd)
                have RP := Lib.hid (fun W K v s (P : PQ w W K p r v s t) => P.rput (by have := hS.out.lost; omega) O.f ok.out.f ((hrd0.out.below P.b).mono P.b.size))
                have PL := Lib.hid (put_lost s O.f.fr).1
                have SF := Lib.hid (hS.out.put O.f.fr).2
                unfold RPutP at RP
                rw [← hE] at RP
                clear hE
                generalize (s.put O.f.fr).1 = s' at *
                generalize (t.rput O.f.fr).1 = t' at *
                generalize (s.put O.f.fr).2 = E at *
                have KE := Lib.hid (fun W B (L : LC wr.heap.size gl cap O B W) (b : Below w.heap.size w W) => kept_yes O.f.A O.f.d.length O.f.c B w.heap.size gl cap O.f.d W L.le (hrd0.out.below b) rfl (by omega))
                have SIX := Lib.hid (fun W B (L : LC wr.heap.size gl cap O B W) => L.six)
                obtain ⟨m0, m1, m2, m3, m4, m5⟩ := L4.out.six
                rw [S1.out]
                go_wp2_with fail
                clear hw4
                go_region_law (first
                  | (go_simp; go_at_call 12; refine (QP.out _ _ _ _ (P4.out.next (Below.refl _ _).drew) _ L4.out.drew).mono ?_; rintro e w5 ⟨rfl, p5, ch5⟩; have P5 := Lib.hid p5; have L5 := Lib.hid (L4.out.drew.ch ch5 hpl.out (by simp)); obtain ⟨n0, n1, n2, n3, n4, n5⟩ := L5.out.six; clear p5 ch5)
                  | (go_simp; go_at_call 13; refine (RP.out _ _ _ _ P5.out).mono ?_; rintro e w6 ⟨rfl, ⟨v6, p6⟩, ch6⟩; have P6 := Lib.hid p6; have L6 := Lib.hid (L5.out.ch ch6 hrl.out hvl.out); obtain ⟨k0, k1, k2, k3, k4, k5⟩ := L6.out.six; clear p6 ch6)
                  | (go_simp; go_at_call 14; refine (KE.out _ _ L6.out P6.out.b).mono ?_; rintro e w7 ⟨rfl, rfl⟩))
                all_goals
                  clear m0 m1 m2 m3 m4 m5 n0 n1 n2 n3 n4 n5 L5 P5 QP RP KE SIX
                  have OWN6 := Lib.hid (L6.out.le.1.take (by simp) (k := O.f.d.length) (by simp))
                  have SPO := Lib.hid (spoil_any (.slice (some ⟨gl, 0, none⟩) O.f.d.length cap) _ _ w6 OWN6.out (Nat.le_trans L6.out.le.2.2.2.1 (Nat.le_of_lt L6.out.le.2.2.2.2)) (by simp; omega))
                  go_wp2_with fail
                  refine SPO.out.mono ?_
                  rintro e w7 ⟨rfl, _, g7⟩
                  have P7 := Lib.hid ((P6.out.touch (x := some gl) (fun q hq => by cases hq; exact ⟨KG.out.1, KG.out.2⟩) g7).unlock (K' := (· = p)) (fun q e => .inl e) rfl)
                  clear g7 SPO
                  go_wp2_with fail
                  go_meet
                  exact ⟨p, v6, s', t', rfl, P7, SF, by have := PL.out; omega⟩
              · rw [hK]
                have T := Lib.hid X1.out.take
                have hg1 := Lib.hid (Nat.lt_of_lt_of_le hP.out.rr.lt (Nat.le_of_lt (lt_of C10.out)))
                clear x0 x1 x2 x3
                go_wp2_with fail
                refine T.out.mono ?_
                rintro e w2 ⟨A2, c2, rfl, d2, p2, _⟩
                have P2 := Lib.hid (p2.new (.cells #[.int .i64 s.take.2.1.id, .bool s.take.2.1.r, .slice A2 s.take.2.1.d.length c2] 34))
                have RT_ := Lib.hid (P2.out.rtake hS.out)
                have D2 := Lib.hid (d2.keep (W' := w2.alloc (.cells #[.int .i64 s.take.2.1.id, .bool s.take.2.1.r, .slice A2 s.take.2.1.d.length c2] 34)) fun q hq => Below.heap_alloc w2 _ q hq.2)
                have L2 := Lib.hid (show W1.heap.size ≤ w2.heap.size from (p2.rr.lt |> fun _ => by have := ‹Ch p none W1 w2›.size; exact this))
                have B12 := Lib.hid (heap_alloc_new w2 (.cells #[.int .i64 s.take.2.1.id, .bool s.take.2.1.r, .slice A2 s.take.2.1.d.length c2] 34))
                clear d2 p2 T X1
                generalize hF : s.take.2.1 = F at *
                generalize hb : s.take.2.2 = bb at *
                go_wp2_with fail
                refine RT_.out.mono ?_
                unfold RTakeP
                rw [hF, hb]
                rintro e w3 ⟨A3, c3, v3, t3, rfl, d3, p3, s3, ch3⟩
                have hr2 : r < w2.heap.size := by have := hg1.out; have := L2.out; omega
                have B13 := Lib.hid ((ch3.block _ (lt_of B12.out) (by omega) (by simp)).trans B12.out)
                have hs3 := ch3.size
                have D3 := Lib.hid ((D2.out.keep fun q hq => ch3.block q (by simp; omega) (by have := hg1.out; omega) (by simp)).mono (G' := fun q => q < w3.heap.size) fun q hq => by simp at hs3; omega)
                have E3 := Lib.hid (d3.mono (G' := fun q => q < w3.heap.size) fun q hq => by simp at hs3 hq; omega)
                have P3 := Lib.hid (p3.new (.cells #[.int .i64 F.id, .bool F.r, .slice A3 F.d.length c3] 34))
                have BN3 := Lib.hid ((Below.refl w3.heap.size w3).alloc (Nat.le_refl _) (.cells #[.int .i64 F.id, .bool F.r, .slice A3 F.d.length c3] 34))
                obtain ⟨z0, z1, z2, _⟩ := cell3 ((Below.heap_alloc w3 (.cells #[.int .i64 F.id, .bool F.r, .slice A3 F.d.length c3] 34) _ (lt_of B13.out)).trans B13.out)
                have S3 := Lib.hid s3
                have SAME := Lib.hid (fun W (b : Below w3.heap.size w3 W) => rsame_any F.id F.r A2 c2 F.d F.id F.r A3 c3 F.d w3.heap.size w3.heap.size W (Rd.below (D3.out.rd fun q hq => hq) b) (Rd.below (E3.out.rd fun q hq => hq) b) b.size b.size)
                have hsame : same F.id F.r F.d F.id F.r F.d = true := by simp [same]
                rw [hsame] at SAME
                clear d3 p3 s3 ch3 hs3 B12 D2 RT_ P2
                go_wp2_with fail
                refine (SAME.out _ BN3.out).mono ?_
                rintro e w4 ⟨rfl, b4⟩
                have P4 := Lib.hid (P3.out.next b4)
                have hl4 := (take_lost s).1
                clear b4 z0 z1 z2
                cases bb
                all_goals
                  go_wp2_with fail
                  go_meet
                  exact ⟨p, v3, _, t3, rfl, P4, S3, by omega⟩
              · rw [hK]
                have T := Lib.hid X1.out.spilt
                have hsp := hS.out.sp
                rw [hsp] at T
                clear x0 x1 x2 x3
                go_wp2_with fail
                refine T.out.mono ?_
                rintro e w2 ⟨rfl, p2, _⟩
                have RT_ := Lib.hid p2.rspilt
                clear p2 T X1
                have S3 := Lib.hid (show SR { s with sp := false } { t with sp := false } from ⟨hS.out.l, hS.out.room, hS.out.lost, rfl⟩)
                generalize t.sp = bb at *
                go_wp2_with fail
                refine RT_.out.mono ?_
                rintro e w3 ⟨rfl, p3⟩
                have P3 := Lib.hid p3
                clear p3 RT_
                cases bb
                all_goals
                  go_wp2_with fail
                  go_meet
                  exact ⟨p, v, { s with sp := false }, { t with sp := false }, rfl, P3, S3, by show s.lost ≤ k + 1; omega⟩
              · rw [hK]
                have T := Lib.hid X1.out.clear
                clear x0 x1 x2 x3
                go_wp2_with fail
                refine T.out.mono ?_
                rintro e w2 ⟨rfl, p2⟩
                obtain ⟨c1, _, cf, A1, c1', hv⟩ := p2.rc
                have P3 := Lib.hid p2.rclear
                have S3 := Lib.hid (show SR { s with l := [] } { t with l := [] } from ⟨rfl, hS.out.room, hS.out.lost, hS.out.sp⟩)
                clear p2 T X1
                subst hv
                go_wp2_with fail
                go_meet
                exact ⟨p, _, { s with l := [] }, { t with l := [] }, rfl, P3, S3, by show s.lost ≤ k + 1; omega⟩
              · have b0 : (O.k == 0) = false := by simpa using h0
                have b1 : (O.k == 1) = false := by simpa using h1
                have b2 : (O.k == 2) = false := by simpa using h2
                have b3 : (O.k == 3) = false := by simpa using h3
                have T := Lib.hid X1.out.copy
                clear x0 x1 x2 x3 h0 h1 h2 h3
                go_wp2_with fail
                refine T.out.mono ?_
                rintro e w2 ⟨rfl, p2, cq2⟩
                have hne : W1.heap.size ≠ p := by have := X1.out.q.lt; omega
                have PU := Lib.hid (p2.put (by omega) ⟨0, false, none, [], 0⟩ (ok_fr _ (by decide) (by decide)) .nil)
                have CQ2 := Lib.hid cq2
                clear p2 cq2 T X1 b0 b1 b2 b3
                go_wp2_with fail
                refine PU.out.mono ?_
                rintro e w3 ⟨rfl, p3, ch3⟩
                have CQ3 := Lib.hid (CQ2.out.chp (.inr rfl) (.inl rfl) hne ch3)
                have TK := Lib.hid p3.take
                clear p3 ch3 PU CQ2
                go_wp2_with fail
                refine TK.out.mono ?_
                rintro e w4 ⟨A4, c4, rfl, _, p4, ch4⟩
                have CQ4 := Lib.hid (CQ3.out.chp (.inr rfl) (.inl rfl) hne ch4)
                have SP := Lib.hid p4.spilt
                clear p4 ch4 TK CQ3
                go_wp2_with fail
                refine SP.out.mono ?_
                rintro e w5 ⟨rfl, p5, ch5⟩
                have CQ5 := CQ4.out.chp (.inr rfl) (.inl rfl) hne ch5
                have P6 := Lib.hid (p5.turn CQ5 (.inr rfl))
                clear p5 ch5 SP CQ4 CQ5
                go_wp2_with fail
                go_meet
                exact ⟨W1.heap.size, v, s, t, rfl, P6, hS, by omega⟩
            obtain ⟨p', v', s', t', rfl, hQ, hS', hl'⟩ := hcut
            clear hP hS X1 BN C10 S1 x0 x1 x2 x3 q0 q1 q2 q3 hrd hrd0 ok hd
            have KLI := Lib.hid hQ.out.list
            have hlen : s'.l.length = t'.l.length := by rw [hS'.out.l, srt_length]
            have n64 : t'.l.length ≤ 64 := by have := hQ.out.rr.len; omega
            go_wp2_with fail
            refine KLI.out.mono ?_
            rintro e w1 ⟨A1, c1, fs, rfl, hfr, hrow, hlf, hb1⟩
            have B1 := Lib.hid hb1
            have P1 := Lib.hid (hQ.out.next hb1)
            have hfl : fs.length ≤ 64 := by
              have : fs.length = t'.l.length := by rw [← hlen, ← hfr]; simp
              omega
            have D8 : ∀ f ∈ fs, f.d.length ≤ 8 := fun f hf => (err_ok (hQ.out.q.ok f.fr (by rw [← hfr]; exact List.mem_map_of_mem hf))).2.2.1
            have SL1 := Lib.hid (fun W (b : Below w1.heap.size w1 W) => (⟨hb1.trans (b.mono hb1.size), row_below hrow b, rfl, hlf.below b, D8⟩ : SL wc W A1 fs.length c1 0 fs))
            have RD1 := Lib.hid (show RdF w1 w1.heap.size A1 fs from by
              obtain ⟨A', c', hv, _, _, _, h4⟩ := rdG_of (G := fun q => q < w1.heap.size) hrow (fun j hj => by
                obtain ⟨A2, c2, hv2, hr2⟩ := (hlf.own _ (getD_mem hj)).form
                cases hv2
                exact hr2) (fun q _ hq => hq)
              cases hv
              exact h4)
            have KR := Lib.hid (fun W (b : Below w1.heap.size w1 W) => (P1.out.next b).rlist)
            have KA := Lib.hid (fun W (b : Below w1.heap.size w1 W) A2 c2 gs (hg : gs.map Fv.fr = srt key t'.l) (hr2 : RdF W W.heap.size A2 gs) => all_any A1 c1 fs A2 c2 gs W ((RD1.out.below b).mono b.size) hr2 (by omega) (by rw [hfr, hg, hS'.out.l]))
            have KL := Lib.hid (fun W (b : Below w1.heap.size w1 W) => (P1.out.next b).len)
            have KO := Lib.hid (fun W (b : Below w1.heap.size w1 W) => (P1.out.next b).lost)
            have KC := Lib.hid (fun W (b : Below w1.heap.size w1 W) => (P1.out.next b).rc)
            rw [hlen] at KL
            rw [hS'.out.lost] at KO
            obtain ⟨c1', c2', cf', Av, cv, hv⟩ := KC.out w1 (Below.refl _ _)
            subst hv
            clear hfr hrow hlf hb1 KLI c1' c2' cf' D8
            go_wp2_with fail
            refine Txt.wp_region_textV 24 2 3 143 (fun W => Below w1.heap.size w1 W) (VV t') (by kernel_rfl) (by kernel_rfl) (by kernel_rfl) (by kernel_rfl) (by kernel_rfl) (fun _ _ _ _ _ h => h) (Below.refl _ _).drew ?_
            iterate 2 (
              apply Txt.stepV rfl (by decide) (by decide)
              · intro ou W hS K hK
                have HS := Lib.hid hS
                clear hS
                go_simp
                exact hK.out _ HS.out
              · exact ⟨_, rfl⟩)
            apply Txt.specV rfl rfl rfl
            · intro W hS K hK
              have HS := Lib.hid hS
              clear hS
              go_simp
              go_wp2_with (go_at_call 25; refine (KR.out _ HS.out).mono ?_; rintro e w2 ⟨A2, c2, gs, rfl, g2, r2, b2⟩)
              exact hK.out _ _ ⟨HS.out.trans (b2.mono HS.out.size), fun u hu => by cases hu; exact ⟨A2, c2, gs, rfl, g2, r2⟩⟩
            · rfl
            apply Txt.lookV (.bool true) rfl rfl (by decide)
            · intro u W hS K hK
              obtain ⟨A2, c2, gs, rfl, g2, r2⟩ := hS.2 u rfl
              have HS := Lib.hid hS
              have AL := Lib.hid (KA.out _ hS.1 A2 c2 gs g2 r2)
              clear hS
              go_simp
              go_wp2_with (go_at_call 24; refine AL.out.mono ?_; rintro e w3 ⟨rfl, b3⟩)
              exact hK.out _ ⟨HS.out.1.trans (b3.mono HS.out.1.size), fun u hu => by cases hu; exact ⟨A2, c2, gs, rfl, g2, (r2.below b3).mono b3.size⟩⟩
            · rfl
            iterate 20 (
              apply Txt.stepV rfl (by decide) (by decide)
              · intro ou W hS K hK
                have HS := Lib.hid hS
                obtain ⟨y1, y2, _⟩ := KC.out W hS.1
                clear hS
                go_simp
                first
                  | exact hK.out _ HS.out
                  | (go_wp2_with (first
                       | (go_at_call 26; refine (KL.out _ HS.out.1).mono ?_; rintro e w4 ⟨rfl, rfl⟩)
                       | (go_at_call 27; refine (KO.out _ HS.out.1).mono ?_; rintro e w4 ⟨rfl, rfl⟩))
                     exact hK.out _ HS.out)
              · first | exact ⟨_, rfl⟩ | exact ⟨undef, rfl⟩)
            refine Txt.lastV fun u w3 hS3 => ?_
            have SL3 := Lib.hid (SL1.out _ hS3)
            clear SL1 RD1 KR KA KL KO KC hS3
            go_wp2_with fail
            go_loopw [18] (fun iv w6 => ∃ (k2 : Nat) (fs2 : List Fv), k2 ≤ fs.length ∧ iv = .int .i64 (k2 : Int) ∧ Hid (SL wc w6 A1 fs.length c1 k2 fs2)) (fun iv _ => fs.length - (intOf iv).toNat)
            case atStart => exact ⟨0, fs, by omega, rfl, SL3⟩
            case round =>
                obtain ⟨k2, fs2, hk2, rfl, hSL⟩ := hrel
                clear SL3
                by_cases hlt2 : k2 < fs.length
                · obtain ⟨gr, rfl, hgr, u0, u2, uf⟩ := hSL.out.cells hlt2
                  have SPO := Lib.hid (spoil_any _ _ _ _ (hSL.out.own hlt2) hSL.out.b.size (Nat.le_trans (hSL.out.d8 _ (getD_mem (by rw [hSL.out.len]; exact hlt2))) (by omega)))
                  have NX := Lib.hid (fun w7 b g => (hSL.out.spoilt (w' := w7) hlt2 b g))
                  have j0 : (0 : Int) ≤ (k2 : Int) := by omega
                  have j1 : (k2 : Int) < (fs.length : Int) := by omega
                  generalize fs2.getD k2 Fv.zero = F at *
                  go_wp2_with fail
                  refine SPO.out.mono ?_
                  rintro e w7 ⟨rfl, b7, g7⟩
                  have SL7 := Lib.hid (NX.out w7 b7 g7)
                  obtain ⟨gr', hgr', _, u0', _, uf'⟩ := SL7.out.cells (k := k2) hlt2
                  cases hgr'
                  have SL8 := Lib.hid (SL7.out.set hlt2 rfl)
                  clear b7 g7 NX SPO u0 u2 uf
                  go_wp2_with fail
                  go_roundw
                  case rel => exact ⟨k2 + 1, _, by omega, by go_num, SL8⟩
                  case measure => simp [intOf]; omega
                · have PF := Lib.hid (hQ.out.next hSL.out.b)
                  clear hSL
                  go_wp2_with fail
                  go_roundw
                  case rel => first | exact ⟨k + 1, p', _, s', t', by omega, by omega, rfl, by go_num, PF, hS', hl'⟩ | ((repeat apply Exists.intro); exact ⟨⟨k + 1, p', _, s', t', by omega, by omega, rfl, by go_num, PF, hS', hl'⟩, rfl⟩)
                  case measure => simp [intOf]; omega
          · obtain rfl : k = 80 := by omega
            have d1 : decide (((80 : Nat) : Int) < (os.length : Int)) = true := by simp; omega
            go_wp2_with fail
            refine (KN.out _).mono ?_
            rintro e w3 ⟨rfl, b3⟩
            have Q3 := Lib.hid (hP.out.next b3)
            clear b3
            go_wp2_with fail
            go_ret
            exact ⟨rfl, Q3.out.b⟩
        · obtain rfl : k = os.length := by omega
          go_wp2_with fail
          refine (KN.out _).mono ?_
          rintro e w3 ⟨rfl, b3⟩
          have Q3 := Lib.hid (hP.out.next b3)
          clear b3
          go_wp2_with fail
          go_ret
          exact ⟨rfl, Q3.out.b⟩
  · have hbad : room < 1 ∨ 64 < room := by omega
    have N0 := Lib.hid (new_bad room hbad hroom.1 hroom.2 w)
    have R0 := Lib.hid (fun W => rnew_bad room hbad hroom.1 hroom.2 W)
    clear hgood
    go_enter Try.func3, Try.ntmps3
    go_wp2_with fail
    refine LI.out.mono ?_
    rintro e w1 ⟨b, rfl, hb, rfl⟩
    clear hb LI
    cases b with
    | false =>
      go_wp2_with fail
      refine (KN.out _).mono ?_
      rintro e w3 ⟨rfl, b3⟩
      have B3 := Lib.hid b3
      clear b3
      go_wp2_with fail
      go_ret
      exact ⟨rfl, B3.out⟩
    | true =>
      go_wp2_with fail
      refine N0.out.mono ?_
      rintro e w1 ⟨rfl, b1⟩
      have B1 := Lib.hid b1
      clear b1
      go_wp2_with fail
      refine (R0.out _).mono ?_
      rintro e w2 ⟨rfl, b2⟩
      have B2 := Lib.hid (B1.out.trans (b2.mono B1.out.size))
      clear b2
      go_wp2_with fail
      go_loopw [5, 9] (fun qv iv wr => qv = .pointer none ∧ iv = .int .i64 0 ∧ Hid (Below w.heap.size w wr)) (fun qv iv _ => 0)
      case atStart => exact ⟨rfl, rfl, B2⟩
      case round =>
        obtain ⟨rfl, rfl, hb⟩ := hrel
        go_wp2_with fail
        all_goals
          refine (KN.out _).mono ?_
          rintro e w3 ⟨rfl, b3⟩
          have Q3 := Lib.hid (hb.out.trans (b3.mono hb.out.size))
          clear b3
          go_wp2_with fail
          go_ret
          exact ⟨rfl, Q3.out⟩

theorem own : ownKnob Try.prog.godebug = none := by kernel_rfl
theorem laidOut : laidOutB Try.prog = true := by kernel_rfl

set_option maxRecDepth 100000 in
theorem lifted (os : Os) (started : os.Started) (H : Type) (enc : TypeId × Value → H) :
    ReturnsInHanded {} Try.checked os 3 .any (Rows.txqPlaysSpec.pre6 enc Try.prog Try.f3 Rows.txqPlaysRow.domain false) (Rows.txqPlaysSpec.post enc Try.prog Try.f3 false true false false) := by
  refine returnsInHanded_of_change (C := Try.checked) own started (by kernel_rfl) Try.func3
    (ChangeSpec.witness6 (enc := enc) (C := Try.checked) false ⟨#[], #[.int .i64 0, .slice none 0 0], []⟩ 8 (by kernel_rfl) (by kernel_rfl) (by kernel_rfl) (by kernel_rfl)) ?_
  intro W base args ds gs before hval0 hW hcnd _
  have hval : ∀ (j : Nat) t v, Try.f3.params[j]? = some t → args[j]? = some v → Value.okWide Try.prog W .any base t v := hval0
  have hW' := hW
  obtain ⟨p, q, hA0, hV, rfl, hfz, hnd⟩ := hW
  have hA : DataW.TrodAll enc Try.prog W 0 (fun _ => true) true Try.f3.params.toList args.toList ds p := hA0
  rw [Try.params3] at hA hval
  obtain ⟨v0, vs0, d0, ds0, p0, q0, hargs, rfl, rfl, h0, r0⟩ := trodAll_cons hA
  obtain ⟨v1, vs1, d1, ds1, p1, q1, rfl, rfl, rfl, h1, r1⟩ := trodAll_cons r0
  obtain ⟨rfl, rfl, rfl⟩ := trodAll_nil r1
  obtain rfl : args = #[v0, v1] := by cases args; simp_all
  obtain ⟨rfl, rfl⟩ := trodVars_none hV
  obtain ⟨a0, rfl, rfl, rfl, w0⟩ := open_int Try.underlying3 (hval 0 3 v0 rfl rfl) h0
  have k1 := h1
  have lt1 : ∀ x ∈ p1, x.block < W.heap.size := by obtain ⟨m, hm⟩ := k1; exact DataW.trod_lt m _ _ _ hm
  obtain ⟨A1, c1, o1, rfl, w1, l1, z1⟩ := Txq.open_ops (hval 1 22 v1 rfl rfl) h1
  clear hA0 hval0
  refine (walk a0 A1 c1 o1 W (Mem.wf_i64 w0) w1 l1 z1).mono fun e W' ⟨he, bel⟩ => ?_
  subst he
  exact ⟨_, rfl, _, _, _, [], _, [], hW', trodAll_mk1 (shut_bool Try.underlying4 _), (trodAll_cons_mk (shut_int Try.underlying3 w0) (trodAll_cons_mk (Below.trod laidOut (by kernel_rfl) (of_decide_eq_true (by kernel_rfl)) k1 bel lt1) trodAll_mk0)), rfl, bel.frame _, fun h => by cases h⟩

theorem over : Rows.txqPlaysRow.holds Try.pinned (OpenSpec.ofChange Rows.txqPlaysSpec) :=
  OpenClaim.holds_of_wide 3 Try.f3 rfl rfl rfl rfl rfl rfl rfl ⟨rfl, rfl, rfl, rfl, rfl⟩ rfl rfl rfl rfl rfl (by kernel_rfl) Try.func3 (by kernel_rfl)
    (of_decide_eq_true (by kernel_rfl)) (by unfold Func.isWrapper; first | (rw [if_pos (by decide +kernel)]; kernel_rfl) | (rw [if_neg (by decide +kernel)]; exact ⟨rfl, rfl⟩))
    (fun os started H enc _ => lifted os started H enc)

/-- The given statement. -/
theorem proved : Rows.TxqPlaysSaid := over

end Go.Proofs.Yticlncdkcfdimaa.txqPlays
