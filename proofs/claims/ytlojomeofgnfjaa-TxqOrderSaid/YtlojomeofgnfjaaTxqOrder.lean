/-
  Proved: TxqOrder, for any frames: what was put is taken, each frame once, in the order of the bus; of frames that are alike in Id and Remote the earlier one first.
-/
import Derived.Test.YtlojomeofgnfjaaRows
import Derived.Test.YtlojomeofgnfjaaFrmLift
import Derived.Test.YtlojomeofgnfjaaTxqSeek
import Derived.Test.YtlojomeofgnfjaaTxqMake
namespace Go.Proofs.Ytlojomeofgnfjaa.txqOrder
open Go.ChangeShapes Go.WideShapes Go.ChangeAt Go.RowKit Mem Frm Txq
open Go.ChangeMaps (open_string shut_string)
set_option linter.unusedVariables false
set_option linter.unusedSimpArgs false
set_option maxRecDepth 100000

theorem fr_new (W : World) (x y z : Value) : ∀ j u, ([x, y, z] : List Value)[j]? = some u → (W.alloc (.cells #[x, y, z] FT)).cell? ((⟨W.heap.size, 0, none⟩ : Addr).add j) = some u := by
  intro j u hj
  obtain ⟨c0, c1, c2, _⟩ := cell3 (heap_alloc_new W (.cells #[x, y, z] FT))
  match j, hj with
  | 0, hj => cases hj; exact c0
  | 1, hj => cases hj; exact c1
  | 2, hj => cases hj; exact c2
  | j + 3, hj => simp at hj

set_option maxHeartbeats 8000000 in
theorem walk (A : Option Addr) (c : Nat) (fs : List Fv) (w : World)
    (hr : RdF w w.heap.size A fs) (hm : fs.length ≤ maxLen) (ho : ∀ j, j < fs.length → (fs.getD j Fv.zero).Ok) :
    Calls Try.prog 3 #[.slice A fs.length c] w fun e w' => e = .returned (.bool true) ∧ Below w.heap.size w w' := by
  unfold maxLen at hm
  have N0 := Lib.hid (new_K 64 (by omega) (by omega) w w (Below.refl _ _))
  have KN := Lib.hid known_any
  have RD := Lib.hid (fun W (b : Below w.heap.size w W) => hr.below b)
  have HO := Lib.hid ho
  obtain ⟨i0, hi, hz0, hz1, hz2⟩ := info_parts info_frm
  have ek : kept fs 0 = [] := rfl
  clear hr ho
  go_enter Try.func3, Try.ntmps3
  go_wp2_with fail
  refine N0.out.mono ?_
  rintro e w1 ⟨rfl, q1⟩
  have Q1 := Lib.hid (KO.start q1)
  have LT := Lib.hid q1.q.lt
  clear q1 N0
  generalize w.heap.size = p at Q1 LT
  go_wp2_with fail
  go_loopw [5, 6] (fun v iv wr => ∃ (k : Nat) (vv : Value), vv = v ∧ k ≤ fs.length ∧ k ≤ 40 ∧ iv = .int .i64 (k : Int) ∧ Hid (KO w wr p vv (qs ((kept fs k).map Fv.fr)) (kept fs k))) (fun _ iv _ => 40 - (intOf iv).toNat)
  case atStart => exact ⟨0, _, rfl, by omega, by omega, rfl, Q1⟩
  case round =>
    obtain ⟨k, v, rfl, hk, hk40, rfl, hQ⟩ := hrel
    clear Q1
    by_cases hlt : k < fs.length ∧ k < 40
    · obtain ⟨hlt, h40⟩ := hlt
      obtain ⟨g, off, rfl, hg, q0, q1, q2, hrd⟩ := (RD.out wr hQ.out.b).three hlt rfl
      have ok := HO.out k hlt
      have kl := kept_len fs k
      have kl2 : ((kept fs k).map Fv.fr).length < 64 := by rw [List.length_map]; omega
      have j0 : (0 : Int) ≤ (k : Int) := by omega
      have j1 : (k : Int) < (fs.length : Int) := by omega
      have PUT := Lib.hid (hQ.out.put (show (0 : Nat) < 1000000 by decide) _ ok (hrd.mono hQ.out.b.size))
      have YES := Lib.hid (kept_yes hlt)
      have NO := Lib.hid (kept_no hlt)
      have hdl := ok.l
      unfold maxLen at hdl
      obtain ⟨F, hF⟩ : ∃ F, fs.getD k Fv.zero = F := ⟨_, rfl⟩
      rw [hF] at q0 q1 q2 PUT YES NO hdl ok
      have OK := Lib.hid ok
      clear hrd ok
      by_cases hbig : 1000 < F.d.length
      · have BB := Lib.hid hQ.out.b
        clear PUT YES NO
        go_wp2_with fail
        refine (KN.out _).mono ?_
        rintro e w2 ⟨rfl, b2⟩
        have B2 := Lib.hid (BB.out.trans (b2.mono BB.out.size))
        clear b2
        go_wp2_with fail
        go_ret
        exact ⟨rfl, B2.out⟩
      · have hbig' : F.d.length ≤ 1000 := by omega
        have d1 : decide (1000 < F.d.length) = false := by simp; omega
        by_cases he : F.fr.err = 0
        · have PUT' := Lib.hid (show Calls Try.prog 10 #[at_ p, frm F.id F.r (.slice F.A F.d.length F.c)] wr fun e w' => e = .returned (.int .i64 0) ∧ KO w w' p v (qs ((kept fs k).map Fv.fr ++ [F.fr])) (kept fs k) from by
            have := PUT.out
            rw [qs_yes he kl2] at this
            exact this)
          have e1 := YES.out he
          have e2 : (kept fs (k + 1)).map Fv.fr = (kept fs k).map Fv.fr ++ [F.fr] := by rw [e1]; simp
          have E1 := Lib.hid e1
          have E2 := Lib.hid e2
          have RD2 := Lib.hid (fun W (b : Below w.heap.size w W) => (RD.out W b).three hlt hF)
          clear PUT YES NO e1 e2
          generalize (kept fs k).map Fv.fr = lk at *
          go_wp2_with fail
          refine PUT'.out.mono ?_
          rintro e w2 ⟨rfl, q3⟩
          obtain ⟨g', off', hA, hg', u0, u1, u2, _⟩ := RD2.out w2 q3.b
          cases hA
          have Q3 := Lib.hid q3
          have OW := Lib.hid (q3.own)
          clear q3 q0 q1 q2 PUT' RD2
          have NW := Lib.hid (fr_new w2 (.int .i64 F.id) (.bool F.r) (.slice F.A F.d.length F.c))
          have BS := Lib.hid (Nat.le_trans Q3.out.b.size (show w2.heap.size ≤ (w2.alloc (.cells #[.int .i64 F.id, .bool F.r, .slice F.A F.d.length F.c] FT)).heap.size by simp))
          have AP := Lib.hid (fun v' w3 (o : w3.ownsRow w.heap.size FT 3 v' ((kept fs k).length + 1) (flatF (kept fs k) ++ F.vals.toList)) g h => (Q3.out.next ((Below.refl w2.heap.size w2).alloc (Nat.le_refl _) (.cells #[.int .i64 F.id, .bool F.r, .slice F.A F.d.length F.c] FT))).app (W' := w3) o g h)
          go_wp2_with (at_builtin; refine wpList_appX _ rfl (.tmp 51) (.tmp 56) 22 rfl w.heap.size 29 i0 (.agg #[.int .i64 0, .bool false, .slice none 0 0]) 3 40 Try.underlying22 hi hz0 hz1 hz2 rfl (by decide) _ _ _ rfl (OW.out.alloc _) (some ⟨w2.heap.size, 0, none⟩) 1 1 [.int .i64 F.id, .bool F.r, .slice F.A F.d.length F.c] rfl rfl (.inr ⟨_, rfl, NW.out⟩) (by intro u hu; simp at hu; rcases hu with rfl | rfl | rfl <;> rfl) (by unfold maxLen; omega) (by omega) BS.out ?_; intro v' w3 o3 g3 t3; have Q4 := Lib.hid (AP.out v' w3 o3 g3 t3); clear AP o3 g3 t3)
          go_roundw
          case rel => exact ⟨k + 1, _, rfl, by omega, by omega, by go_num, Lib.hid (by rw [E2.out, E1.out]; exact Q4.out)⟩
          case measure => simp [intOf]; omega
        · have PUT' := Lib.hid (show Calls Try.prog 10 #[at_ p, frm F.id F.r (.slice F.A F.d.length F.c)] wr fun e w' => e = .returned (.int .i64 F.fr.err) ∧ KO w w' p v (qs ((kept fs k).map Fv.fr)) (kept fs k) from by
            have := PUT.out
            rw [qs_no he] at this
            exact this)
          have E1 := Lib.hid (NO.out he)
          have he' : (F.fr.err == 0) = false := beq_eq_false_iff_ne.2 he
          clear PUT YES NO
          generalize F.fr.err = er at *
          go_wp2_with fail
          refine PUT'.out.mono ?_
          rintro e w2 ⟨rfl, q3⟩
          have Q3 := Lib.hid q3
          clear q3 q0 q1 q2 PUT'
          go_wp2_with fail
          go_roundw
          case rel => exact ⟨k + 1, _, rfl, by omega, by omega, by go_num, Lib.hid (by rw [E1.out]; exact Q3.out)⟩
          case measure => simp [intOf]; omega
    · obtain ⟨ks, hks⟩ : ∃ ks, kept fs k = ks := ⟨_, rfl⟩
      have HD := Lib.hid (show ∀ j, j < ks.length → Rd w w.heap.size (ks.getD j Fv.zero).A (ks.getD j Fv.zero).d from fun j hj => by
        obtain ⟨j', h1, h2, _⟩ := kept_mem (show ks.getD j Fv.zero ∈ kept fs k by rw [hks]; exact getD_mem hj)
        obtain ⟨_, _, _, _, _, _, _, h3⟩ := (RD.out w (.refl _ _)).three h1 h2
        exact h3)
      have hkl : ks.length ≤ 40 := by rw [← hks]; exact Nat.le_trans (kept_len fs k) hk40
      rw [hks] at hQ
      have END : k = 40 ∧ k < fs.length ∨ ¬ k < fs.length := by omega
      clear hks RD HO hlt hi hz0 hz1 hz2 ek
      obtain ⟨ib, hi, hz0, hz1, hz2⟩ := info_parts info_bool
      have hln : (ks.map Fv.fr).length = ks.length := by simp
      obtain ⟨l, hl⟩ : ∃ l, ks.map Fv.fr = l := ⟨_, rfl⟩
      rw [hl] at hQ hln
      have KS := Lib.hid (show KT w ((wr.alloc (.cells (List.replicate ks.length (.bool false)).toArray 4)).alloc (.cells #[.int .i64 0, .bool false, .slice none 0 0] FT)) p wr.heap.size (wr.heap.size + 1) v ⟨(srt key l).drop 0, 64, 0, false⟩ ks (List.replicate ks.length false) (.int .i64 0) (.bool false) (.slice none 0 0) from KT.start hQ.out (by simp) rfl)
      have SO := Lib.hid (Sofar.start l 0 false)
      rw [hln] at SO
      obtain ⟨A0, c0, rfl, RDK⟩ := KS.out.rd HD.out
      have HL := Lib.hid hl
      clear hQ hl
      rcases END with ⟨rfl, END⟩ | END
      · have d1 : decide (((40 : Nat) : Int) < (fs.length : Int)) = true := by simp; omega
        go_wp2_with (with_reducible refine wpList_makeZ _ rfl (.tmp 59) (.tmp 59) 32 rfl 4 ib (.bool false) Try.underlying32 hi hz0 hz1 rfl .i64 .i64 ks.length rfl rfl (by rw [hz2]; omega) (by unfold maxLen; omega) ?_)
        generalize hU : wr.heap.size = U at *
        go_loopw [9, 10] (fun pl iv w4 => ∃ (i : Nat) (us : List Bool) (id pn : Int) (r : Bool) (A : Option Addr) (n c : Nat), i ≤ ks.length ∧ pl = .int .i64 pn ∧ iv = .int .i64 (i : Int) ∧ Hid (KT w w4 p U (U + 1) (.slice A0 ks.length c0) ⟨(srt key l).drop i, 64, 0, false⟩ ks us (.int .i64 id) (.bool r) (.slice A n c)) ∧ Hid (Sofar l i us pn id r)) (fun _ iv _ => ks.length - (intOf iv).toNat)
        case atStart => exact ⟨0, _, 0, -1, false, none, 0, 0, by omega, rfl, rfl, KS, SO⟩
        case round =>
          obtain ⟨i, us, id, pn, r, A1, n1, c1, hi', rfl, rfl, hK, hS⟩ := hrel
          clear KS SO
          by_cases hlt : i < ks.length
          · obtain ⟨y, NX⟩ := hS.out.next (by omega)
            have TK := Lib.hid (show Calls Try.prog 11 #[at_ p] wr fun e w' => ∃ A c, e = .returned (.tuple #[frm y.1.id y.1.r (.slice A y.1.d.length c), .bool true]) ∧ Rd w' w'.heap.size A y.1.d ∧ KT w w' p U (U + 1) (.slice A0 ks.length c0) ⟨(srt key l).drop (i + 1), 64, 0, false⟩ ks us (.int .i64 id) (.bool r) (.slice A1 n1 c1) from by
              have := hK.out.take
              unfold TakeT Qs.take at this
              simp only [NX.drop] at this
              exact this)
            have HN := Lib.hid NX
            obtain ⟨f, hf⟩ : ∃ f, y.1 = f := ⟨_, rfl⟩
            rw [hf] at TK
            clear NX hK
            go_wp2_with fail
            refine TK.out.mono ?_
            rintro e w5 ⟨A2, c2, rfl, r2, k5⟩
            have O6 := Lib.hid (show (w5.alloc (.cells #[.int .i64 f.id, .bool f.r, .slice A2 f.d.length c2] FT)).heap[w5.heap.size]? = some (.cells #[.int .i64 f.id, .bool f.r, .slice A2 f.d.length c2] FT) from heap_alloc_new w5 _)
            have b6 : Below w5.heap.size w5 (w5.alloc (.cells #[.int .i64 f.id, .bool f.r, .slice A2 f.d.length c2] FT)) := (Below.refl _ _).alloc (Nat.le_refl _) _
            have K6 := Lib.hid (k5.next b6)
            have R6 := Lib.hid ((r2.below b6).mono b6.size)
            have NE := Lib.hid (show w5.heap.size ≠ U ∧ w5.heap.size ≠ U + 1 from ⟨fun e => by have := k5.lt U (.inr (.inr (.inl rfl))); omega, fun e => by have := k5.lt (U + 1) (.inr (.inr (.inr rfl))); omega⟩)
            clear k5 r2 TK b6
            go_wp2_with fail
            obtain ⟨w6, hw6⟩ : ∃ w6, w5.alloc (.cells #[.int .i64 f.id, .bool f.r, .slice A2 f.d.length c2] FT) = w6 := ⟨_, rfl⟩
            rw [hw6] at O6 K6 R6
            have HW6 := Lib.hid hw6
            unfold FT at hw6
            rw [hw6]
            clear hw6
            generalize w5.heap.size = F at *
            go_loopw [13] (fun kv w7 => ∃ j : Nat, j ≤ ks.length ∧ kv = .int .i64 (j : Int) ∧ Hid (Below w6.heap.size w6 w7) ∧ Hid (Seek l us f j)) (fun kv _ => ks.length - (intOf kv).toNat)
            case atStart => exact ⟨0, by omega, rfl, Lib.hid (.refl _ _), Lib.hid (fun j hj => by omega)⟩
            case round =>
              obtain ⟨j, hj, rfl, hB, hQ⟩ := hrel
              by_cases hjl : j < ks.length
              · have hju : j < us.length := by rw [hS.out.len, hln]; exact hjl
                have GET := Lib.hid (show l[j]? = some (ks.getD j Fv.zero).fr by rw [← HL.out, List.getElem?_map, List.getElem?_eq_getElem hjl]; simp [List.getD_eq_getElem?_getD, hjl])
                have CELLS := Lib.hid (fun W (b : Below wr.heap.size wr W) => show W.cell? ⟨U, j, none⟩ = some (.bool (us.getD j false)) ∧ RdF W W.heap.size A0 ks ∧ Rd W W.heap.size A2 f.d ∧ W.heap[F]? = some (.cells #[.int .i64 f.id, .bool f.r, .slice A2 f.d.length c2] FT) from by
                  have bb : Below w6.heap.size w6 W := hB.out.trans (b.mono hB.out.size)
                  have k7 := K6.out.next bb
                  obtain ⟨A', c', e, rr⟩ := k7.rd HD.out
                  cases e
                  exact ⟨k7.uc hju, rr, (R6.out.below bb).mono bb.size, (bb.block F (lt_of O6.out)).trans O6.out⟩)
                obtain ⟨g, off, hA0, _⟩ := (CELLS.out wr (.refl _ _)).2.1.three hjl rfl
                subst hA0
                have j0 : (0 : Int) ≤ (j : Int) := by omega
                have j1 : (j : Int) < (ks.length : Int) := by omega
                have SEEK := Lib.hid (show us.getD j false = true ∨ (ks.getD j Fv.zero).fr ≠ f → Seek l us f (j + 1) from fun h q hq => by
                  by_cases e : q = j
                  · subst e
                    rcases h with h | h
                    · exact .inl h
                    · refine .inr fun e2 => h ?_
                      rw [GET.out] at e2
                      exact Option.some.inj e2
                  · exact hQ.out q (by omega))
                cases hu : us.getD j false with
                | true =>
                  have T := Lib.hid (SEEK.out (.inl hu))
                  rw [hu] at CELLS
                  clear SEEK GET
                  go_wp2_with fail
                  refine Txt.wp_region_textN 19 (fun W => Below wr.heap.size wr W) (by kernel_rfl) (by kernel_rfl) (by kernel_rfl) (by kernel_rfl) (fun _ _ _ _ _ h => h) (Below.refl _ _).drew ?_
                  repeat (
                    apply Txt.step rfl
                    · intro W hS K hK
                      obtain ⟨x0, x1, x2, x3⟩ := CELLS.out W hS
                      obtain ⟨y0, y1, y2, _⟩ := cell3 x3
                      have HS := Lib.hid hS
                      clear hS x1 x2 x3
                      go_simp
                      exact hK.out _ HS.out
                    · first | exact ⟨_, rfl⟩ | exact ⟨undef, rfl⟩)
                  refine Txt.last fun W hS => ?_
                  have B4 := Lib.hid (hB.out.trans (hS.mono hB.out.size))
                  clear hS CELLS hB
                  go_wp2_with fail
                  go_roundw
                  case rel => exact ⟨j + 1, by omega, by go_num, B4, T⟩
                  case measure => simp [intOf]; omega
                | false =>
                  have SM := Lib.hid (same_fr (ks.getD j Fv.zero) f)
                  have SAME := Lib.hid (fun W (b : Below wr.heap.size wr W) => rsame_any (ks.getD j Fv.zero).id (ks.getD j Fv.zero).r (ks.getD j Fv.zero).A (ks.getD j Fv.zero).c (ks.getD j Fv.zero).d f.id f.r A2 c2 f.d W.heap.size W.heap.size W (by
                    obtain ⟨_, _, _, _, _, _, _, h⟩ := (CELLS.out W b).2.1.three hjl rfl
                    exact h) (CELLS.out W b).2.2.1 (Nat.le_refl _) (Nat.le_refl _))
                  have FND := Lib.hid (show same (ks.getD j Fv.zero).id (ks.getD j Fv.zero).r (ks.getD j Fv.zero).d f.id f.r f.d = true → j = y.2 from fun h => HN.out.found (by rw [hf]; exact hQ.out) hu (by rw [GET.out, SM.out.1 h, hf]))
                  have SK := Lib.hid (show same (ks.getD j Fv.zero).id (ks.getD j Fv.zero).r (ks.getD j Fv.zero).d f.id f.r f.d = false → Seek l us f (j + 1) from fun h => SEEK.out (.inr fun e => by rw [SM.out.2 e] at h; cases h))
                  have RDS := Lib.hid (fun W (b : Below wr.heap.size wr W) => show W.cell? ⟨g, off + j * 3, none⟩ = some (.int .i64 (ks.getD j Fv.zero).id) ∧ W.cell? ⟨g, off + j * 3 + 1, none⟩ = some (.bool (ks.getD j Fv.zero).r) ∧ W.cell? ⟨g, off + j * 3 + 2, none⟩ = some (.slice (ks.getD j Fv.zero).A (ks.getD j Fv.zero).d.length (ks.getD j Fv.zero).c) from by
                    obtain ⟨g2, o2, e2, _, z0, z1, z2, _⟩ := (CELLS.out W b).2.1.three hjl rfl
                    cases e2
                    exact ⟨z0, z1, z2⟩)
                  rw [hu] at CELLS
                  clear SEEK GET SM
                  generalize ks.getD j Fv.zero = G at *
                  go_wp2_with fail
                  refine Txt.wp_region_textN 19 (fun W => Below wr.heap.size wr W) (by kernel_rfl) (by kernel_rfl) (by kernel_rfl) (by kernel_rfl) (fun _ _ _ _ _ h => h) (Below.refl _ _).drew ?_
                  iterate 15 (
                    apply Txt.step rfl
                    · intro W hS K hK
                      obtain ⟨x0, x1, x2, x3⟩ := CELLS.out W hS
                      obtain ⟨z0, z1, z2⟩ := RDS.out W hS
                      obtain ⟨y0, y1, y2, _⟩ := cell3 x3
                      have HS := Lib.hid hS
                      clear hS x1 x2 x3
                      go_simp
                      exact hK.out _ HS.out
                    · first | exact ⟨_, rfl⟩ | exact ⟨undef, rfl⟩)
                  apply Txt.step rfl
                  · intro W hS K hK
                    obtain ⟨x0, x1, x2, x3⟩ := CELLS.out W hS
                    obtain ⟨z0, z1, z2⟩ := RDS.out W hS
                    obtain ⟨y0, y1, y2, _⟩ := cell3 x3
                    have HS := Lib.hid hS
                    clear hS x1 x2 x3
                    go_simp
                    go_wp2_with (go_at_call 12; refine (SAME.out W HS.out).mono ?_; rintro e w' ⟨rfl, b⟩; have T := Lib.hid (HS.out.trans (b.mono HS.out.size)); clear b)
                    exact hK.out _ T.out
                  · exact ⟨_, rfl⟩
                  iterate 3 (
                    apply Txt.step rfl
                    · intro W hS K hK
                      obtain ⟨x0, x1, x2, x3⟩ := CELLS.out W hS
                      obtain ⟨z0, z1, z2⟩ := RDS.out W hS
                      obtain ⟨y0, y1, y2, _⟩ := cell3 x3
                      have HS := Lib.hid hS
                      clear hS x1 x2 x3
                      go_simp
                      exact hK.out _ HS.out
                    · first | exact ⟨_, rfl⟩ | exact ⟨undef, rfl⟩)
                  refine Txt.last fun W hS7 => ?_
                  have B4 := Lib.hid (hB.out.trans (hS7.mono hB.out.size))
                  clear hS7 CELLS RDS SAME hB
                  cases hsm : same G.id G.r G.d f.id f.r f.d with
                  | false =>
                    have T := Lib.hid (SK.out hsm)
                    clear SK FND
                    go_wp2_with fail
                    go_roundw
                    case rel => exact ⟨j + 1, by omega, by go_num, B4, T⟩
                    case measure => simp [intOf]; omega
                  | true =>
                    have jy := FND.out hsm
                    clear SK FND
                    have dj : ((j : Int) == (ks.length : Int)) = false := beq_eq_false_iff_ne.2 (by omega)
                    have SO2 := Lib.hid (hS.out.step HN.out)
                    rw [← jy, hf] at SO2
                    have JY := Lib.hid jy
                    clear jy
                    have TF := Lib.hid (fun W (b : Below w6.heap.size w6 W) => show (W.cell? ⟨F, 0, none⟩ = some (.int .i64 f.id) ∧ W.cell? ⟨F, 1, none⟩ = some (.bool f.r) ∧ W.cell? ⟨F, 2, none⟩ = some (.slice A2 f.d.length c2)) ∧ (W.cell? ⟨U + 1, 0, none⟩ = some (.int .i64 id) ∧ W.cell? ⟨U + 1, 1, none⟩ = some (.bool r) ∧ W.cell? ⟨U + 1, 2, none⟩ = some (.slice A1 n1 c1)) ∧
                        (W.cell? ⟨U, j, none⟩ = some (.bool (us.getD j false)) ∧ W.frozen? ⟨U, j, none⟩ = false) ∧
                        ((W.setCell ⟨U, j, none⟩ (.bool true)).cell? ⟨F, 0, none⟩ = some (.int .i64 f.id) ∧ (W.setCell ⟨U, j, none⟩ (.bool true)).cell? ⟨F, 1, none⟩ = some (.bool f.r) ∧ (W.setCell ⟨U, j, none⟩ (.bool true)).cell? ⟨F, 2, none⟩ = some (.slice A2 f.d.length c2)) ∧
                        ((W.setCell ⟨U, j, none⟩ (.bool true)).cell? ⟨U + 1, 0, none⟩ = some (.int .i64 id) ∧ (W.setCell ⟨U, j, none⟩ (.bool true)).cell? ⟨U + 1, 1, none⟩ = some (.bool r) ∧ (W.setCell ⟨U, j, none⟩ (.bool true)).cell? ⟨U + 1, 2, none⟩ = some (.slice A1 n1 c1) ∧ ∀ q, (W.setCell ⟨U, j, none⟩ (.bool true)).frozen? ⟨U + 1, q, none⟩ = false) ∧
                        KT w ((((W.setCell ⟨U, j, none⟩ (.bool true)).setCell ⟨U + 1, 0, none⟩ (.int .i64 f.id)).setCell ⟨U + 1, 1, none⟩ (.bool f.r)).setCell ⟨U + 1, 2, none⟩ (.slice A2 f.d.length c2)) p U (U + 1) (.slice (some ⟨g, off, none⟩) ks.length c0) ⟨(srt key l).drop (i + 1), 64, 0, false⟩ ks (us.set j true) (.int .i64 f.id) (.bool f.r) (.slice A2 f.d.length c2) from by
                      have k7 := K6.out.next b
                      have o7 := (b.block F (lt_of O6.out)).trans O6.out
                      have o8 : (W.setCell ⟨U, j, none⟩ (.bool true)).heap[F]? = some (.cells #[.int .i64 f.id, .bool f.r, .slice A2 f.d.length c2] FT) := (Below.heap_setCell W ⟨U, j, none⟩ _ F NE.out.1).trans o7
                      obtain ⟨a0, a1, a2, _⟩ := cell3 o7
                      obtain ⟨b0, b1, b2, _⟩ := cell3 k7.last
                      obtain ⟨c0, c1, c2, _⟩ := cell3 o8
                      obtain ⟨d0, d1, d2, d3⟩ := cell3 (k7.mark j).last
                      exact ⟨⟨a0, a1, a2⟩, ⟨b0, b1, b2⟩, ⟨k7.uc hju, k7.uf j⟩, ⟨c0, c1, c2⟩, ⟨d0, d1, d2, d3⟩, (k7.mark j).put3 _ _ _⟩)
                    clear K6 O6 R6 NE hQ
                    obtain rfl | ⟨m, rfl⟩ : i = 0 ∨ ∃ m, i = m + 1 := by cases i with | zero => exact .inl rfl | succ m => exact .inr ⟨m, rfl⟩
                    · obtain ⟨⟨a0, a1, a2⟩, ⟨b0, b1, b2⟩, ⟨u0, u1⟩, ⟨s0, s1, s2⟩, ⟨t0, t1, t2, t3⟩, kt⟩ := TF.out W B4.out
                      have t4 := t3 0
                      have t5 := t3 1
                      have t6 := t3 2
                      have KTF := Lib.hid kt
                      clear TF kt t3 HN
                      go_wp2_with fail
                      go_round
                      case rel => exact ⟨1, us.set j true, f.id, j, f.r, A2, f.d.length, c2, by omega, rfl, by first | rfl | go_num, KTF, SO2⟩
                      case measure => simp [intOf]; omega
                    · have ORD := Lib.hid (Next.order hS.out HN.out)
                      rw [hf] at ORD
                      have hm0 : decide ((0 : Int) < ((m + 1 : Nat) : Int)) = true := by first | (simp; done) | (simp; omega)
                      have BF := Lib.hid (fun W => rbefore_any f.id f.r A2 f.d.length c2 id r A1 n1 c1 W)
                      rw [ORD.out.1] at BF
                      obtain ⟨⟨a0, a1, a2⟩, ⟨b0, b1, b2⟩, _⟩ := TF.out W B4.out
                      go_wp2_with fail
                      refine (BF.out W).mono ?_
                      rintro e W8 ⟨rfl, b8⟩
                      have B8 := Lib.hid (B4.out.trans (b8.mono B4.out.size))
                      clear b8 a0 a1 a2 b0 b1 b2 BF
                      obtain ⟨⟨a0, a1, a2⟩, ⟨b0, b1, b2⟩, ⟨u0, u1⟩, ⟨s0, s1, s2⟩, ⟨t0, t1, t2, t3⟩, kt⟩ := TF.out W8 B8.out
                      have t4 := t3 0
                      have t5 := t3 1
                      have t6 := t3 2
                      have KTF := Lib.hid kt
                      clear TF kt t3 HN
                      by_cases e1 : f.id = id
                      · by_cases e2 : f.r = r
                        · have h3 : ¬ (j : Int) < pn := by have := ORD.out.2 e1 e2; have := JY.out; omega
                          have h4 : decide ((j : Int) < pn) = false := decide_eq_false h3
                          have e1' : (f.id == id) = true := by simp [e1]
                          have e2' : (f.r == r) = true := by simp [e2]
                          clear ORD e1 e2
                          go_wp2_with fail
                          go_round
                          case rel => exact ⟨m + 1 + 1, us.set j true, f.id, j, f.r, A2, f.d.length, c2, by omega, rfl, by first | rfl | go_num, KTF, SO2⟩
                          case measure => simp [intOf]; omega
                        · have e1' : (f.id == id) = true := by simp [e1]
                          have e2' : (f.r == r) = false := by simp [e2]
                          clear ORD e1 e2
                          go_wp2_with fail
                          go_round
                          case rel => exact ⟨m + 1 + 1, us.set j true, f.id, j, f.r, A2, f.d.length, c2, by omega, rfl, by first | rfl | go_num, KTF, SO2⟩
                          case measure => simp [intOf]; omega
                      · have e1' : (f.id == id) = false := by simp [e1]
                        clear ORD e1
                        go_wp2_with fail
                        go_round
                        case rel => exact ⟨m + 1 + 1, us.set j true, f.id, j, f.r, A2, f.d.length, c2, by omega, rfl, by first | rfl | go_num, KTF, SO2⟩
                        case measure => simp [intOf]; omega
              · exfalso
                have h1 := HN.out.in_ (k := j) (by rw [hf]; exact hQ.out)
                have h2 := (List.getElem?_eq_some_iff.1 HN.out.mem).1
                omega
          · obtain rfl : i = ks.length := by omega
            have e0 : (srt key l).drop ks.length = [] := List.drop_eq_nil_of_le (by rw [srt_length]; omega)
            have TK := Lib.hid (show Calls Try.prog 11 #[at_ p] wr fun e w' => ∃ A c, e = .returned (.tuple #[frm 0 false (.slice A 0 c), .bool false]) ∧ KT w w' p U (U + 1) (.slice A0 ks.length c0) ⟨[], 64, 0, false⟩ ks us (.int .i64 id) (.bool r) (.slice A1 n1 c1) from by
              have := hK.out.take
              rw [e0] at this
              exact this.mono fun e w' ⟨A, c, h1, _, h3⟩ => ⟨A, c, h1, h3⟩)
            clear hK hS
            go_wp2_with fail
            refine TK.out.mono ?_
            rintro e w5 ⟨A2, c2, rfl, k5⟩
            have K6 := Lib.hid (fun o => (k5.next (W' := w5.alloc o) ((Below.refl _ _).alloc (Nat.le_refl _) o)))
            clear k5 TK
            go_wp2_with fail
            refine (K6.out _).len.mono ?_
            rintro e w6 ⟨rfl, rfl⟩
            go_wp2_with fail
            refine (KN.out _).mono ?_
            rintro e w7 ⟨rfl, b7⟩
            have B7 := Lib.hid ((K6.out _).b.trans (b7.mono (K6.out _).b.size))
            clear b7 K6
            go_wp2_with fail
            go_ret
            exact ⟨rfl, B7.out⟩
      · have d1 : decide ((k : Int) < (fs.length : Int)) = false := by simp; omega
        go_wp2_with (with_reducible refine wpList_makeZ _ rfl (.tmp 59) (.tmp 59) 32 rfl 4 ib (.bool false) Try.underlying32 hi hz0 hz1 rfl .i64 .i64 ks.length rfl rfl (by rw [hz2]; omega) (by unfold maxLen; omega) ?_)
        generalize hU : wr.heap.size = U at *
        go_loopw [9, 10] (fun pl iv w4 => ∃ (i : Nat) (us : List Bool) (id pn : Int) (r : Bool) (A : Option Addr) (n c : Nat), i ≤ ks.length ∧ pl = .int .i64 pn ∧ iv = .int .i64 (i : Int) ∧ Hid (KT w w4 p U (U + 1) (.slice A0 ks.length c0) ⟨(srt key l).drop i, 64, 0, false⟩ ks us (.int .i64 id) (.bool r) (.slice A n c)) ∧ Hid (Sofar l i us pn id r)) (fun _ iv _ => ks.length - (intOf iv).toNat)
        case atStart => exact ⟨0, _, 0, -1, false, none, 0, 0, by omega, rfl, rfl, KS, SO⟩
        case round =>
          obtain ⟨i, us, id, pn, r, A1, n1, c1, hi', rfl, rfl, hK, hS⟩ := hrel
          clear KS SO
          by_cases hlt : i < ks.length
          · obtain ⟨y, NX⟩ := hS.out.next (by omega)
            have TK := Lib.hid (show Calls Try.prog 11 #[at_ p] wr fun e w' => ∃ A c, e = .returned (.tuple #[frm y.1.id y.1.r (.slice A y.1.d.length c), .bool true]) ∧ Rd w' w'.heap.size A y.1.d ∧ KT w w' p U (U + 1) (.slice A0 ks.length c0) ⟨(srt key l).drop (i + 1), 64, 0, false⟩ ks us (.int .i64 id) (.bool r) (.slice A1 n1 c1) from by
              have := hK.out.take
              unfold TakeT Qs.take at this
              simp only [NX.drop] at this
              exact this)
            have HN := Lib.hid NX
            obtain ⟨f, hf⟩ : ∃ f, y.1 = f := ⟨_, rfl⟩
            rw [hf] at TK
            clear NX hK
            go_wp2_with fail
            refine TK.out.mono ?_
            rintro e w5 ⟨A2, c2, rfl, r2, k5⟩
            have O6 := Lib.hid (show (w5.alloc (.cells #[.int .i64 f.id, .bool f.r, .slice A2 f.d.length c2] FT)).heap[w5.heap.size]? = some (.cells #[.int .i64 f.id, .bool f.r, .slice A2 f.d.length c2] FT) from heap_alloc_new w5 _)
            have b6 : Below w5.heap.size w5 (w5.alloc (.cells #[.int .i64 f.id, .bool f.r, .slice A2 f.d.length c2] FT)) := (Below.refl _ _).alloc (Nat.le_refl _) _
            have K6 := Lib.hid (k5.next b6)
            have R6 := Lib.hid ((r2.below b6).mono b6.size)
            have NE := Lib.hid (show w5.heap.size ≠ U ∧ w5.heap.size ≠ U + 1 from ⟨fun e => by have := k5.lt U (.inr (.inr (.inl rfl))); omega, fun e => by have := k5.lt (U + 1) (.inr (.inr (.inr rfl))); omega⟩)
            clear k5 r2 TK b6
            go_wp2_with fail
            obtain ⟨w6, hw6⟩ : ∃ w6, w5.alloc (.cells #[.int .i64 f.id, .bool f.r, .slice A2 f.d.length c2] FT) = w6 := ⟨_, rfl⟩
            rw [hw6] at O6 K6 R6
            have HW6 := Lib.hid hw6
            unfold FT at hw6
            rw [hw6]
            clear hw6
            generalize w5.heap.size = F at *
            go_loopw [13] (fun kv w7 => ∃ j : Nat, j ≤ ks.length ∧ kv = .int .i64 (j : Int) ∧ Hid (Below w6.heap.size w6 w7) ∧ Hid (Seek l us f j)) (fun kv _ => ks.length - (intOf kv).toNat)
            case atStart => exact ⟨0, by omega, rfl, Lib.hid (.refl _ _), Lib.hid (fun j hj => by omega)⟩
            case round =>
              obtain ⟨j, hj, rfl, hB, hQ⟩ := hrel
              by_cases hjl : j < ks.length
              · have hju : j < us.length := by rw [hS.out.len, hln]; exact hjl
                have GET := Lib.hid (show l[j]? = some (ks.getD j Fv.zero).fr by rw [← HL.out, List.getElem?_map, List.getElem?_eq_getElem hjl]; simp [List.getD_eq_getElem?_getD, hjl])
                have CELLS := Lib.hid (fun W (b : Below wr.heap.size wr W) => show W.cell? ⟨U, j, none⟩ = some (.bool (us.getD j false)) ∧ RdF W W.heap.size A0 ks ∧ Rd W W.heap.size A2 f.d ∧ W.heap[F]? = some (.cells #[.int .i64 f.id, .bool f.r, .slice A2 f.d.length c2] FT) from by
                  have bb : Below w6.heap.size w6 W := hB.out.trans (b.mono hB.out.size)
                  have k7 := K6.out.next bb
                  obtain ⟨A', c', e, rr⟩ := k7.rd HD.out
                  cases e
                  exact ⟨k7.uc hju, rr, (R6.out.below bb).mono bb.size, (bb.block F (lt_of O6.out)).trans O6.out⟩)
                obtain ⟨g, off, hA0, _⟩ := (CELLS.out wr (.refl _ _)).2.1.three hjl rfl
                subst hA0
                have j0 : (0 : Int) ≤ (j : Int) := by omega
                have j1 : (j : Int) < (ks.length : Int) := by omega
                have SEEK := Lib.hid (show us.getD j false = true ∨ (ks.getD j Fv.zero).fr ≠ f → Seek l us f (j + 1) from fun h q hq => by
                  by_cases e : q = j
                  · subst e
                    rcases h with h | h
                    · exact .inl h
                    · refine .inr fun e2 => h ?_
                      rw [GET.out] at e2
                      exact Option.some.inj e2
                  · exact hQ.out q (by omega))
                cases hu : us.getD j false with
                | true =>
                  have T := Lib.hid (SEEK.out (.inl hu))
                  rw [hu] at CELLS
                  clear SEEK GET
                  go_wp2_with fail
                  refine Txt.wp_region_textN 19 (fun W => Below wr.heap.size wr W) (by kernel_rfl) (by kernel_rfl) (by kernel_rfl) (by kernel_rfl) (fun _ _ _ _ _ h => h) (Below.refl _ _).drew ?_
                  repeat (
                    apply Txt.step rfl
                    · intro W hS K hK
                      obtain ⟨x0, x1, x2, x3⟩ := CELLS.out W hS
                      obtain ⟨y0, y1, y2, _⟩ := cell3 x3
                      have HS := Lib.hid hS
                      clear hS x1 x2 x3
                      go_simp
                      exact hK.out _ HS.out
                    · first | exact ⟨_, rfl⟩ | exact ⟨undef, rfl⟩)
                  refine Txt.last fun W hS => ?_
                  have B4 := Lib.hid (hB.out.trans (hS.mono hB.out.size))
                  clear hS CELLS hB
                  go_wp2_with fail
                  go_roundw
                  case rel => exact ⟨j + 1, by omega, by go_num, B4, T⟩
                  case measure => simp [intOf]; omega
                | false =>
                  have SM := Lib.hid (same_fr (ks.getD j Fv.zero) f)
                  have SAME := Lib.hid (fun W (b : Below wr.heap.size wr W) => rsame_any (ks.getD j Fv.zero).id (ks.getD j Fv.zero).r (ks.getD j Fv.zero).A (ks.getD j Fv.zero).c (ks.getD j Fv.zero).d f.id f.r A2 c2 f.d W.heap.size W.heap.size W (by
                    obtain ⟨_, _, _, _, _, _, _, h⟩ := (CELLS.out W b).2.1.three hjl rfl
                    exact h) (CELLS.out W b).2.2.1 (Nat.le_refl _) (Nat.le_refl _))
                  have FND := Lib.hid (show same (ks.getD j Fv.zero).id (ks.getD j Fv.zero).r (ks.getD j Fv.zero).d f.id f.r f.d = true → j = y.2 from fun h => HN.out.found (by rw [hf]; exact hQ.out) hu (by rw [GET.out, SM.out.1 h, hf]))
                  have SK := Lib.hid (show same (ks.getD j Fv.zero).id (ks.getD j Fv.zero).r (ks.getD j Fv.zero).d f.id f.r f.d = false → Seek l us f (j + 1) from fun h => SEEK.out (.inr fun e => by rw [SM.out.2 e] at h; cases h))
                  have RDS := Lib.hid (fun W (b : Below wr.heap.size wr W) => show W.cell? ⟨g, off + j * 3, none⟩ = some (.int .i64 (ks.getD j Fv.zero).id) ∧ W.cell? ⟨g, off + j * 3 + 1, none⟩ = some (.bool (ks.getD j Fv.zero).r) ∧ W.cell? ⟨g, off + j * 3 + 2, none⟩ = some (.slice (ks.getD j Fv.zero).A (ks.getD j Fv.zero).d.length (ks.getD j Fv.zero).c) from by
                    obtain ⟨g2, o2, e2, _, z0, z1, z2, _⟩ := (CELLS.out W b).2.1.three hjl rfl
                    cases e2
                    exact ⟨z0, z1, z2⟩)
                  rw [hu] at CELLS
                  clear SEEK GET SM
                  generalize ks.getD j Fv.zero = G at *
                  go_wp2_with fail
                  refine Txt.wp_region_textN 19 (fun W => Below wr.heap.size wr W) (by kernel_rfl) (by kernel_rfl) (by kernel_rfl) (by kernel_rfl) (fun _ _ _ _ _ h => h) (Below.refl _ _).drew ?_
                  iterate 15 (
                    apply Txt.step rfl
                    · intro W hS K hK
                      obtain ⟨x0, x1, x2, x3⟩ := CELLS.out W hS
                      obtain ⟨z0, z1, z2⟩ := RDS.out W hS
                      obtain ⟨y0, y1, y2, _⟩ := cell3 x3
                      have HS := Lib.hid hS
                      clear hS x1 x2 x3
                      go_simp
                      exact hK.out _ HS.out
                    · first | exact ⟨_, rfl⟩ | exact ⟨undef, rfl⟩)
                  apply Txt.step rfl
                  · intro W hS K hK
                    obtain ⟨x0, x1, x2, x3⟩ := CELLS.out W hS
                    obtain ⟨z0, z1, z2⟩ := RDS.out W hS
                    obtain ⟨y0, y1, y2, _⟩ := cell3 x3
                    have HS := Lib.hid hS
                    clear hS x1 x2 x3
                    go_simp
                    go_wp2_with (go_at_call 12; refine (SAME.out W HS.out).mono ?_; rintro e w' ⟨rfl, b⟩; have T := Lib.hid (HS.out.trans (b.mono HS.out.size)); clear b)
                    exact hK.out _ T.out
                  · exact ⟨_, rfl⟩
                  iterate 3 (
                    apply Txt.step rfl
                    · intro W hS K hK
                      obtain ⟨x0, x1, x2, x3⟩ := CELLS.out W hS
                      obtain ⟨z0, z1, z2⟩ := RDS.out W hS
                      obtain ⟨y0, y1, y2, _⟩ := cell3 x3
                      have HS := Lib.hid hS
                      clear hS x1 x2 x3
                      go_simp
                      exact hK.out _ HS.out
                    · first | exact ⟨_, rfl⟩ | exact ⟨undef, rfl⟩)
                  refine Txt.last fun W hS7 => ?_
                  have B4 := Lib.hid (hB.out.trans (hS7.mono hB.out.size))
                  clear hS7 CELLS RDS SAME hB
                  cases hsm : same G.id G.r G.d f.id f.r f.d with
                  | false =>
                    have T := Lib.hid (SK.out hsm)
                    clear SK FND
                    go_wp2_with fail
                    go_roundw
                    case rel => exact ⟨j + 1, by omega, by go_num, B4, T⟩
                    case measure => simp [intOf]; omega
                  | true =>
                    have jy := FND.out hsm
                    clear SK FND
                    have dj : ((j : Int) == (ks.length : Int)) = false := beq_eq_false_iff_ne.2 (by omega)
                    have SO2 := Lib.hid (hS.out.step HN.out)
                    rw [← jy, hf] at SO2
                    have JY := Lib.hid jy
                    clear jy
                    have TF := Lib.hid (fun W (b : Below w6.heap.size w6 W) => show (W.cell? ⟨F, 0, none⟩ = some (.int .i64 f.id) ∧ W.cell? ⟨F, 1, none⟩ = some (.bool f.r) ∧ W.cell? ⟨F, 2, none⟩ = some (.slice A2 f.d.length c2)) ∧ (W.cell? ⟨U + 1, 0, none⟩ = some (.int .i64 id) ∧ W.cell? ⟨U + 1, 1, none⟩ = some (.bool r) ∧ W.cell? ⟨U + 1, 2, none⟩ = some (.slice A1 n1 c1)) ∧
                        (W.cell? ⟨U, j, none⟩ = some (.bool (us.getD j false)) ∧ W.frozen? ⟨U, j, none⟩ = false) ∧
                        ((W.setCell ⟨U, j, none⟩ (.bool true)).cell? ⟨F, 0, none⟩ = some (.int .i64 f.id) ∧ (W.setCell ⟨U, j, none⟩ (.bool true)).cell? ⟨F, 1, none⟩ = some (.bool f.r) ∧ (W.setCell ⟨U, j, none⟩ (.bool true)).cell? ⟨F, 2, none⟩ = some (.slice A2 f.d.length c2)) ∧
                        ((W.setCell ⟨U, j, none⟩ (.bool true)).cell? ⟨U + 1, 0, none⟩ = some (.int .i64 id) ∧ (W.setCell ⟨U, j, none⟩ (.bool true)).cell? ⟨U + 1, 1, none⟩ = some (.bool r) ∧ (W.setCell ⟨U, j, none⟩ (.bool true)).cell? ⟨U + 1, 2, none⟩ = some (.slice A1 n1 c1) ∧ ∀ q, (W.setCell ⟨U, j, none⟩ (.bool true)).frozen? ⟨U + 1, q, none⟩ = false) ∧
                        KT w ((((W.setCell ⟨U, j, none⟩ (.bool true)).setCell ⟨U + 1, 0, none⟩ (.int .i64 f.id)).setCell ⟨U + 1, 1, none⟩ (.bool f.r)).setCell ⟨U + 1, 2, none⟩ (.slice A2 f.d.length c2)) p U (U + 1) (.slice (some ⟨g, off, none⟩) ks.length c0) ⟨(srt key l).drop (i + 1), 64, 0, false⟩ ks (us.set j true) (.int .i64 f.id) (.bool f.r) (.slice A2 f.d.length c2) from by
                      have k7 := K6.out.next b
                      have o7 := (b.block F (lt_of O6.out)).trans O6.out
                      have o8 : (W.setCell ⟨U, j, none⟩ (.bool true)).heap[F]? = some (.cells #[.int .i64 f.id, .bool f.r, .slice A2 f.d.length c2] FT) := (Below.heap_setCell W ⟨U, j, none⟩ _ F NE.out.1).trans o7
                      obtain ⟨a0, a1, a2, _⟩ := cell3 o7
                      obtain ⟨b0, b1, b2, _⟩ := cell3 k7.last
                      obtain ⟨c0, c1, c2, _⟩ := cell3 o8
                      obtain ⟨d0, d1, d2, d3⟩ := cell3 (k7.mark j).last
                      exact ⟨⟨a0, a1, a2⟩, ⟨b0, b1, b2⟩, ⟨k7.uc hju, k7.uf j⟩, ⟨c0, c1, c2⟩, ⟨d0, d1, d2, d3⟩, (k7.mark j).put3 _ _ _⟩)
                    clear K6 O6 R6 NE hQ
                    obtain rfl | ⟨m, rfl⟩ : i = 0 ∨ ∃ m, i = m + 1 := by cases i with | zero => exact .inl rfl | succ m => exact .inr ⟨m, rfl⟩
                    · obtain ⟨⟨a0, a1, a2⟩, ⟨b0, b1, b2⟩, ⟨u0, u1⟩, ⟨s0, s1, s2⟩, ⟨t0, t1, t2, t3⟩, kt⟩ := TF.out W B4.out
                      have t4 := t3 0
                      have t5 := t3 1
                      have t6 := t3 2
                      have KTF := Lib.hid kt
                      clear TF kt t3 HN
                      go_wp2_with fail
                      go_round
                      case rel => exact ⟨1, us.set j true, f.id, j, f.r, A2, f.d.length, c2, by omega, rfl, by first | rfl | go_num, KTF, SO2⟩
                      case measure => simp [intOf]; omega
                    · have ORD := Lib.hid (Next.order hS.out HN.out)
                      rw [hf] at ORD
                      have hm0 : decide ((0 : Int) < ((m + 1 : Nat) : Int)) = true := by first | (simp; done) | (simp; omega)
                      have BF := Lib.hid (fun W => rbefore_any f.id f.r A2 f.d.length c2 id r A1 n1 c1 W)
                      rw [ORD.out.1] at BF
                      obtain ⟨⟨a0, a1, a2⟩, ⟨b0, b1, b2⟩, _⟩ := TF.out W B4.out
                      go_wp2_with fail
                      refine (BF.out W).mono ?_
                      rintro e W8 ⟨rfl, b8⟩
                      have B8 := Lib.hid (B4.out.trans (b8.mono B4.out.size))
                      clear b8 a0 a1 a2 b0 b1 b2 BF
                      obtain ⟨⟨a0, a1, a2⟩, ⟨b0, b1, b2⟩, ⟨u0, u1⟩, ⟨s0, s1, s2⟩, ⟨t0, t1, t2, t3⟩, kt⟩ := TF.out W8 B8.out
                      have t4 := t3 0
                      have t5 := t3 1
                      have t6 := t3 2
                      have KTF := Lib.hid kt
                      clear TF kt t3 HN
                      by_cases e1 : f.id = id
                      · by_cases e2 : f.r = r
                        · have h3 : ¬ (j : Int) < pn := by have := ORD.out.2 e1 e2; have := JY.out; omega
                          have h4 : decide ((j : Int) < pn) = false := decide_eq_false h3
                          have e1' : (f.id == id) = true := by simp [e1]
                          have e2' : (f.r == r) = true := by simp [e2]
                          clear ORD e1 e2
                          go_wp2_with fail
                          go_round
                          case rel => exact ⟨m + 1 + 1, us.set j true, f.id, j, f.r, A2, f.d.length, c2, by omega, rfl, by first | rfl | go_num, KTF, SO2⟩
                          case measure => simp [intOf]; omega
                        · have e1' : (f.id == id) = true := by simp [e1]
                          have e2' : (f.r == r) = false := by simp [e2]
                          clear ORD e1 e2
                          go_wp2_with fail
                          go_round
                          case rel => exact ⟨m + 1 + 1, us.set j true, f.id, j, f.r, A2, f.d.length, c2, by omega, rfl, by first | rfl | go_num, KTF, SO2⟩
                          case measure => simp [intOf]; omega
                      · have e1' : (f.id == id) = false := by simp [e1]
                        clear ORD e1
                        go_wp2_with fail
                        go_round
                        case rel => exact ⟨m + 1 + 1, us.set j true, f.id, j, f.r, A2, f.d.length, c2, by omega, rfl, by first | rfl | go_num, KTF, SO2⟩
                        case measure => simp [intOf]; omega
              · exfalso
                have h1 := HN.out.in_ (k := j) (by rw [hf]; exact hQ.out)
                have h2 := (List.getElem?_eq_some_iff.1 HN.out.mem).1
                omega
          · obtain rfl : i = ks.length := by omega
            have e0 : (srt key l).drop ks.length = [] := List.drop_eq_nil_of_le (by rw [srt_length]; omega)
            have TK := Lib.hid (show Calls Try.prog 11 #[at_ p] wr fun e w' => ∃ A c, e = .returned (.tuple #[frm 0 false (.slice A 0 c), .bool false]) ∧ KT w w' p U (U + 1) (.slice A0 ks.length c0) ⟨[], 64, 0, false⟩ ks us (.int .i64 id) (.bool r) (.slice A1 n1 c1) from by
              have := hK.out.take
              rw [e0] at this
              exact this.mono fun e w' ⟨A, c, h1, _, h3⟩ => ⟨A, c, h1, h3⟩)
            clear hK hS
            go_wp2_with fail
            refine TK.out.mono ?_
            rintro e w5 ⟨A2, c2, rfl, k5⟩
            have K6 := Lib.hid (fun o => (k5.next (W' := w5.alloc o) ((Below.refl _ _).alloc (Nat.le_refl _) o)))
            clear k5 TK
            go_wp2_with fail
            refine (K6.out _).len.mono ?_
            rintro e w6 ⟨rfl, rfl⟩
            go_wp2_with fail
            refine (KN.out _).mono ?_
            rintro e w7 ⟨rfl, b7⟩
            have B7 := Lib.hid ((K6.out _).b.trans (b7.mono (K6.out _).b.size))
            clear b7 K6
            go_wp2_with fail
            go_ret
            exact ⟨rfl, B7.out⟩

theorem own : ownKnob Try.prog.godebug = none := by kernel_rfl
theorem laidOut : laidOutB Try.prog = true := by kernel_rfl

set_option maxRecDepth 100000 in
theorem lifted (os : Os) (started : os.Started) (H : Type) (enc : TypeId × Value → H) :
    ReturnsInHanded {} Try.checked os 3 .any (Rows.txqOrderSpec.pre6 enc Try.prog Try.f3 Rows.txqOrderRow.domain false) (Rows.txqOrderSpec.post enc Try.prog Try.f3 false true false false) := by
  refine returnsInHanded_of_change (C := Try.checked) own started (by kernel_rfl) Try.func3
    (ChangeSpec.witness6 (enc := enc) (C := Try.checked) false ⟨#[], #[.slice none 0 0], []⟩ 8 (by kernel_rfl) (by kernel_rfl) (by kernel_rfl) (by kernel_rfl)) ?_
  intro W base args ds gs before hval0 hW hcnd _
  have hval : ∀ (j : Nat) t v, Try.f3.params[j]? = some t → args[j]? = some v → Value.okWide Try.prog W .any base t v := hval0
  have hW' := hW
  obtain ⟨p, q, hA0, hV, rfl, hfz, hnd⟩ := hW
  have hA : DataW.TrodAll enc Try.prog W 0 (fun _ => true) true Try.f3.params.toList args.toList ds p := hA0
  rw [Try.params3] at hA hval
  obtain ⟨v0, vs0, d0, ds0, p0, q0, hargs, rfl, rfl, h0, r0⟩ := trodAll_cons hA
  obtain ⟨rfl, rfl, rfl⟩ := trodAll_nil r0
  obtain rfl : args = #[v0] := by cases args; simp_all
  obtain ⟨rfl, rfl⟩ := trodVars_none hV
  have k0 := h0
  have lt0 : ∀ x ∈ p0, x.block < W.heap.size := by obtain ⟨m, hm⟩ := k0; exact DataW.trod_lt m _ _ _ hm
  obtain ⟨A0, c0, o0, rfl, w0, l0, z0⟩ := Frm.open_frms (hval 0 22 v0 rfl rfl) h0
  clear hA0 hval0
  refine (walk A0 c0 o0 W w0 l0 z0).mono fun e W' ⟨he, bel⟩ => ?_
  subst he
  exact ⟨_, rfl, _, _, _, [], _, [], hW', trodAll_mk1 (shut_bool Try.underlying4 _), (trodAll_cons_mk (Below.trod laidOut (by kernel_rfl) (of_decide_eq_true (by kernel_rfl)) k0 bel lt0) trodAll_mk0), rfl, bel.frame _, fun h => by cases h⟩

theorem over : Rows.txqOrderRow.holds Try.pinned (OpenSpec.ofChange Rows.txqOrderSpec) :=
  OpenClaim.holds_of_wide 3 Try.f3 rfl rfl rfl rfl rfl rfl rfl ⟨rfl, rfl, rfl, rfl, rfl⟩ rfl rfl rfl rfl rfl (by kernel_rfl) Try.func3 (by kernel_rfl)
    (of_decide_eq_true (by kernel_rfl)) (by unfold Func.isWrapper; first | (rw [if_pos (by decide +kernel)]; kernel_rfl) | (rw [if_neg (by decide +kernel)]; exact ⟨rfl, rfl⟩))
    (fun os started H enc _ => lifted os started H enc)

/-- The given statement. -/
theorem proved : Rows.TxqOrderSaid := over

end Go.Proofs.Ytlojomeofgnfjaa.txqOrder
