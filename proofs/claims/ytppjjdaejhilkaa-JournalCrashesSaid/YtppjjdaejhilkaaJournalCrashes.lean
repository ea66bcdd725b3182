/-
  Proved: JournalCrashes, for any script: wherever the power fails in an Append, opened anew the journal tells the record that was the last one, or the one that was being laid; behind OK it tells that one.
-/
import Derived.Test.YtppjjdaejhilkaaRows
import Derived.Test.YtppjjdaejhilkaaLift
import Derived.Test.YtppjjdaejhilkaaJouCS
import Derived.IntWalk
namespace Go.Proofs.Ytppjjdaejhilkaa.journalCrashes
open Go.ChangeShapes Go.WideShapes Go.ChangeAt Go.RowKit Mem Fla Rec Sec Jou
open Go.ChangeMaps (open_string shut_string)
set_option linter.unusedVariables false

set_option maxRecDepth 100000 in
set_option maxHeartbeats 16000000 in
theorem walk (A : Option Addr) (c : Nat) (os : List OpV) (w : World)
    (hr : RdO w w.heap.size A os) (hm : os.length ≤ maxLen) (hz : ∀ j, j < os.length → (os.getD j OpV.zero).Ok) :
    Calls Try.prog 3 #[.slice A os.length c] w fun e w' => e = .returned (.bool true) ∧ Below w.heap.size w w' := by
  have HN := Lib.hid (fun W => Fla.new_yes 3 1000 (by omega) (by omega) (by omega) (by omega) W)
  have e0 : List.replicate (3 * 1024) (255 : UInt8) = blankN 3 := rfl
  rw [e0] at HN
  have W0 := Lib.hid (WC.start 3 1000 (by omega) (by omega) (by omega) (by omega))
  have HO := Lib.hid (fun W p D c (S : LS w W p D c (Fl.new (blankN 3) 1000)) => (open_ok S.i rfl (by show 3 ≤ nsec (blankN 3); rw [nsec_blank]; omega)).mono (fun e w' h => opened S h))
  have HK := Lib.hid (fun W => Jou.known_any W)
  have HL := Lib.hid (fun W q L p D c (S : JS w W q L p D c (Fl.new (blankN 3) 1000)) => last_any S.j)
  generalize Fl.new (blankN 3) 1000 = s0 at *
  clear e0
  go_enter Try.func3, Try.ntmps3
  go_wp2_with fail
  refine (HN.out _).mono ?_
  intro e w1 h1
  obtain ⟨p, rfl, S⟩ := ls_new h1
  have S := Lib.hid S
  clear h1
  generalize w.heap.size = D at S
  go_wp2_with fail
  refine (HO.out _ _ _ _ S.out).mono ?_
  rintro e w2 ⟨rfl, S⟩
  have S := Lib.hid S
  generalize w1.heap.size = q at S ⊢
  go_wp2_with fail
  refine (HL.out _ _ _ _ _ _ S.out).mono ?_
  rintro e w3 ⟨v, rfl, o, b⟩
  have hL2 := S.out.j.fsize
  have S := Lib.hid (S.out.next b)
  generalize hts : tell s0.bs = t at *
  have HT := Lib.hid hts
  clear hts
  obtain ⟨Al, cl, rfl, _⟩ := o.form
  have rl := heap_alloc_new w3 (.cells #[.int .i64 t.k, .int .u32 t.n, .slice Al t.d.length cl] 32)
  have bl := below1 w3 (.cells #[.int .i64 t.k, .int .u32 t.n, .slice Al t.d.length cl] 32)
  have C0 : Hid (CS w (w3.alloc (.cells #[.int .i64 t.k, .int .u32 t.n, .slice Al t.d.length cl] 32)) q (q + 1) p D (3 * 1024) s0 w3.heap.size t Al cl none 0 []) := Lib.hid (by
    have h1 := S.out.j.pq
    have h2 := S.out.j.Dq
    have h3 := S.out.j.fsize
    have h4 := S.out.b.size
    refine ⟨S.out.next bl, rl, (o.lower hL2).below bl (Nat.le_refl _), Own.nil _ _ _, ?_, h4⟩
    unfold JX
    omega)
  clear o b rl bl hL2
  go_wp2_with fail
  go_loopw [4, 7, 8] (fun j h i wr => ∃ (k : Nat) (s : Fl) (q L : Nat) (t : Lk) (Al : Option Addr) (cl : Nat) (Ab : Option Addr) (cb : Nat) (bs : List UInt8), k ≤ os.length ∧ k ≤ 30 ∧ i = .int .i64 (k : Int) ∧ j = at_ q ∧ h = .bool (newest s.bs).isSome ∧ tell s.bs = t ∧ CS w wr q L p D (3 * 1024) s w3.heap.size t Al cl Ab cb bs ∧ WC 3 1000 s k) (fun _ _ i _ => 30 - (intOf i).toNat)
  case atStart => exact ⟨0, s0, q, q + 1, t, Al, cl, none, 0, [], by omega, by omega, rfl, rfl, rfl, HT.out, C0.out, W0.out⟩
  case round =>
    clear C0 S HT HN HO HL W0
    obtain ⟨k, s, q, L, t, Al, cl, Ab, cb, bs, hkz, hk30, rfl, rfl, rfl, ht, S, WK⟩ := hrel
    have S := Lib.hid S
    by_cases hlt : k < os.length
    · by_cases h30 : k < 30
      · obtain ⟨o, ho⟩ : ∃ o, os.getD k OpV.zero = o := ⟨_, rfl⟩
        obtain ⟨g, off, rfl, hg, c0, c1, c2, c3, c4⟩ := (hr.below S.out.j.b).five hlt ho
        have hok : o.Ok := by rw [← ho]; exact hz k hlt
        have HD := Lib.hid (fun W => data_any o hok k (by omega) W)
        have ro := heap_alloc_new wr (.cells #[.int .i64 o.k, .int .i64 o.K, .int .u16 o.z, .int .i64 o.n, .int .u32 o.m] 37)
        have bo := below1 wr (.cells #[.int .i64 o.k, .int .i64 o.K, .int .u16 o.z, .int .i64 o.n, .int .u32 o.m] 37)
        have hLo := S.out.j.j.fsize
        have S1 := Lib.hid (S.out.next bo)
        have hgo : ¬ JX q L p D wr.heap.size := S.out.notx hLo
        simp only [OpV.vals] at HD
        clear ho
        go_wp2_with fail
        refine (HD.out _).mono ?_
        rintro e w5 ⟨v, bs', rfl, hbl, ob, b⟩
        have hL3 := S1.out.j.j.fsize
        have ro := (b.block _ (by simp)).trans ro
        obtain ⟨Ab', cb', rfl, _⟩ := ob.form
        have S1 := Lib.hid ((S1.out.next b).newb (ob.lower hL3))
        clear ob b HD hbl c0 c1 c2 c3 c4 S bo hL3 hLo
        by_cases hb960 : bs'.length ≤ 960
        · obtain ⟨WK1, e1, _⟩ := WK.cut 1099511627776 0 (by omega) (by omega) (by omega) (by omega)
          have HC1 := Lib.hid (S1.out.ends e1 (cut_any 1099511627776 0 (by omega) (by omega) (by omega) (by omega) S1.out.j.j.fl))
          rw [show Fl.cutC 1099511627776 = 0 from rfl] at HC1
          generalize s.cut 1099511627776 0 = s1 at *
          go_wp2_with fail
          refine HC1.out.mono ?_
          clear S1 HC1
          rintro e w6 ⟨rfl, S1, F1⟩
          have ro := (F1.block _ (Array.getElem?_eq_some_iff.1 ro).1 (fun e => hgo (.inl e)) (fun e => hgo (.inr (.inl e)))).trans ro
          have S1 := Lib.hid S1
          clear F1
          have c0 := cell_of ro 0
          have c3 := cell_of ro 3
          have c4 := cell_of ro 4
          have hkk := hok.k0
          have hkk1 := hok.k1
          have hm0 := hok.m0
          have hm1 := hok.m1
          by_cases hodd : o.k.tmod 2 = 1
          · have hbi : (bs'.length : Int) ≤ 960 := by omega
            have hb0 : (0 : Int) ≤ (bs'.length : Int) := by omega
            have hmod : o.n % ((bs'.length : Int) + 20) = o.n % ((bs'.length : Int) + 20) := rfl
            have hwr : IntKind.i64.wrap ((bs'.length : Int) + 20) = (bs'.length : Int) + 20 := IntWalk.i64_in _ (by omega)
            have HCo : Hid (∀ W, Calls Try.prog 13 #[.int .i64 o.n, .int .i64 (IntKind.i64.wrap ((bs'.length : Int) + 20))] W fun e w' => e = .returned (.int .i64 (o.n % ((bs'.length : Int) + 20))) ∧ W = w') := Lib.hid (fun W => by rw [hwr]; exact count_any o.n ((bs'.length : Int) + 20) W (by omega) (by omega))
            clear hwr
            obtain ⟨WK2, e2, _⟩ := WK1.cut (o.n % ((bs'.length : Int) + 20)) o.m (Int.emod_nonneg _ (by omega)) (by have := Int.emod_lt_of_pos o.n (show 0 < (bs'.length : Int) + 20 by omega); omega) hm0 hm1
            have S1 := Lib.hid (S1.out.next (Below.refl _ _).drew)
            have HC2 := Lib.hid (S1.out.ends e2 (cut_any (o.n % ((bs'.length : Int) + 20)) o.m (by have := Int.emod_nonneg o.n (show (bs'.length : Int) + 20 ≠ 0 by omega); omega) (by have := Int.emod_lt_of_pos o.n (show 0 < (bs'.length : Int) + 20 by omega); omega) hm0 hm1 S1.out.j.j.fl))
            have hC0 : Fl.cutC (o.n % ((bs'.length : Int) + 20)) = 0 := by unfold Fl.cutC; rw [if_neg]; have := Int.emod_nonneg o.n (show (bs'.length : Int) + 20 ≠ 0 by omega); omega
            rw [hC0] at HC2
            have e2 : (s1.cut (o.n % ((bs'.length : Int) + 20)) o.m).bs = s.bs := e2.trans e1
            generalize s1.cut (o.n % ((bs'.length : Int) + 20)) o.m = s2 at *
            clear hmod hC0
            have HF2 : Hid (∀ W', Far p D w6.drew W' → W'.cell? ⟨wr.heap.size, 3, none⟩ = some (.int .i64 o.n) ∧ W'.cell? ⟨wr.heap.size, 4, none⟩ = some (.int .u32 o.m)) := Lib.hid (fun W' F => by
              have ro' := (F.block wr.heap.size (Array.getElem?_eq_some_iff.1 ro).1 (fun e => hgo (.inl e)) (fun e => hgo (.inr (.inl e)))).trans ro
              exact ⟨cell_of ro' 3, cell_of ro' 4⟩)
            generalize o.n % ((bs'.length : Int) + 20) = nn at *
            go_wp2_with fail
            go_region_held (fun W => W.cell? ⟨wr.heap.size, 3, none⟩ = some (.int .i64 o.n) ∧ W.cell? ⟨wr.heap.size, 4, none⟩ = some (.int .u32 o.m)) (first | exact ⟨c3, c4⟩ | exact ⟨d3, d4⟩) (first
              | (go_at_call 13; with_reducible refine (HCo.out _).mono ?_; rintro e w6' ⟨rfl, rfl⟩)
              | (go_at_call 12; with_reducible refine HC2.out.mono ?_; rintro e w6' ⟨rfl, S2, F2⟩; have S2 := Lib.hid S2; obtain ⟨d3, d4⟩ := HF2.out _ F2; clear F2))
            clear S1 HC2 HCo
            go_wp2_with fail
            have hts : tell s2.bs = t := (congrArg tell e2).trans ht
            obtain ⟨ns, hnn⟩ : ∃ ns, newest s.bs = ns := ⟨_, rfl⟩
            have HA := Lib.hid (S2.out.crash WK2 hts ((congrArg newest e2).trans hnn) (by omega) hb960)
            have htn : 0 ≤ t.n ∧ t.n ≤ 100 := by
              have h1 := WK2.tn
              have h2 := (tell_bd s2.bs).1.1
              rw [hts] at h1 h2
              omega
            generalize app s2 1 bs' = r at HA
            obtain ⟨s3, C⟩ := r
            simp only at HA
            refine HA.out.mono ?_
            clear HA S2
            rintro e w7 ⟨rfl, P, hc, WK3, ht3⟩
            simp only at hc WK3 ht3
            have P := Lib.hid P
            have HS3 := Lib.hid (fun W (P : PS w W p D (3 * 1024) s3 w3.heap.size t Al cl Ab' cb' bs' (L + 1)) => P.ends0 (start_any P.ls.i))
            have HO3 := Lib.hid (fun W (P : PS w W p D (3 * 1024) s3.start w3.heap.size t Al cl Ab' cb' bs' (L + 1)) => (open_ok P.ls.i rfl (by have := WK3.n; omega)).mono (fun e w' h => P.opened h))
            have HL3 := Lib.hid (fun W q (J : IsJ W q (q + 1) p D (3 * 1024) s3.start) => last_any J)
            rw [hnn]
            clear hnn
            obtain ⟨hs, hhs⟩ : ∃ hs, ns.isSome = hs := ⟨_, rfl⟩
            rw [hhs]
            rcases hc with ⟨rfl, hon3⟩ | ⟨rfl, hon3⟩
            · have h3 : (tell s3.bs).k = 1 ∧ (tell s3.bs).n = t.n + 1 ∧ (tell s3.bs).d = bs' ∧ (newest s3.bs).isSome = true := by
                rcases ht3 with h | ⟨h, _⟩
                · exact h
                · cases h
              clear ht3
              obtain ⟨tc, te, eT⟩ : ∃ tc te, tell s3.start.bs = ⟨1, t.n + 1, bs', tc, te⟩ := by
                show ∃ tc te, tell s3.bs = _
                cases h : tell s3.bs with
                | mk k n d x y =>
                  rw [h] at h3
                  simp only at h3
                  obtain ⟨rfl, rfl, rfl, _⟩ := h3
                  exact ⟨x, y, rfl⟩
              have eN : (newest s3.start.bs).isSome = true := h3.2.2.2
              rw [eT, eN] at HL3
              clear h3
              go_wp2_with fail
              refine (HS3.out _ P.out).mono ?_
              clear P
              rintro e w8 ⟨rfl, P⟩
              have P := Lib.hid P
              go_wp2_with fail
              refine (HO3.out _ P.out).mono ?_
              clear P
              rintro e w9 ⟨rfl, Q⟩
              have Q := Lib.hid Q
              generalize w8.heap.size = q3 at Q ⊢
              go_wp2_with fail
              refine (HL3.out _ _ Q.out.j.j).mono ?_
              rintro e w10 ⟨v, rfl, o, b⟩
              have hL3 := Q.out.j.j.fsize
              obtain ⟨A3, c3, rfl, _⟩ := o.form
              have hbR := below1 w10 (.cells #[.int .i64 1, .int .u32 (t.n + 1), .slice A3 bs'.length c3] 32)
              have rr := heap_alloc_new w10 (.cells #[.int .i64 1, .int .u32 (t.n + 1), .slice A3 bs'.length c3] 32)
              have O3 := Lib.hid ((o.lower hL3).below hbR (Nat.le_refl _))
              have Q := Lib.hid ((Q.out.next b).next hbR)
              clear o b hbR hL3 HS3 HO3 HL3
              have HSM := Lib.hid (Rec.same_any 1 (t.n + 1) t.k t.n A3 Al c3 cl _ bs' t.d _ (own_rd O3.out) Q.out.o (Nat.le_refl _))
              generalize sameB 1 (t.n + 1) bs' t.k t.n t.d = sb at HSM
              have r0 := cell_of rr 0
              have r1 := cell_of rr 1
              have r2 := cell_of rr 2
              have l0 := cell_of Q.out.row 0
              have l1 := cell_of Q.out.row 1
              have l2 := cell_of Q.out.row 2
              go_wp2_with fail
              refine HSM.out.mono ?_
              rintro e w11 ⟨rfl, b⟩
              have rr := (b.block _ (Array.getElem?_eq_some_iff.1 rr).1).trans rr
              have O3 := Lib.hid (O3.out.below b (Nat.le_refl _))
              have Q := Lib.hid (Q.out.next b)
              clear b HSM r0 r1 r2 l0 l1 l2
              have r0 := cell_of rr 0
              have r1 := cell_of rr 1
              have r2 := cell_of rr 2
              have l0 := cell_of Q.out.row 0
              have l1 := cell_of Q.out.row 1
              have l2 := cell_of Q.out.row 2
              have z0 := frozen_of_row _ _ 0 _ _ Q.out.row
              have z1 := frozen_of_row _ _ 1 _ _ Q.out.row
              have z2 := frozen_of_row _ _ 2 _ _ Q.out.row
              have s1 := run_str (own_rd O3.out) bs'.length c3 rfl 30 5 9 Try.underlying30 Try.underlying5 Try.underlying9
              have s2' := run_str Q.out.b bs'.length cb' rfl 30 5 9 Try.underlying30 Try.underlying5 Try.underlying9
              go_wp2_with fail
              all_goals
                go_roundw
                case rel => exact ⟨k + 1, s3.start, q3, q3 + 1, tell s3.start.bs, A3, c3, none, 0, [], by omega, by omega, by go_num, rfl, by rw [eN], rfl, by rw [eT]; exact Q.out.last (t' := ⟨1, t.n + 1, bs', tc, te⟩) O3.out, WK3⟩
                case measure => simp [intOf]; omega

            · rcases ht3 with h3 | ⟨_, h3⟩
              · obtain ⟨tc, te, eT⟩ : ∃ tc te, tell s3.start.bs = ⟨1, t.n + 1, bs', tc, te⟩ := by
                  show ∃ tc te, tell s3.bs = _
                  cases h : tell s3.bs with
                  | mk k n d x y =>
                    rw [h] at h3
                    simp only at h3
                    obtain ⟨rfl, rfl, rfl, _⟩ := h3
                    exact ⟨x, y, rfl⟩
                have eN : (newest s3.start.bs).isSome = true := h3.2.2.2
                rw [eT, eN] at HL3
                clear h3
                have HOn := Lib.hid (fon_any P.out.ls.i)
                rw [hon3] at HOn
                go_wp2_with fail
                refine HOn.out.mono ?_
                rintro e w7' ⟨rfl, rfl⟩
                clear HOn
                go_wp2_with fail
                refine (HS3.out _ P.out).mono ?_
                clear P
                rintro e w8 ⟨rfl, P⟩
                have P := Lib.hid P
                go_wp2_with fail
                refine (HO3.out _ P.out).mono ?_
                clear P
                rintro e w9 ⟨rfl, Q⟩
                have Q := Lib.hid Q
                generalize w8.heap.size = q3 at Q ⊢
                go_wp2_with fail
                refine (HL3.out _ _ Q.out.j.j).mono ?_
                rintro e w10 ⟨v, rfl, o, b⟩
                have hL3 := Q.out.j.j.fsize
                obtain ⟨A3, c3, rfl, _⟩ := o.form
                have hbR := below1 w10 (.cells #[.int .i64 1, .int .u32 (t.n + 1), .slice A3 bs'.length c3] 32)
                have rr := heap_alloc_new w10 (.cells #[.int .i64 1, .int .u32 (t.n + 1), .slice A3 bs'.length c3] 32)
                have O3 := Lib.hid ((o.lower hL3).below hbR (Nat.le_refl _))
                have Q := Lib.hid ((Q.out.next b).next hbR)
                clear o b hbR hL3 HS3 HO3 HL3
                have HSM := Lib.hid (Rec.same_any 1 (t.n + 1) t.k t.n A3 Al c3 cl _ bs' t.d _ (own_rd O3.out) Q.out.o (Nat.le_refl _))
                generalize sameB 1 (t.n + 1) bs' t.k t.n t.d = sb at HSM
                have r0 := cell_of rr 0
                have r1 := cell_of rr 1
                have r2 := cell_of rr 2
                have l0 := cell_of Q.out.row 0
                have l1 := cell_of Q.out.row 1
                have l2 := cell_of Q.out.row 2
                go_wp2_with fail
                refine HSM.out.mono ?_
                rintro e w11 ⟨rfl, b⟩
                have rr := (b.block _ (Array.getElem?_eq_some_iff.1 rr).1).trans rr
                have O3 := Lib.hid (O3.out.below b (Nat.le_refl _))
                have Q := Lib.hid (Q.out.next b)
                clear b HSM r0 r1 r2 l0 l1 l2
                have r0 := cell_of rr 0
                have r1 := cell_of rr 1
                have r2 := cell_of rr 2
                have l0 := cell_of Q.out.row 0
                have l1 := cell_of Q.out.row 1
                have l2 := cell_of Q.out.row 2
                have z0 := frozen_of_row _ _ 0 _ _ Q.out.row
                have z1 := frozen_of_row _ _ 1 _ _ Q.out.row
                have z2 := frozen_of_row _ _ 2 _ _ Q.out.row
                have s1 := run_str (own_rd O3.out) bs'.length c3 rfl 30 5 9 Try.underlying30 Try.underlying5 Try.underlying9
                have s2' := run_str Q.out.b bs'.length cb' rfl 30 5 9 Try.underlying30 Try.underlying5 Try.underlying9
                go_wp2_with fail
                all_goals
                  go_roundw
                  case rel => exact ⟨k + 1, s3.start, q3, q3 + 1, tell s3.start.bs, A3, c3, none, 0, [], by omega, by omega, by go_num, rfl, by rw [eN], rfl, by rw [eT]; exact Q.out.last (t' := ⟨1, t.n + 1, bs', tc, te⟩) O3.out, WK3⟩
                  case measure => simp [intOf]; omega

              · have eT : tell s3.start.bs = t := h3.1
                have eN : (newest s3.start.bs).isSome = hs := by show (newest s3.bs).isSome = hs; rw [h3.2]; exact hhs
                rw [eT, eN] at HL3
                clear h3
                obtain ⟨tk, tn, td, tcn, tce⟩ := t
                simp only at *
                cases hs with
                | false =>
                  have HOn := Lib.hid (fon_any P.out.ls.i)
                  rw [hon3] at HOn
                  go_wp2_with fail
                  refine HOn.out.mono ?_
                  rintro e w7' ⟨rfl, rfl⟩
                  clear HOn
                  go_wp2_with fail
                  refine (HS3.out _ P.out).mono ?_
                  clear P
                  rintro e w8 ⟨rfl, P⟩
                  have P := Lib.hid P
                  go_wp2_with fail
                  refine (HO3.out _ P.out).mono ?_
                  clear P
                  rintro e w9 ⟨rfl, Q⟩
                  have Q := Lib.hid Q
                  generalize w8.heap.size = q3 at Q ⊢
                  go_wp2_with fail
                  refine (HL3.out _ _ Q.out.j.j).mono ?_
                  rintro e w10 ⟨v, rfl, o, b⟩
                  have hL3 := Q.out.j.j.fsize
                  obtain ⟨A3, c3, rfl, _⟩ := o.form
                  have hbR := below1 w10 (.cells #[.int .i64 tk, .int .u32 tn, .slice A3 td.length c3] 32)
                  have rr := heap_alloc_new w10 (.cells #[.int .i64 tk, .int .u32 tn, .slice A3 td.length c3] 32)
                  have O3 := Lib.hid ((o.lower hL3).below hbR (Nat.le_refl _))
                  have Q := Lib.hid ((Q.out.next b).next hbR)
                  clear o b hbR hL3 HS3 HO3 HL3
                  have HSM := Lib.hid (Rec.same_any tk tn tk tn A3 Al c3 cl _ td td _ (own_rd O3.out) Q.out.o (Nat.le_refl _))
                  rw [show sameB tk tn td tk tn td = true by simp [sameB]] at HSM
                  have r0 := cell_of rr 0
                  have r1 := cell_of rr 1
                  have r2 := cell_of rr 2
                  have l0 := cell_of Q.out.row 0
                  have l1 := cell_of Q.out.row 1
                  have l2 := cell_of Q.out.row 2
                  go_wp2_with fail
                  refine HSM.out.mono ?_
                  rintro e w11 ⟨rfl, b⟩
                  have rr := (b.block _ (Array.getElem?_eq_some_iff.1 rr).1).trans rr
                  have O3 := Lib.hid (O3.out.below b (Nat.le_refl _))
                  have Q := Lib.hid (Q.out.next b)
                  clear b HSM r0 r1 r2 l0 l1 l2
                  have r0 := cell_of rr 0
                  have r1 := cell_of rr 1
                  have r2 := cell_of rr 2
                  have l0 := cell_of Q.out.row 0
                  have l1 := cell_of Q.out.row 1
                  have l2 := cell_of Q.out.row 2
                  have z0 := frozen_of_row _ _ 0 _ _ Q.out.row
                  have z1 := frozen_of_row _ _ 1 _ _ Q.out.row
                  have z2 := frozen_of_row _ _ 2 _ _ Q.out.row
                  have s1 := run_str (own_rd O3.out) td.length c3 rfl 30 5 9 Try.underlying30 Try.underlying5 Try.underlying9
                  have s2' := run_str Q.out.b bs'.length cb' rfl 30 5 9 Try.underlying30 Try.underlying5 Try.underlying9
                  go_wp2_with fail
                  all_goals
                    go_roundw
                    case rel => exact ⟨k + 1, s3.start, q3, q3 + 1, tell s3.start.bs, A3, c3, none, 0, [], by omega, by omega, by go_num, rfl, by rw [eN], rfl, by rw [eT]; exact Q.out.last (t' := ⟨tk, tn, td, tcn, tce⟩) O3.out, WK3⟩
                    case measure => simp [intOf]; omega
                | true =>
                  by_cases hk1 : tk = 1
                  · subst hk1
                    have HOn := Lib.hid (fon_any P.out.ls.i)
                    rw [hon3] at HOn
                    go_wp2_with fail
                    refine HOn.out.mono ?_
                    rintro e w7' ⟨rfl, rfl⟩
                    clear HOn
                    go_wp2_with fail
                    refine (HS3.out _ P.out).mono ?_
                    clear P
                    rintro e w8 ⟨rfl, P⟩
                    have P := Lib.hid P
                    go_wp2_with fail
                    refine (HO3.out _ P.out).mono ?_
                    clear P
                    rintro e w9 ⟨rfl, Q⟩
                    have Q := Lib.hid Q
                    generalize w8.heap.size = q3 at Q ⊢
                    go_wp2_with fail
                    refine (HL3.out _ _ Q.out.j.j).mono ?_
                    rintro e w10 ⟨v, rfl, o, b⟩
                    have hL3 := Q.out.j.j.fsize
                    obtain ⟨A3, c3, rfl, _⟩ := o.form
                    have hbR := below1 w10 (.cells #[.int .i64 1, .int .u32 tn, .slice A3 td.length c3] 32)
                    have rr := heap_alloc_new w10 (.cells #[.int .i64 1, .int .u32 tn, .slice A3 td.length c3] 32)
                    have O3 := Lib.hid ((o.lower hL3).below hbR (Nat.le_refl _))
                    have Q := Lib.hid ((Q.out.next b).next hbR)
                    clear o b hbR hL3 HS3 HO3 HL3
                    have HSM := Lib.hid (Rec.same_any 1 tn 1 tn A3 Al c3 cl _ td td _ (own_rd O3.out) Q.out.o (Nat.le_refl _))
                    rw [show sameB 1 tn td 1 tn td = true by simp [sameB]] at HSM
                    have r0 := cell_of rr 0
                    have r1 := cell_of rr 1
                    have r2 := cell_of rr 2
                    have l0 := cell_of Q.out.row 0
                    have l1 := cell_of Q.out.row 1
                    have l2 := cell_of Q.out.row 2
                    go_wp2_with fail
                    refine HSM.out.mono ?_
                    rintro e w11 ⟨rfl, b⟩
                    have rr := (b.block _ (Array.getElem?_eq_some_iff.1 rr).1).trans rr
                    have O3 := Lib.hid (O3.out.below b (Nat.le_refl _))
                    have Q := Lib.hid (Q.out.next b)
                    clear b HSM r0 r1 r2 l0 l1 l2
                    have r0 := cell_of rr 0
                    have r1 := cell_of rr 1
                    have r2 := cell_of rr 2
                    have l0 := cell_of Q.out.row 0
                    have l1 := cell_of Q.out.row 1
                    have l2 := cell_of Q.out.row 2
                    have z0 := frozen_of_row _ _ 0 _ _ Q.out.row
                    have z1 := frozen_of_row _ _ 1 _ _ Q.out.row
                    have z2 := frozen_of_row _ _ 2 _ _ Q.out.row
                    have s1 := run_str (own_rd O3.out) td.length c3 rfl 30 5 9 Try.underlying30 Try.underlying5 Try.underlying9
                    have s2' := run_str Q.out.b bs'.length cb' rfl 30 5 9 Try.underlying30 Try.underlying5 Try.underlying9
                    go_wp2_with fail
                    all_goals
                      go_roundw
                      case rel => exact ⟨k + 1, s3.start, q3, q3 + 1, tell s3.start.bs, A3, c3, none, 0, [], by omega, by omega, by go_num, rfl, by rw [eN], rfl, by rw [eT]; exact Q.out.last (t' := ⟨1, tn, td, tcn, tce⟩) O3.out, WK3⟩
                      case measure => simp [intOf]; omega
                  · have hk1b : (tk == 1) = false := by simpa using hk1
                    have HOn := Lib.hid (fon_any P.out.ls.i)
                    rw [hon3] at HOn
                    go_wp2_with fail
                    refine HOn.out.mono ?_
                    rintro e w7' ⟨rfl, rfl⟩
                    clear HOn
                    go_wp2_with fail
                    refine (HS3.out _ P.out).mono ?_
                    clear P
                    rintro e w8 ⟨rfl, P⟩
                    have P := Lib.hid P
                    go_wp2_with fail
                    refine (HO3.out _ P.out).mono ?_
                    clear P
                    rintro e w9 ⟨rfl, Q⟩
                    have Q := Lib.hid Q
                    generalize w8.heap.size = q3 at Q ⊢
                    go_wp2_with fail
                    refine (HL3.out _ _ Q.out.j.j).mono ?_
                    rintro e w10 ⟨v, rfl, o, b⟩
                    have hL3 := Q.out.j.j.fsize
                    obtain ⟨A3, c3, rfl, _⟩ := o.form
                    have hbR := below1 w10 (.cells #[.int .i64 tk, .int .u32 tn, .slice A3 td.length c3] 32)
                    have rr := heap_alloc_new w10 (.cells #[.int .i64 tk, .int .u32 tn, .slice A3 td.length c3] 32)
                    have O3 := Lib.hid ((o.lower hL3).below hbR (Nat.le_refl _))
                    have Q := Lib.hid ((Q.out.next b).next hbR)
                    clear o b hbR hL3 HS3 HO3 HL3
                    have HSM := Lib.hid (Rec.same_any tk tn tk tn A3 Al c3 cl _ td td _ (own_rd O3.out) Q.out.o (Nat.le_refl _))
                    rw [show sameB tk tn td tk tn td = true by simp [sameB]] at HSM
                    have r0 := cell_of rr 0
                    have r1 := cell_of rr 1
                    have r2 := cell_of rr 2
                    have l0 := cell_of Q.out.row 0
                    have l1 := cell_of Q.out.row 1
                    have l2 := cell_of Q.out.row 2
                    go_wp2_with fail
                    refine HSM.out.mono ?_
                    rintro e w11 ⟨rfl, b⟩
                    have rr := (b.block _ (Array.getElem?_eq_some_iff.1 rr).1).trans rr
                    have O3 := Lib.hid (O3.out.below b (Nat.le_refl _))
                    have Q := Lib.hid (Q.out.next b)
                    clear b HSM r0 r1 r2 l0 l1 l2
                    have r0 := cell_of rr 0
                    have r1 := cell_of rr 1
                    have r2 := cell_of rr 2
                    have l0 := cell_of Q.out.row 0
                    have l1 := cell_of Q.out.row 1
                    have l2 := cell_of Q.out.row 2
                    have z0 := frozen_of_row _ _ 0 _ _ Q.out.row
                    have z1 := frozen_of_row _ _ 1 _ _ Q.out.row
                    have z2 := frozen_of_row _ _ 2 _ _ Q.out.row
                    have s1 := run_str (own_rd O3.out) td.length c3 rfl 30 5 9 Try.underlying30 Try.underlying5 Try.underlying9
                    have s2' := run_str Q.out.b bs'.length cb' rfl 30 5 9 Try.underlying30 Try.underlying5 Try.underlying9
                    go_wp2_with fail
                    all_goals
                      go_roundw
                      case rel => exact ⟨k + 1, s3.start, q3, q3 + 1, tell s3.start.bs, A3, c3, none, 0, [], by omega, by omega, by go_num, rfl, by rw [eN], rfl, by rw [eT]; exact Q.out.last (t' := ⟨tk, tn, td, tcn, tce⟩) O3.out, WK3⟩
                      case measure => simp [intOf]; omega

          · go_wp2_with fail
            have hts : tell s1.bs = t := (congrArg tell e1).trans ht
            obtain ⟨ns, hnn⟩ : ∃ ns, newest s.bs = ns := ⟨_, rfl⟩
            have HA := Lib.hid (S1.out.crash WK1 hts ((congrArg newest e1).trans hnn) (by omega) hb960)
            have htn : 0 ≤ t.n ∧ t.n ≤ 100 := by
              have h1 := WK1.tn
              have h2 := (tell_bd s1.bs).1.1
              rw [hts] at h1 h2
              omega
            generalize app s1 1 bs' = r at HA
            obtain ⟨s3, C⟩ := r
            simp only at HA
            refine HA.out.mono ?_
            clear HA S1
            rintro e w7 ⟨rfl, P, hc, WK3, ht3⟩
            simp only at hc WK3 ht3
            have P := Lib.hid P
            have HS3 := Lib.hid (fun W (P : PS w W p D (3 * 1024) s3 w3.heap.size t Al cl Ab' cb' bs' (L + 1)) => P.ends0 (start_any P.ls.i))
            have HO3 := Lib.hid (fun W (P : PS w W p D (3 * 1024) s3.start w3.heap.size t Al cl Ab' cb' bs' (L + 1)) => (open_ok P.ls.i rfl (by have := WK3.n; omega)).mono (fun e w' h => P.opened h))
            have HL3 := Lib.hid (fun W q (J : IsJ W q (q + 1) p D (3 * 1024) s3.start) => last_any J)
            rw [hnn]
            clear hnn
            obtain ⟨hs, hhs⟩ : ∃ hs, ns.isSome = hs := ⟨_, rfl⟩
            rw [hhs]
            rcases hc with ⟨rfl, hon3⟩ | ⟨rfl, hon3⟩
            · have h3 : (tell s3.bs).k = 1 ∧ (tell s3.bs).n = t.n + 1 ∧ (tell s3.bs).d = bs' ∧ (newest s3.bs).isSome = true := by
                rcases ht3 with h | ⟨h, _⟩
                · exact h
                · cases h
              clear ht3
              obtain ⟨tc, te, eT⟩ : ∃ tc te, tell s3.start.bs = ⟨1, t.n + 1, bs', tc, te⟩ := by
                show ∃ tc te, tell s3.bs = _
                cases h : tell s3.bs with
                | mk k n d x y =>
                  rw [h] at h3
                  simp only at h3
                  obtain ⟨rfl, rfl, rfl, _⟩ := h3
                  exact ⟨x, y, rfl⟩
              have eN : (newest s3.start.bs).isSome = true := h3.2.2.2
              rw [eT, eN] at HL3
              clear h3
              go_wp2_with fail
              refine (HS3.out _ P.out).mono ?_
              clear P
              rintro e w8 ⟨rfl, P⟩
              have P := Lib.hid P
              go_wp2_with fail
              refine (HO3.out _ P.out).mono ?_
              clear P
              rintro e w9 ⟨rfl, Q⟩
              have Q := Lib.hid Q
              generalize w8.heap.size = q3 at Q ⊢
              go_wp2_with fail
              refine (HL3.out _ _ Q.out.j.j).mono ?_
              rintro e w10 ⟨v, rfl, o, b⟩
              have hL3 := Q.out.j.j.fsize
              obtain ⟨A3, c3, rfl, _⟩ := o.form
              have hbR := below1 w10 (.cells #[.int .i64 1, .int .u32 (t.n + 1), .slice A3 bs'.length c3] 32)
              have rr := heap_alloc_new w10 (.cells #[.int .i64 1, .int .u32 (t.n + 1), .slice A3 bs'.length c3] 32)
              have O3 := Lib.hid ((o.lower hL3).below hbR (Nat.le_refl _))
              have Q := Lib.hid ((Q.out.next b).next hbR)
              clear o b hbR hL3 HS3 HO3 HL3
              have HSM := Lib.hid (Rec.same_any 1 (t.n + 1) t.k t.n A3 Al c3 cl _ bs' t.d _ (own_rd O3.out) Q.out.o (Nat.le_refl _))
              generalize sameB 1 (t.n + 1) bs' t.k t.n t.d = sb at HSM
              have r0 := cell_of rr 0
              have r1 := cell_of rr 1
              have r2 := cell_of rr 2
              have l0 := cell_of Q.out.row 0
              have l1 := cell_of Q.out.row 1
              have l2 := cell_of Q.out.row 2
              go_wp2_with fail
              refine HSM.out.mono ?_
              rintro e w11 ⟨rfl, b⟩
              have rr := (b.block _ (Array.getElem?_eq_some_iff.1 rr).1).trans rr
              have O3 := Lib.hid (O3.out.below b (Nat.le_refl _))
              have Q := Lib.hid (Q.out.next b)
              clear b HSM r0 r1 r2 l0 l1 l2
              have r0 := cell_of rr 0
              have r1 := cell_of rr 1
              have r2 := cell_of rr 2
              have l0 := cell_of Q.out.row 0
              have l1 := cell_of Q.out.row 1
              have l2 := cell_of Q.out.row 2
              have z0 := frozen_of_row _ _ 0 _ _ Q.out.row
              have z1 := frozen_of_row _ _ 1 _ _ Q.out.row
              have z2 := frozen_of_row _ _ 2 _ _ Q.out.row
              have s1 := run_str (own_rd O3.out) bs'.length c3 rfl 30 5 9 Try.underlying30 Try.underlying5 Try.underlying9
              have s2' := run_str Q.out.b bs'.length cb' rfl 30 5 9 Try.underlying30 Try.underlying5 Try.underlying9
              go_wp2_with fail
              all_goals
                go_roundw
                case rel => exact ⟨k + 1, s3.start, q3, q3 + 1, tell s3.start.bs, A3, c3, none, 0, [], by omega, by omega, by go_num, rfl, by rw [eN], rfl, by rw [eT]; exact Q.out.last (t' := ⟨1, t.n + 1, bs', tc, te⟩) O3.out, WK3⟩
                case measure => simp [intOf]; omega

            · rcases ht3 with h3 | ⟨_, h3⟩
              · obtain ⟨tc, te, eT⟩ : ∃ tc te, tell s3.start.bs = ⟨1, t.n + 1, bs', tc, te⟩ := by
                  show ∃ tc te, tell s3.bs = _
                  cases h : tell s3.bs with
                  | mk k n d x y =>
                    rw [h] at h3
                    simp only at h3
                    obtain ⟨rfl, rfl, rfl, _⟩ := h3
                    exact ⟨x, y, rfl⟩
                have eN : (newest s3.start.bs).isSome = true := h3.2.2.2
                rw [eT, eN] at HL3
                clear h3
                have HOn := Lib.hid (fon_any P.out.ls.i)
                rw [hon3] at HOn
                go_wp2_with fail
                refine HOn.out.mono ?_
                rintro e w7' ⟨rfl, rfl⟩
                clear HOn
                go_wp2_with fail
                refine (HS3.out _ P.out).mono ?_
                clear P
                rintro e w8 ⟨rfl, P⟩
                have P := Lib.hid P
                go_wp2_with fail
                refine (HO3.out _ P.out).mono ?_
                clear P
                rintro e w9 ⟨rfl, Q⟩
                have Q := Lib.hid Q
                generalize w8.heap.size = q3 at Q ⊢
                go_wp2_with fail
                refine (HL3.out _ _ Q.out.j.j).mono ?_
                rintro e w10 ⟨v, rfl, o, b⟩
                have hL3 := Q.out.j.j.fsize
                obtain ⟨A3, c3, rfl, _⟩ := o.form
                have hbR := below1 w10 (.cells #[.int .i64 1, .int .u32 (t.n + 1), .slice A3 bs'.length c3] 32)
                have rr := heap_alloc_new w10 (.cells #[.int .i64 1, .int .u32 (t.n + 1), .slice A3 bs'.length c3] 32)
                have O3 := Lib.hid ((o.lower hL3).below hbR (Nat.le_refl _))
                have Q := Lib.hid ((Q.out.next b).next hbR)
                clear o b hbR hL3 HS3 HO3 HL3
                have HSM := Lib.hid (Rec.same_any 1 (t.n + 1) t.k t.n A3 Al c3 cl _ bs' t.d _ (own_rd O3.out) Q.out.o (Nat.le_refl _))
                generalize sameB 1 (t.n + 1) bs' t.k t.n t.d = sb at HSM
                have r0 := cell_of rr 0
                have r1 := cell_of rr 1
                have r2 := cell_of rr 2
                have l0 := cell_of Q.out.row 0
                have l1 := cell_of Q.out.row 1
                have l2 := cell_of Q.out.row 2
                go_wp2_with fail
                refine HSM.out.mono ?_
                rintro e w11 ⟨rfl, b⟩
                have rr := (b.block _ (Array.getElem?_eq_some_iff.1 rr).1).trans rr
                have O3 := Lib.hid (O3.out.below b (Nat.le_refl _))
                have Q := Lib.hid (Q.out.next b)
                clear b HSM r0 r1 r2 l0 l1 l2
                have r0 := cell_of rr 0
                have r1 := cell_of rr 1
                have r2 := cell_of rr 2
                have l0 := cell_of Q.out.row 0
                have l1 := cell_of Q.out.row 1
                have l2 := cell_of Q.out.row 2
                have z0 := frozen_of_row _ _ 0 _ _ Q.out.row
                have z1 := frozen_of_row _ _ 1 _ _ Q.out.row
                have z2 := frozen_of_row _ _ 2 _ _ Q.out.row
                have s1 := run_str (own_rd O3.out) bs'.length c3 rfl 30 5 9 Try.underlying30 Try.underlying5 Try.underlying9
                have s2' := run_str Q.out.b bs'.length cb' rfl 30 5 9 Try.underlying30 Try.underlying5 Try.underlying9
                go_wp2_with fail
                all_goals
                  go_roundw
                  case rel => exact ⟨k + 1, s3.start, q3, q3 + 1, tell s3.start.bs, A3, c3, none, 0, [], by omega, by omega, by go_num, rfl, by rw [eN], rfl, by rw [eT]; exact Q.out.last (t' := ⟨1, t.n + 1, bs', tc, te⟩) O3.out, WK3⟩
                  case measure => simp [intOf]; omega

              · have eT : tell s3.start.bs = t := h3.1
                have eN : (newest s3.start.bs).isSome = hs := by show (newest s3.bs).isSome = hs; rw [h3.2]; exact hhs
                rw [eT, eN] at HL3
                clear h3
                obtain ⟨tk, tn, td, tcn, tce⟩ := t
                simp only at *
                cases hs with
                | false =>
                  have HOn := Lib.hid (fon_any P.out.ls.i)
                  rw [hon3] at HOn
                  go_wp2_with fail
                  refine HOn.out.mono ?_
                  rintro e w7' ⟨rfl, rfl⟩
                  clear HOn
                  go_wp2_with fail
                  refine (HS3.out _ P.out).mono ?_
                  clear P
                  rintro e w8 ⟨rfl, P⟩
                  have P := Lib.hid P
                  go_wp2_with fail
                  refine (HO3.out _ P.out).mono ?_
                  clear P
                  rintro e w9 ⟨rfl, Q⟩
                  have Q := Lib.hid Q
                  generalize w8.heap.size = q3 at Q ⊢
                  go_wp2_with fail
                  refine (HL3.out _ _ Q.out.j.j).mono ?_
                  rintro e w10 ⟨v, rfl, o, b⟩
                  have hL3 := Q.out.j.j.fsize
                  obtain ⟨A3, c3, rfl, _⟩ := o.form
                  have hbR := below1 w10 (.cells #[.int .i64 tk, .int .u32 tn, .slice A3 td.length c3] 32)
                  have rr := heap_alloc_new w10 (.cells #[.int .i64 tk, .int .u32 tn, .slice A3 td.length c3] 32)
                  have O3 := Lib.hid ((o.lower hL3).below hbR (Nat.le_refl _))
                  have Q := Lib.hid ((Q.out.next b).next hbR)
                  clear o b hbR hL3 HS3 HO3 HL3
                  have HSM := Lib.hid (Rec.same_any tk tn tk tn A3 Al c3 cl _ td td _ (own_rd O3.out) Q.out.o (Nat.le_refl _))
                  rw [show sameB tk tn td tk tn td = true by simp [sameB]] at HSM
                  have r0 := cell_of rr 0
                  have r1 := cell_of rr 1
                  have r2 := cell_of rr 2
                  have l0 := cell_of Q.out.row 0
                  have l1 := cell_of Q.out.row 1
                  have l2 := cell_of Q.out.row 2
                  go_wp2_with fail
                  refine HSM.out.mono ?_
                  rintro e w11 ⟨rfl, b⟩
                  have rr := (b.block _ (Array.getElem?_eq_some_iff.1 rr).1).trans rr
                  have O3 := Lib.hid (O3.out.below b (Nat.le_refl _))
                  have Q := Lib.hid (Q.out.next b)
                  clear b HSM r0 r1 r2 l0 l1 l2
                  have r0 := cell_of rr 0
                  have r1 := cell_of rr 1
                  have r2 := cell_of rr 2
                  have l0 := cell_of Q.out.row 0
                  have l1 := cell_of Q.out.row 1
                  have l2 := cell_of Q.out.row 2
                  have z0 := frozen_of_row _ _ 0 _ _ Q.out.row
                  have z1 := frozen_of_row _ _ 1 _ _ Q.out.row
                  have z2 := frozen_of_row _ _ 2 _ _ Q.out.row
                  have s1 := run_str (own_rd O3.out) td.length c3 rfl 30 5 9 Try.underlying30 Try.underlying5 Try.underlying9
                  have s2' := run_str Q.out.b bs'.length cb' rfl 30 5 9 Try.underlying30 Try.underlying5 Try.underlying9
                  go_wp2_with fail
                  all_goals
                    go_roundw
                    case rel => exact ⟨k + 1, s3.start, q3, q3 + 1, tell s3.start.bs, A3, c3, none, 0, [], by omega, by omega, by go_num, rfl, by rw [eN], rfl, by rw [eT]; exact Q.out.last (t' := ⟨tk, tn, td, tcn, tce⟩) O3.out, WK3⟩
                    case measure => simp [intOf]; omega
                | true =>
                  by_cases hk1 : tk = 1
                  · subst hk1
                    have HOn := Lib.hid (fon_any P.out.ls.i)
                    rw [hon3] at HOn
                    go_wp2_with fail
                    refine HOn.out.mono ?_
                    rintro e w7' ⟨rfl, rfl⟩
                    clear HOn
                    go_wp2_with fail
                    refine (HS3.out _ P.out).mono ?_
                    clear P
                    rintro e w8 ⟨rfl, P⟩
                    have P := Lib.hid P
                    go_wp2_with fail
                    refine (HO3.out _ P.out).mono ?_
                    clear P
                    rintro e w9 ⟨rfl, Q⟩
                    have Q := Lib.hid Q
                    generalize w8.heap.size = q3 at Q ⊢
                    go_wp2_with fail
                    refine (HL3.out _ _ Q.out.j.j).mono ?_
                    rintro e w10 ⟨v, rfl, o, b⟩
                    have hL3 := Q.out.j.j.fsize
                    obtain ⟨A3, c3, rfl, _⟩ := o.form
                    have hbR := below1 w10 (.cells #[.int .i64 1, .int .u32 tn, .slice A3 td.length c3] 32)
                    have rr := heap_alloc_new w10 (.cells #[.int .i64 1, .int .u32 tn, .slice A3 td.length c3] 32)
                    have O3 := Lib.hid ((o.lower hL3).below hbR (Nat.le_refl _))
                    have Q := Lib.hid ((Q.out.next b).next hbR)
                    clear o b hbR hL3 HS3 HO3 HL3
                    have HSM := Lib.hid (Rec.same_any 1 tn 1 tn A3 Al c3 cl _ td td _ (own_rd O3.out) Q.out.o (Nat.le_refl _))
                    rw [show sameB 1 tn td 1 tn td = true by simp [sameB]] at HSM
                    have r0 := cell_of rr 0
                    have r1 := cell_of rr 1
                    have r2 := cell_of rr 2
                    have l0 := cell_of Q.out.row 0
                    have l1 := cell_of Q.out.row 1
                    have l2 := cell_of Q.out.row 2
                    go_wp2_with fail
                    refine HSM.out.mono ?_
                    rintro e w11 ⟨rfl, b⟩
                    have rr := (b.block _ (Array.getElem?_eq_some_iff.1 rr).1).trans rr
                    have O3 := Lib.hid (O3.out.below b (Nat.le_refl _))
                    have Q := Lib.hid (Q.out.next b)
                    clear b HSM r0 r1 r2 l0 l1 l2
                    have r0 := cell_of rr 0
                    have r1 := cell_of rr 1
                    have r2 := cell_of rr 2
                    have l0 := cell_of Q.out.row 0
                    have l1 := cell_of Q.out.row 1
                    have l2 := cell_of Q.out.row 2
                    have z0 := frozen_of_row _ _ 0 _ _ Q.out.row
                    have z1 := frozen_of_row _ _ 1 _ _ Q.out.row
                    have z2 := frozen_of_row _ _ 2 _ _ Q.out.row
                    have s1 := run_str (own_rd O3.out) td.length c3 rfl 30 5 9 Try.underlying30 Try.underlying5 Try.underlying9
                    have s2' := run_str Q.out.b bs'.length cb' rfl 30 5 9 Try.underlying30 Try.underlying5 Try.underlying9
                    go_wp2_with fail
                    all_goals
                      go_roundw
                      case rel => exact ⟨k + 1, s3.start, q3, q3 + 1, tell s3.start.bs, A3, c3, none, 0, [], by omega, by omega, by go_num, rfl, by rw [eN], rfl, by rw [eT]; exact Q.out.last (t' := ⟨1, tn, td, tcn, tce⟩) O3.out, WK3⟩
                      case measure => simp [intOf]; omega
                  · have hk1b : (tk == 1) = false := by simpa using hk1
                    have HOn := Lib.hid (fon_any P.out.ls.i)
                    rw [hon3] at HOn
                    go_wp2_with fail
                    refine HOn.out.mono ?_
                    rintro e w7' ⟨rfl, rfl⟩
                    clear HOn
                    go_wp2_with fail
                    refine (HS3.out _ P.out).mono ?_
                    clear P
                    rintro e w8 ⟨rfl, P⟩
                    have P := Lib.hid P
                    go_wp2_with fail
                    refine (HO3.out _ P.out).mono ?_
                    clear P
                    rintro e w9 ⟨rfl, Q⟩
                    have Q := Lib.hid Q
                    generalize w8.heap.size = q3 at Q ⊢
                    go_wp2_with fail
                    refine (HL3.out _ _ Q.out.j.j).mono ?_
                    rintro e w10 ⟨v, rfl, o, b⟩
                    have hL3 := Q.out.j.j.fsize
                    obtain ⟨A3, c3, rfl, _⟩ := o.form
                    have hbR := below1 w10 (.cells #[.int .i64 tk, .int .u32 tn, .slice A3 td.length c3] 32)
                    have rr := heap_alloc_new w10 (.cells #[.int .i64 tk, .int .u32 tn, .slice A3 td.length c3] 32)
                    have O3 := Lib.hid ((o.lower hL3).below hbR (Nat.le_refl _))
                    have Q := Lib.hid ((Q.out.next b).next hbR)
                    clear o b hbR hL3 HS3 HO3 HL3
                    have HSM := Lib.hid (Rec.same_any tk tn tk tn A3 Al c3 cl _ td td _ (own_rd O3.out) Q.out.o (Nat.le_refl _))
                    rw [show sameB tk tn td tk tn td = true by simp [sameB]] at HSM
                    have r0 := cell_of rr 0
                    have r1 := cell_of rr 1
                    have r2 := cell_of rr 2
                    have l0 := cell_of Q.out.row 0
                    have l1 := cell_of Q.out.row 1
                    have l2 := cell_of Q.out.row 2
                    go_wp2_with fail
                    refine HSM.out.mono ?_
                    rintro e w11 ⟨rfl, b⟩
                    have rr := (b.block _ (Array.getElem?_eq_some_iff.1 rr).1).trans rr
                    have O3 := Lib.hid (O3.out.below b (Nat.le_refl _))
                    have Q := Lib.hid (Q.out.next b)
                    clear b HSM r0 r1 r2 l0 l1 l2
                    have r0 := cell_of rr 0
                    have r1 := cell_of rr 1
                    have r2 := cell_of rr 2
                    have l0 := cell_of Q.out.row 0
                    have l1 := cell_of Q.out.row 1
                    have l2 := cell_of Q.out.row 2
                    have z0 := frozen_of_row _ _ 0 _ _ Q.out.row
                    have z1 := frozen_of_row _ _ 1 _ _ Q.out.row
                    have z2 := frozen_of_row _ _ 2 _ _ Q.out.row
                    have s1 := run_str (own_rd O3.out) td.length c3 rfl 30 5 9 Try.underlying30 Try.underlying5 Try.underlying9
                    have s2' := run_str Q.out.b bs'.length cb' rfl 30 5 9 Try.underlying30 Try.underlying5 Try.underlying9
                    go_wp2_with fail
                    all_goals
                      go_roundw
                      case rel => exact ⟨k + 1, s3.start, q3, q3 + 1, tell s3.start.bs, A3, c3, none, 0, [], by omega, by omega, by go_num, rfl, by rw [eN], rfl, by rw [eT]; exact Q.out.last (t' := ⟨tk, tn, td, tcn, tce⟩) O3.out, WK3⟩
                      case measure => simp [intOf]; omega

        · have hbb : ¬ (bs'.length : Int) ≤ 960 := by omega
          go_wp2_with fail
          go_roundw
          case rel => exact ⟨k + 1, s, q, L, t, Al, cl, Ab', cb', bs', by omega, by omega, by go_num, rfl, rfl, ht, S1.out, ⟨WK.ok, WK.on, WK.n, WK.most, fun j => by have := WK.wb j; omega, by have := WK.tn; omega, by have := WK.ops; omega⟩⟩
          case measure => simp [intOf]; omega
      · obtain rfl : k = 30 := by omega
        go_wp2_with fail
        refine (HK.out _).mono ?_
        rintro e w5 ⟨rfl, b⟩
        have B := S.out.j.b.trans (b.mono S.out.j.b.size)
        go_wp2_with fail
        go_ret
        exact ⟨rfl, B⟩
    · obtain rfl : k = os.length := by omega
      go_wp2_with fail
      refine (HK.out _).mono ?_
      rintro e w5 ⟨rfl, b⟩
      have B := S.out.j.b.trans (b.mono S.out.j.b.size)
      go_wp2_with fail
      go_ret
      exact ⟨rfl, B⟩

theorem own : ownKnob Try.prog.godebug = none := by kernel_rfl
theorem laidOut : laidOutB Try.prog = true := by kernel_rfl

set_option maxRecDepth 100000 in
theorem lifted (os : Os) (started : os.Started) (H : Type) (enc : TypeId × Value → H) :
    ReturnsInHanded {} Try.checked os 3 .any (Rows.journalCrashesSpec.pre6 enc Try.prog Try.f3 Rows.journalCrashesRow.domain false) (Rows.journalCrashesSpec.post enc Try.prog Try.f3 false true false false) := by
  refine returnsInHanded_of_change (C := Try.checked) own started (by kernel_rfl) Try.func3
    (ChangeSpec.witness6 (enc := enc) (C := Try.checked) false ⟨#[], #[.slice none 0 0], []⟩ 8 (by kernel_rfl) (by kernel_rfl) (by kernel_rfl) (by kernel_rfl)) ?_
  intro W base args ds gs before hval0 hW hcnd _
  have hval : ∀ (j : Nat) t v, Try.f3.params[j]? = some t → args[j]? = some v → Value.okWide Try.prog W .any base t v := hval0
  have hW' := hW
  obtain ⟨p, q, hA0, hV, rfl, hfz, hnd⟩ := hW
  have hA : DataW.TrodAll enc Try.prog W 0 (fun _ => true) true Try.f3.params.toList args.toList ds p := hA0
  rw [Try.params3] at hA hval
  obtain ⟨v0, vs0, d0, ds0, p0, q0, hargs, rfl, rfl, h0, r0⟩ := trodAll_cons hA
  obtain ⟨rfl, rfl, rfl⟩ := trodAll_nil r0
  obtain rfl : args = #[v0] := by cases args; simp_all
  obtain ⟨rfl, rfl⟩ := trodVars_none hV
  have k0 := h0
  have lt0 : ∀ x ∈ p0, x.block < W.heap.size := by obtain ⟨m, hm⟩ := k0; exact DataW.trod_lt m _ _ _ hm
  obtain ⟨A0, c0, o0, rfl, w0, l0, z0⟩ := Jou.open_ops (hval 0 22 v0 rfl rfl) h0
  clear hA0 hval0
  refine (walk A0 c0 o0 W w0 l0 z0).mono fun e W' ⟨he, bel⟩ => ?_
  subst he
  exact ⟨_, rfl, _, _, _, [], _, [], hW', trodAll_mk1 (shut_bool Try.underlying4 _), (trodAll_cons_mk (Below.trod laidOut (by kernel_rfl) (of_decide_eq_true (by kernel_rfl)) k0 bel lt0) trodAll_mk0), rfl, bel.frame _, fun h => by cases h⟩

theorem over : Rows.journalCrashesRow.holds Try.pinned (OpenSpec.ofChange Rows.journalCrashesSpec) :=
  OpenClaim.holds_of_wide 3 Try.f3 rfl rfl rfl rfl rfl rfl rfl ⟨rfl, rfl, rfl, rfl, rfl⟩ rfl rfl rfl rfl rfl (by kernel_rfl) Try.func3 (by kernel_rfl)
    (of_decide_eq_true (by kernel_rfl)) (by unfold Func.isWrapper; first | (rw [if_pos (by decide +kernel)]; kernel_rfl) | (rw [if_neg (by decide +kernel)]; exact ⟨rfl, rfl⟩))
    (fun os started H enc _ => lifted os started H enc)

/-- The given statement. -/
theorem proved : Rows.JournalCrashesSaid := over

end Go.Proofs.Ytppjjdaejhilkaa.journalCrashes
