/-
  Proved: JournalWears, for any number of sectors and any script: behind k Appends that answered OK and c failures of the power, the sectors were erased at most k + c times, and no two wears differ by more than c + 2.
-/
import Derived.Test.YtppjjdaejhilkaaRows
import Derived.Test.YtppjjdaejhilkaaLift
import Derived.Test.YtppjjdaejhilkaaJouCS
import Derived.IntWalk
namespace Go.Proofs.Ytppjjdaejhilkaa.journalWears
open Go.ChangeShapes Go.WideShapes Go.ChangeAt Go.RowKit Mem Fla Rec Sec Jou
open Go.ChangeMaps (open_string shut_string)
set_option linter.unusedVariables false

set_option maxRecDepth 100000 in
set_option maxHeartbeats 16000000 in
theorem walk (z : Int) (A : Option Addr) (c : Nat) (os : List OpV) (w : World) (hz0 : 0 ≤ z ∧ z ≤ 255)
    (hr : RdO w w.heap.size A os) (hm : os.length ≤ maxLen) (hz : ∀ j, j < os.length → (os.getD j OpV.zero).Ok) :
    Calls Try.prog 6 #[.int .u8 z, .slice A os.length c] w fun e w' => e = .returned (.bool true) ∧ Below w.heap.size w w' := by
  obtain ⟨m, hm6, hm5⟩ : ∃ m : Nat, z % 6 = (m : Int) ∧ m ≤ 5 := ⟨(z % 6).toNat, by omega, by omega⟩
  have hmI : (m : Int) ≤ 5 := by omega
  have hm0 : (0 : Int) ≤ (m : Int) := by omega
  have HN := Lib.hid (fun W => Fla.new_yes (3 + m) 1073741824 (by omega) (by omega) (by omega) (by omega) W)
  rw [show ((3 + m : Nat) : Int) = 3 + (m : Int) by omega, show List.replicate ((3 + m) * 1024) (255 : UInt8) = blankN (3 + m) from rfl] at HN
  have W0 := Lib.hid (WW.start (3 + m) (by omega) (by omega))
  have HO := Lib.hid (fun W p D c (S : LS w W p D c (Fl.new (blankN (3 + m)) 1073741824)) => (open_ok S.i rfl (by show 3 ≤ nsec (blankN (3 + m)); rw [nsec_blank]; omega)).mono (fun e w' h => opened S h))
  have HK := Lib.hid (fun W => Jou.known_any W)
  generalize Fl.new (blankN (3 + m)) 1073741824 = s0 at *
  generalize hcF : (3 + m) * 1024 = cF at *
  clear hcF
  go_enter Try.func6, Try.ntmps6
  go_wp2_with fail
  refine (HN.out _).mono ?_
  intro e w1 h1
  obtain ⟨p, rfl, S⟩ := ls_new h1
  have S := Lib.hid S
  clear h1
  generalize w.heap.size = D at S
  go_wp2_with fail
  refine (HO.out _ _ _ _ S.out).mono ?_
  rintro e w2 ⟨rfl, S⟩
  have S := Lib.hid S
  generalize w1.heap.size = q at S ⊢
  go_wp2_with fail
  go_loopw [7, 9, 10, 11] (fun j kv xv iv wr => ∃ (i kk x : Nat) (s : Fl) (q L : Nat), i ≤ os.length ∧ i ≤ 50 ∧ j = at_ q ∧ kv = .int .i64 (kk : Int) ∧ xv = .int .i64 (x : Int) ∧ iv = .int .i64 (i : Int) ∧ kk + x = i ∧ JS w wr q L p D cF s ∧ WW (3 + m) s i x) (fun _ _ _ iv _ => 50 - (intOf iv).toNat)
  case atStart => exact ⟨0, 0, 0, s0, q, q + 1, by omega, by omega, rfl, rfl, rfl, rfl, rfl, S.out, W0.out⟩
  case round =>
    clear S HN HO W0
    obtain ⟨i, kk, x, s, q, L, hiz, hi50, rfl, rfl, rfl, rfl, hki, S, WK⟩ := hrel
    have S := Lib.hid S
    by_cases hlt : i < os.length
    · by_cases h50 : i < 50
      · obtain ⟨o, ho⟩ : ∃ o, os.getD i OpV.zero = o := ⟨_, rfl⟩
        obtain ⟨g, off, rfl, hg, c0, c1, c2, c3, c4⟩ := (hr.below S.out.b).five hlt ho
        have hok : o.Ok := by rw [← ho]; exact hz i hlt
        have hz0' := hok.z0
        have hz1' := hok.z1
        have hm0' := hok.m0
        have hm1' := hok.m1
        have hkk := hok.k0
        have hkk1 := hok.k1
        have HD := Lib.hid (fun W => dataZ_any (300 + o.z % 661) o.m (by omega) (by omega) (by omega) (by omega) i (by omega) W)
        have ro := heap_alloc_new wr (.cells #[.int .i64 o.k, .int .i64 o.K, .int .u16 o.z, .int .i64 o.n, .int .u32 o.m] 37)
        have bo := below1 wr (.cells #[.int .i64 o.k, .int .i64 o.K, .int .u16 o.z, .int .i64 o.n, .int .u32 o.m] 37)
        have hLo := S.out.j.fsize
        have S1 := Lib.hid (S.out.next bo)
        clear ho
        go_wp2_with fail
        refine (HD.out _).mono ?_
        rintro e w5 ⟨v, bs', rfl, hbl, ob, b⟩
        have hL3 := S1.out.j.fsize
        have ro := (b.block _ (by simp)).trans ro
        obtain ⟨Ab', cb', rfl, _⟩ := ob.form
        have S1 : Hid (JB w w5 q L p D cF s Ab' cb' bs') := Lib.hid ⟨S1.out.next b, ob.lower hL3⟩
        have hgo : ¬ JX q L p D wr.heap.size := S1.out.notx hLo
        have hb960 : bs'.length ≤ 960 := by rw [hbl]; omega
        clear ob b HD hbl c0 c1 c2 c3 c4 S bo hL3 hLo
        obtain ⟨WK1, e1⟩ := WK.cut 1099511627776 0 (by omega) (by omega) (by omega) (by omega)
        have HC1 := Lib.hid (S1.out.ends e1 (cut_any 1099511627776 0 (by omega) (by omega) (by omega) (by omega) S1.out.j.j.fl))
        rw [show Fl.cutC 1099511627776 = 0 from rfl] at HC1
        generalize s.cut 1099511627776 0 = s1 at *
        go_wp2_with fail
        refine HC1.out.mono ?_
        clear S1 HC1
        rintro e w6 ⟨rfl, S1, F1⟩
        have ro := (F1.block _ (Array.getElem?_eq_some_iff.1 ro).1 (fun e => hgo (.inl e)) (fun e => hgo (.inr (.inl e)))).trans ro
        have S1 := Lib.hid S1
        clear F1
        have c0 := cell_of ro 0
        have c3 := cell_of ro 3
        have c4 := cell_of ro 4
        by_cases hodd : o.k.tmod 3 = 1
        · have HCo := Lib.hid (fun W => count_any o.n 400 W (by omega) (by omega))
          have hn0 : 0 ≤ o.n % 400 := Int.emod_nonneg _ (by omega)
          have hn1 : o.n % 400 < 400 := Int.emod_lt_of_pos _ (by omega)
          obtain ⟨WK2, e2⟩ := WK1.cut (o.n % 400) o.m hn0 (by omega) hm0' hm1'
          have S1 := Lib.hid (S1.out.next (Below.refl _ _).drew)
          have HC2 := Lib.hid (S1.out.ends e2 (cut_any (o.n % 400) o.m (by omega) (by omega) hm0' hm1' S1.out.j.j.fl))
          have hC0 : Fl.cutC (o.n % 400) = 0 := by unfold Fl.cutC; rw [if_neg (by omega)]
          rw [hC0] at HC2
          generalize s1.cut (o.n % 400) o.m = s2 at *
          clear hC0
          have HF2 : Hid (∀ W', Far p D w6.drew W' → W'.cell? ⟨wr.heap.size, 3, none⟩ = some (.int .i64 o.n) ∧ W'.cell? ⟨wr.heap.size, 4, none⟩ = some (.int .u32 o.m)) := Lib.hid (fun W' F => by
            have ro' := (F.block wr.heap.size (Array.getElem?_eq_some_iff.1 ro).1 (fun e => hgo (.inl e)) (fun e => hgo (.inr (.inl e)))).trans ro
            exact ⟨cell_of ro' 3, cell_of ro' 4⟩)
          generalize o.n % 400 = nn at *
          go_wp2_with fail
          go_region_held (fun W => W.cell? ⟨wr.heap.size, 3, none⟩ = some (.int .i64 o.n) ∧ W.cell? ⟨wr.heap.size, 4, none⟩ = some (.int .u32 o.m)) (first | exact ⟨c3, c4⟩ | exact ⟨d3, d4⟩) (first
            | (go_at_call 13; with_reducible refine (HCo.out _).mono ?_; rintro e w6' ⟨rfl, rfl⟩)
            | (go_at_call 12; with_reducible refine HC2.out.mono ?_; rintro e w6' ⟨rfl, S2, F2⟩; have S2 := Lib.hid S2; obtain ⟨d3, d4⟩ := HF2.out _ F2; clear F2))
          clear S1 HC2 HCo HF2
          go_wp2_with fail
          have HA := Lib.hid (S2.out.crash WK2 (by omega) (by omega) (by omega) hb960)
          generalize app s2 1 bs' = r at HA
          obtain ⟨s3, C⟩ := r
          simp only at HA
          refine HA.out.mono ?_
          clear HA S2
          rintro e w7 ⟨rfl, P, hc⟩
          simp only at hc P
          have P := Lib.hid P
          rcases hc with ⟨rfl, WK, S⟩ | ⟨rfl, WK⟩
          · have S := Lib.hid S
            clear P
            have hwb := Lib.hid (WK.wb (by omega))
            have hwn := Lib.hid (fun (j : Nat) (hj : j < 3 + m) => worn_at (s := s3) (i := j) (by rw [WK.wc.n]; exact hj))
            have HW := Lib.hid (fun W (S : JS w W q L p D cF s3) (j : Nat) => S.same (fworn_any (j : Int) S.j.fl))
            have WKh := Lib.hid WK
            clear WK
            have HW0 : Hid (∀ W, JS w W q L p D cF s3 → Calls Try.prog 25 #[at_ p, .int .i64 0] W fun e w' => e = .returned (.int .i64 (s3.wearAt 0)) ∧ JS w w' q L p D cF s3) := Lib.hid (fun W S => by
              have h := HW.out W S 0
              rw [hwn.out 0 (by omega)] at h
              exact h)
            go_wp2_with fail
            refine (HW0.out _ S.out).mono ?_
            clear S
            rintro e w8 ⟨rfl, S⟩
            have S := Lib.hid S
            go_wp2_with fail
            refine (HW0.out _ S.out).mono ?_
            clear S
            rintro e w9 ⟨rfl, S⟩
            have S := Lib.hid S
            clear HW0
            go_wp2_with fail
            go_loopw [16, 17, 18, 19] (fun sm lo hi sj wq => ∃ (j : Nat) (sum low high : Int), j ≤ 3 + m ∧ sm = .int .i64 sum ∧ lo = .int .i64 low ∧ hi = .int .i64 high ∧ sj = .int .i64 (j : Int) ∧ JS w wq q L p D cF s3 ∧ WL (3 + m) s3.wearAt j sum low high) (fun _ _ _ sj _ => 3 + m - (intOf sj).toNat)
            case atStart => exact ⟨0, 0, _, _, by omega, rfl, rfl, rfl, rfl, S.out, WL.start (by omega) _⟩
            case round =>
              clear S
              obtain ⟨j, sum, low, high, hj, rfl, rfl, rfl, rfl, S, Wl⟩ := hrel
              have S := Lib.hid S
              obtain ⟨⟨bs0, bs1⟩, ⟨bl0, bl1⟩, bh0, bh1⟩ := Wl.bd WKh.out (by omega) (by omega) (by omega)
              by_cases hlt : j < 3 + m
              · have hltI : (j : Int) < 3 + (m : Int) := by omega
                have hyb := hwb.out j (by omega)
                have HWj := Lib.hid (fun W (S : JS w W q L p D cF s3) => HW.out W S j)
                rw [hwn.out j hlt] at HWj
                have Wn := Lib.hid (Wl.next hlt)
                clear Wl
                generalize s3.wearAt j = y at *
                go_wp2_with fail
                refine (HWj.out _ S.out).mono ?_
                clear S
                rintro e w10 ⟨rfl, S⟩
                have S := Lib.hid S
                go_wp2_with fail
                refine (HWj.out _ S.out).mono ?_
                clear S
                rintro e w11 ⟨rfl, S⟩
                have S := Lib.hid S
                generalize hlo : (if y < low then y else low) = lo at *
                go_wp2_with fail
                refine (HWj.out _ S.out).mono ?_
                clear S
                rintro e w12 ⟨rfl, S⟩
                have S := Lib.hid S
                generalize hhi : (if high < y then y else high) = hi at *
                go_wp2_with fail
                go_roundw
                case rel => exact ⟨j + 1, _, _, _, by omega, rfl, rfl, rfl, by go_num, S.out, by first | exact Wn.out | (rw [← hlo] at Wn; exact Wn.out)⟩
                case measure => simp [intOf]; omega
              · have hnl : ¬ (j : Int) < 3 + (m : Int) := by omega
                obtain rfl : j = 3 + m := by omega
                obtain ⟨hd1, hd2⟩ := Wl.done WKh.out
                have hkx : ((kk : Int) + 1 : Int) + (x : Int) = ((i + 1 : Nat) : Int) := by omega
                go_wp2_with fail
                go_roundw
                case rel => exact ⟨i + 1, kk + 1, x, s3, q, L, by omega, by omega, rfl, by go_num, by go_num, by go_num, by omega, S.out, WKh.out⟩
                case measure => simp [intOf]; omega
          · have HS3 := Lib.hid (fun W (P : LS w W p D cF s3) => LS.ends0' P (start_any P.i))
            have HO3 := Lib.hid (fun W (P : LS w W p D cF s3.start) => (open_ok P.i rfl (by have := WK.wc.n; omega)).mono (fun e w' h => opened P h))
            generalize s3.start = s4 at *
            go_wp2_with fail
            refine (HS3.out _ P.out).mono ?_
            clear P
            rintro e w7' ⟨rfl, P⟩
            have P := Lib.hid P
            go_wp2_with fail
            refine (HO3.out _ P.out).mono ?_
            clear P HS3 HO3
            rintro e w7'' ⟨rfl, S⟩
            have S := Lib.hid S
            generalize w7'.heap.size = q3 at S ⊢
            have hwb := Lib.hid (WK.wb (by omega))
            have hwn := Lib.hid (fun (j : Nat) (hj : j < 3 + m) => worn_at (s := s4) (i := j) (by rw [WK.wc.n]; exact hj))
            have HW := Lib.hid (fun W (S : JS w W q3 (q3 + 1) p D cF s4) (j : Nat) => S.same (fworn_any (j : Int) S.j.fl))
            have WKh := Lib.hid WK
            clear WK
            have HW0 : Hid (∀ W, JS w W q3 (q3 + 1) p D cF s4 → Calls Try.prog 25 #[at_ p, .int .i64 0] W fun e w' => e = .returned (.int .i64 (s4.wearAt 0)) ∧ JS w w' q3 (q3 + 1) p D cF s4) := Lib.hid (fun W S => by
              have h := HW.out W S 0
              rw [hwn.out 0 (by omega)] at h
              exact h)
            go_wp2_with fail
            refine (HW0.out _ S.out).mono ?_
            clear S
            rintro e w8 ⟨rfl, S⟩
            have S := Lib.hid S
            go_wp2_with fail
            refine (HW0.out _ S.out).mono ?_
            clear S
            rintro e w9 ⟨rfl, S⟩
            have S := Lib.hid S
            clear HW0
            go_wp2_with fail
            go_loopw [16, 17, 18, 19] (fun sm lo hi sj wq => ∃ (j : Nat) (sum low high : Int), j ≤ 3 + m ∧ sm = .int .i64 sum ∧ lo = .int .i64 low ∧ hi = .int .i64 high ∧ sj = .int .i64 (j : Int) ∧ JS w wq q3 (q3 + 1) p D cF s4 ∧ WL (3 + m) s4.wearAt j sum low high) (fun _ _ _ sj _ => 3 + m - (intOf sj).toNat)
            case atStart => exact ⟨0, 0, _, _, by omega, rfl, rfl, rfl, rfl, S.out, WL.start (by omega) _⟩
            case round =>
              clear S
              obtain ⟨j, sum, low, high, hj, rfl, rfl, rfl, rfl, S, Wl⟩ := hrel
              have S := Lib.hid S
              obtain ⟨⟨bs0, bs1⟩, ⟨bl0, bl1⟩, bh0, bh1⟩ := Wl.bd WKh.out (by omega) (by omega) (by omega)
              by_cases hlt : j < 3 + m
              · have hltI : (j : Int) < 3 + (m : Int) := by omega
                have hyb := hwb.out j (by omega)
                have HWj := Lib.hid (fun W (S : JS w W q3 (q3 + 1) p D cF s4) => HW.out W S j)
                rw [hwn.out j hlt] at HWj
                have Wn := Lib.hid (Wl.next hlt)
                clear Wl
                generalize s4.wearAt j = y at *
                go_wp2_with fail
                refine (HWj.out _ S.out).mono ?_
                clear S
                rintro e w10 ⟨rfl, S⟩
                have S := Lib.hid S
                go_wp2_with fail
                refine (HWj.out _ S.out).mono ?_
                clear S
                rintro e w11 ⟨rfl, S⟩
                have S := Lib.hid S
                generalize hlo : (if y < low then y else low) = lo at *
                go_wp2_with fail
                refine (HWj.out _ S.out).mono ?_
                clear S
                rintro e w12 ⟨rfl, S⟩
                have S := Lib.hid S
                generalize hhi : (if high < y then y else high) = hi at *
                go_wp2_with fail
                go_roundw
                case rel => exact ⟨j + 1, _, _, _, by omega, rfl, rfl, rfl, by go_num, S.out, by first | exact Wn.out | (rw [← hlo] at Wn; exact Wn.out)⟩
                case measure => simp [intOf]; omega
              · have hnl : ¬ (j : Int) < 3 + (m : Int) := by omega
                obtain rfl : j = 3 + m := by omega
                obtain ⟨hd1, hd2⟩ := Wl.done WKh.out
                have hkx : ((kk : Int) : Int) + (x : Int) + 1 = ((i + 1 : Nat) : Int) := by omega
                go_wp2_with fail
                go_roundw
                case rel => exact ⟨i + 1, kk, x + 1, s4, q3, (q3 + 1), by omega, by omega, rfl, by go_num, by go_num, by go_num, by omega, S.out, WKh.out⟩
                case measure => simp [intOf]; omega
        · go_wp2_with fail
          have HA := Lib.hid (S1.out.crash WK1 (by omega) (by omega) (by omega) hb960)
          generalize app s1 1 bs' = r at HA
          obtain ⟨s3, C⟩ := r
          simp only at HA
          refine HA.out.mono ?_
          clear HA S1
          rintro e w7 ⟨rfl, P, hc⟩
          simp only at hc P
          have P := Lib.hid P
          rcases hc with ⟨rfl, WK, S⟩ | ⟨rfl, WK⟩
          · have S := Lib.hid S
            clear P
            have hwb := Lib.hid (WK.wb (by omega))
            have hwn := Lib.hid (fun (j : Nat) (hj : j < 3 + m) => worn_at (s := s3) (i := j) (by rw [WK.wc.n]; exact hj))
            have HW := Lib.hid (fun W (S : JS w W q L p D cF s3) (j : Nat) => S.same (fworn_any (j : Int) S.j.fl))
            have WKh := Lib.hid WK
            clear WK
            have HW0 : Hid (∀ W, JS w W q L p D cF s3 → Calls Try.prog 25 #[at_ p, .int .i64 0] W fun e w' => e = .returned (.int .i64 (s3.wearAt 0)) ∧ JS w w' q L p D cF s3) := Lib.hid (fun W S => by
              have h := HW.out W S 0
              rw [hwn.out 0 (by omega)] at h
              exact h)
            go_wp2_with fail
            refine (HW0.out _ S.out).mono ?_
            clear S
            rintro e w8 ⟨rfl, S⟩
            have S := Lib.hid S
            go_wp2_with fail
            refine (HW0.out _ S.out).mono ?_
            clear S
            rintro e w9 ⟨rfl, S⟩
            have S := Lib.hid S
            clear HW0
            go_wp2_with fail
            go_loopw [16, 17, 18, 19] (fun sm lo hi sj wq => ∃ (j : Nat) (sum low high : Int), j ≤ 3 + m ∧ sm = .int .i64 sum ∧ lo = .int .i64 low ∧ hi = .int .i64 high ∧ sj = .int .i64 (j : Int) ∧ JS w wq q L p D cF s3 ∧ WL (3 + m) s3.wearAt j sum low high) (fun _ _ _ sj _ => 3 + m - (intOf sj).toNat)
            case atStart => exact ⟨0, 0, _, _, by omega, rfl, rfl, rfl, rfl, S.out, WL.start (by omega) _⟩
            case round =>
              clear S
              obtain ⟨j, sum, low, high, hj, rfl, rfl, rfl, rfl, S, Wl⟩ := hrel
              have S := Lib.hid S
              obtain ⟨⟨bs0, bs1⟩, ⟨bl0, bl1⟩, bh0, bh1⟩ := Wl.bd WKh.out (by omega) (by omega) (by omega)
              by_cases hlt : j < 3 + m
              · have hltI : (j : Int) < 3 + (m : Int) := by omega
                have hyb := hwb.out j (by omega)
                have HWj := Lib.hid (fun W (S : JS w W q L p D cF s3) => HW.out W S j)
                rw [hwn.out j hlt] at HWj
                have Wn := Lib.hid (Wl.next hlt)
                clear Wl
                generalize s3.wearAt j = y at *
                go_wp2_with fail
                refine (HWj.out _ S.out).mono ?_
                clear S
                rintro e w10 ⟨rfl, S⟩
                have S := Lib.hid S
                go_wp2_with fail
                refine (HWj.out _ S.out).mono ?_
                clear S
                rintro e w11 ⟨rfl, S⟩
                have S := Lib.hid S
                generalize hlo : (if y < low then y else low) = lo at *
                go_wp2_with fail
                refine (HWj.out _ S.out).mono ?_
                clear S
                rintro e w12 ⟨rfl, S⟩
                have S := Lib.hid S
                generalize hhi : (if high < y then y else high) = hi at *
                go_wp2_with fail
                go_roundw
                case rel => exact ⟨j + 1, _, _, _, by omega, rfl, rfl, rfl, by go_num, S.out, by first | exact Wn.out | (rw [← hlo] at Wn; exact Wn.out)⟩
                case measure => simp [intOf]; omega
              · have hnl : ¬ (j : Int) < 3 + (m : Int) := by omega
                obtain rfl : j = 3 + m := by omega
                obtain ⟨hd1, hd2⟩ := Wl.done WKh.out
                have hkx : ((kk : Int) + 1 : Int) + (x : Int) = ((i + 1 : Nat) : Int) := by omega
                go_wp2_with fail
                go_roundw
                case rel => exact ⟨i + 1, kk + 1, x, s3, q, L, by omega, by omega, rfl, by go_num, by go_num, by go_num, by omega, S.out, WKh.out⟩
                case measure => simp [intOf]; omega
          · have HS3 := Lib.hid (fun W (P : LS w W p D cF s3) => LS.ends0' P (start_any P.i))
            have HO3 := Lib.hid (fun W (P : LS w W p D cF s3.start) => (open_ok P.i rfl (by have := WK.wc.n; omega)).mono (fun e w' h => opened P h))
            generalize s3.start = s4 at *
            go_wp2_with fail
            refine (HS3.out _ P.out).mono ?_
            clear P
            rintro e w7' ⟨rfl, P⟩
            have P := Lib.hid P
            go_wp2_with fail
            refine (HO3.out _ P.out).mono ?_
            clear P HS3 HO3
            rintro e w7'' ⟨rfl, S⟩
            have S := Lib.hid S
            generalize w7'.heap.size = q3 at S ⊢
            have hwb := Lib.hid (WK.wb (by omega))
            have hwn := Lib.hid (fun (j : Nat) (hj : j < 3 + m) => worn_at (s := s4) (i := j) (by rw [WK.wc.n]; exact hj))
            have HW := Lib.hid (fun W (S : JS w W q3 (q3 + 1) p D cF s4) (j : Nat) => S.same (fworn_any (j : Int) S.j.fl))
            have WKh := Lib.hid WK
            clear WK
            have HW0 : Hid (∀ W, JS w W q3 (q3 + 1) p D cF s4 → Calls Try.prog 25 #[at_ p, .int .i64 0] W fun e w' => e = .returned (.int .i64 (s4.wearAt 0)) ∧ JS w w' q3 (q3 + 1) p D cF s4) := Lib.hid (fun W S => by
              have h := HW.out W S 0
              rw [hwn.out 0 (by omega)] at h
              exact h)
            go_wp2_with fail
            refine (HW0.out _ S.out).mono ?_
            clear S
            rintro e w8 ⟨rfl, S⟩
            have S := Lib.hid S
            go_wp2_with fail
            refine (HW0.out _ S.out).mono ?_
            clear S
            rintro e w9 ⟨rfl, S⟩
            have S := Lib.hid S
            clear HW0
            go_wp2_with fail
            go_loopw [16, 17, 18, 19] (fun sm lo hi sj wq => ∃ (j : Nat) (sum low high : Int), j ≤ 3 + m ∧ sm = .int .i64 sum ∧ lo = .int .i64 low ∧ hi = .int .i64 high ∧ sj = .int .i64 (j : Int) ∧ JS w wq q3 (q3 + 1) p D cF s4 ∧ WL (3 + m) s4.wearAt j sum low high) (fun _ _ _ sj _ => 3 + m - (intOf sj).toNat)
            case atStart => exact ⟨0, 0, _, _, by omega, rfl, rfl, rfl, rfl, S.out, WL.start (by omega) _⟩
            case round =>
              clear S
              obtain ⟨j, sum, low, high, hj, rfl, rfl, rfl, rfl, S, Wl⟩ := hrel
              have S := Lib.hid S
              obtain ⟨⟨bs0, bs1⟩, ⟨bl0, bl1⟩, bh0, bh1⟩ := Wl.bd WKh.out (by omega) (by omega) (by omega)
              by_cases hlt : j < 3 + m
              · have hltI : (j : Int) < 3 + (m : Int) := by omega
                have hyb := hwb.out j (by omega)
                have HWj := Lib.hid (fun W (S : JS w W q3 (q3 + 1) p D cF s4) => HW.out W S j)
                rw [hwn.out j hlt] at HWj
                have Wn := Lib.hid (Wl.next hlt)
                clear Wl
                generalize s4.wearAt j = y at *
                go_wp2_with fail
                refine (HWj.out _ S.out).mono ?_
                clear S
                rintro e w10 ⟨rfl, S⟩
                have S := Lib.hid S
                go_wp2_with fail
                refine (HWj.out _ S.out).mono ?_
                clear S
                rintro e w11 ⟨rfl, S⟩
                have S := Lib.hid S
                generalize hlo : (if y < low then y else low) = lo at *
                go_wp2_with fail
                refine (HWj.out _ S.out).mono ?_
                clear S
                rintro e w12 ⟨rfl, S⟩
                have S := Lib.hid S
                generalize hhi : (if high < y then y else high) = hi at *
                go_wp2_with fail
                go_roundw
                case rel => exact ⟨j + 1, _, _, _, by omega, rfl, rfl, rfl, by go_num, S.out, by first | exact Wn.out | (rw [← hlo] at Wn; exact Wn.out)⟩
                case measure => simp [intOf]; omega
              · have hnl : ¬ (j : Int) < 3 + (m : Int) := by omega
                obtain rfl : j = 3 + m := by omega
                obtain ⟨hd1, hd2⟩ := Wl.done WKh.out
                have hkx : ((kk : Int) : Int) + (x : Int) + 1 = ((i + 1 : Nat) : Int) := by omega
                go_wp2_with fail
                go_roundw
                case rel => exact ⟨i + 1, kk, x + 1, s4, q3, (q3 + 1), by omega, by omega, rfl, by go_num, by go_num, by go_num, by omega, S.out, WKh.out⟩
                case measure => simp [intOf]; omega
      · obtain rfl : i = 50 := by omega
        go_wp2_with fail
        refine (HK.out _).mono ?_
        rintro e w5 ⟨rfl, b⟩
        have B := S.out.b.trans (b.mono S.out.b.size)
        go_wp2_with fail
        go_ret
        exact ⟨rfl, B⟩
    · obtain rfl : i = os.length := by omega
      go_wp2_with fail
      refine (HK.out _).mono ?_
      rintro e w5 ⟨rfl, b⟩
      have B := S.out.b.trans (b.mono S.out.b.size)
      go_wp2_with fail
      go_ret
      exact ⟨rfl, B⟩

theorem own : ownKnob Try.prog.godebug = none := by kernel_rfl
theorem laidOut : laidOutB Try.prog = true := by kernel_rfl

set_option maxRecDepth 100000 in
theorem lifted (os : Os) (started : os.Started) (H : Type) (enc : TypeId × Value → H) :
    ReturnsInHanded {} Try.checked os 6 .any (Rows.journalWearsSpec.pre6 enc Try.prog Try.f6 Rows.journalWearsRow.domain false) (Rows.journalWearsSpec.post enc Try.prog Try.f6 false true false false) := by
  refine returnsInHanded_of_change (C := Try.checked) own started (by kernel_rfl) Try.func6
    (ChangeSpec.witness6 (enc := enc) (C := Try.checked) false ⟨#[], #[.int .u8 0, .slice none 0 0], []⟩ 8 (by kernel_rfl) (by kernel_rfl) (by kernel_rfl) (by kernel_rfl)) ?_
  intro W base args ds gs before hval0 hW hcnd _
  have hval : ∀ (j : Nat) t v, Try.f6.params[j]? = some t → args[j]? = some v → Value.okWide Try.prog W .any base t v := hval0
  have hW' := hW
  obtain ⟨p, q, hA0, hV, rfl, hfz, hnd⟩ := hW
  have hA : DataW.TrodAll enc Try.prog W 0 (fun _ => true) true Try.f6.params.toList args.toList ds p := hA0
  rw [Try.params6] at hA hval
  obtain ⟨v0, vs0, d0, ds0, p0, q0, hargs, rfl, rfl, h0, r0⟩ := trodAll_cons hA
  obtain ⟨v1, vs1, d1, ds1, p1, q1, rfl, rfl, rfl, h1, r1⟩ := trodAll_cons r0
  obtain ⟨rfl, rfl, rfl⟩ := trodAll_nil r1
  obtain rfl : args = #[v0, v1] := by cases args; simp_all
  obtain ⟨rfl, rfl⟩ := trodVars_none hV
  obtain ⟨a0, rfl, rfl, rfl, w0⟩ := open_int Try.underlying5 (hval 0 5 v0 rfl rfl) h0
  have k1 := h1
  have lt1 : ∀ x ∈ p1, x.block < W.heap.size := by obtain ⟨m, hm⟩ := k1; exact DataW.trod_lt m _ _ _ hm
  obtain ⟨A1, c1, o1, rfl, w1, l1, z1⟩ := Jou.open_ops (hval 1 22 v1 rfl rfl) h1
  clear hA0 hval0
  refine (walk a0 A1 c1 o1 W (Mem.wf_u8 w0) w1 l1 z1).mono fun e W' ⟨he, bel⟩ => ?_
  subst he
  exact ⟨_, rfl, _, _, _, [], _, [], hW', trodAll_mk1 (shut_bool Try.underlying4 _), (trodAll_cons_mk (shut_int Try.underlying5 w0) (trodAll_cons_mk (Below.trod laidOut (by kernel_rfl) (of_decide_eq_true (by kernel_rfl)) k1 bel lt1) trodAll_mk0)), rfl, bel.frame _, fun h => by cases h⟩

theorem over : Rows.journalWearsRow.holds Try.pinned (OpenSpec.ofChange Rows.journalWearsSpec) :=
  OpenClaim.holds_of_wide 6 Try.f6 rfl rfl rfl rfl rfl rfl rfl ⟨rfl, rfl, rfl, rfl, rfl⟩ rfl rfl rfl rfl rfl (by kernel_rfl) Try.func6 (by kernel_rfl)
    (of_decide_eq_true (by kernel_rfl)) (by unfold Func.isWrapper; first | (rw [if_pos (by decide +kernel)]; kernel_rfl) | (rw [if_neg (by decide +kernel)]; exact ⟨rfl, rfl⟩))
    (fun os started H enc _ => lifted os started H enc)

/-- The given statement. -/
theorem proved : Rows.JournalWearsSaid := over

end Go.Proofs.Ytppjjdaejhilkaa.journalWears
