/-
  Proved: SectorRows, for any number, any list of data and any bytes behind: records laid one behind the other, with rising numbers, are all of a sector's; bytes behind them that are no record of the next number are none, and make it unclean, if they are not all ones.
-/
import Derived.Test.YtfiojimppbaihaaRows
import Derived.Test.YtfiojimppbaihaaLift
import Derived.Test.YtfiojimppbaihaaBytss
import Derived.Test.YtfiojimppbaihaaSecSame
import Derived.Test.YtfiojimppbaihaaSecRowsM
import Derived.Test.YtfiojimppbaihaaTextN
import Derived.Deep.DeepCutAuto
import Derived.Deep.RegionHeld
namespace Go.Proofs.Ytfiojimppbaihaa.sectorRows
open Go.ChangeShapes Go.WideShapes Go.ChangeAt Go.RowKit Mem Rec Sec
open Go.ChangeMaps (open_string shut_string)
set_option linter.unusedVariables false

theorem own_caps {w : World} {b : Nat} {e : TypeId} {v : Value} {bs : List UInt8} (h : Own w b e v bs) {n : Nat} (hn : bs.length = n) : ∃ A c, v = .slice A n c ∧ Rd w w.heap.size A bs ∧ n ≤ c ∧ c ≤ maxLen := by
  subst hn
  by_cases hp : 0 < bs.length
  · obtain ⟨g, cap, hv, _, _, h1, h2⟩ := h.some_ hp
    obtain ⟨A, c, hv', hr⟩ := h.form
    rw [hv] at hv'
    injection hv' with q1 q2 q3
    subst q1
    exact ⟨_, cap, hv, hr, h1, h2⟩
  · rcases h.2 with ⟨hv, hn⟩ | ⟨g, cap, cur, hv, hb, hg, hnc, hcm, hcs, ht⟩
    · exact ⟨none, 0, by rw [hv, hn], .inl (List.eq_nil_of_length_eq_zero (by omega)), by omega, by simp [maxLen]⟩
    · exact ⟨_, cap, hv, .inl (List.eq_nil_of_length_eq_zero (by omega)), hnc, hcm⟩
theorem last_at {ds : List (List UInt8)} (h : 0 < ds.length) : ds.getLastD [] = ds[ds.length - 1] := by
  cases ds with
  | nil => simp at h
  | cons d r => simp [List.getLastD, List.getLast_eq_getElem]
/-- What is known of the look at block p. -/
structure RS (w W : World) (p : Nat) (n : Int) (A : Option Addr) (c : Nat) (d : List UInt8) (cnt e : Nat) (cl : Bool) : Prop where
  c1 : W.cell? ⟨p, 1, none⟩ = some (.int .u32 n)
  c2 : W.cell? ⟨p, 2, none⟩ = some (.slice A d.length c)
  c3 : W.cell? ⟨p, 3, none⟩ = some (.int .i64 (cnt : Int))
  c4 : W.cell? ⟨p, 4, none⟩ = some (.int .i64 (e : Int))
  c5 : W.cell? ⟨p, 5, none⟩ = some (.bool cl)
  rd : Rd W W.heap.size A d
  b : Below w.heap.size w W

theorem RS.drew {w W : World} {p : Nat} {n : Int} {A : Option Addr} {c : Nat} {d : List UInt8} {cnt e : Nat} {cl : Bool} (h : RS w W p n A c d cnt e cl) : RS w W.drew p n A c d cnt e cl := ⟨h.c1, h.c2, h.c3, h.c4, h.c5, h.rd, h.b.drew⟩

set_option maxRecDepth 100000 in
set_option maxHeartbeats 4000000 in
theorem walk (a : Int) (D : Option Addr) (cd : Nat) (ds : List (List UInt8)) (T : Option Addr) (ct : Nat) (ts : List UInt8) (w : World) (ha : 0 ≤ a ∧ a ≤ 4294967295)
    (rd : RdS w w.heap.size D ds) (md : ds.length ≤ maxLen) (zd : ds.length ≤ cd ∧ cd ≤ maxLen) (rt : Rd w w.heap.size T ts) (mt : ts.length ≤ maxLen) (zt : ts.length ≤ ct ∧ ct ≤ maxLen) :
    Calls Try.prog 4 #[.int .u32 a, .slice D ds.length cd, .slice T ts.length ct] w fun e w' => e = .returned (.bool true) ∧ Below w.heap.size w w' := by
  unfold maxLen at md mt
  have HZT := Lib.hid zt
  clear zt
  by_cases h20 : 60 < ds.length ∨ 3000 < ts.length
  · rcases (by omega : 60 < ds.length ∨ ds.length ≤ 60 ∧ 3000 < ts.length) with h | ⟨h1, h⟩
    all_goals
      clear h20
      go_enter Try.func4, Try.ntmps4
      go_wp2_with fail
      refine (known_any _).mono ?_
      rintro e w' ⟨rfl, hb⟩
      go_wp2_with fail
      go_ret
      exact ⟨rfl, hb⟩
  have hd60 : ds.length ≤ 60 := by omega
  have ht3 : ts.length ≤ 3000 := by omega
  clear h20 md mt
  obtain ⟨i0, hi, hz0, hz1, hz2⟩ := info_parts info_u8
  have hi := Lib.hid hi
  have hz0 := Lib.hid hz0
  have hz1 := Lib.hid hz1
  have hz2 := Lib.hid hz2
  go_enter Try.func4, Try.ntmps4
  go_upto_region 3 with fail
  go_cut [0, 31] from 26 to 31 (fun z s wx => z = .int .u32 a ∧ s = .bool (decide (a = 0 ∨ 2147483648 < a)) ∧ w = wx)
  case first =>
    go_wp2_with fail
    all_goals go_meet
    all_goals
      refine ⟨?_, ?_, rfl⟩
      · simp [*]
      · congr 1
        simp [*]
  obtain ⟨rfl, rfl, rfl⟩ := hcut
  go_upto_if 31 with fail
  go_cut [0] from 26 to 31 (fun s wx => ∃ num : Int, s = .int .u32 num ∧ 1 ≤ num ∧ num ≤ 2147483648 ∧ w = wx)
  case first =>
    go_wp2_with fail
    all_goals go_meet
    all_goals first
      | exact ⟨7, rfl, by omega, by omega, rfl⟩
      | exact ⟨a, rfl, by omega, by omega, rfl⟩
  obtain ⟨num, rfl, n1, n2, rfl⟩ := hcut
  clear ha
  go_wp2_with fail
  go_loopw [7, 8] (fun v i wr => ∃ k : Nat, k ≤ ds.length ∧ i = .int .i64 (k : Int) ∧ Own wr w.heap.size 5 v (rows num (ds.take k)) ∧ Below w.heap.size w wr ∧ ∀ d ∈ ds.take k, d.length ≤ 960) (fun _ i _ => ds.length - (intOf i).toNat)
  case atStart => exact ⟨0, Nat.zero_le _, rfl, Own.nil _ _ _, Below.refl _ _, by simp⟩
  case round =>
    obtain ⟨k, hk, rfl, hown, hb, h960⟩ := hrel
    have hlen := rows_le (num := num) h960
    have htl : (ds.take k).length = k := by simp [hk]
    rw [htl] at hlen
    by_cases hlt : k < ds.length
    · obtain ⟨g, off, A', c', rfl, hg, hcell, hrd, m1, m2, m3⟩ := (rd.below hb).at_ hlt
      have HT := Lib.hid (rows_take (num := num) hlt)
      have HM := Lib.hid (show ∀ d ∈ ds.take (k + 1), d.length ≤ 960 ∨ ds[k].length = d.length from fun d hd => by
        rw [List.take_succ_eq_append_getElem hlt] at hd
        rcases List.mem_append.1 hd with h | h
        · exact .inl (h960 d h)
        · right; simp at h; rw [h])
      generalize ds[k] = d at *
      unfold maxLen at m1
      by_cases hq : 960 < d.length
      · go_wp2_with fail
        refine (known_any _).mono ?_
        rintro e w' ⟨rfl, b⟩
        go_wp2_with fail
        go_ret
        exact ⟨rfl, hb.trans (b.mono hb.size)⟩
      · have BD := Lib.hid (rbuild_ok 1 (num + (k : Int)) A' c' d wr (hrd.mono hb.size) (by omega) (by omega) (by omega) (by omega) (by omega) (err_row (by omega) (by omega)))
        have hbl := build_length 1 (num + (k : Int)) d
        have HK : Hid (∀ d' ∈ ds.take (k + 1), d'.length ≤ 960) := fun d' h => by
          rcases HM.out d' h with h | h
          · exact h
          · omega
        generalize build 1 (num + (k : Int)) d = X at *
        obtain ⟨m, hm⟩ : ∃ m, X.length = m := ⟨_, rfl⟩
        have hm9 : m ≤ 973 := by omega
        have HX := Lib.hid hm
        clear hbl hm
        obtain ⟨R, hR⟩ : ∃ R, rows num (ds.take k) = R := ⟨_, rfl⟩
        rw [hR] at hown hlen HT
        have hrl : R.length ≤ 58380 := by omega
        clear hR hlen
        go_wp2_with fail
        refine BD.out.mono ?_
        rintro e w2 ⟨v2, rfl, o2, b2⟩
        have o1 := hown.below b2 (Nat.le_refl _)
        have B2 := hb.trans (b2.mono hb.size)
        have hb2 := B2.size
        obtain ⟨A2, c2, rfl, r2⟩ := o2.form_n HX.out
        clear BD hown hb b2 o2
        go_wp2_with (at_builtin; refine wpList_app _ rfl (.tmp 60) (.tmp 61) 22 rfl w.heap.size 5 i0 Try.underlying22 hi.out hz0.out hz1.out hz2.out _ R rfl o1 A2 m c2 X rfl HX.out.symm w2.heap.size r2 (by rw [HX.out]; omega) (by omega) ?_; intro v3 w3 o3 g3 t3; have B3 : Below w.heap.size w w3 := B2.grown g3 B2.size (fun g hg => (o1.lt g hg).1); have O3 := Lib.hid o3; have B3' := Lib.hid B3; clear o3 B3 g3 t3)
        go_roundw
        case rel => exact ⟨k + 1, by omega, by go_num, by rw [HT.out]; exact O3.out, B3'.out, HK.out⟩
        case measure => simp [intOf]; omega
    · obtain rfl : k = ds.length := by omega
      rw [List.take_length] at hown h960 hlen
      have ⟨RL1, RL2⟩ := rows_look (num := num) (ds := ds) ts (by omega) (by omega) h960
      have HDR := Lib.hid (show (rows num ds ++ ts).drop (rows num ds).length = ts by simp)
      obtain ⟨R, hR⟩ : ∃ R, rows num ds = R := ⟨_, rfl⟩
      unfold Nextd at RL1 RL2
      rw [hR] at hown hlen RL1 RL2 HDR
      obtain ⟨end_, hend⟩ : ∃ end_, R.length = end_ := ⟨_, rfl⟩
      rw [hend] at hlen RL1 RL2 HDR
      have HEND := Lib.hid hend
      have hend9 : end_ ≤ 58380 := by omega
      obtain ⟨A1, c1, rfl, _⟩ := hown.form_n hend
      have rt1 := rt.below hb
      have HBX := hb.size
      clear hR hend hlen
      go_wp2_with (at_builtin; refine wpList_app _ rfl (.tmp 65) (.tmp 66) 22 rfl w.heap.size 5 i0 Try.underlying22 hi.out hz0.out hz1.out hz2.out _ R rfl hown T ts.length ct ts rfl rfl w.heap.size rt1 (by rw [HEND.out]; omega) HBX ?_; intro v3 w3 o3 g3 t3; have B3 : Below w.heap.size w w3 := hb.grown g3 HBX (fun g hg => (hown.lt g hg).1); have O3 := Lib.hid o3; have B3' := Lib.hid B3; clear o3 B3 g3 t3)
      have hbl : (R ++ ts).length = end_ + ts.length := by rw [List.length_append, HEND.out]
      obtain ⟨A3, c3, rfl, r3, m1, m2⟩ := own_caps O3.out hbl
      have HB3 := B3'
      clear O3 B3' hown hb rt1
      generalize R ++ ts = bs at *
      have PP := Lib.hid (rparse_any A3 (end_ + ts.length) c3 (end_ : Int) bs w3 r3 hbl.symm (by omega) m1 m2 (by omega) (by omega))
      have LL := Lib.hid (fun W (h : Rd W W.heap.size A3 bs) => of_any A3 (end_ + ts.length) c3 bs W h hbl.symm (by omega) m1 m2)
      unfold LooksTo at LL
      have HXL : Hid ((Sec.look bs).d.length ≤ 960) := (look_e bs).2.2.2.1
      obtain ⟨⟨K, M, DD, TO, E⟩, hP⟩ : ∃ P, parseA bs (end_ : Int) = P := ⟨_, rfl⟩
      rw [hP] at PP RL1 RL2
      simp only at RL1 RL2
      obtain ⟨x, hx⟩ : ∃ x, Sec.look bs = x := ⟨_, rfl⟩
      rw [hx] at LL RL1 RL2 HXL
      obtain ⟨k, n, d, cnt, e9⟩ := x
      simp only at LL RL1 RL2 HXL
      clear hP hx
      have RL1 := Lib.hid RL1
      have RL2 := Lib.hid RL2
      go_wp2_with fail
      refine PP.out.mono ?_
      rintro e w4 ⟨v4, rfl, o4, b4⟩
      obtain ⟨A4, c4, rfl, _⟩ := o4.form
      have r4 := (r3.below b4).mono b4.size
      have B4 := HB3.out.trans (b4.mono HB3.out.size)
      have rp := heap_alloc_new w4 (.cells #[.int .i64 K, .int .u32 M, .slice A4 DD.length c4] 27)
      have b5 := below1 w4 (.cells #[.int .i64 K, .int .u32 M, .slice A4 DD.length c4] 27)
      have r5 := (r4.below b5).mono b5.size
      have B5 := B4.trans (b5.mono B4.size)
      have hz5 : w4.heap.size < (w4.alloc (.cells #[.int .i64 K, .int .u32 M, .slice A4 DD.length c4] 27)).heap.size := by rw [World.size_alloc]; omega
      have LL' := Lib.hid (LL.out _ r5)
      clear PP LL r3 r4 r5 o4 b4 B4 b5
      go_wp2_with fail
      refine LL'.out.mono ?_
      rintro e w6 ⟨v6, rfl, o6, b6⟩
      obtain ⟨A6, c6, rfl, rd6⟩ := o6.form
      have rp6 := (b6.block _ hz5).trans rp
      have B6 := B5.trans (b6.mono B5.size)
      have z6 : w4.heap.size < w6.heap.size := Nat.lt_of_lt_of_le hz5 b6.size
      clear LL' o6 b6 rp hz5 B5
      obtain ⟨CL, hCL⟩ : ∃ CL, blankB (bs.drop e9) = CL := ⟨_, rfl⟩
      rw [hCL]
      have HCL := Lib.hid hCL
      clear hCL
      have hq := heap_alloc_new w6 (.cells #[.int .i64 k, .int .u32 n, .slice A6 d.length c6, .int .i64 (cnt : Int), .int .i64 (e9 : Int), .bool CL] 29)
      have bq := below1 w6 (.cells #[.int .i64 k, .int .u32 n, .slice A6 d.length c6, .int .i64 (cnt : Int), .int .i64 (e9 : Int), .bool CL] 29)
      have B7 := Lib.hid (B6.trans (bq.mono B6.size))
      have rd7 := Lib.hid ((rd6.below bq).mono bq.size)
      have u1 := cell_of ((bq.block _ z6).trans rp6) 1
      have f1 := cell_of hq 1
      have f2 := cell_of hq 2
      have f3 := cell_of hq 3
      have f4 := cell_of hq 4
      have f5 := cell_of hq 5
      have HRT := Lib.hid rt
      have HRD := Lib.hid rd
      clear rp6 rd6 hq bq B6 rt rd
      by_cases hN : E = 0 ∧ (ds.length = 0 ∨ M = num + ds.length)
      · have hc := RL1.out hN
        clear RL1 RL2
        obtain ⟨rfl, hN⟩ := hN
        by_cases h0 : ds.length = 0
        · clear hN
          go_wp2_with fail
          refine (known_any _).mono ?_
          rintro e w8 ⟨rfl, b8⟩
          have B8 := B7.out.trans (b8.mono B7.out.size)
          go_wp2_with fail
          go_ret
          exact ⟨rfl, B8⟩
        · have hM : M = num + (ds.length : Int) := by omega
          clear hN
          have hMb : (M == num + (ds.length : Int)) = true := by simp [hM]
          clear hM
          go_wp2_with fail
          refine (known_any _).mono ?_
          rintro e w8 ⟨rfl, b8⟩
          have B8 := B7.out.trans (b8.mono B7.out.size)
          go_wp2_with fail
          go_ret
          exact ⟨rfl, B8⟩
      · obtain ⟨hc1, hc2, hnd⟩ := RL2.out hN
        subst hc1
        have hc2 := hc2.symm
        subst hc2
        have HND := Lib.hid hnd
        have hcl : blankB ts = CL := by rw [← HCL.out, HDR.out]
        subst hcl
        clear hnd RL1 RL2 HCL HDR
        have RS0 : Hid (RS w (w6.alloc (.cells #[.int .i64 k, .int .u32 n, .slice A6 d.length c6, .int .i64 (ds.length : Int), .int .i64 (end_ : Int), .bool (blankB ts)] 29)).drew w6.heap.size n A6 c6 d ds.length end_ (blankB ts)) := ⟨f1, f2, f3, f4, f5, rd7.out, B7.out.drew⟩
        by_cases hE : E = 0
        · have hMb : (M == num + (ds.length : Int)) = false := by simp; omega
          have h00 : ¬ ds.length = 0 := by omega
          have h00b : ((ds.length : Int) == 0) = false := beq_eq_false_iff_ne.2 (by omega)
          clear hN
          subst hE
          go_wp2_with fail
          clear hMb h00
          refine Txt.wp_region_textN 19 (fun W => RS w W w6.heap.size n A6 c6 d ds.length end_ (blankB ts)) (by kernel_rfl) (by kernel_rfl) (by kernel_rfl) (by kernel_rfl) (fun _ _ _ _ _ h => h) RS0.out ?_
          clear f1 f2 f3 f4 f5
          repeat (
            apply Txt.step rfl
            · intro W hS K hK
              have f3 := hS.c3
              have f4 := hS.c4
              have f5 := hS.c5
              have HS := Lib.hid hS
              clear hS
              go_simp
              first
                | exact hK.out _ HS.out
                | (go_wp2_with (first
                    | (go_at_call 14; refine (rblank_any T ts.length ct _ ts W (HRT.out.below HS.out.b) rfl (by omega)).mono ?_; rintro e w' ⟨rfl, rfl⟩));
                   exact hK.out _ HS.out)
            · first | exact ⟨_, rfl⟩ | exact ⟨undef, rfl⟩)
          refine Txt.last fun W hS => ?_
          have RS1 := Lib.hid hS
          clear hS
          by_cases h0 : ds.length = 0
          · have h0' : (ds.length : Int) ≤ 0 := by omega
            go_wp2_with fail
            refine (known_any _).mono ?_
            rintro e w8 ⟨rfl, b8⟩
            have B8 := RS1.out.b.trans (b8.mono RS1.out.b.size)
            go_wp2_with fail
            go_ret
            exact ⟨rfl, B8⟩
          · have h0' : (0 : Int) < (ds.length : Int) := by omega
            have hlast : ds.length - 1 < ds.length := by omega
            obtain ⟨hn, hdd⟩ := HND.out (by omega)
            have hld : ds.getLastD [] = ds[ds.length - 1] := last_at (by omega)
            rw [hld] at hdd
            have HLA := HRD.out.at_ hlast
            rw [← hdd] at HLA
            obtain ⟨gg, oo, Ad, cD, rfl, hgg, hcd, hrd, _⟩ := HLA
            have HCD := Lib.hid hcd
            have HRDD := Lib.hid hrd
            have HGG := Lib.hid hgg
            clear hcd hrd hgg
            subst hn
            clear hld hdd HND
            have hw1 : IntKind.u32.wrap (ds.length : Int) = (ds.length : Int) := by rw [IntKind.wrap_u32]; omega
            have hw2 : IntKind.u32.wrap (num + (ds.length : Int)) = num + (ds.length : Int) := by rw [IntKind.wrap_u32]; omega
            have hw3 : IntKind.u32.wrap (num + (ds.length : Int) - 1) = num + (ds.length : Int) - 1 := by rw [IntKind.wrap_u32]; omega
            have hli : IntKind.i64.wrap ((ds.length : Int) - 1) = ((ds.length - 1 : Nat) : Int) := by rw [IntWalk.i64_in _ (by omega)]; omega
            go_wp2_with fail
            refine Txt.wp_region_tailN 27 (fun W => RS w W w6.heap.size (num + (ds.length : Int) - 1) A6 c6 d ds.length end_ (blankB ts)) (by kernel_rfl) (by kernel_rfl) (by kernel_rfl) (by kernel_rfl) (by kernel_rfl) (fun _ _ _ _ _ h => h) RS1.out.drew ?_
            iterate 27 (
              apply Txt.stepR rfl
              · intro W hS K hK
                have f1 := hS.c1
                have f2 := hS.c2
                have hcd := (hS.b.cell (p := ⟨gg, oo + (ds.length - 1), none⟩) HGG.out).trans HCD.out
                have hrd := HRDD.out.below hS.b
                have s1 := run_str hS.rd d.length c6 rfl 22 5 9 Try.underlying22 Try.underlying5 Try.underlying9
                have s2 := run_str hrd d.length cD rfl 22 5 9 Try.underlying22 Try.underlying5 Try.underlying9
                have HS := Lib.hid hS
                clear hS
                go_simp
                first
                  | exact hK.out _ HS.out
                  | (go_wp2_with fail; exact hK.out _ HS.out)
              · first | exact ⟨_, rfl⟩ | exact ⟨undef, rfl⟩)
            refine Txt.lastR rfl ?_
            intro W hS K hK
            have RS2 := Lib.hid hS.b
            clear hS
            go_simp
            refine hK.out _ _ ?_
            clear hK K
            go_wp2_with fail
            refine (known_any _).mono ?_
            rintro e w8 ⟨rfl, b8⟩
            have B8 := RS2.out.trans (b8.mono RS2.out.size)
            go_wp2_with fail
            go_ret
            exact ⟨rfl, B8⟩
        · have hEb : (E == 0) = false := by simp [hE]
          clear hN
          go_wp2_with fail
          clear hEb hE
          refine Txt.wp_region_textN 19 (fun W => RS w W w6.heap.size n A6 c6 d ds.length end_ (blankB ts)) (by kernel_rfl) (by kernel_rfl) (by kernel_rfl) (by kernel_rfl) (fun _ _ _ _ _ h => h) RS0.out ?_
          clear f1 f2 f3 f4 f5
          repeat (
            apply Txt.step rfl
            · intro W hS K hK
              have f3 := hS.c3
              have f4 := hS.c4
              have f5 := hS.c5
              have HS := Lib.hid hS
              clear hS
              go_simp
              first
                | exact hK.out _ HS.out
                | (go_wp2_with (first
                    | (go_at_call 14; refine (rblank_any T ts.length ct _ ts W (HRT.out.below HS.out.b) rfl (by omega)).mono ?_; rintro e w' ⟨rfl, rfl⟩));
                   exact hK.out _ HS.out)
            · first | exact ⟨_, rfl⟩ | exact ⟨undef, rfl⟩)
          refine Txt.last fun W hS => ?_
          have RS1 := Lib.hid hS
          clear hS
          by_cases h0 : ds.length = 0
          · have h0' : (ds.length : Int) ≤ 0 := by omega
            go_wp2_with fail
            refine (known_any _).mono ?_
            rintro e w8 ⟨rfl, b8⟩
            have B8 := RS1.out.b.trans (b8.mono RS1.out.b.size)
            go_wp2_with fail
            go_ret
            exact ⟨rfl, B8⟩
          · have h0' : (0 : Int) < (ds.length : Int) := by omega
            have hlast : ds.length - 1 < ds.length := by omega
            obtain ⟨hn, hdd⟩ := HND.out (by omega)
            have hld : ds.getLastD [] = ds[ds.length - 1] := last_at (by omega)
            rw [hld] at hdd
            have HLA := HRD.out.at_ hlast
            rw [← hdd] at HLA
            obtain ⟨gg, oo, Ad, cD, rfl, hgg, hcd, hrd, _⟩ := HLA
            have HCD := Lib.hid hcd
            have HRDD := Lib.hid hrd
            have HGG := Lib.hid hgg
            clear hcd hrd hgg
            subst hn
            clear hld hdd HND
            have hw1 : IntKind.u32.wrap (ds.length : Int) = (ds.length : Int) := by rw [IntKind.wrap_u32]; omega
            have hw2 : IntKind.u32.wrap (num + (ds.length : Int)) = num + (ds.length : Int) := by rw [IntKind.wrap_u32]; omega
            have hw3 : IntKind.u32.wrap (num + (ds.length : Int) - 1) = num + (ds.length : Int) - 1 := by rw [IntKind.wrap_u32]; omega
            have hli : IntKind.i64.wrap ((ds.length : Int) - 1) = ((ds.length - 1 : Nat) : Int) := by rw [IntWalk.i64_in _ (by omega)]; omega
            go_wp2_with fail
            refine Txt.wp_region_tailN 27 (fun W => RS w W w6.heap.size (num + (ds.length : Int) - 1) A6 c6 d ds.length end_ (blankB ts)) (by kernel_rfl) (by kernel_rfl) (by kernel_rfl) (by kernel_rfl) (by kernel_rfl) (fun _ _ _ _ _ h => h) RS1.out.drew ?_
            iterate 27 (
              apply Txt.stepR rfl
              · intro W hS K hK
                have f1 := hS.c1
                have f2 := hS.c2
                have hcd := (hS.b.cell (p := ⟨gg, oo + (ds.length - 1), none⟩) HGG.out).trans HCD.out
                have hrd := HRDD.out.below hS.b
                have s1 := run_str hS.rd d.length c6 rfl 22 5 9 Try.underlying22 Try.underlying5 Try.underlying9
                have s2 := run_str hrd d.length cD rfl 22 5 9 Try.underlying22 Try.underlying5 Try.underlying9
                have HS := Lib.hid hS
                clear hS
                go_simp
                first
                  | exact hK.out _ HS.out
                  | (go_wp2_with fail; exact hK.out _ HS.out)
              · first | exact ⟨_, rfl⟩ | exact ⟨undef, rfl⟩)
            refine Txt.lastR rfl ?_
            intro W hS K hK
            have RS2 := Lib.hid hS.b
            clear hS
            go_simp
            refine hK.out _ _ ?_
            clear hK K
            go_wp2_with fail
            refine (known_any _).mono ?_
            rintro e w8 ⟨rfl, b8⟩
            have B8 := RS2.out.trans (b8.mono RS2.out.size)
            go_wp2_with fail
            go_ret
            exact ⟨rfl, B8⟩

theorem own : ownKnob Try.prog.godebug = none := by kernel_rfl
theorem laidOut : laidOutB Try.prog = true := by kernel_rfl

set_option maxRecDepth 100000 in
theorem lifted (os : Os) (started : os.Started) (H : Type) (enc : TypeId × Value → H) :
    ReturnsInHanded {} Try.checked os 4 .any (Rows.sectorRowsSpec.pre6 enc Try.prog Try.f4 Rows.sectorRowsRow.domain false) (Rows.sectorRowsSpec.post enc Try.prog Try.f4 false true false false) := by
  refine returnsInHanded_of_change (C := Try.checked) own started (by kernel_rfl) Try.func4
    (ChangeSpec.witness6 (enc := enc) (C := Try.checked) false ⟨#[], #[.int .u32 0, .slice none 0 0, .slice none 0 0], []⟩ 8 (by kernel_rfl) (by kernel_rfl) (by kernel_rfl) (by kernel_rfl)) ?_
  intro W base args ds gs before hval0 hW hcnd _
  have hval : ∀ (j : Nat) t v, Try.f4.params[j]? = some t → args[j]? = some v → Value.okWide Try.prog W .any base t v := hval0
  have hW' := hW
  obtain ⟨p, q, hA0, hV, rfl, hfz, hnd⟩ := hW
  have hA : DataW.TrodAll enc Try.prog W 0 (fun _ => true) true Try.f4.params.toList args.toList ds p := hA0
  rw [Try.params4] at hA hval
  obtain ⟨v0, vs0, d0, ds0, p0, q0, hargs, rfl, rfl, h0, r0⟩ := trodAll_cons hA
  obtain ⟨v1, vs1, d1, ds1, p1, q1, rfl, rfl, rfl, h1, r1⟩ := trodAll_cons r0
  obtain ⟨v2, vs2, d2, ds2, p2, q2, rfl, rfl, rfl, h2, r2⟩ := trodAll_cons r1
  obtain ⟨rfl, rfl, rfl⟩ := trodAll_nil r2
  obtain rfl : args = #[v0, v1, v2] := by cases args; simp_all
  obtain ⟨rfl, rfl⟩ := trodVars_none hV
  obtain ⟨a0, rfl, rfl, rfl, w0⟩ := open_int Try.underlying25 (hval 0 25 v0 rfl rfl) h0
  have k1 := h1
  have lt1 : ∀ x ∈ p1, x.block < W.heap.size := by obtain ⟨m, hm⟩ := k1; exact DataW.trod_lt m _ _ _ hm
  obtain ⟨A1, c1, b1, rfl, w1, l1, z1⟩ := Mem.open_bytess Try.underlying37 Try.underlying22 Try.underlying5 (by kernel_rfl) (by kernel_rfl) (hval 1 37 v1 rfl rfl) h1
  have k2 := h2
  have lt2 : ∀ x ∈ p2, x.block < W.heap.size := by obtain ⟨m, hm⟩ := k2; exact DataW.trod_lt m _ _ _ hm
  obtain ⟨A2, c2, b2, rfl, w2, l2, z2⟩ := Mem.open_bytesc Try.underlying22 Try.underlying5 (by kernel_rfl) (hval 2 22 v2 rfl rfl) h2
  clear hA0 hval0
  refine (walk a0 A1 c1 b1 A2 c2 b2 W (Mem.wf_u32 w0) w1 l1 z1 w2 l2 z2).mono fun e W' ⟨he, bel⟩ => ?_
  subst he
  exact ⟨_, rfl, _, _, _, [], _, [], hW', trodAll_mk1 (shut_bool Try.underlying4 _), (trodAll_cons_mk (shut_int Try.underlying25 w0) (trodAll_cons_mk (Below.trod laidOut (by kernel_rfl) (of_decide_eq_true (by kernel_rfl)) k1 bel lt1) (trodAll_cons_mk (Below.trod laidOut (by kernel_rfl) (of_decide_eq_true (by kernel_rfl)) k2 bel lt2) trodAll_mk0))), rfl, bel.frame _, fun h => by cases h⟩

theorem over : Rows.sectorRowsRow.holds Try.pinned (OpenSpec.ofChange Rows.sectorRowsSpec) :=
  OpenClaim.holds_of_wide 4 Try.f4 rfl rfl rfl rfl rfl rfl rfl ⟨rfl, rfl, rfl, rfl, rfl⟩ rfl rfl rfl rfl rfl (by kernel_rfl) Try.func4 (by kernel_rfl)
    (of_decide_eq_true (by kernel_rfl)) (by unfold Func.isWrapper; first | (rw [if_pos (by decide +kernel)]; kernel_rfl) | (rw [if_neg (by decide +kernel)]; exact ⟨rfl, rfl⟩))
    (fun os started H enc _ => lifted os started H enc)

/-- The given statement. -/
theorem proved : Rows.SectorRowsSaid := over

end Go.Proofs.Ytfiojimppbaihaa.sectorRows
