/-
  Proved: FrameBack, for any frames and any text: a frame that was written is read as it was, a text that was read is written as it was, and so are lines.
-/
import Derived.Test.YtkkbjngjjeajoaaRows
import Derived.Test.YtkkbjngjjeajoaaFrmLines
import Derived.Test.YtkkbjngjjeajoaaFrmText
import Derived.Test.YtkkbjngjjeajoaaFrmTexts
import Derived.Test.YtkkbjngjjeajoaaFrmKnown
namespace Go.Proofs.Ytkkbjngjjeajoaa.frameBack
open Go.ChangeShapes Go.WideShapes Go.ChangeAt Go.RowKit Mem Frm
open Go.ChangeMaps (open_string shut_string)
set_option linter.unusedVariables false
set_option linter.unusedSimpArgs false
set_option maxRecDepth 100000

theorem same_self (i : Int) (r : Bool) (d : List UInt8) : same i r d i r d = true := by simp [same]
set_option maxHeartbeats 4000000 in
theorem walk (A : Option Addr) (c : Nat) (fs : List Fv) (s : ByteArray) (w : World)
    (hr : RdF w w.heap.size A fs) (hm : fs.length ≤ maxLen) (ho : ∀ j, j < fs.length → (fs.getD j Fv.zero).Ok) (hs : s.size ≤ maxLen) :
    Calls Try.prog 7 #[.slice A fs.length c, .string s] w fun e w' => e = .returned (.bool true) ∧ Below w.heap.size w w' := by
  obtain ⟨l, rfl⟩ : ∃ l : List UInt8, s = ⟨l.toArray⟩ := ⟨_, str_eta s⟩
  have hs' : l.length ≤ maxLen := by simpa [ByteArray.size] using hs
  unfold maxLen at hm hs'
  clear hs
  have LT := Lib.hid (light_any A c fs w hr hm ho)
  have HO := Lib.hid ho
  have HR := Lib.hid hr
  clear ho hr
  go_enter Try.func7, Try.ntmps7
  go_wp2_with fail
  refine LT.out.mono ?_
  rintro e w' ⟨b, rfl, hb, rfl⟩
  have HB := Lib.hid hb
  clear hb LT
  cases b with
  | false =>
    go_wp2_with fail
    refine (known_any _).mono ?_
    rintro e w1 ⟨rfl, b1⟩
    go_wp2_with fail
    go_ret
    exact ⟨rfl, b1⟩
  | true =>
    by_cases h5 : 1000 < l.length
    · go_wp2_with fail
      refine (known_any _).mono ?_
      rintro e w1 ⟨rfl, b1⟩
      go_wp2_with fail
      go_ret
      exact ⟨rfl, b1⟩
    · have d5 : decide (1000 < l.length) = false := by simp; omega
      have e5 : l.length ≤ 1000 := by omega
      clear h5
      have hn : fs.length ≤ 200 := by
        by_cases h : 200 < fs.length
        · have := (HB.out rfl 200 h).1
          omega
        · omega
      have T1 := Lib.hid (text_any A c fs w HR.out (by omega) HO.out (fun j hj => (HB.out rfl j hj).2))
      clear hm
      go_wp2_with fail
      refine T1.out.mono ?_
      rintro e w1 ⟨rfl, b1⟩
      have B1 := Lib.hid b1
      clear b1 T1
      have HLE := Lib.hid (fun (h : bad (fs.map Fv.fr) = 0) => joined_le _ h)
      have TB := Lib.hid (fun x h hx => @textV_bad (fs.map Fv.fr) x h hx)
      have TO := Lib.hid (fun h => @textV_ok (fs.map Fv.fr) h)
      by_cases hb0 : bad (fs.map Fv.fr) = 0
      focus
        rw [TO.out hb0]
        have jl := HLE.out hb0
        simp only [List.length_map] at jl
        have L1 := Lib.hid (fun W => lines_any (joined (fs.map Fv.fr)) W (by omega))
        rw [lines_text hb0] at L1
        clear hb0 jl HLE TB TO
        generalize joined (fs.map Fv.fr) = J at *
        go_wp2_with fail
        refine (L1.out _).mono ?_
        rintro e w2 ⟨v2, gs, rfl, f2, e2, b2⟩
        have B2 := Lib.hid (B1.out.trans (b2.mono B1.out.size))
        obtain ⟨A2, c2, rfl, r2⟩ := f2.form
        have AL := Lib.hid (all_any A c fs A2 c2 gs w2 ((HR.out.below B2.out).mono B2.out.size) r2 (by omega) e2.symm)
        clear b2 f2 e2 r2 L1 B1
        go_wp2_with fail
        refine AL.out.mono ?_
        rintro e W ⟨rfl, b3⟩
        have BW := Lib.hid (B2.out.trans (b3.mono B2.out.size))
        clear b3 B2 AL
        go_wp2_with fail
      rotate_left
      focus
        rw [TB.out _ rfl hb0]
        have hb1 : (bad (fs.map Fv.fr) == 0) = false := by simpa using hb0
        clear hb0 HLE TB TO
        generalize bad (fs.map Fv.fr) = Z at *
        have BW := Lib.hid B1.out
        clear B1
        generalize w1 = W at *
        go_wp2_with fail
      rotate_left
      all_goals
        go_loopw [10] (fun iv wr => ∃ k : Nat, k ≤ fs.length ∧ iv = .int .i64 (k : Int) ∧ Below w.heap.size w wr) (fun iv _ => fs.length - (intOf iv).toNat)
        case atStart => exact ⟨0, by omega, rfl, BW.out⟩
        case round =>
          obtain ⟨k, hk, rfl, hb⟩ := hrel
          have HBW := Lib.hid hb
          clear BW
          by_cases hlt : k < fs.length
          · obtain ⟨g, off, rfl, hg, q0, q1, q2, hrd⟩ := (HR.out.below hb).three hlt rfl
            have CC := Lib.hid (show ∀ W', Below wr.heap.size wr W' → W'.cell? ⟨g, off + k * 3, none⟩ = some (.int .i64 (fs.getD k Fv.zero).id) ∧ W'.cell? ⟨g, off + k * 3 + 1, none⟩ = some (.bool (fs.getD k Fv.zero).r) ∧ W'.cell? ⟨g, off + k * 3 + 2, none⟩ = some (.slice (fs.getD k Fv.zero).A (fs.getD k Fv.zero).d.length (fs.getD k Fv.zero).c) ∧ Rd W' w.heap.size (fs.getD k Fv.zero).A (fs.getD k Fv.zero).d from
              fun W' b => have hg' : g < wr.heap.size := Nat.lt_of_lt_of_le hg hb.size
                ⟨(b.cell (p := ⟨g, off + k * 3, none⟩) hg').trans q0, (b.cell (p := ⟨g, off + k * 3 + 1, none⟩) hg').trans q1, (b.cell (p := ⟨g, off + k * 3 + 2, none⟩) hg').trans q2, hrd.below (b.mono hb.size)⟩)
            have OK := Lib.hid (HO.out k hlt)
            have OD := Lib.hid (HB.out True.intro k hlt).2
            have i1 : (0 : Int) ≤ (k : Int) := by omega
            have i2 : (k : Int) < (fs.length : Int) := by omega
            generalize fs.getD k Fv.zero = F at *
            have SH := Lib.hid (show_any F.id F.r F.A F.c F.d wr (hrd.mono hb.size) OK.out.k0 OK.out.k1 (by have := OD.out; omega))
            have CK := Lib.hid (fun W' => check_any F.id F.r F.A F.d.length F.c W' OK.out.k0 OK.out.k1 (by have := OD.out; omega))
            clear hrd hb
            go_wp2_with fail
            refine SH.out.mono ?_
            rintro e w3 ⟨rfl, b3⟩
            have B3 := Lib.hid b3
            clear b3 q0 q1 q2 SH
            have L3 := Lib.hid (show wr.heap.size ≤ w3.heap.size from B3.out.size)
            by_cases he : err F.id F.r F.d.length = 0
            · rw [showV_yes he]
              have tl := text_le' he
              have P1 := Lib.hid (parse_any (text F.id F.r F.d) w3 (by omega))
              rw [parse_text he] at P1
              rw [he] at CK
              generalize text F.id F.r F.d = X at *
              clear he
              go_wp2_with fail
              refine P1.out.mono ?_
              rintro e w4 ⟨v4, rfl, o4, b4⟩
              obtain ⟨A4, c4, rfl, r4⟩ := o4.form
              have B4 := Lib.hid ((B3.out.trans (b4.mono B3.out.size)).alloc (Nat.le_trans B3.out.size b4.size) (.cells #[.int .i64 F.id, .bool F.r, .slice A4 F.d.length c4] 50))
              have N4 := Lib.hid (one_new w4 (.cells #[.int .i64 F.id, .bool F.r, .slice A4 F.d.length c4] 50))
              have R4 := Lib.hid (r4.below (one_below w4 (.cells #[.int .i64 F.id, .bool F.r, .slice A4 F.d.length c4] 50)))
              have hz4 : w4.heap.size < (w4.alloc (.cells #[.int .i64 F.id, .bool F.r, .slice A4 F.d.length c4] 50)).heap.size := by simp
              clear b4 o4 r4
              go_wp2_with fail
              generalize w4.alloc (.cells #[.int .i64 F.id, .bool F.r, .slice A4 F.d.length c4] 50) = W5 at *
              refine Txt.wp_region_textN 26 (fun W => Below W5.heap.size W5 W) (by kernel_rfl) (by kernel_rfl) (by kernel_rfl) (by kernel_rfl) (fun _ _ _ _ _ h => h) (Below.refl _ _).drew ?_
              repeat (
                apply Txt.step rfl
                · intro W hS K hK
                  have BW := Lib.hid (B4.out.trans (hS.mono B4.out.size))
                  obtain ⟨q0, q1, q2, R1⟩ := CC.out W BW.out
                  have HY := (hS.block _ hz4).trans N4.out
                  have u0 := cellof HY 0
                  have u1 := cellof HY 1
                  have u2 := cellof HY 2
                  have HS := Lib.hid hS
                  have HR1 := Lib.hid R1
                  have HR4 := Lib.hid (R4.out.below (hS.mono (Nat.le_of_lt hz4)))
                  have SZ := Lib.hid (Nat.le_trans (Nat.le_of_lt hz4) hS.size)
                  clear hS R1 HY
                  go_simp
                  first
                    | exact hK.out _ HS.out
                    | (go_wp2_with (first | (go_at_call 21; refine (CK.out W).mono ?_; rintro e w' ⟨rfl, b⟩; have T := Lib.hid (HS.out.trans (b.mono HS.out.size)); clear b) | (go_at_call 23; refine (same_any F.id F.r A4 c4 F.d F.id F.r F.A F.c F.d _ _ W HR4.out HR1.out SZ.out (Nat.le_trans HBW.out.size BW.out.size)).mono ?_; rw [same_self]; rintro e w' ⟨rfl, b⟩; have T := Lib.hid (HS.out.trans (b.mono HS.out.size)); clear b))
                       first | exact hK.out _ HS.out | exact hK.out _ T.out)
                · first | exact ⟨_, rfl⟩ | exact ⟨undef, rfl⟩)
              refine Txt.last fun W hS => ?_
              have B5 := Lib.hid (HBW.out.trans ((B4.out.trans (hS.mono B4.out.size)).mono HBW.out.size))
              clear hS CC
              go_wp2_with fail
              go_roundw
              case rel => exact ⟨k + 1, by omega, by go_num, B5.out⟩
              case measure => simp [intOf]; omega
            · rw [showV_no rfl he]
              have he' : (err F.id F.r F.d.length == 0) = false := by simpa using he
              have P1 := Lib.hid (parse_any [] w3 (by simp))
              rw [show parseA [] = (⟨0, false, []⟩, 4) by kernel_rfl] at P1
              generalize err F.id F.r F.d.length = E at *
              clear he
              go_wp2_with fail
              refine P1.out.mono ?_
              rintro e w4 ⟨v4, rfl, o4, b4⟩
              obtain ⟨A4, c4, rfl, r4⟩ := o4.form
              have B4 := Lib.hid ((B3.out.trans (b4.mono B3.out.size)).alloc (Nat.le_trans B3.out.size b4.size) (.cells #[.int .i64 0, .bool false, .slice A4 ([] : List UInt8).length c4] 50))
              have N4 := Lib.hid (one_new w4 (.cells #[.int .i64 0, .bool false, .slice A4 ([] : List UInt8).length c4] 50))
              have R4 := Lib.hid (r4.below (one_below w4 (.cells #[.int .i64 0, .bool false, .slice A4 ([] : List UInt8).length c4] 50)))
              have hz4 : w4.heap.size < (w4.alloc (.cells #[.int .i64 0, .bool false, .slice A4 ([] : List UInt8).length c4] 50)).heap.size := by simp
              clear b4 o4 r4
              go_wp2_with fail
              generalize w4.alloc (.cells #[.int .i64 0, .bool false, .slice A4 ([] : List UInt8).length c4] 50) = W5 at *
              refine Txt.wp_region_textN 26 (fun W => Below W5.heap.size W5 W) (by kernel_rfl) (by kernel_rfl) (by kernel_rfl) (by kernel_rfl) (fun _ _ _ _ _ h => h) (Below.refl _ _).drew ?_
              repeat (
                apply Txt.step rfl
                · intro W hS K hK
                  have BW := Lib.hid (B4.out.trans (hS.mono B4.out.size))
                  obtain ⟨q0, q1, q2, R1⟩ := CC.out W BW.out
                  have HY := (hS.block _ hz4).trans N4.out
                  have u0 := cellof HY 0
                  have u1 := cellof HY 1
                  have u2 := cellof HY 2
                  have HS := Lib.hid hS
                  have HR1 := Lib.hid R1
                  have HR4 := Lib.hid (R4.out.below (hS.mono (Nat.le_of_lt hz4)))
                  have SZ := Lib.hid (Nat.le_trans (Nat.le_of_lt hz4) hS.size)
                  clear hS R1 HY
                  go_simp
                  first
                    | exact hK.out _ HS.out
                    | (go_wp2_with (first | (go_at_call 21; refine (CK.out W).mono ?_; rintro e w' ⟨rfl, b⟩; have T := Lib.hid (HS.out.trans (b.mono HS.out.size)); clear b))
                       first | exact hK.out _ HS.out | exact hK.out _ T.out)
                · first | exact ⟨_, rfl⟩ | exact ⟨undef, rfl⟩)
              refine Txt.last fun W hS => ?_
              have B5 := Lib.hid (HBW.out.trans ((B4.out.trans (hS.mono B4.out.size)).mono HBW.out.size))
              clear hS CC
              go_wp2_with fail
              go_roundw
              case rel => exact ⟨k + 1, by omega, by go_num, B5.out⟩
              case measure => simp [intOf]; omega
          · obtain rfl : k = fs.length := by omega
            have PA := Lib.hid (parse_any l wr (by omega))
            have TP := Lib.hid (fun h => @text_parse l h)
            have PL := Lib.hid (parse_len l)
            generalize parseA l = P at *
            obtain ⟨⟨pi, pr, pd⟩, pe⟩ := P
            clear hb
            go_wp2_with fail
            refine PA.out.mono ?_
            rintro e w4 ⟨v4, rfl, o4, b4⟩
            obtain ⟨A4, c4, rfl, r4⟩ := o4.form
            have B4 := Lib.hid (HBW.out.trans ((b4.alloc b4.size (.cells #[.int .i64 pi, .bool pr, .slice A4 pd.length c4] 50)).mono HBW.out.size))
            have N4 := Lib.hid (one_new w4 (.cells #[.int .i64 pi, .bool pr, .slice A4 pd.length c4] 50))
            have R4 := Lib.hid (r4.below (one_below w4 (.cells #[.int .i64 pi, .bool pr, .slice A4 pd.length c4] 50)))
            have q0 := cellof N4.out 0
            have q1 := cellof N4.out 1
            have q2 := cellof N4.out 2
            clear b4 o4 r4
            by_cases hp : pe = 0
            · subst hp
              obtain ⟨e1, e2⟩ := TP.out rfl
              obtain ⟨k1, k2, k3, _⟩ := err_ok (show err pi pr pd.length = 0 from e1)
              have SH := Lib.hid (fun W' h => show_any pi pr A4 c4 pd W' h (by omega) (by omega) (by omega))
              rw [showV_yes (show err pi pr pd.length = 0 from e1), show text pi pr pd = l from e2] at SH
              clear e1 e2 k1 k2 k3 TP
              go_wp2_with fail
              refine (SH.out _ (R4.out.mono (by simp))).mono ?_
              rintro e w5 ⟨rfl, b5⟩
              have B5 := Lib.hid (B4.out.trans (b5.mono B4.out.size))
              clear b5 q0 q1 q2
              go_wp2_with fail
              refine (known_any _).mono ?_
              rintro e w6 ⟨rfl, b6⟩
              have B6 := Lib.hid (B5.out.trans (b6.mono B5.out.size))
              clear b6
              go_wp2_with fail
              go_ret
              exact ⟨rfl, B6.out⟩
            · have hp' : (pe == 0) = false := by simpa using hp
              clear hp q0 q1 q2 TP
              go_wp2_with fail
              refine (known_any _).mono ?_
              rintro e w6 ⟨rfl, b6⟩
              have B6 := Lib.hid (B4.out.trans (b6.mono B4.out.size))
              clear b6
              go_wp2_with fail
              go_ret
              exact ⟨rfl, B6.out⟩

theorem own : ownKnob Try.prog.godebug = none := by kernel_rfl
theorem laidOut : laidOutB Try.prog = true := by kernel_rfl

set_option maxRecDepth 100000 in
theorem lifted (os : Os) (started : os.Started) (H : Type) (enc : TypeId × Value → H) :
    ReturnsInHanded {} Try.checked os 7 .any (Rows.frameBackSpec.pre6 enc Try.prog Try.f7 Rows.frameBackRow.domain false) (Rows.frameBackSpec.post enc Try.prog Try.f7 false true false false) := by
  refine returnsInHanded_of_change (C := Try.checked) own started (by kernel_rfl) Try.func7
    (ChangeSpec.witness6 (enc := enc) (C := Try.checked) false ⟨#[], #[.slice none 0 0, .string ByteArray.empty], []⟩ 8 (by kernel_rfl) (by kernel_rfl) (by kernel_rfl) (by kernel_rfl)) ?_
  intro W base args ds gs before hval0 hW hcnd _
  have hval : ∀ (j : Nat) t v, Try.f7.params[j]? = some t → args[j]? = some v → Value.okWide Try.prog W .any base t v := hval0
  have hW' := hW
  obtain ⟨p, q, hA0, hV, rfl, hfz, hnd⟩ := hW
  have hA : DataW.TrodAll enc Try.prog W 0 (fun _ => true) true Try.f7.params.toList args.toList ds p := hA0
  rw [Try.params7] at hA hval
  obtain ⟨v0, vs0, d0, ds0, p0, q0, hargs, rfl, rfl, h0, r0⟩ := trodAll_cons hA
  obtain ⟨v1, vs1, d1, ds1, p1, q1, rfl, rfl, rfl, h1, r1⟩ := trodAll_cons r0
  obtain ⟨rfl, rfl, rfl⟩ := trodAll_nil r1
  obtain rfl : args = #[v0, v1] := by cases args; simp_all
  obtain ⟨rfl, rfl⟩ := trodVars_none hV
  have k0 := h0
  have lt0 : ∀ x ∈ p0, x.block < W.heap.size := by obtain ⟨m, hm⟩ := k0; exact DataW.trod_lt m _ _ _ hm
  obtain ⟨A0, c0, o0, rfl, w0, l0, z0⟩ := Frm.open_frms (hval 0 60 v0 rfl rfl) h0
  obtain ⟨a1, rfl, rfl, rfl, w1⟩ := open_string Try.underlying9 (hval 1 9 v1 rfl rfl) h1
  clear hA0 hval0
  refine (walk A0 c0 o0 a1 W w0 l0 z0 w1).mono fun e W' ⟨he, bel⟩ => ?_
  subst he
  exact ⟨_, rfl, _, _, _, [], _, [], hW', trodAll_mk1 (shut_bool Try.underlying4 _), (trodAll_cons_mk (Below.trod laidOut (by kernel_rfl) (of_decide_eq_true (by kernel_rfl)) k0 bel lt0) (trodAll_cons_mk (shut_string Try.underlying9 w1) trodAll_mk0)), rfl, bel.frame _, fun h => by cases h⟩

theorem over : Rows.frameBackRow.holds Try.pinned (OpenSpec.ofChange Rows.frameBackSpec) :=
  OpenClaim.holds_of_wide 7 Try.f7 rfl rfl rfl rfl rfl rfl rfl ⟨rfl, rfl, rfl, rfl, rfl⟩ rfl rfl rfl rfl rfl (by kernel_rfl) Try.func7 (by kernel_rfl)
    (of_decide_eq_true (by kernel_rfl)) (by unfold Func.isWrapper; first | (rw [if_pos (by decide +kernel)]; kernel_rfl) | (rw [if_neg (by decide +kernel)]; exact ⟨rfl, rfl⟩))
    (fun os started H enc _ => lifted os started H enc)

/-- The given statement. -/
theorem proved : Rows.FrameBackSaid := over

end Go.Proofs.Ytkkbjngjjeajoaa.frameBack
