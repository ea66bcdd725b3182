/-
  Where a record goes, if its sector has no room.
-/
import Derived.Test.YtppjjdaejhilkaaJouReady
namespace Go.Proofs.Ytppjjdaejhilkaa
namespace Jou
open Go.RowKit Mem Fla Rec Sec
set_option linter.unusedVariables false
set_option linter.unusedSimpArgs false
set_option maxRecDepth 100000
section
variable {w W W' : World} {q L p D c : Nat} {s : Fl}
set_option maxHeartbeats 4000000 in
theorem ready_none (n : Nat) (hn : n ≤ 960) (h : IsJ w q L p D c s) (hon : s.on = true) (ho : s.ops < 4611686018427387904) (hnw : newest s.bs = none) :
    Calls Try.prog 51 #[at_ q, .int .i64 (n : Int)] w (RdyTo p D c w (rdy s n)) := by
  have h8 := nsec8 h.fl.ok
  have HN := Lib.hid (fdnewest_any h.fd)
  have en : nstF (lk s.bs) (nsec s.bs) = newest s.bs := rfl
  rw [en] at HN
  clear en
  rw [rdy_next (fun a e => by rw [hnw] at e; cases e)]
  rw [hnw] at HN
  simp only [Option.getD_none, Option.isSome_none] at HN
  have HI := Lib.hid h
  have hlt := (nxtF_spec (can s) s.wearAt (nsec s.bs)).2
  have HU := Lib.hid (fun W (b : Below w.heap.size w W) t (ht : t < nsec s.bs) => fdunused_any (HI.out.fd.below b (Nat.le_refl _)) t ht)
  have HE := Lib.hid (fun W (b : Below w.heap.size w W) (t : Nat) (ht : t < nsec s.bs) => erase_any (t : Int) (by omega) (by omega) (HI.out.fl.below b (Nat.le_refl _)) ho)
  have EN := Lib.hid (fun W (b : Below w.heap.size w W) => jnext_any HI.out b)
  generalize nxtF (can s) s.wearAt (nsec s.bs) = r at hlt EN ⊢
  have hlt := Lib.hid hlt
  clear h
  go_enter Try.func51, Try.ntmps51
  go_wp2_with fail
  refine HN.out.mono ?_
  rintro e w1 ⟨rfl, b1⟩
  have c0 := (HI.out.fd.below b1 (Nat.le_refl _)).c0
  have k1 := (HI.out.below b1 (Nat.le_refl _)).c1
  have EW := Lib.hid (fun W (b : Below w.heap.size w W) => jworn_any HI.out b)
  have EL := Lib.hid (fun W (b : Below w.heap.size w W) => jleft_any HI.out b)
  have LW := Lib.hid (wornL_len s)
  have LL := Lib.hid (leftL_len s)
  generalize wornL s = zw at *
  generalize leftL s = zl at *
  have BD := Lib.hid (below_drewN b1 1)
  go_wp2_with fail
  clear HN b1 hnw
  go_region_held (fun W => W.cell? ⟨q, 0, none⟩ = some (.slice (some ⟨L, 0, none⟩) (nsec s.bs) (nsec s.bs)) ∧ W.cell? ⟨q, 1, none⟩ = some (at_ p)) (first | exact ⟨c0, k1⟩ | exact ⟨c2, k2⟩ | exact ⟨c3, k3⟩ | exact ⟨c4, k4⟩) (first
    | (go_at_call 70; refine (EN.out _ B3.out _ _ O1'.out.rdi O2.out.rdi).mono ?_; rintro e w4 ⟨rfl, b4⟩; have B4 := Lib.hid (B3.out.trans (b4.mono B3.out.size)); have c4 := (HI.out.fd.below B4.out (Nat.le_refl _)).c0; have k4 := (HI.out.below B4.out (Nat.le_refl _)).c1; clear b4)
    | (go_at_call 71; refine (EL.out _ B2.out).mono ?_; rintro e w3 ⟨g2, rfl, o2, b3⟩; have B3 := Lib.hid (B2.out.trans (b3.mono B2.out.size)); have O2 := Lib.hid o2; have O1' := Lib.hid (O1.out.keep (b3.block _ O1.out.lt.2)); have c3 := (HI.out.fd.below B3.out (Nat.le_refl _)).c0; have k3 := (HI.out.below B3.out (Nat.le_refl _)).c1; clear b3 o2)
    | (go_at_call 71; refine (EW.out _ BD.out).mono ?_; rintro e w2 ⟨g1, rfl, o1, b2⟩; have B2 := Lib.hid (BD.out.trans (b2.mono BD.out.size)); have O1 := Lib.hid o1; have c2 := (HI.out.fd.below B2.out (Nat.le_refl _)).c0; have k2 := (HI.out.below B2.out (Nat.le_refl _)).c1; clear b2 o1))
  all_goals
    clear c0 k1 c2 k2 c3 k3 c4 k4 O1 O2 O1' B2 B3 EW EL EN BD LW LL
    cases r with
    | none =>
      go_wp2_with fail
      go_ret3
      exact ⟨rfl, HI.out.fl.below B4.out (Nat.le_refl _), Far.of_below B4.out (Nat.le_refl _)⟩
    | some t =>
      have ht := (hlt.out t rfl).1
      have hU : (decide ((lk s.bs t).cnt = 0) && clean (secOf s.bs t)) = unused s.bs t := rfl
      have HUt := Lib.hid (HU.out _ B4.out t ht)
      rw [hU] at HUt
      have HEt := Lib.hid (HE.out _ B4.out t ht)
      clear hU HU HE hlt
      simp only [Option.getD_some, Option.isSome_some]
      cases hu : unused s.bs t with
      | true =>
        rw [hu] at HUt
        go_wp2_with fail
        refine HUt.out.mono ?_
        rintro e w5 ⟨rfl, rfl⟩
        go_wp2_with fail
        go_ret3
        exact ⟨rfl, HI.out.fl.below B4.out (Nat.le_refl _), Far.of_below B4.out (Nat.le_refl _)⟩
      | false =>
        rw [hu] at HUt
        have k5 := (HI.out.below B4.out (Nat.le_refl _)).c1
        go_wp2_with fail
        refine HUt.out.mono ?_
        rintro e w5 ⟨rfl, rfl⟩
        go_wp2_with fail
        refine HEt.out.mono ?_
        rintro e w6 ⟨rfl, i6, f6⟩
        have F6 := Lib.hid ((Far.of_below (p := p) (D := D) B4.out (Nat.le_refl _)).trans f6)
        have I6 := Lib.hid i6
        clear i6 f6
        go_wp2_with fail
        go_ret3
        exact ⟨rfl, I6.out, F6.out⟩
set_option maxHeartbeats 4000000 in
theorem ready_full (n a : Nat) (hn : n ≤ 960) (h : IsJ w q L p D c s) (hon : s.on = true) (ho : s.ops < 4611686018427387904) (hnw : newest s.bs = some a) (hrm : room s.bs a n = false) :
    Calls Try.prog 51 #[at_ q, .int .i64 (n : Int)] w (RdyTo p D c w (rdy s n)) := by
  have h8 := nsec8 h.fl.ok
  have HN := Lib.hid (fdnewest_any h.fd)
  have en : nstF (lk s.bs) (nsec s.bs) = newest s.bs := rfl
  rw [en] at HN
  clear en
  rw [rdy_next (fun b e => by rw [hnw] at e; cases e; exact hrm)]
  rw [hnw] at HN
  simp only [Option.getD_some, Option.isSome_some] at HN
  have ha : a < nsec s.bs := by
    have := newest_spec s.bs
    rw [hnw] at this
    exact this.1
  obtain ⟨v, o, hc⟩ := h.fd.l.at_ a ha
  obtain ⟨A1, c1, rfl, _⟩ := o.form
  have re := Lib.hid ((room_eq s.bs a n).trans hrm)
  have HC := Lib.hid (fun j hj => hc j hj)
  have hLlt := h.fd.l.lt
  have he : (lk s.bs a).e ≤ 1024 := by
    have h1 := (look_e (secOf s.bs a)).1
    have h2 : (secOf s.bs a).length = 1024 := secOf_len (by unfold nsec at ha; omega)
    unfold lk
    omega
  have HR := Lib.hid (fun W => Sec.room_any ⟨(lk s.bs a).k, (lk s.bs a).n, A1, (lk s.bs a).d.length, c1, (lk s.bs a).cnt, (lk s.bs a).e, clean (secOf s.bs a)⟩ n W (by omega) (by omega) (by show _ ≤ ((lk s.bs a).e : Int); omega) (by show ((lk s.bs a).e : Int) ≤ _; omega))
  simp only [re.out, Lv.vals] at HR
  simp only [lkv] at HC
  generalize hx0 : lk s.bs a = x at HR HC he re
  generalize hy0 : clean (secOf s.bs a) = y at HR HC re
  clear hrm re hc o hx0 hy0
  have HI := Lib.hid h
  have hlt := (nxtF_spec (can s) s.wearAt (nsec s.bs)).2
  have HU := Lib.hid (fun W (b : Below w.heap.size w W) t (ht : t < nsec s.bs) => fdunused_any (HI.out.fd.below b (Nat.le_refl _)) t ht)
  have HE := Lib.hid (fun W (b : Below w.heap.size w W) (t : Nat) (ht : t < nsec s.bs) => erase_any (t : Int) (by omega) (by omega) (HI.out.fl.below b (Nat.le_refl _)) ho)
  have EN := Lib.hid (fun W (b : Below w.heap.size w W) => jnext_any HI.out b)
  generalize nxtF (can s) s.wearAt (nsec s.bs) = r at hlt EN ⊢
  have hlt := Lib.hid hlt
  clear h
  go_enter Try.func51, Try.ntmps51
  go_wp2_with fail
  refine HN.out.mono ?_
  rintro e w0 ⟨rfl, b0⟩
  have c0 := (HI.out.fd.below b0 (Nat.le_refl _)).c0
  have k0 := (b0.cell (p := ⟨L, a * 6 + 0, none⟩) hLlt).trans (HC.out 0 (by omega))
  have k1 := (b0.cell (p := ⟨L, a * 6 + 1, none⟩) hLlt).trans (HC.out 1 (by omega))
  have k2 := (b0.cell (p := ⟨L, a * 6 + 2, none⟩) hLlt).trans (HC.out 2 (by omega))
  have k3 := (b0.cell (p := ⟨L, a * 6 + 3, none⟩) hLlt).trans (HC.out 3 (by omega))
  have k4 := (b0.cell (p := ⟨L, a * 6 + 4, none⟩) hLlt).trans (HC.out 4 (by omega))
  have k5 := (b0.cell (p := ⟨L, a * 6 + 5, none⟩) hLlt).trans (HC.out 5 (by omega))
  simp only [List.getElem?_cons_zero, List.getElem?_cons_succ, Nat.add_zero] at k0 k1 k2 k3 k4 k5
  go_wp2_with fail
  refine (HR.out _).mono ?_
  rintro e w1 ⟨rfl, b1⟩
  have b1 := b0.trans (b1.mono b0.size)
  clear k0 k1 k2 k3 k4 k5 c0 HR HC
  have c0 := (HI.out.fd.below b1 (Nat.le_refl _)).c0
  have k1 := (HI.out.below b1 (Nat.le_refl _)).c1
  have EW := Lib.hid (fun W (b : Below w.heap.size w W) => jworn_any HI.out b)
  have EL := Lib.hid (fun W (b : Below w.heap.size w W) => jleft_any HI.out b)
  have LW := Lib.hid (wornL_len s)
  have LL := Lib.hid (leftL_len s)
  generalize wornL s = zw at *
  generalize leftL s = zl at *
  have BD := Lib.hid (below_drewN b1 1)
  go_wp2_with fail
  clear HN b1 hnw
  go_region_held (fun W => W.cell? ⟨q, 0, none⟩ = some (.slice (some ⟨L, 0, none⟩) (nsec s.bs) (nsec s.bs)) ∧ W.cell? ⟨q, 1, none⟩ = some (at_ p)) (first | exact ⟨c0, k1⟩ | exact ⟨c2, k2⟩ | exact ⟨c3, k3⟩ | exact ⟨c4, k4⟩) (first
    | (go_at_call 70; refine (EN.out _ B3.out _ _ O1'.out.rdi O2.out.rdi).mono ?_; rintro e w4 ⟨rfl, b4⟩; have B4 := Lib.hid (B3.out.trans (b4.mono B3.out.size)); have c4 := (HI.out.fd.below B4.out (Nat.le_refl _)).c0; have k4 := (HI.out.below B4.out (Nat.le_refl _)).c1; clear b4)
    | (go_at_call 71; refine (EL.out _ B2.out).mono ?_; rintro e w3 ⟨g2, rfl, o2, b3⟩; have B3 := Lib.hid (B2.out.trans (b3.mono B2.out.size)); have O2 := Lib.hid o2; have O1' := Lib.hid (O1.out.keep (b3.block _ O1.out.lt.2)); have c3 := (HI.out.fd.below B3.out (Nat.le_refl _)).c0; have k3 := (HI.out.below B3.out (Nat.le_refl _)).c1; clear b3 o2)
    | (go_at_call 71; refine (EW.out _ BD.out).mono ?_; rintro e w2 ⟨g1, rfl, o1, b2⟩; have B2 := Lib.hid (BD.out.trans (b2.mono BD.out.size)); have O1 := Lib.hid o1; have c2 := (HI.out.fd.below B2.out (Nat.le_refl _)).c0; have k2 := (HI.out.below B2.out (Nat.le_refl _)).c1; clear b2 o1))
  all_goals
    clear c0 k1 c2 k2 c3 k3 c4 k4 O1 O2 O1' B2 B3 EW EL EN BD LW LL
    cases r with
    | none =>
      go_wp2_with fail
      go_ret3
      exact ⟨rfl, HI.out.fl.below B4.out (Nat.le_refl _), Far.of_below B4.out (Nat.le_refl _)⟩
    | some t =>
      have ht := (hlt.out t rfl).1
      have hU : (decide ((lk s.bs t).cnt = 0) && clean (secOf s.bs t)) = unused s.bs t := rfl
      have HUt := Lib.hid (HU.out _ B4.out t ht)
      rw [hU] at HUt
      have HEt := Lib.hid (HE.out _ B4.out t ht)
      clear hU HU HE hlt
      simp only [Option.getD_some, Option.isSome_some]
      cases hu : unused s.bs t with
      | true =>
        rw [hu] at HUt
        go_wp2_with fail
        refine HUt.out.mono ?_
        rintro e w5 ⟨rfl, rfl⟩
        go_wp2_with fail
        go_ret3
        exact ⟨rfl, HI.out.fl.below B4.out (Nat.le_refl _), Far.of_below B4.out (Nat.le_refl _)⟩
      | false =>
        rw [hu] at HUt
        have k5 := (HI.out.below B4.out (Nat.le_refl _)).c1
        go_wp2_with fail
        refine HUt.out.mono ?_
        rintro e w5 ⟨rfl, rfl⟩
        go_wp2_with fail
        refine HEt.out.mono ?_
        rintro e w6 ⟨rfl, i6, f6⟩
        have F6 := Lib.hid ((Far.of_below (p := p) (D := D) B4.out (Nat.le_refl _)).trans f6)
        have I6 := Lib.hid i6
        clear i6 f6
        go_wp2_with fail
        go_ret3
        exact ⟨rfl, I6.out, F6.out⟩
theorem ready_any (n : Nat) (hn : n ≤ 960) (h : IsJ w q L p D c s) (hon : s.on = true) (ho : s.ops < 4611686018427387904) :
    Calls Try.prog 51 #[at_ q, .int .i64 (n : Int)] w (RdyTo p D c w (rdy s n)) := by
  cases hnw : newest s.bs with
  | none => exact ready_none n hn h hon ho hnw
  | some a =>
    cases hrm : room s.bs a n with
    | true => exact ready_room n a hn h hnw hrm
    | false => exact ready_full n a hn h hon ho hnw hrm
end
end Jou
end Go.Proofs.Ytppjjdaejhilkaa
