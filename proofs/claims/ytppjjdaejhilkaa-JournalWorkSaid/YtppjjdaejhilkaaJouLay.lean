/-
  lay and Append.
  Open, Last, At.
-/
import Derived.Test.YtppjjdaejhilkaaJouNext
import Derived.Test.YtppjjdaejhilkaaJouApp
import Derived.Test.YtppjjdaejhilkaaFlaKnown
import Derived.Test.YtppjjdaejhilkaaClone
namespace Go.Proofs.Ytppjjdaejhilkaa
namespace Jou
open Go.RowKit Mem Fla Rec Sec
set_option linter.unusedVariables false
set_option linter.unusedSimpArgs false
set_option maxRecDepth 100000
section
variable {w W W' : World} {q L p D c : Nat} {s s' : Fl}
/-- The blocks that a journal's calls write to. -/
def JX (q L p D : Nat) (k : Nat) : Prop := k = p ∨ k = D ∨ k = q ∨ k = L
def JY (L p D : Nat) (k : Nat) : Prop := k = p ∨ k = D ∨ k = L
/-- What an Append ends in: whatever the power does, the flash; the journal, as long as it is on. -/
structure LayTo (X : Nat → Prop) (q L p D c : Nat) (w : World) (r : Fl × Int) (e : Ending) (w' : World) : Prop where
  ret : e = .returned (.int .i64 r.2)
  fl : IsF w' p D c r.1
  far : FarS X w w'
  j : r.2 ≠ 7 → IsJ w' q L p D c r.1
theorem IsJ.fsize (h : IsJ W q L p D c s) : L < W.heap.size := h.fd.l.lt
/-- The journal behind a look at the sector that was written. -/
theorem isJ_after {x : Pl} {k : Int} {d : List UInt8} {code : Int} (h : IsJ w q L p D c s) (st : Step s s' code x k d) (hf : IsF W p D c s') (row : W.heap[q]? = w.heap[q]?)
    (hl : IsL W L (nsec s.bs) (up1 (lk s.bs) x.t (lk s'.bs x.t)) (up1 (fun i => clean (secOf s.bs i)) x.t (clean (secOf s'.bs x.t)))) : IsJ W q L p D c s' := by
  have hn := st.nsec
  have hrow := row.trans h.row
  refine ⟨?_, by rw [hn]; exact hrow, hf, h.pq, h.Dq⟩
  refine ⟨by rw [hn]; exact cell_of hrow 0, ?_, by rw [hn]; exact h.fd.n8, h.fd.qL⟩
  rw [hn]
  refine hl.congr fun i hi => ?_
  by_cases e : i = x.t
  · subst e
    unfold up1
    simp
  · unfold up1
    rw [if_neg e, if_neg e]
    exact ⟨(st.lk i e).symm, by rw [st.oth i e]⟩
theorem pre_ne7 {t : Lk} {k : Int} {n : Nat} : pre t k n ≠ 7 := by
  unfold pre err
  split
  · decide
  · repeat' split
    all_goals decide
set_option maxHeartbeats 4000000 in
theorem lay_any (k : Int) (A : Option Addr) (cc : Nat) (d : List UInt8) (k1 : -9223372036854775808 ≤ k) (k2 : k ≤ 9223372036854775807) (h : IsJ w q L p D c s) (hr : Rd w w.heap.size A d) (hl : d.length ≤ 140737488355328) (ho : s.ops + 2000 ≤ 4611686018427387904) :
    Calls Try.prog 36 #[at_ q, .int .i64 k, .slice A d.length cc] w (LayTo (JY L p D) q L p D c w (app s k d)) := by
  have HI := Lib.hid h
  have c1 := h.c1
  have c2 := h.c2
  have HO := Lib.hid (fon_any h.fl)
  cases hon : s.on with
  | false =>
    rw [app_off hon]
    rw [hon] at HO
    clear hon h
    go_enter Try.func36, Try.ntmps36
    go_wp2_with fail
    refine HO.out.mono ?_
    rintro e w1 ⟨rfl, rfl⟩
    go_wp2_with fail
    go_ret
    exact ⟨rfl, HI.out.fl, FarS.refl _ _, fun q => absurd rfl q⟩
  | true =>
    rw [hon] at HO
    have HF := Lib.hid (fdfollow_any h.fd k A cc d k1 k2 hr hl (tell_bd s.bs).1)
    have et : tellF (lk s.bs) (nsec s.bs) = tell s.bs := rfl
    rw [et] at HF
    by_cases hp : pre (tell s.bs) k d.length = 0
    · have h3 := (pre_ok hp).2.2
      have HR := Lib.hid (fun W (b : Below w.heap.size w W) => ready_any d.length h3 (h.below b (Nat.le_refl _)) hon (by omega))
      rw [if_pos hp, hp] at HF
      by_cases hz : (rdy s d.length).2.2.1 = 0
      · obtain ⟨x, x1, x2, x3, x4, x5, x6, x7, x8⟩ := app_go h.fl.ok hon hp hz
        have hlt := x1.lt
        have h8 := nsec8 h.fl.ok
        have hbl : (build k ((tell s.bs).n + 1) d).length = 13 + d.length := by rw [build_length]; omega
        have h8t : x.t < 8 := by omega
        have HA := Lib.hid x6
        have HS := Lib.hid x7
        have h9 : ((rdy s d.length).1 : Nat) < nsec s.bs := by omega
        have X2 := Lib.hid x2
        have X3 := Lib.hid x3
        have X4 := Lib.hid x4
        generalize hx : build k ((tell s.bs).n + 1) d = bs at *
        have HP := Lib.hid (fun W A' c' (hi : IsF W p D c (rdy s d.length).2.2.2) hx' => program_any (A := A') bs.length c' (((rdy s d.length).1 : Int) * 1024 + ((rdy s d.length).2.1 : Int)) bs (by omega) (by omega) hx' rfl (by omega) hi (by omega))
        rw [← x6] at HP
        have hdl : (d.length : Int) ≤ 960 := by omega
        generalize hr : rdy s d.length = r at *
        generalize hap : app s k d = ap at *
        obtain ⟨s1, C⟩ := ap
        have Hz := Lib.hid hz
        have HX2 := Lib.hid x8
        clear h et hx hr hap x2 x3 x4 x5 x6 x7 x8 hbl
        obtain ⟨T, En, C1, s0⟩ := r
        simp only at *
        subst hz
        have hTi : (T : Int) ≤ 8 := by omega
        have hT0 : (0 : Int) ≤ (T : Int) := by omega
        have hEi : (En : Int) ≤ 1024 := by have := HX2.out; omega
        have hE0 : (0 : Int) ≤ (En : Int) := by omega
        go_enter Try.func36, Try.ntmps36
        go_wp2_with fail
        refine HO.out.mono ?_
        rintro e w1 ⟨rfl, rfl⟩
        go_wp2_with fail
        refine HF.out.mono ?_
        rintro e w1 ⟨v, rfl, o, b⟩
        obtain ⟨A1, cc1, rfl, RN⟩ := rdN_own (p := p) (D := D) o HI.out.fl.lt HI.out.fl.ltD
        clear o
        have HRb := Lib.hid (HR.out _ b)
        go_wp2_with fail
        refine HRb.out.mono ?_
        rintro e w2 ⟨rfl, i2, f2⟩
        have FF := Lib.hid (Far.trans (p := p) (D := D) (.of_below b (Nat.le_refl _)) f2)
        have hrow2 := (FF.out.block q HI.out.lt (by have := HI.out.pq; omega) (by have := HI.out.Dq; omega)).trans HI.out.row
        have c1 := cell_of hrow2 1
        have RN2 := Lib.hid (RN.far f2)
        have I2 := Lib.hid i2
        clear i2 f2 RN
        go_wp2_with fail
        with_reducible refine (HP.out _ _ _ I2.out RN2.out).mono ?_
        rintro e w3 ⟨rfl, i3, f3⟩
        have F3 := Lib.hid (FF.out.trans f3)
        have hrow3 := Lib.hid ((F3.out.block q HI.out.lt (by have := HI.out.pq; omega) (by have := HI.out.Dq; omega)).trans HI.out.row)
        have I3 := Lib.hid i3
        clear i3 f3 hrow2 c1
        by_cases hC : C = 0
        · subst hC
          have HSo := Lib.hid HS.out
          have ho1 : s1.on = true := by
            rcases HS.out.out with ⟨_, o2, _⟩ | ⟨o1, _⟩
            · exact o2
            · cases o1
          have HN1 : Hid (nsec s1.bs = nsec s.bs) := Lib.hid HS.out.nsec
          have fd3 := Lib.hid (HI.out.fd.far F3.out HI.out.pq HI.out.Dq)
          have HL := Lib.hid (jlook_any T fd3.out (cell_of hrow3.out 1) I3.out ho1 h9 HN1.out.symm)
          clear fd3 HP HR HF HO
          go_wp2_with fail
          refine HL.out.mono ?_
          rintro e w4 ⟨rfl, l4, f4⟩
          have L4 := Lib.hid l4
          have F4 := Lib.hid f4
          clear l4 f4
          go_wp2_with fail
          go_ret
          have hX2 : T = x.t := X2.out
          subst hX2
          have hqL := HI.out.fd.qL
          have hpq := HI.out.pq
          have hDq := HI.out.Dq
          have i4 := I3.out.keep (F4.out.block _ I3.out.lt (by omega)) (F4.out.block _ I3.out.ltD (by omega))
          have FA : FarS (JY L p D) w w4 := (FarS.of_far F3.out (.inl rfl) (.inr (.inl rfl))).trans (F4.out.mono fun k e => .inr (.inr e))
          refine ⟨rfl, i4, FA, fun _ => isJ_after HI.out HS.out i4 ?_ L4.out⟩
          rw [F4.out.block q (Nat.lt_of_lt_of_le HI.out.lt F3.out.size) (by omega)]
          exact F3.out.block q HI.out.lt (by omega) (by omega)
        · have hCb : (C != 0) = true := by simpa using hC
          obtain rfl : C = 7 := by
            rcases HS.out.out with ⟨o1, _⟩ | ⟨o1, _⟩
            · exact absurd o1 hC
            · exact o1
          clear HP HR HF HO
          go_wp2_with fail
          go_ret
          exact ⟨rfl, I3.out, .of_far F3.out (.inl rfl) (.inr (.inl rfl)), fun q => absurd rfl q⟩
      · rw [app_ready hon hp hz]
        have hzb : ((rdy s d.length).2.2.1 != 0) = true := by simpa using hz
        have HB := Lib.hid (rdy_bad hon (n := d.length) hz)
        have hdl : (d.length : Int) ≤ 960 := by omega
        generalize rdy s d.length = r at *
        clear h et
        obtain ⟨T, En, C1, s0⟩ := r
        simp only at *
        go_enter Try.func36, Try.ntmps36
        go_wp2_with fail
        refine HO.out.mono ?_
        rintro e w1 ⟨rfl, rfl⟩
        go_wp2_with fail
        refine HF.out.mono ?_
        rintro e w1 ⟨v, rfl, o, b⟩
        obtain ⟨A1, cc1, rfl, _⟩ := o.form
        have HRb := Lib.hid (HR.out _ b)
        go_wp2_with fail
        refine HRb.out.mono ?_
        rintro e w2 ⟨rfl, i2, f2⟩
        go_wp2_with fail
        go_ret
        have FF := Far.trans (p := p) (D := D) (.of_below b (Nat.le_refl _)) f2
        refine ⟨rfl, i2, .of_far FF (.inl rfl) (.inr (.inl rfl)), fun q => ?_⟩
        have e := HB.out q
        rw [e] at i2 ⊢
        exact ⟨HI.out.fd.far FF HI.out.pq HI.out.Dq, (FF.block _ HI.out.lt (by have := HI.out.pq; omega) (by have := HI.out.Dq; omega)).trans HI.out.row, i2, HI.out.pq, HI.out.Dq⟩
    · rw [app_pre hon hp]
      have hpb : (pre (tell s.bs) k d.length != 0) = true := by simpa using hp
      have h7 : pre (tell s.bs) k d.length ≠ 7 := pre_ne7
      rw [if_neg hp] at HF
      generalize pre (tell s.bs) k d.length = E at *
      clear h et
      go_enter Try.func36, Try.ntmps36
      go_wp2_with fail
      refine HO.out.mono ?_
      rintro e w1 ⟨rfl, rfl⟩
      go_wp2_with fail
      refine HF.out.mono ?_
      rintro e w1 ⟨v, rfl, o, b⟩
      obtain ⟨A1, cc1, rfl, _⟩ := o.form
      go_wp2_with fail
      go_ret
      exact ⟨rfl, HI.out.fl.below b (Nat.le_refl _), .of_below b (Nat.le_refl _), fun _ => HI.out.below b (Nat.le_refl _)⟩
set_option maxHeartbeats 1000000 in
theorem jnone_any (h : IsJ w q L p D c s) : Calls Try.prog 32 #[at_ q] w fun e w' => e = .returned (.bool false) ∧ w = w' := by
  have c1 := h.c1
  clear h
  go_enter Try.func32, Try.ntmps32
  go_wp2_with fail
  go_ret
  exact ⟨rfl, rfl⟩
theorem IsJ.set2 (h : IsJ w q L p D c s) : IsJ (w.setCell ⟨q, 2, none⟩ (.bool false)) q L p D c s := by
  have hr := set_of (l := [.slice (some ⟨L, 0, none⟩) (nsec s.bs) (nsec s.bs), at_ p, .bool false]) (j := 2) (v := .bool false) (p := q) h.row rfl
  have hk : ∀ k, k ≠ q → (w.setCell ⟨q, 2, none⟩ (.bool false)).heap[k]? = w.heap[k]? := fun k hk => Below.heap_setCell w ⟨q, 2, none⟩ _ k hk
  have hpq := h.pq
  have hDq := h.Dq
  have hqL := h.fd.qL
  exact ⟨⟨cell_of hr 0, h.fd.l.keep fun k _ h2 => hk k (by omega), h.fd.n8, hqL⟩, hr, h.fl.keep (hk p (by omega)) (hk D (by omega)), hpq, hDq⟩
/-- Append. -/
theorem append_any (k : Int) (A : Option Addr) (cc : Nat) (d : List UInt8) (k1 : -9223372036854775808 ≤ k) (k2 : k ≤ 9223372036854775807) (h : IsJ w q L p D c s) (hr : Rd w w.heap.size A d) (hl : d.length ≤ 140737488355328) (ho : s.ops + 2000 ≤ 4611686018427387904) :
    Calls Try.prog 14 #[at_ q, .int .i64 k, .slice A d.length cc] w (LayTo (JX q L p D) q L p D c w (app s k d)) := by
  have HN := Lib.hid (jnone_any h)
  have HL := Lib.hid (lay_any k A cc d k1 k2 h hr hl ho)
  have HI := Lib.hid h
  generalize app s k d = r at *
  obtain ⟨s1, C⟩ := r
  clear h
  go_enter Try.func14, Try.ntmps14
  go_wp2_with fail
  refine HN.out.mono ?_
  rintro e w1 ⟨rfl, rfl⟩
  go_wp2_with fail
  refine HL.out.mono ?_
  intro e w1 T
  obtain ⟨ret, i1, f1, j1⟩ := T
  subst ret
  have hqL := HI.out.fd.qL
  have hpq := HI.out.pq
  have hDq := HI.out.Dq
  have F1 : Hid (FarS (JX q L p D) w w1) := Lib.hid (f1.mono fun k e => e.elim .inl fun e => e.elim (fun e => .inr (.inl e)) fun e => .inr (.inr (.inr e)))
  have hrow := (f1.block q HI.out.lt (by unfold JY; omega)).trans HI.out.row
  have I1 := Lib.hid i1
  by_cases hC : C = 7
  · subst hC
    have d2 := cell_of hrow 2
    have z2 := frozen_of_row _ _ 2 _ _ hrow
    clear f1 i1 j1
    simp only
    go_wp2_with fail
    go_ret
    have hk : ∀ k, k ≠ q → (w1.setCell ⟨q, 2, none⟩ (.bool true)).heap[k]? = w1.heap[k]? := fun k hk => Below.heap_setCell w1 ⟨q, 2, none⟩ _ k hk
    exact ⟨rfl, I1.out.keep (hk p (by omega)) (hk D (by omega)), F1.out.set _ (.inr (.inr (.inl rfl))) _, fun q => absurd rfl q⟩
  · have hCb : (C == 7) = false := by simpa using hC
    have J1 := Lib.hid (j1 hC)
    simp only
    have d2 := J1.out.c2
    have z2 := frozen_of_row _ _ 2 _ _ J1.out.row
    clear f1 i1 j1
    go_wp2_with fail
    go_ret
    have J2 := J1.out.set2
    exact ⟨rfl, J2.fl, F1.out.set _ (.inr (.inr (.inl rfl))) _, fun _ => J2⟩
end
end Jou
end Go.Proofs.Ytppjjdaejhilkaa

namespace Go.Proofs.Ytppjjdaejhilkaa
namespace Jou
open Go.RowKit Mem Fla Rec Sec
set_option linter.unusedVariables false
set_option linter.unusedSimpArgs false
set_option maxRecDepth 100000
section
variable {w W W' : World} {q L p D c : Nat} {s s' : Fl}
theorem info_look : ∃ i, Try.prog.info? 93 = some i ∧ i.zero = some (.agg #[.int .i64 0, .int .u32 0, .slice none 0 0, .int .i64 0, .int .i64 0, .bool false]) ∧ i.size = 6 ∧ i.bytes ≤ 1024 := by
  refine ⟨_, rfl, rfl, rfl, by decide⟩
def fillF (bs : List UInt8) (k i : Nat) : Lk := if i < k then lk bs i else Lk.zero
def fillC (bs : List UInt8) (k i : Nat) : Bool := if i < k then clean (secOf bs i) else false
theorem fillF_up (bs : List UInt8) (k : Nat) : up1 (fillF bs k) k (lk bs k) = fillF bs (k + 1) := by
  funext i
  unfold up1 fillF
  by_cases e : i = k
  · subst e; simp
  · rw [if_neg e]
    by_cases h : i < k
    · rw [if_pos h, if_pos (by omega)]
    · rw [if_neg h, if_neg (by omega)]
theorem fillC_up (bs : List UInt8) (k : Nat) : up1 (fillC bs k) k (clean (secOf bs k)) = fillC bs (k + 1) := by
  funext i
  unfold up1 fillC
  by_cases e : i = k
  · subst e; simp
  · rw [if_neg e]
    by_cases h : i < k
    · rw [if_pos h, if_pos (by omega)]
    · rw [if_neg h, if_neg (by omega)]
theorem made_get (z : Array Value) (n i j : Nat) (hz : z.size = 6) (hj : j < 6) (hi : i < n) : (madeCells z (n * 6))[i * 6 + j]? = z[j]? := by
  unfold madeCells
  have h1 : i * 6 + j < n * 6 := by omega
  have h2 : (i * 6 + j) % z.size = j := by rw [hz]; omega
  have h3 : j < z.size := by omega
  simp [h1, h2, h3, getElem!_pos]
theorem isL_new (w : World) (N : Nat) (bs : List UInt8) : IsL (w.alloc (.cells (madeCells #[.int .i64 0, .int .u32 0, .slice none 0 0, .int .i64 0, .int .i64 0, .bool false] (N * 6)) TL)) w.heap.size N (fillF bs 0) (fillC bs 0) := by
  have hb := heap_alloc_new w (.cells (madeCells #[.int .i64 0, .int .u32 0, .slice none 0 0, .int .i64 0, .int .i64 0, .bool false] (N * 6)) TL)
  refine ⟨⟨_, hb⟩, fun i hi => ⟨.slice none 0 0, Own.nil _ _ _, fun j hj => ?_⟩⟩
  have e : fillF bs 0 i = Lk.zero := by unfold fillF; rw [if_neg (by omega)]
  have e2 : fillC bs 0 i = false := by unfold fillC; rw [if_neg (by omega)]
  rw [e, e2]
  have h1 := made_get #[.int .i64 0, .int .u32 0, .slice none 0 0, .int .i64 0, .int .i64 0, .bool false] N i j rfl hj hi
  rw [cell_of hb (i * 6 + j), h1]
  rcases (by omega : j = 0 ∨ j = 1 ∨ j = 2 ∨ j = 3 ∨ j = 4 ∨ j = 5) with rfl | rfl | rfl | rfl | rfl | rfl <;> rfl
/-- While Open looks: the journal's struct in block q, the looks behind it. -/
structure OpS (w W : World) (p D c : Nat) (s : Fl) (k : Nat) : Prop where
  row : W.heap[w.heap.size]? = some (.cells #[.slice (some ⟨w.heap.size + 1, 0, none⟩) (nsec s.bs) (nsec s.bs), at_ p, .bool false] TJ (0, 0))
  l : IsL W (w.heap.size + 1) (nsec s.bs) (fillF s.bs k) (fillC s.bs k)
  b : Below w.heap.size w W
set_option maxHeartbeats 2000000 in
theorem open_ok (h : IsF w p D c s) (hon : s.on = true) (h3 : 3 ≤ nsec s.bs) :
    Calls Try.prog 9 #[at_ p] w fun e w' => e = .returned (.tuple #[at_ w.heap.size, .int .i64 0]) ∧ IsJ w' w.heap.size (w.heap.size + 1) p D c s ∧ Below w.heap.size w w' := by
  have HO := Lib.hid (fon_any h)
  rw [hon] at HO
  have HS := Lib.hid (fun W (b : Below w.heap.size w W) => fsectors_any (h.below b (Nat.le_refl _)))
  have en : s.bs.length / 1024 = nsec s.bs := rfl
  rw [en] at HS
  have h8 := nsec8 h.ok
  have H := Lib.hid h
  obtain ⟨i0, hi, hz0, hz1, hz2⟩ := info_look
  have h3' : ((nsec s.bs : Nat) : Int) ≥ 3 := by omega
  generalize hN : nsec s.bs = N at *
  have HN := Lib.hid hN
  clear h en
  go_enter Try.func9, Try.ntmps9
  go_wp2_with fail
  refine HO.out.mono ?_
  rintro e w1 ⟨rfl, rfl⟩
  go_wp2_with fail
  refine (HS.out _ (Below.refl _ _)).mono ?_
  rintro e w1 ⟨rfl, rfl⟩
  go_wp2_with fail
  have hA : Below w.heap.size w (w.alloc (.cells #[.slice none 0 0, at_ p, .bool false] 63)) := (Below.refl _ _).alloc (Nat.le_refl _) _
  refine (HS.out _ hA).mono ?_
  rintro e w1 ⟨rfl, rfl⟩
  have rq := heap_alloc_new w (.cells #[.slice none 0 0, at_ p, .bool false] 63)
  go_wp2_with (refine wpList_makeS _ rfl (.tmp 22) (.tmp 22) 59 rfl 93 i0 _ Try.underlying59 hi hz0 hz2 .i64 .i64 (N : Int) (N : Int) N rfl rfl rfl rfl (by omega) ?_)
  have S0 : OpS w ((w.alloc (.cells #[.slice (some ⟨w.heap.size + 1, 0, none⟩) N N, at_ p, .bool false] 63)).alloc (.cells (madeCells #[.int .i64 0, .int .u32 0, .slice none 0 0, .int .i64 0, .int .i64 0, .bool false] (N * 6)) 93)) p D c s 0 := by
    have hl := isL_new (w.alloc (.cells #[.slice (some ⟨w.heap.size + 1, 0, none⟩) N N, at_ p, .bool false] 63)) N s.bs
    rw [World.size_alloc] at hl
    refine ⟨?_, by rw [HN.out]; exact hl, below2 _ _ _⟩
    rw [HN.out]
    exact heap_alloc2_old _ _ _
  go_loopw [33] (fun i wr => ∃ k : Nat, k ≤ N ∧ i = .int .i64 (k : Int) ∧ OpS w wr p D c s k) (fun i _ => N - (intOf i).toNat)
  case atStart => exact ⟨0, by omega, rfl, S0⟩
  case round =>
    obtain ⟨k, hk, rfl, S⟩ := hrel
    by_cases hlt : k < N
    · have fd : IsFd wr w.heap.size (w.heap.size + 1) (nsec s.bs) (fillF s.bs k) (fillC s.bs k) := ⟨cell_of S.row 0, S.l, by rw [HN.out]; exact h8, Nat.lt_succ_self _⟩
      have HL := Lib.hid (jlook_any k fd (cell_of S.row 1) (H.out.below S.b (Nat.le_refl _)) hon (by rw [HN.out]; exact hlt) rfl)
      have HS' := Lib.hid S
      clear S fd S0
      go_wp2_with fail
      refine HL.out.mono ?_
      rintro e w2 ⟨rfl, l2, f2⟩
      rw [fillF_up, fillC_up] at l2
      have S2 : Hid (OpS w w2 p D c s (k + 1)) := Lib.hid ⟨(f2.block _ (Array.getElem?_eq_some_iff.1 HS'.out.row).1 (by omega)).trans HS'.out.row, l2, HS'.out.b.trans (f2.below HS'.out.b.size (fun k e => by omega))⟩
      clear l2 f2
      go_wp2_with fail
      go_roundw
      case rel => exact ⟨k + 1, by omega, by go_num, S2.out⟩
      case measure => simp [intOf]; omega
    · obtain rfl : k = N := by omega
      have HS' := Lib.hid S
      clear S S0
      go_wp2_with fail
      go_ret2
      have S := HS'.out
      refine ⟨rfl, ⟨⟨cell_of S.row 0, S.l.congr fun i hi => ?_, by rw [HN.out]; exact h8, Nat.lt_succ_self _⟩, S.row, H.out.below S.b (Nat.le_refl _), H.out.lt, H.out.ltD⟩, S.b⟩
      have hi' : i < k := by rw [HN.out] at hi; exact hi
      unfold fillF fillC
      rw [if_pos hi', if_pos hi']
      exact ⟨rfl, rfl⟩
theorem open_few (h : IsF w p D c s) (hon : s.on = true) (h3 : nsec s.bs < 3) :
    Calls Try.prog 9 #[at_ p] w fun e w' => e = .returned (.tuple #[.pointer none, .int .i64 9]) ∧ w = w' := by
  have HO := Lib.hid (fon_any h)
  rw [hon] at HO
  have HS := Lib.hid (fsectors_any h)
  have en : s.bs.length / 1024 = nsec s.bs := rfl
  rw [en] at HS
  have h3' : ((nsec s.bs : Nat) : Int) < 3 := by omega
  generalize nsec s.bs = N at *
  clear h en
  go_enter Try.func9, Try.ntmps9
  go_wp2_with fail
  refine HO.out.mono ?_
  rintro e w1 ⟨rfl, rfl⟩
  go_wp2_with fail
  refine HS.out.mono ?_
  rintro e w1 ⟨rfl, rfl⟩
  go_wp2_with fail
  go_ret2
  exact ⟨rfl, rfl⟩
theorem open_nil (w : World) : Calls Try.prog 9 #[.pointer none] w fun e w' => e = .returned (.tuple #[.pointer none, .int .i64 17]) ∧ w = w' := by
  go_enter Try.func9, Try.ntmps9
  go_wp2_with fail
  go_ret2
  exact ⟨rfl, rfl⟩

/-- What Last answers: in new memory. -/
def LastOwn (w : World) (t : Lk) (is : Bool) (e : Ending) (w' : World) : Prop := ∃ v, e = .returned (.tuple #[rec_ t.k t.n v, .bool is]) ∧ Own w' w.heap.size E v t.d ∧ Below w.heap.size w w'
theorem last_any (h : IsJ w q L p D c s) : Calls Try.prog 10 #[at_ q] w (LastOwn w (tell s.bs) (newest s.bs).isSome) := by
  have HN := Lib.hid (fun W (b : Below w.heap.size w W) => jnone_any (h.below b (Nat.le_refl _)))
  have HL := Lib.hid (fun W (b : Below w.heap.size w W) => fdlast_any (h.below b (Nat.le_refl _)).fd)
  have et : tellF (lk s.bs) (nsec s.bs) = tell s.bs := rfl
  have en : nstF (lk s.bs) (nsec s.bs) = newest s.bs := rfl
  rw [et, en] at HL
  have htd := (tell_bd s.bs).2.2
  generalize tell s.bs = t at *
  generalize (newest s.bs).isSome = is at *
  have HI := Lib.hid h
  clear h et en
  go_enter Try.func10, Try.ntmps10
  go_wp2_with fail
  have hb1 := below1 w (.cells #[.int .i64 0, .int .u32 0, .slice none 0 0] 32)
  have R0 := Lib.hid (heap_alloc_new w (.cells #[.int .i64 0, .int .u32 0, .slice none 0 0] 32))
  refine (HN.out _ hb1).mono ?_
  rintro e w1 ⟨rfl, rfl⟩
  go_wp2_with fail
  refine (HL.out _ hb1).mono ?_
  rintro e w1 ⟨v, rfl, o, b⟩
  have B1 := hb1.trans (b.mono hb1.size)
  obtain ⟨A1, c1, rfl, r1⟩ := o.form
  have R1 := Lib.hid ((b.block _ (by simp)).trans R0.out)
  have hb2 := below1 w1 (.cells #[.int .i64 t.k, .int .u32 t.n, .slice A1 t.d.length c1] 32)
  have Q0 := heap_alloc_new w1 (.cells #[.int .i64 t.k, .int .u32 t.n, .slice A1 t.d.length c1] 32)
  have HC := Lib.hid (Byt.clone_any A1 t.d.length c1 t.d _ ((r1.below hb2).mono hb2.size) rfl (by omega))
  have hg1 : w.heap.size < w1.heap.size := by have := b.size; simp only [World.size_alloc] at this; omega
  go_wp2_with fail
  refine HC.out.mono ?_
  rintro e w2 ⟨v2, rfl, o2, b2⟩
  obtain ⟨A2, c2, rfl, _⟩ := o2.form
  have Q2 := (b2.block w1.heap.size (by simp)).trans Q0
  have B12 := hb2.trans (b2.mono hb2.size)
  have R2 := (B12.block _ hg1).trans R1.out
  have q0 := cell_of Q2 0
  have q1 := cell_of Q2 1
  have q2 := cell_of Q2 2
  have z2 := frozen_of_row _ _ 2 _ _ Q2
  have p0 := cell_of R2 0
  have p1 := cell_of R2 1
  have p2 := cell_of R2 2
  have y0 := frozen_of_row _ _ 0 _ _ R2
  have y1 := frozen_of_row _ _ 1 _ _ R2
  have y2 := frozen_of_row _ _ 2 _ _ R2
  have O2 := Lib.hid o2
  clear o2 o r1 Q0
  unfold id
  go_wp2_with fail
  have R3 : (w2.setCell ⟨w1.heap.size, 2, none⟩ (.slice A2 t.d.length c2)).heap[w.heap.size]? = _ := (Below.heap_setCell w2 ⟨w1.heap.size, 2, none⟩ _ w.heap.size (by show _ ≠ w1.heap.size; omega)).trans R2
  refine bodyPost_ret (results_row2 rfl _ _ w.heap.size _ _ _ _ rfl (row3_set R3 _ _ _) Try.underlying32 rfl size_rec) rfl ?_
  have F1 : FarS (fun k => k = w1.heap.size ∨ k = w.heap.size) w2 ((((w2.setCell ⟨w1.heap.size, 2, none⟩ (.slice A2 t.d.length c2)).setCell ⟨w.heap.size, 0, none⟩ (.int .i64 t.k)).setCell ⟨w.heap.size, 1, none⟩ (.int .u32 t.n)).setCell ⟨w.heap.size, 2, none⟩ (.slice A2 t.d.length c2)) :=
    ((((FarS.refl (fun k => k = w1.heap.size ∨ k = w.heap.size) w2).set ⟨w1.heap.size, 2, none⟩ (.inl rfl) _).set ⟨w.heap.size, 0, none⟩ (.inr rfl) _).set ⟨w.heap.size, 1, none⟩ (.inr rfl) _).set ⟨w.heap.size, 2, none⟩ (.inr rfl) _
  have BW : Below w.heap.size w w2 := B1.trans (B12.mono (by omega))
  have BF := BW.trans (F1.below BW.size fun k e => by rcases e with rfl | rfl <;> omega)
  refine ⟨_, rfl, (own_keep O2.out fun g h1 h2 => F1.block g h1 ?_).lower (by simp only [World.size_alloc]; omega), BF⟩
  simp only [World.size_alloc] at h2
  omega
theorem at_any (h : IsJ w q L p D c s) : Calls Try.prog 26 #[at_ q] w fun e w' => e = .returned (.int .i64 (((newest s.bs).getD 0 : Nat) : Int)) ∧ Below w.heap.size w w' := by
  have HN := Lib.hid (jnone_any h)
  have HL := Lib.hid (fdnewest_any h.fd)
  have en : nstF (lk s.bs) (nsec s.bs) = newest s.bs := rfl
  rw [en] at HL
  generalize newest s.bs = t at *
  clear h en
  go_enter Try.func26, Try.ntmps26
  go_wp2_with fail
  refine HN.out.mono ?_
  rintro e w1 ⟨rfl, rfl⟩
  go_wp2_with fail
  refine HL.out.mono ?_
  rintro e w1 ⟨rfl, b⟩
  go_wp2_with fail
  go_ret
  exact ⟨rfl, b⟩
end
end Jou
end Go.Proofs.Ytppjjdaejhilkaa
