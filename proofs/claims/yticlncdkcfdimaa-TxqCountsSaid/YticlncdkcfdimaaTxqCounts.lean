/-
  Proved: TxqCounts, for any room and whatever is done: as many frames were put as are there, were taken, were lost or were cleared; there are never more than there is room for. (Written by wip/gen_txqcounts.py.)
-/
import Derived.Test.YticlncdkcfdimaaRows
import Derived.Test.YticlncdkcfdimaaFrmLift
import Derived.Test.YticlncdkcfdimaaTxqKnown
namespace Go.Proofs.Yticlncdkcfdimaa.txqCounts
open Go.ChangeShapes Go.WideShapes Go.ChangeAt Go.RowKit Mem Frm Txq
open Go.ChangeMaps (open_string shut_string)
set_option linter.unusedVariables false
set_option linter.unusedSimpArgs false
set_option maxRecDepth 100000

theorem new4 (W : World) (x y z u : Value) (t : TypeId) : (W.alloc (.cells #[x, y, z, u] t)).cell? ⟨W.heap.size, 0, none⟩ = some x ∧ (W.alloc (.cells #[x, y, z, u] t)).cell? ⟨W.heap.size, 1, none⟩ = some y ∧ (W.alloc (.cells #[x, y, z, u] t)).cell? ⟨W.heap.size, 2, none⟩ = some z ∧ (W.alloc (.cells #[x, y, z, u] t)).cell? ⟨W.heap.size, 3, none⟩ = some u :=
  ⟨cell_of (l := [x, y, z, u]) (heap_alloc_new W _) rfl, cell_of (l := [x, y, z, u]) (heap_alloc_new W _) rfl, cell_of (l := [x, y, z, u]) (heap_alloc_new W _) rfl, cell_of (l := [x, y, z, u]) (heap_alloc_new W _) rfl⟩
/-- The ways of Put. -/
theorem put_cases (s : Qs) (f : Fr) : (∃ E, s.put f = (s, E) ∧ (E == 0) = false ∧ (E == 6) = false) ∨ (∃ s', s.put f = (s', 6) ∧ s'.l.length = s.l.length ∧ s'.lost = s.lost + 1 ∧ s'.room = s.room) ∨
    (∃ s', s.put f = (s', 0) ∧ s'.l.length = s.l.length + 1 ∧ s'.lost = s.lost ∧ s'.room = s.room) := by
  unfold Qs.put
  by_cases h : f.err = 0
  · rw [if_pos h]
    by_cases h2 : s.l.length = s.room
    · rw [if_pos h2]
      exact .inr (.inl ⟨_, rfl, rfl, rfl, rfl⟩)
    · rw [if_neg h2]
      exact .inr (.inr ⟨_, rfl, ins_length key f s.l, rfl, rfl⟩)
  · rw [if_neg h]
    refine .inl ⟨_, rfl, by simpa using h, ?_⟩
    have := err_cases f.id f.r f.d.length
    simp only [Fr.err] at h ⊢
    simp
    omega
/-- The ways of Take. -/
theorem take_cases (s : Qs) : (s.take.2.2 = false ∧ s.take.1 = s) ∨ (s.take.2.2 = true ∧ s.take.1.l.length + 1 = s.l.length ∧ s.take.1.lost = s.lost ∧ s.take.1.room = s.room) := by
  unfold Qs.take
  split
  · exact .inl ⟨rfl, rfl⟩
  · rename_i f r h
    exact .inr ⟨rfl, by simp [h], rfl, rfl⟩

set_option maxHeartbeats 8000000 in
theorem walk (a : Int) (A : Option Addr) (c : Nat) (os : List Ov) (w : World)
    (ha : 0 ≤ a ∧ a ≤ 255) (hr : RdT w w.heap.size A os) (hm : os.length ≤ maxLen) (ho : ∀ j, j < os.length → (os.getD j Ov.zero).Ok) :
    Calls Try.prog 5 #[.int .u8 a, .slice A os.length c] w fun e w' => e = .returned (.bool true) ∧ Below w.heap.size w w' := by
  obtain ⟨m, rfl⟩ : ∃ m : Nat, a = (m : Int) := ⟨a.toNat, by omega⟩
  unfold maxLen at hm
  have hmod : (m : Int).tmod 64 = ((m % 64 : Nat) : Int) := by rw [Int.tmod_eq_emod_of_nonneg (by omega)]; omega
  have N0 := Lib.hid (new_K (1 + m % 64) (by omega) (by omega) w w (Below.refl _ _))
  have KN := Lib.hid known_any
  have LI := Lib.hid (fun W (b : Below w.heap.size w W) => light_any A c os W (by have := hr.below b; exact ⟨this.1.imp id (fun ⟨g, off, e, hg, h⟩ => ⟨g, off, e, Nat.lt_of_lt_of_le hg b.size, h⟩), fun j hj => (this.2 j hj).mono b.size⟩) (by omega) ho)
  have RD := Lib.hid (fun W (b : Below w.heap.size w W) => hr.below b)
  have HO := Lib.hid ho
  obtain ⟨n, hn⟩ : ∃ n : Nat, n = 1 + m % 64 := ⟨_, rfl⟩
  have hn64 : n ≤ 64 := by omega
  have HNI := Lib.hid (show (1 : Int) + (m : Int) % 64 = (n : Int) by omega)
  rw [← hn] at N0
  clear hn
  clear hr ho
  go_enter Try.func5, Try.ntmps5
  go_wp2_with fail
  rw [HNI.out]
  refine N0.out.mono ?_
  rintro e w1 ⟨rfl, q1⟩
  have Q1 := Lib.hid q1
  clear q1 N0
  generalize w.heap.size = p at Q1
  go_wp2_with fail
  refine (LI.out _ Q1.out.b).mono ?_
  rintro e w2 ⟨b, rfl, hb, rfl⟩
  have HB := Lib.hid hb
  clear hb LI
  cases b with
  | false =>
    go_wp2_with fail
    refine (KN.out _).mono ?_
    rintro e w3 ⟨rfl, b3⟩
    have Q3 := Lib.hid (Q1.out.next b3)
    clear b3
    go_wp2_with fail
    go_ret
    exact ⟨rfl, Q3.out.b⟩
  | true =>
    have HD := Lib.hid (HB.out rfl)
    have KL := Lib.hid (fun W s (k : KQ w W p s) => k.len)
    have KO := Lib.hid (fun W s (k : KQ w W p s) => k.lost)
    clear HB hmod HNI
    go_wp2_with fail
    go_loopw [8, 9, 10] (fun pv gv iv wr => ∃ (k put gone : Nat) (s : Qs), k ≤ os.length ∧ k ≤ 80 ∧ pv = .int .i64 (put : Int) ∧ gv = .int .i64 (gone : Int) ∧ iv = .int .i64 (k : Int) ∧ Hid (KQ w wr p s) ∧ put = gone + s.l.length + s.lost ∧ put ≤ k ∧ s.room = n) (fun pv gv iv _ => os.length - (intOf iv).toNat)
    case atStart => exact ⟨0, 0, 0, ⟨[], n, 0, false⟩, by omega, by omega, rfl, rfl, rfl, Q1, rfl, by omega, rfl⟩
    case round =>
      obtain ⟨k, put, gone, s, hk, hk8, rfl, rfl, rfl, hQ, hsum, hput, hroom⟩ := hrel
      clear Q1
      have hln := hQ.out.q.len
      rw [hroom] at hln
      by_cases hlt : k < os.length
      · by_cases h80 : k < 80
        · obtain ⟨g, off, hA, hg, q0, q1, q2, q3, hrd⟩ := (RD.out _ hQ.out.b).four hlt rfl
          subst hA
          have ok := HO.out k hlt
          have hd := HD.out k hlt h80
          have i0 : (0 : Int) ≤ (k : Int) := by omega
          have i1 : (k : Int) < (os.length : Int) := by omega
          generalize os.getD k Ov.zero = O at q0 q1 q2 q3 hrd ok hd
          obtain ⟨x0, x1, x2, x3⟩ := new4 wr (.int .i64 O.k) (.int .i64 O.f.id) (.bool O.f.r) (.slice O.f.A O.f.d.length O.f.c) 36
          have X := Lib.hid (hQ.out.new (.cells #[.int .i64 O.k, .int .i64 O.f.id, .bool O.f.r, .slice O.f.A O.f.d.length O.f.c] 36))
          have BN := Lib.hid ((Below.refl wr.heap.size wr).alloc (Nat.le_refl _) (.cells #[.int .i64 O.k, .int .i64 O.f.id, .bool O.f.r, .slice O.f.A O.f.d.length O.f.c] 36))
          have KP := Lib.hid (fun W (b : Below wr.heap.size wr W) (q : KQ w W p s) => q.put (by omega) O.f ok.f ((hrd.below (b.mono hQ.out.b.size)).mono (Nat.le_trans hQ.out.b.size b.size)))
          have KT := Lib.hid (fun W (q : KQ w W p s) => q.take)
          have KC := Lib.hid (fun W (q : KQ w W p s) => q.clear)
          clear hrd ok hd
          generalize O.k = K at *
          have hK : K = 0 ∨ K = 1 ∨ K = 3 ∨ (K ≠ 0 ∧ K ≠ 1 ∧ K ≠ 3) := by omega
          rcases hK with rfl | rfl | rfl | ⟨h0, h1, h3⟩
          · rcases put_cases s O.f.fr with ⟨E, hE, e0, e6⟩ | ⟨s', hE, e1, e2, e3⟩ | ⟨s', hE, e1, e2, e3⟩
            · rw [hE] at KP
              go_wp2_with fail
              refine (KP.out _ BN.out X.out).mono ?_
              rintro e w3 ⟨rfl, q3⟩
              have Q3 := Lib.hid q3
              clear q3 KP KT KC x0 x1 x2 x3 X BN
              go_wp2_with fail
              refine (KL.out _ _ Q3.out).mono ?_
              rintro e v1 ⟨rfl, rfl⟩
              go_wp2_with fail
              refine (KO.out _ _ Q3.out).mono ?_
              rintro e v1 ⟨rfl, rfl⟩
              go_wp2_with fail
              refine (KL.out _ _ Q3.out).mono ?_
              rintro e v1 ⟨rfl, rfl⟩
              go_wp2_with fail
              refine (KL.out _ _ Q3.out).mono ?_
              rintro e v1 ⟨rfl, rfl⟩
              go_wp2_with fail
              go_roundw
              case rel => exact ⟨k + 1, put, gone, s, by omega, by omega, by first | rfl | go_num, by first | rfl | go_num, by go_num, Lib.hid Q3.out, by omega, by omega, by omega⟩
              case measure => simp [intOf]; omega
            · rw [hE] at KP
              rw [← e3] at hroom
              go_wp2_with fail
              refine (KP.out _ BN.out X.out).mono ?_
              rintro e w3 ⟨rfl, q3⟩
              have Q3 := Lib.hid q3
              clear q3 KP KT KC x0 x1 x2 x3 X BN
              go_wp2_with fail
              refine (KL.out _ _ Q3.out).mono ?_
              rintro e v1 ⟨rfl, rfl⟩
              go_wp2_with fail
              refine (KO.out _ _ Q3.out).mono ?_
              rintro e v1 ⟨rfl, rfl⟩
              go_wp2_with fail
              refine (KL.out _ _ Q3.out).mono ?_
              rintro e v1 ⟨rfl, rfl⟩
              go_wp2_with fail
              refine (KL.out _ _ Q3.out).mono ?_
              rintro e v1 ⟨rfl, rfl⟩
              go_wp2_with fail
              go_roundw
              case rel => exact ⟨k + 1, put + 1, gone, s', by omega, by omega, by first | rfl | go_num, by first | rfl | go_num, by go_num, Lib.hid Q3.out, by omega, by omega, by omega⟩
              case measure => simp [intOf]; omega
            · rw [hE] at KP
              rw [← e3] at hroom
              go_wp2_with fail
              refine (KP.out _ BN.out X.out).mono ?_
              rintro e w3 ⟨rfl, q3⟩
              have hl3 := q3.q.len
              have Q3 := Lib.hid q3
              clear q3 KP KT KC x0 x1 x2 x3 X BN
              go_wp2_with fail
              refine (KL.out _ _ Q3.out).mono ?_
              rintro e v1 ⟨rfl, rfl⟩
              go_wp2_with fail
              refine (KO.out _ _ Q3.out).mono ?_
              rintro e v1 ⟨rfl, rfl⟩
              go_wp2_with fail
              refine (KL.out _ _ Q3.out).mono ?_
              rintro e v1 ⟨rfl, rfl⟩
              go_wp2_with fail
              refine (KL.out _ _ Q3.out).mono ?_
              rintro e v1 ⟨rfl, rfl⟩
              go_wp2_with fail
              go_roundw
              case rel => exact ⟨k + 1, put + 1, gone, s', by omega, by omega, by first | rfl | go_num, by first | rfl | go_num, by go_num, Lib.hid Q3.out, by omega, by omega, by omega⟩
              case measure => simp [intOf]; omega
          · go_wp2_with fail
            refine (KT.out _ X.out).mono ?_
            rintro e w3 ⟨A3, c3, rfl, _, q3⟩
            rcases take_cases s with ⟨hb, hs⟩ | ⟨hb, e1, e2, e3⟩
            · rw [hs] at q3
              rw [hb]
              have Q3 := Lib.hid fun o => q3.new o
              generalize s.take.2.1 = F
              clear q3 KP KT KC x0 x1 x2 x3 X BN hs hb
              go_wp2_with fail
              refine (KL.out _ _ (Q3.out _)).mono ?_
              rintro e v1 ⟨rfl, rfl⟩
              go_wp2_with fail
              refine (KO.out _ _ (Q3.out _)).mono ?_
              rintro e v1 ⟨rfl, rfl⟩
              go_wp2_with fail
              refine (KL.out _ _ (Q3.out _)).mono ?_
              rintro e v1 ⟨rfl, rfl⟩
              go_wp2_with fail
              refine (KL.out _ _ (Q3.out _)).mono ?_
              rintro e v1 ⟨rfl, rfl⟩
              go_wp2_with fail
              go_roundw
              case rel => exact ⟨k + 1, put, gone, s, by omega, by omega, by first | rfl | go_num, by first | rfl | go_num, by go_num, Lib.hid (Q3.out _), by omega, by omega, by omega⟩
              case measure => simp [intOf]; omega
            · rw [hb]
              rw [← e3] at hroom
              have Q3 := Lib.hid fun o => q3.new o
              generalize s.take.2.1 = F
              generalize s.take.1 = s' at *
              clear q3 KP KT KC x0 x1 x2 x3 X BN hb
              go_wp2_with fail
              refine (KL.out _ _ (Q3.out _)).mono ?_
              rintro e v1 ⟨rfl, rfl⟩
              go_wp2_with fail
              refine (KO.out _ _ (Q3.out _)).mono ?_
              rintro e v1 ⟨rfl, rfl⟩
              go_wp2_with fail
              refine (KL.out _ _ (Q3.out _)).mono ?_
              rintro e v1 ⟨rfl, rfl⟩
              go_wp2_with fail
              refine (KL.out _ _ (Q3.out _)).mono ?_
              rintro e v1 ⟨rfl, rfl⟩
              go_wp2_with fail
              go_roundw
              case rel => exact ⟨k + 1, put, gone + 1, s', by omega, by omega, by first | rfl | go_num, by first | rfl | go_num, by go_num, Lib.hid (Q3.out _), by omega, by omega, by omega⟩
              case measure => simp [intOf]; omega
          · go_wp2_with fail
            refine (KL.out _ _ X.out).mono ?_
            rintro e w3 ⟨rfl, rfl⟩
            go_wp2_with fail
            refine (KC.out _ X.out).mono ?_
            rintro e w3 ⟨rfl, q3⟩
            obtain ⟨s', hs', e1, e2, e3⟩ : ∃ s' : Qs, s' = { s with l := [] } ∧ s'.l.length = 0 ∧ s'.lost = s.lost ∧ s'.room = s.room := ⟨_, rfl, rfl, rfl, rfl⟩
            rw [← hs'] at q3
            rw [← e3] at hroom
            have Q3 := Lib.hid q3
            clear q3 KP KT KC x0 x1 x2 x3 X BN hs'
            go_wp2_with fail
            refine (KL.out _ _ Q3.out).mono ?_
            rintro e v1 ⟨rfl, rfl⟩
            go_wp2_with fail
            refine (KO.out _ _ Q3.out).mono ?_
            rintro e v1 ⟨rfl, rfl⟩
            go_wp2_with fail
            refine (KL.out _ _ Q3.out).mono ?_
            rintro e v1 ⟨rfl, rfl⟩
            go_wp2_with fail
            refine (KL.out _ _ Q3.out).mono ?_
            rintro e v1 ⟨rfl, rfl⟩
            go_wp2_with fail
            go_roundw
            case rel => exact ⟨k + 1, put, gone + s.l.length, s', by omega, by omega, by first | rfl | go_num, by first | rfl | go_num, by go_num, Lib.hid Q3.out, by omega, by omega, by omega⟩
            case measure => simp [intOf]; omega
          · have b0 : (K == 0) = false := by simpa using h0
            have b1 : (K == 1) = false := by simpa using h1
            have b3 : (K == 3) = false := by simpa using h3
            clear KP KT KC h0 h1 h3
            go_wp2_with fail
            refine (KL.out _ _ X.out).mono ?_
            rintro e v1 ⟨rfl, rfl⟩
            go_wp2_with fail
            refine (KO.out _ _ X.out).mono ?_
            rintro e v1 ⟨rfl, rfl⟩
            go_wp2_with fail
            refine (KL.out _ _ X.out).mono ?_
            rintro e v1 ⟨rfl, rfl⟩
            go_wp2_with fail
            refine (KL.out _ _ X.out).mono ?_
            rintro e v1 ⟨rfl, rfl⟩
            go_wp2_with fail
            go_roundw
            case rel => exact ⟨k + 1, put, gone, s, by omega, by omega, by first | rfl | go_num, by first | rfl | go_num, by go_num, Lib.hid X.out, by omega, by omega, by omega⟩
            case measure => simp [intOf]; omega
        · obtain rfl : k = 80 := by omega
          have d1 : decide (((80 : Nat) : Int) < (os.length : Int)) = true := by simp; omega
          go_wp2_with fail
          refine (KN.out _).mono ?_
          rintro e w3 ⟨rfl, b3⟩
          have Q3 := Lib.hid (hQ.out.next b3)
          clear b3
          go_wp2_with fail
          go_ret
          exact ⟨rfl, Q3.out.b⟩
      · obtain rfl : k = os.length := by omega
        go_wp2_with fail
        refine (KN.out _).mono ?_
        rintro e w3 ⟨rfl, b3⟩
        have Q3 := Lib.hid (hQ.out.next b3)
        clear b3
        go_wp2_with fail
        go_ret
        exact ⟨rfl, Q3.out.b⟩

theorem own : ownKnob Try.prog.godebug = none := by kernel_rfl
theorem laidOut : laidOutB Try.prog = true := by kernel_rfl

set_option maxRecDepth 100000 in
theorem lifted (os : Os) (started : os.Started) (H : Type) (enc : TypeId × Value → H) :
    ReturnsInHanded {} Try.checked os 5 .any (Rows.txqCountsSpec.pre6 enc Try.prog Try.f5 Rows.txqCountsRow.domain false) (Rows.txqCountsSpec.post enc Try.prog Try.f5 false true false false) := by
  refine returnsInHanded_of_change (C := Try.checked) own started (by kernel_rfl) Try.func5
    (ChangeSpec.witness6 (enc := enc) (C := Try.checked) false ⟨#[], #[.int .u8 0, .slice none 0 0], []⟩ 8 (by kernel_rfl) (by kernel_rfl) (by kernel_rfl) (by kernel_rfl)) ?_
  intro W base args ds gs before hval0 hW hcnd _
  have hval : ∀ (j : Nat) t v, Try.f5.params[j]? = some t → args[j]? = some v → Value.okWide Try.prog W .any base t v := hval0
  have hW' := hW
  obtain ⟨p, q, hA0, hV, rfl, hfz, hnd⟩ := hW
  have hA : DataW.TrodAll enc Try.prog W 0 (fun _ => true) true Try.f5.params.toList args.toList ds p := hA0
  rw [Try.params5] at hA hval
  obtain ⟨v0, vs0, d0, ds0, p0, q0, hargs, rfl, rfl, h0, r0⟩ := trodAll_cons hA
  obtain ⟨v1, vs1, d1, ds1, p1, q1, rfl, rfl, rfl, h1, r1⟩ := trodAll_cons r0
  obtain ⟨rfl, rfl, rfl⟩ := trodAll_nil r1
  obtain rfl : args = #[v0, v1] := by cases args; simp_all
  obtain ⟨rfl, rfl⟩ := trodVars_none hV
  obtain ⟨a0, rfl, rfl, rfl, w0⟩ := open_int Try.underlying5 (hval 0 5 v0 rfl rfl) h0
  have k1 := h1
  have lt1 : ∀ x ∈ p1, x.block < W.heap.size := by obtain ⟨m, hm⟩ := k1; exact DataW.trod_lt m _ _ _ hm
  obtain ⟨A1, c1, o1, rfl, w1, l1, z1⟩ := Txq.open_ops (hval 1 22 v1 rfl rfl) h1
  clear hA0 hval0
  refine (walk a0 A1 c1 o1 W (Mem.wf_u8 w0) w1 l1 z1).mono fun e W' ⟨he, bel⟩ => ?_
  subst he
  exact ⟨_, rfl, _, _, _, [], _, [], hW', trodAll_mk1 (shut_bool Try.underlying4 _), (trodAll_cons_mk (shut_int Try.underlying5 w0) (trodAll_cons_mk (Below.trod laidOut (by kernel_rfl) (of_decide_eq_true (by kernel_rfl)) k1 bel lt1) trodAll_mk0)), rfl, bel.frame _, fun h => by cases h⟩

theorem over : Rows.txqCountsRow.holds Try.pinned (OpenSpec.ofChange Rows.txqCountsSpec) :=
  OpenClaim.holds_of_wide 5 Try.f5 rfl rfl rfl rfl rfl rfl rfl ⟨rfl, rfl, rfl, rfl, rfl⟩ rfl rfl rfl rfl rfl (by kernel_rfl) Try.func5 (by kernel_rfl)
    (of_decide_eq_true (by kernel_rfl)) (by unfold Func.isWrapper; first | (rw [if_pos (by decide +kernel)]; kernel_rfl) | (rw [if_neg (by decide +kernel)]; exact ⟨rfl, rfl⟩))
    (fun os started H enc _ => lifted os started H enc)

/-- The given statement. -/
theorem proved : Rows.TxqCountsSaid := over

end Go.Proofs.Yticlncdkcfdimaa.txqCounts
