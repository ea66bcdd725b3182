/-
  FaultChains: its walk.
-/
import Derived.Test.YtielbmhaidjioaaDoorFltLawSays
import Derived.Test.YtielbmhaidjioaaDoorFltHas
namespace Go.Proofs.YtielbmhaidjioaaDoor
open Go.RowKit Mem
set_option linter.unusedVariables false

def hasB (zs : List Int) (o : Int) (k : Nat) : Bool := decide (o ∈ (zs.take k).map Flt.cnt)
theorem hasB_zero (zs : List Int) (o : Int) : hasB zs o 0 = false := by simp [hasB]
theorem hasB_succ {zs : List Int} {o : Int} {k : Nat} (hk : k < zs.length) : hasB zs o (k + 1) = (hasB zs o k || (Flt.cnt (zs.getD k 0) == o)) := by
  unfold hasB
  rw [List.take_succ_eq_append_getElem hk, List.map_append, List.map_cons, List.map_nil]
  have hg : zs[k] = zs.getD k 0 := by simp [hk]
  rw [hg]
  generalize Flt.cnt (zs.getD k 0) = y
  generalize (zs.take k).map Flt.cnt = l
  by_cases h1 : o ∈ l
  · simp [h1]
  · by_cases h2 : o = y
    · subst h2; simp
    · have h3 : ¬ y = o := fun e => h2 e.symm
      simp [h1, h2, h3]
theorem top_facts (zs : List Int) (p : Addr) (hn : 0 < zs.length) : ∃ x r V v, zs.map Flt.cnt = x :: r ∧ chainV r (errV p) = .iface V v ∧ x = Flt.cnt (zs.getD 0 0) := by
  cases zs with
  | nil => simp at hn
  | cons z r =>
    obtain ⟨V, v, hV⟩ := chain_iface (r.map Flt.cnt) 129 (.pointer (some p))
    exact ⟨_, _, V, v, rfl, hV, rfl⟩

set_option maxRecDepth 100000 in
set_option maxHeartbeats 8000000 in
theorem chains_main (A : Option Addr) (c : Nat) (zs : List Int) (m : Nat) (hm : zs.length = m + 1) (h50 : m < 50) (o : Int) (w : World) (hr : RdI .u32 w w.heap.size A zs) (a : Nat → Addr) (hg : Glob w a) :
    Calls Tryd.prog 4 #[.slice A (m + 1) c, .int .u32 o] w fun e w' => e = .returned (.bool true) ∧ Below w.heap.size w w' := by
  have S0 := Lib.hid (⟨Below.refl _ w, hg, fun p hp => by simp at hp⟩ : St w a [] w)
  have KN := Lib.hid (fun L W (S : Hid (St w a L W)) => S.out.call (fixed_any a W S.out.g))
  obtain ⟨x, r, V, v, hcs, hV, hx⟩ := top_facts zs (a (Flt.fam (Flt.cnt (zs.getLastD 0)))) (by omega)
  have hlast : zs.getLastD 0 = zs.getD m 0 := by
    rw [List.getLastD_eq_getLast?, List.getLast?_eq_getElem?, List.getD_eq_getElem?_getD, hm]; simp
  have hrl : r.length + 1 = m + 1 := by have := congrArg List.length hcs; simp at this; omega
  have hkn := Flt.cnt_known (zs.getLastD 0)
  have hf0 : Flt.fam (Flt.cnt (zs.getLastD 0)) ≠ 0 := fun e => by rw [(Flt.fam_known _).1 e] at hkn; cases hkn
  have hf5 := Flt.fam_le (Flt.cnt (zs.getLastD 0))
  have hx0 : (x == 0) = false := by have := (Flt.cnt_bd (zs.getD 0 0)).1; rw [← hx] at this; simp; omega
  have K1 := fun W (S : St w a [] W) => S.call (wrapped_any A c zs a W ((hr.below S.b).mono S.b.size) (by omega) S.g)
  rw [hcs, hm, topV, hV] at K1
  have K2 := fun L W (S : Hid (St w a L W)) => S.out.call (fam_top x r a (Flt.fam (Flt.cnt (zs.getLastD 0))) W S.out.g hx0 (by omega) hf5)
  rw [topV, hV] at K2
  have K3 := fun L W (S : Hid (St w a L W)) => S.out.call (depth_any x r 129 (.pointer (some (a (Flt.fam (Flt.cnt (zs.getLastD 0)))))) endP hx0 (by omega) a W S.out.g)
  rw [show chainV r (.iface 129 (.pointer (some (a (Flt.fam (Flt.cnt (zs.getLastD 0))))))) = Value.iface V v from hV, hrl] at K3
  have K4 := fun d L W (S : Hid (St w a L W)) => S.out.call (has_any x r 129 (.pointer (some (a (Flt.fam (Flt.cnt (zs.getLastD 0)))))) endP hx0 d a W S.out.g)
  rw [show chainV r (.iface 129 (.pointer (some (a (Flt.fam (Flt.cnt (zs.getLastD 0))))))) = Value.iface V v from hV, ← hcs] at K4
  have K4k : ∀ k, k < m + 1 → ∀ L W, Hid (St w a L W) → Calls Tryd.prog 18 #[.agg #[.int .u32 x, .iface V v], .int .u32 (Flt.cnt (zs.getD k 0))] W fun e w' => e = .returned (.bool true) ∧ St w a L w' := fun k hk L W S => by
    have h := K4 (Flt.cnt (zs.getD k 0)) L W S
    have hmem : Flt.cnt (zs.getD k 0) ∈ zs.map Flt.cnt := List.mem_map.2 ⟨_, by rw [List.getD_eq_getElem?_getD, List.getElem?_eq_getElem (by omega)]; exact List.getElem_mem (by omega), rfl⟩
    rw [decide_eq_true hmem] at h
    exact h
  have K4o : ∀ L W, Hid (St w a L W) → Calls Tryd.prog 18 #[.agg #[.int .u32 x, .iface V v], .int .u32 o] W fun e w' => e = .returned (.bool (hasB zs o (m + 1))) ∧ St w a L w' := fun L W S => by
    have h := K4 o L W S
    have : hasB zs o (m + 1) = decide (o ∈ zs.map Flt.cnt) := by unfold hasB; rw [List.take_of_length_le (by omega)]
    rw [this]; exact h
  have K5 := fun L W (S : Hid (St w a L W)) => S.out.call (counts_any (zs.getD 0 0) W)
  rw [← hx] at K5
  have K6 := fun L W (S : Hid (St w a L W)) => S.out.call (rfamily_any (zs.getD m 0) W)
  have hfm : Flt.fam (Flt.cnt (zs.getD m 0)) = Flt.fam (Flt.cnt (zs.getLastD 0)) := by rw [hlast]
  rw [hfm] at K6
  clear hfm
  have K7 := fun k L W (S : Hid (St w a L W)) => S.out.call (counts_any (zs.getD k 0) W)
  have HC : Hid (∀ k, k < m + 1 → ∃ g off, A = some ⟨g, off, none⟩ ∧ ∀ L W, St w a L W → W.cell? ⟨g, off + k, none⟩ = some (.int .u32 (zs.getD k 0))) := Lib.hid fun k hk => by
    obtain ⟨g, off, e, hgl, _⟩ := hr.at_ (j := k) (by omega)
    refine ⟨g, off, e, fun L W S => ?_⟩
    obtain ⟨g', off', e', _, hc⟩ := (hr.below S.b).at_ (j := k) (by omega)
    rw [e] at e'
    cases e'
    exact hc
  have HB := Lib.hid (fun k (hk : k < m + 1) => hasB_succ (zs := zs) (o := o) (k := k) (by omega))
  have HB0 := Lib.hid (hasB_zero zs o)
  have K1 := Lib.hid K1
  have K2 := Lib.hid K2
  have K3 := Lib.hid K3
  have K4k := Lib.hid K4k
  have K4o := Lib.hid K4o
  have K5 := Lib.hid K5
  have K6 := Lib.hid K6
  have K7 := Lib.hid K7
  clear K4 hcs hV hx hlast hrl hkn hf0 hf5 hx0 hg hr hm
  generalize Flt.fam (Flt.cnt (zs.getLastD 0)) = FM at *
  go_enter Tryd.func4, Tryd.ntmps4
  have e0 : ((m : Int) + 1 == 0) = false := by simp; omega
  have e1 : decide ((50 : Int) < (m : Int) + 1) = false := by simp; omega
  go_wp2_with fail
  refine (K1.out _ S0.out).mono ?_
  rintro e w1 ⟨rfl, S⟩
  have S := Lib.hid S
  clear S0 K1
  go_wp2_with fail
  have S := Lib.hid (S.out.push (.int .u32 x) (.iface V v) 26)
  generalize w1.heap.size = b1 at *
  go_loopw [6, 7] (fun hs i wr => ∃ k : Nat, k ≤ m + 1 ∧ i = .int .i64 (k : Int) ∧ hs = .bool (hasB zs o k) ∧ St w a [(b1, .int .u32 x, .iface V v)] wr) (fun _ i _ => (m + 1 - (intOf i).toNat))
  case atStart => exact ⟨0, by omega, rfl, by rw [HB0.out], S.out⟩
  case round =>
    obtain ⟨k, hk, rfl, rfl, hS⟩ := hrel
    clear S
    have S := Lib.hid hS
    clear hS
    by_cases hlt : k < m + 1
    · obtain ⟨g, off, rfl, HCk⟩ := HC.out k hlt
      have HCk := Lib.hid HCk
      have hc := HCk.out _ _ S.out
      have K7k := Lib.hid (K7.out k)
      have K4kk := Lib.hid (K4k.out k hlt)
      have HBk := Lib.hid (HB.out k hlt)
      generalize Flt.cnt (zs.getD k 0) = CK at *
      generalize zs.getD k 0 = zk at *
      have hk1 : (0 : Int) ≤ (k : Int) := by omega
      have hk2 : (k : Int) < (m : Int) + 1 := by omega
      cases hb : hasB zs o k
      all_goals
        rw [hb] at HBk
        have hb := Lib.hid hb
      · go_wp2_with fail
        refine (K7k.out _ _ S).mono ?_
        clear S hc
        rintro e w2 ⟨rfl, S⟩
        have S := Lib.hid S
        go_wp2_with fail
        refine Txt.wp_region_textN 8 (fun W => St w a [(b1, .int .u32 x, .iface V v)] W) (by kernel_rfl) (by kernel_rfl) (by kernel_rfl) (by kernel_rfl) (fun _ _ _ _ _ h => h) S.out.drew ?_
        clear S
        iterate 8 (
          apply Txt.step rfl
          · intro W hS K hK
            obtain ⟨q0, q1, ql⟩ := St.one hS
            have hc := HCk.out _ _ hS
            go_simp
            try (go_wp2_with (first
              | (go_at_call 14; refine (K7k.out _ _ (Lib.hid hS)).mono ?_; rintro e w' ⟨rfl, S⟩; have S := Lib.hid S)
              | (go_at_call 18; refine (K4kk.out _ _ (Lib.hid hS)).mono ?_; rintro e w' ⟨rfl, S⟩; have S := Lib.hid S)))
            first | exact hK.out _ hS | exact hK.out _ S.out
          · first | exact ⟨_, rfl⟩ | exact ⟨undef, rfl⟩)
        refine Txt.last fun W hS => ?_
        have S := Lib.hid hS
        clear hS
        go_wp2_with fail
        go_roundw
        case rel => exact ⟨k + 1, by omega, by go_num, by rw [HBk.out]; rfl, S.out⟩
        case measure => simp [intOf]; omega
      · go_wp2_with fail
        clear hc
        refine Txt.wp_region_textN 8 (fun W => St w a [(b1, .int .u32 x, .iface V v)] W) (by kernel_rfl) (by kernel_rfl) (by kernel_rfl) (by kernel_rfl) (fun _ _ _ _ _ h => h) S.out.drew ?_
        clear S
        iterate 8 (
          apply Txt.step rfl
          · intro W hS K hK
            obtain ⟨q0, q1, ql⟩ := St.one hS
            have hc := HCk.out _ _ hS
            go_simp
            try (go_wp2_with (first
              | (go_at_call 14; refine (K7k.out _ _ (Lib.hid hS)).mono ?_; rintro e w' ⟨rfl, S⟩; have S := Lib.hid S)
              | (go_at_call 18; refine (K4kk.out _ _ (Lib.hid hS)).mono ?_; rintro e w' ⟨rfl, S⟩; have S := Lib.hid S)))
            first | exact hK.out _ hS | exact hK.out _ S.out
          · first | exact ⟨_, rfl⟩ | exact ⟨undef, rfl⟩)
        refine Txt.last fun W hS => ?_
        have S := Lib.hid hS
        clear hS
        go_wp2_with fail
        go_roundw
        case rel => exact ⟨k + 1, by omega, by go_num, by rw [HBk.out]; rfl, S.out⟩
        case measure => simp [intOf]; omega
    · obtain rfl : k = m + 1 := by omega
      obtain ⟨g, off, rfl, HC0⟩ := HC.out 0 (by omega)
      obtain ⟨g', off', e', HCm⟩ := HC.out m (by omega)
      cases e'
      rw [Nat.add_zero] at HC0
      have HC0 := Lib.hid HC0
      have HCm := Lib.hid HCm
      clear HC K7 K4k HB hlt hk
      generalize zs.getD 0 0 = z0 at *
      generalize zs.getD m 0 = zm at *
      generalize hasB zs o (m + 1) = HV at *
      have hk1 : (0 : Int) ≤ (m : Int) := by omega
      have hk2 : (0 : Int) < (m : Int) + 1 := by omega
      go_wp2_with fail
      refine Txt.wp_region_textN 37 (fun W => St w a [(b1, .int .u32 x, .iface V v)] W) (by kernel_rfl) (by kernel_rfl) (by kernel_rfl) (by kernel_rfl) (fun _ _ _ _ _ h => h) S.out.drew ?_
      clear S
      repeat (
        apply Txt.step rfl
        · intro W hS K hK
          obtain ⟨q0, q1, ql⟩ := St.one hS
          have hc0 := HC0.out _ _ hS
          have hcm := HCm.out _ _ hS
          have hw1 : IntKind.i64.wrap ((m : Int) + 1 - 1) = (m : Int) := by rw [IntWalk.i64_in _ (by omega)]; omega
          have hw2 : IntKind.i64.wrap (m : Int) = (m : Int) := IntWalk.i64_in _ (by omega)
          have hw3 : wrap64 ((m : Int) + 1 - 1) = (m : Int) := by unfold wrap64; omega
          have hw4 : wrap64 (m : Int) = (m : Int) := by unfold wrap64; omega
          go_simp
          try (go_wp2_with (first
            | (go_at_call 13; refine (hS.call (code_b _ _ _)).mono ?_; rintro e w' ⟨rfl, S⟩; have S := Lib.hid S)
            | (go_at_call 14; refine (K5.out _ _ (Lib.hid hS)).mono ?_; rintro e w' ⟨rfl, S⟩; have S := Lib.hid S)
            | (go_at_call 15; refine (K2.out _ _ (Lib.hid hS)).mono ?_; rintro e w' ⟨rfl, S⟩; have S := Lib.hid S)
            | (go_at_call 16; refine (K6.out _ _ (Lib.hid hS)).mono ?_; rintro e w' ⟨rfl, S⟩; have S := Lib.hid S)
            | (go_at_call 17; refine (K3.out _ _ (Lib.hid hS)).mono ?_; rintro e w' ⟨rfl, S⟩; have S := Lib.hid S)
            | (go_at_call 18; refine (K4o.out _ _ (Lib.hid hS)).mono ?_; rintro e w' ⟨rfl, S⟩; have S := Lib.hid S)
            | (go_at_call 20; refine (KN.out _ _ (Lib.hid hS)).mono ?_; rintro e w' ⟨rfl, S⟩; have S := Lib.hid S)))
          first | exact hK.out _ hS | exact hK.out _ S.out
        · first | exact ⟨_, rfl⟩ | exact ⟨undef, rfl⟩)
      refine Txt.last fun W hS => ?_
      have S := Lib.hid hS
      clear hS
      go_wp2_with fail
      go_ret
      exact ⟨rfl, S.out.b⟩

set_option maxRecDepth 100000 in
set_option maxHeartbeats 2000000 in
theorem chains_law (A : Option Addr) (c : Nat) (zs : List Int) (o : Int) (w : World) (hr : RdI .u32 w w.heap.size A zs) (hl : zs.length ≤ maxLen) (hz : ∀ z ∈ zs, (Lit.int .u32 z).wf = true) (ho0 : 0 ≤ o) (ho1 : o ≤ 4294967295) (a : Nat → Addr) (hg : Glob w a) :
    Calls Tryd.prog 4 #[.slice A zs.length c, .int .u32 o] w fun e w' => e = .returned (.bool true) ∧ Below w.heap.size w w' := by
  by_cases h : zs.length = 0 ∨ 50 < zs.length
  · have S0 := Lib.hid (⟨Below.refl _ w, hg, fun p hp => by simp at hp⟩ : St w a [] w)
    have KN := Lib.hid (fun L W (S : Hid (St w a L W)) => S.out.call (fixed_any a W S.out.g))
    have hlen : (zs.length : Int) ≤ 9223372036854775807 := by unfold maxLen at hl; omega
    clear hr hz hl hg
    generalize zs.length = n at *
    have e0 : (n = 0) ∨ (((n : Int) == 0) = false ∧ decide ((50 : Int) < (n : Int)) = true) := by
      rcases h with h | h
      · exact .inl h
      · right; constructor <;> simp <;> omega
    clear h
    rcases e0 with rfl | ⟨d0, d1⟩
    all_goals
      go_enter Tryd.func4, Tryd.ntmps4
      go_wp2_with fail
      refine (KN.out _ _ S0).mono ?_
      rintro e w1 ⟨rfl, S⟩
      have S := Lib.hid S
      go_wp2_with fail
      go_ret
      exact ⟨rfl, S.out.b⟩
  · obtain ⟨m, hm⟩ : ∃ m, zs.length = m + 1 := ⟨zs.length - 1, by omega⟩
    have := chains_main A c zs m hm (by omega) o w hr a hg
    rw [← hm] at this
    exact this
end Go.Proofs.YtielbmhaidjioaaDoor
