/-
  The document's List.
-/
import Derived.Test.YticlncdkcfdimaaTxqRList
namespace Go.Proofs.Yticlncdkcfdimaa
namespace Txq
open Go.RowKit Mem Frm
set_option linter.unusedVariables false
set_option linter.unusedSimpArgs false
set_option maxRecDepth 100000

/-- While List runs: outs are out, ls are left. -/
structure RL (W : World) (fs : List Fv) (vo : Value) (outs : List Fv) (A : Option Addr) (c : Nat) (ls : List Fv) (wr : World) : Prop where
  b : Below W.heap.size W wr
  own : wr.ownsRow W.heap.size 34 3 vo outs.length (flatF outs)
  rd : RdG (fun g => g < wr.heap.size ∧ vo.ownBlock ≠ some g) wr A ls
  at0 : (A = none ∧ c = 0) ∨ ∃ g, A = some ⟨g, 0, none⟩
  cap : ls.length ≤ c
  capm : c ≤ maxLen
  len : outs.length + ls.length = fs.length
  n64 : fs.length ≤ 64
  srt : outs.map Fv.fr ++ Txq.srt key (ls.map Fv.fr) = Txq.srt key (fs.map Fv.fr)
  o : ∀ f ∈ outs, f ∈ fs
  l : ∀ f ∈ ls, f ∈ fs
  data : ∀ f ∈ fs, RdB (fun g => g < W.heap.size) W f.A f.d
section
variable {W wr w1 w3 w4 : World} {fs outs ls : List Fv} {vo : Value} {A : Option Addr} {c : Nat}
theorem RL.rdf (h : RL W fs vo outs A c ls wr) (b : Below wr.heap.size wr w1) : RdF w1 w1.heap.size A ls :=
  (h.rd.keep fun g hg => b.block g hg.1).rd fun g hg => Nat.lt_of_lt_of_le hg.1 b.size
/-- Behind the append: what is left still reads. -/
theorem RL.mid (h : RL W fs vo outs A c ls wr) (b1 : Below wr.heap.size wr w1) {ob : Obj} (g3 : (w1.alloc ob).grownBy w3 vo.ownBlock) : RdG (fun g => g < wr.heap.size) w3 A ls ∧ Below W.heap.size W w3 := by
  refine ⟨(h.rd.keep fun g hg => ?_).mono fun g hg => hg.1, ?_⟩
  · exact ((g3.block g (by have := hg.1; have := b1.size; simp; omega) (fun e => hg.2 e.symm)).trans (Below.heap_alloc w1 ob g (Nat.lt_of_lt_of_le hg.1 b1.size))).trans (b1.block g hg.1)
  · have hb := h.b.trans (b1.mono h.b.size)
    exact (hb.alloc hb.size ob).grown g3 (by have := hb.size; simp; omega) (fun k hk => (h.own.lt k hk).1)
theorem RL.step (h : RL W fs vo outs A c ls wr) {k : Nat} (hF : First key (ls.map Fv.fr) ls.length k) (b1 : Below wr.heap.size wr w1) {ob : Obj} {vo' : Value} {F : Fv} (hFk : ls.getD k Fv.zero = F)
    (o3 : w3.ownsRow W.heap.size 34 3 vo' (outs.length + 1) (flatF outs ++ [.int .i64 F.id, .bool F.r, .slice F.A F.d.length F.c])) (g3 : (w1.alloc ob).grownBy w3 vo.ownBlock) (t3 : vo'.ownBlock = vo.ownBlock ∨ vo'.ownBlock = some (w1.alloc ob).heap.size)
    {v4 : Value} (o4 : w4.ownsRow w3.heap.size 34 3 v4 (ls.take k ++ ls.drop (k + 1)).length (flatF (ls.take k ++ ls.drop (k + 1)))) (b4 : Below w3.heap.size w3 w4) :
    ∃ A' c', v4 = .slice A' (ls.take k ++ ls.drop (k + 1)).length c' ∧ RL W fs vo' (outs ++ [F]) A' c' (ls.take k ++ ls.drop (k + 1)) w4 := by
  have hk : k < ls.length := hF.1
  obtain ⟨_, hb3⟩ := h.mid b1 g3
  have hb4 := hb3.trans (b4.mono hb3.size)
  have hin : ∀ f ∈ ls.take k ++ ls.drop (k + 1), f ∈ ls := fun f hf => (List.mem_append.1 hf).elim List.mem_of_mem_take List.mem_of_mem_drop
  have hl3 : ∀ g, vo'.ownBlock = some g → W.heap.size ≤ g ∧ g < w3.heap.size := fun g hg => o3.lt g hg
  obtain ⟨A', c', hv, h1, h2, h3, h4⟩ := rdG_of (G := fun g => g < w4.heap.size ∧ vo'.ownBlock ≠ some g) o4 (fun j hj => by
    have hm := h.l _ (hin _ (getD_mem hj))
    refine ((h.data _ hm).keep fun g hg => hb4.block g hg).mono fun g hg => ⟨Nat.lt_of_lt_of_le hg hb4.size, fun e => ?_⟩
    have := (hl3 g e).1
    omega) (fun g hg hg2 => ⟨hg2, fun e => by have := (hl3 g e).2; omega⟩)
  refine ⟨A', c', hv, hb4, ?_, h4, h3, h1, h2, ?_, h.n64, ?_, fun f hf => ?_, fun f hf => h.l f (hin f hf), h.data⟩
  · rw [flatF_snoc, List.length_append]
    exact row_below o3 b4
  · have := h.len
    simp
    omega
  · obtain ⟨m, hm, hs⟩ := srt_first key (l := ls.map Fv.fr) (k := k) (by simpa using hF)
    have hmF : m = F.fr := by
      rw [List.getElem?_eq_getElem (by simpa using hk), fr_get hk, hFk] at hm
      exact (Option.some.inj hm).symm
    rw [← h.srt, hs, hmF]
    simp
  · rcases List.mem_append.1 hf with hf | hf
    · exact h.o f hf
    · simp only [List.mem_singleton] at hf
      subst hf
      rw [← hFk]
      exact h.l _ (getD_mem hk)
end
def lenOf (v : Value) : Nat := match v with | .slice _ n _ => n | _ => 0
/-- What List ends with. -/
def RListEnds (W : World) (l : List Fr) (e : Ending) (w' : World) : Prop :=
  ∃ A c fs, e = .returned (.slice A fs.length c) ∧ fs.map Fv.fr = l ∧ RdF w' w'.heap.size A fs ∧ Below W.heap.size W w'
section
variable {W : World} {r : Nat} {K : Nat → Prop} {v : Value} {fs : List Fv} {room lost : Nat} {sp : Bool}
set_option maxHeartbeats 4000000 in
theorem rlist_is (hq : IsR W r K v fs room lost sp) :
    Calls Try.prog 25 #[at_ r] W (RListEnds W (srt key (fs.map Fv.fr))) := by
  obtain ⟨i0, hi, hz0, hz1, hz2⟩ := info_parts info_frm'
  have n64 : fs.length ≤ 64 := by have := hq.len; have := hq.r64; omega
  have hd : ∀ f ∈ fs, RdB (fun g => g < W.heap.size) W f.A f.d := fun f hf => (hq.data f hf).mono fun g hg => hg.1
  obtain ⟨A0, c0, rfl, hcap, hcm, hat, hrd⟩ := hq.rdf
  have S0 := Lib.hid (show RL W fs (.slice none 0 0) [] A0 c0 fs W from ⟨Below.refl _ _, World.ownsRow_nil _ _ _ _, (show RdG (fun g => g < W.heap.size) W A0 fs from hrd).mono fun g hg => ⟨hg, by simp [Value.ownBlock]⟩, hat, hcap, hcm, by simp, n64, by simp, fun f hf => by simp at hf, fun f hf => hf, hd⟩)
  have c1 := hq.c1
  clear hq hrd hat hd hcap hcm
  go_enter Try.func25, Try.ntmps25
  go_wp2_with fail
  go_loopw [3, 4] (fun ov lv wr => ∃ (outs ls : List Fv) (A : Option Addr) (c : Nat), lv = .slice A ls.length c ∧ ls.length ≤ 64 ∧ outs.length ≤ 64 ∧ outs.length + ls.length ≤ 64 ∧ Hid (RL W fs ov outs A c ls wr)) (fun ov lv _ => lenOf lv)
  case atStart => exact ⟨[], fs, A0, c0, rfl, n64, by simp, by simpa using n64, S0⟩
  case round =>
    obtain ⟨outs, ls, A, c, rfl, hls, hou, hsum, hR⟩ := hrel
    clear S0 c1
    obtain ⟨Ao, co, hvo⟩ := row_form hR.out.own rfl
    subst hvo
    by_cases h0 : 0 < ls.length
    · have l1 : (0 : Int) < (ls.length : Int) := by omega
      obtain ⟨g, rfl⟩ : ∃ g, A = some ⟨g, 0, none⟩ := by
        rcases hR.out.at0 with ⟨h, h'⟩ | h
        · have := hR.out.cap; omega
        · exact h
      have FI := Lib.hid (rfirst_any (some ⟨g, 0, none⟩) c ls wr (hR.out.rdf (Below.refl _ _)) hls h0)
      go_wp2_with fail
      refine FI.out.mono ?_
      rintro e w1 ⟨k, rfl, hF, b1⟩
      have hk : k < ls.length := hF.1
      have HF := Lib.hid hF
      have B1 := Lib.hid b1
      obtain ⟨g', off, hA, hg, q0, q1, q2, _⟩ := (hR.out.rdf b1).three hk rfl
      injection hA with hA
      injection hA with hA hA2
      subst hA
      subst hA2
      simp only [Nat.zero_add] at q0 q1 q2
      have i0' : (0 : Int) ≤ (k : Int) := by omega
      have i1 : (k : Int) < (ls.length : Int) := by omega
      have HFk := Lib.hid (rfl : ls.getD k Fv.zero = ls.getD k Fv.zero)
      have STEP := Lib.hid (fun ob vo' w3 v4 w4 F hFk o3 g3 t3 o4 b4 => hR.out.step hF b1 (ob := ob) (vo' := vo') (w3 := w3) (v4 := v4) (w4 := w4) (F := F) hFk o3 g3 t3 o4 b4)
      generalize hFk : ls.getD k Fv.zero = F at *
      have O1 := Lib.hid ((row_below hR.out.own b1).alloc (.cells #[.int .i64 F.id, .bool F.r, .slice F.A F.d.length F.c] 34))
      have N1 := Lib.hid (new3_cells w1 (.int .i64 F.id) (.bool F.r) (.slice F.A F.d.length F.c) 34)
      have X1 := Lib.hid (one3 F.id F.r F.A F.d.length F.c)
      have LB := Lib.hid (show W.heap.size ≤ (w1.alloc (.cells #[.int .i64 F.id, .bool F.r, .slice F.A F.d.length F.c] 34)).heap.size by have := hR.out.b.size; have := b1.size; simp; omega)
      have WI := Lib.hid (fun W' hrd => rwithout_any g c ls k hk W' hrd hls hR.out.cap hR.out.capm)
      clear b1 hF FI
      go_wp2_with (at_builtin; refine wpList_appX _ rfl (.tmp 15) (.tmp 20) 44 rfl W.heap.size 34 i0 (.agg #[.int .i64 0, .bool false, .slice none 0 0]) 3 40 Try.underlying44 hi hz0 hz1 hz2 rfl (by decide) (.slice Ao outs.length co) outs.length (flatF outs) rfl O1.out (some ⟨w1.heap.size, 0, none⟩) 1 1 [.int .i64 F.id, .bool F.r, .slice F.A F.d.length F.c] rfl rfl (.inr ⟨_, rfl, N1.out⟩) X1.out (by unfold maxLen; omega) (by omega) LB.out ?_; intro v3 w3 o3 g3 t3; have M3 := Lib.hid (hR.out.mid B1.out g3); have G3 := Lib.hid (And.intro o3 (And.intro g3 t3)); clear o3 g3 t3)
      have R3 := (M3.out.1.rd (B := w3.heap.size) fun q hq => by have h1 := G3.out.2.1.size; have h2 := B1.out.size; simp at h1; omega)
      refine (WI.out _ R3).mono ?_
      rintro e w4 ⟨v4, rfl, o4, b4⟩
      obtain ⟨A4, c4, hv4, R4⟩ := STEP.out _ _ _ _ _ F rfl G3.out.1 G3.out.2.1 G3.out.2.2 o4 b4
      subst hv4
      have HR4 := Lib.hid R4
      have wl : (ls.take k ++ ls.drop (k + 1)).length + 1 = ls.length := without_length hk
      have ol : (outs ++ [F]).length = outs.length + 1 := by simp
      clear o4 b4 R4 R3 M3 G3 STEP q0 q1 q2 O1 N1 X1 WI
      generalize ls.take k ++ ls.drop (k + 1) = ls' at *
      go_wp2_with fail
      go_roundw
      case rel => exact ⟨_, ls', A4, c4, rfl, by omega, by omega, by omega, HR4⟩
      case measure => show ls'.length < ls.length; omega
    · obtain rfl : ls = [] := List.eq_nil_of_length_eq_zero (by omega)
      have R := hR.out
      obtain ⟨A', c', hv, _, _, _, h4⟩ := rdG_of (G := fun g => g < wr.heap.size) R.own (fun j hj => ((R.data _ (R.o _ (getD_mem hj))).keep fun g hg => R.b.block g hg).mono fun g hg => Nat.lt_of_lt_of_le hg R.b.size) (fun g _ hg => hg)
      injection hv with e1 e2 e3
      subst e1
      subst e3
      have HS := Lib.hid R.srt
      have H4 := Lib.hid (show RdF wr wr.heap.size Ao outs from h4)
      have HB := Lib.hid R.b
      clear R h4 hR
      go_wp2_with fail
      go_ret
      exact ⟨_, _, outs, rfl, by have := HS.out; simpa [Txq.srt] using this, H4.out, HB.out⟩
end
end Txq
end Go.Proofs.Yticlncdkcfdimaa
