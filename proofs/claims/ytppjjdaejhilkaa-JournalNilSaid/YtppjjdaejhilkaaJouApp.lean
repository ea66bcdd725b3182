/-
  An Append as a value, in the words of what ready answers. No program is named here.
  A new flash, and the first Append. No program is named here.
-/
import Derived.Test.YtppjjdaejhilkaaJouReady
namespace Go.Proofs.Ytppjjdaejhilkaa
namespace Jou
open Go.RowKit Mem Fla Rec Sec
set_option linter.unusedVariables false
set_option linter.unusedSimpArgs false
set_option maxRecDepth 100000

theorem prog_ops {x : List UInt8} : ∀ {s : Fl} {k : Nat}, (s.prog k x).1.ops ≤ s.ops + x.length := by
  induction x with
  | nil => intro s k; simp [Fl.prog]
  | cons b r ih =>
    intro s k
    unfold Fl.prog
    by_cases hc : s.cuts = true
    · rw [if_pos hc]
      have : (s.put1 k b).ops = s.ops := by unfold Fl.put1; rw [if_pos hc]; rfl
      simp only [this, List.length_cons]
      omega
    · rw [if_neg hc]
      have h1 := put1_ops (s := s) k b (by simpa using hc)
      have := @ih (s.put1 k b) (k + 1)
      simp only [List.length_cons]
      omega
theorem prog_most {x : List UInt8} : ∀ {s : Fl} {k : Nat}, (s.prog k x).1.most = s.most ∧ (s.prog k x).1.bs.length = s.bs.length := by
  induction x with
  | nil => intro s k; simp [Fl.prog]
  | cons b r ih =>
    intro s k
    unfold Fl.prog
    have h1 : (s.put1 k b).most = s.most := by unfold Fl.put1; split <;> rfl
    by_cases hc : s.cuts = true
    · rw [if_pos hc]
      exact ⟨h1, put1_len k b⟩
    · rw [if_neg hc]
      have := @ih (s.put1 k b) (k + 1)
      exact ⟨this.1.trans h1, this.2.trans (put1_len k b)⟩
theorem erase_ops (s : Fl) (n : Int) : (s.erase n).ops ≤ s.ops + 1 := by
  unfold Fl.erase
  split
  · omega
  · split
    · omega
    · split
      · omega
      · split
        · show s.ops ≤ _; omega
        · show s.ops + 1 ≤ _; omega
theorem erase_on {s : Fl} {n : Int} (h : s.eraseC n = 0) : (s.erase n).on = true := by
  unfold Fl.eraseC at h
  unfold Fl.erase
  cases ho : s.on with
  | false => rw [ho] at h; simp at h
  | true =>
    rw [ho] at h
    simp only [Bool.not_true, Bool.false_eq_true, if_false] at h ⊢
    split
    · exact ho
    · split
      · exact ho
      · split
        · rename_i h1 h2 h3
          rw [if_neg h1, if_neg h2, if_pos h3] at h
          cases h
        · exact ho
theorem erase_len {s : Fl} {n : Nat} (ok : s.Ok) : (s.erase n).bs.length = s.bs.length := by
  unfold Fl.erase
  split
  · rfl
  · split
    · rfl
    · split
      · rfl
      · rename_i h1 h2 h3
        have hh : s.has (n : Int) = true := by simpa using h2
        have := ok.has_lt hh
        split
        · show (ones _ _ _).length = _
          rw [ones_length (by omega)]
        · show (ones _ _ _).length = _
          rw [ones_length (by omega)]
section
variable {s : Fl} {k : Int} {d : List UInt8}
theorem app_off (h : s.on = false) : app s k d = (s, 7) := by unfold app; rw [h]; rfl
theorem app_pre (h : s.on = true) (hp : pre (tell s.bs) k d.length ≠ 0) : app s k d = (s, pre (tell s.bs) k d.length) := by
  unfold app
  unfold pre at *
  rw [h]
  simp only [Bool.not_true, Bool.false_eq_true, if_false]
  by_cases hm : (tell s.bs).n = 4294967295
  · rw [if_pos hm, if_pos hm]
  · rw [if_neg hm] at hp ⊢
    rw [if_pos hp, if_neg hm]
theorem pre_ok (hp : pre (tell s.bs) k d.length = 0) : (tell s.bs).n ≠ 4294967295 ∧ err k ((tell s.bs).n + 1) d.length = 0 ∧ d.length ≤ 960 := by
  unfold pre at hp
  by_cases hm : (tell s.bs).n = 4294967295
  · rw [if_pos hm] at hp; cases hp
  · rw [if_neg hm] at hp
    exact ⟨hm, hp, (err_ok hp).2.2⟩
theorem app_in (h : s.on = true) (hp : pre (tell s.bs) k d.length = 0) : app s k d = match place s d.length with
    | none => (s, 10)
    | some p => lay s p (build k ((tell s.bs).n + 1) d) := by
  obtain ⟨h1, h2, h3⟩ := pre_ok hp
  unfold app
  rw [h]
  simp only [Bool.not_true, Bool.false_eq_true, if_false]
  rw [if_neg h1, if_neg (fun q => q h2)]
  cases place s d.length <;> rfl
theorem app_ready (h : s.on = true) (hp : pre (tell s.bs) k d.length = 0) (hr : (rdy s d.length).2.2.1 ≠ 0) : app s k d = ((rdy s d.length).2.2.2, (rdy s d.length).2.2.1) := by
  rw [app_in h hp]
  unfold rdy at *
  cases e : place s d.length with
  | none => rfl
  | some x =>
    rw [e] at hr
    simp only at hr ⊢
    unfold lay
    by_cases he : x.er = true
    · rw [if_pos he] at hr ⊢
      rw [if_pos he, if_pos hr]
    · rw [if_neg he] at hr
      exact absurd rfl hr
theorem rdy_bad (h : s.on = true) {n : Nat} (h0 : (rdy s n).2.2.1 ≠ 0) (h7 : (rdy s n).2.2.1 ≠ 7) : (rdy s n).2.2.2 = s := by
  unfold rdy at *
  cases e : place s n with
  | none => rfl
  | some x =>
    rw [e] at h0 h7
    simp only at h0 h7 ⊢
    by_cases he : x.er = true
    · exfalso
      rw [if_pos he] at h0 h7
      simp only at h0 h7
      have hp := place_spec e
      have hl : s.left (x.t : Int) ≠ 0 := by
        rcases hp.way with ⟨_, _, w3, _⟩ | ⟨_, _, _, w4, _⟩
        · rw [w3] at he; cases he
        · have := w4 he
          omega
      have hh : s.has (x.t : Int) = true := by
        have := hp.lt
        unfold nsec at this
        unfold Fl.has
        simp
        omega
      unfold Fl.eraseC at h0 h7
      rw [if_neg (by simp [h]), if_neg (by simp [hh]), if_neg hl] at h0 h7
      by_cases hc : s.cuts = true
      · rw [if_pos hc] at h7; exact h7 rfl
      · rw [if_neg hc] at h0; exact h0 rfl
    · rw [if_neg he]
theorem plc_fit {n : Nat} {x : Pl} (h : Plc s n x) (hn : n ≤ 960) : x.e + (13 + n) ≤ 1024 := by
  rcases h.way with ⟨_, h2, _, _, h5⟩ | ⟨_, h2, _⟩
  · omega
  · omega
theorem app_go (ok : s.Ok) (h : s.on = true) (hp : pre (tell s.bs) k d.length = 0) (hr : (rdy s d.length).2.2.1 = 0) :
    ∃ x : Pl, Plc s d.length x ∧ (rdy s d.length).1 = x.t ∧ (rdy s d.length).2.2.2.on = true ∧ (rdy s d.length).2.2.2.bs.length = s.bs.length ∧ (rdy s d.length).2.2.2.ops ≤ s.ops + 1 ∧
      app s k d = (rdy s d.length).2.2.2.program ((((rdy s d.length).1 : Nat) : Int) * 1024 + (((rdy s d.length).2.1 : Nat) : Int)) (build k ((tell s.bs).n + 1) d) ∧ Step s (app s k d).1 (app s k d).2 x k d ∧ (rdy s d.length).2.1 ≤ 1024 := by
  obtain ⟨h1, h2, h3⟩ := pre_ok hp
  have happ := app_in h hp
  have hst : ∀ x, place s d.length = some x → Step s (app s k d).1 (app s k d).2 x k d := fun x hx => by
    rw [happ, hx]
    exact lay_step (place_spec hx) h ok.a0 h1 h2
  unfold rdy at *
  cases e : place s d.length with
  | none => rw [e] at hr; cases hr
  | some x =>
    have hplc := place_spec e
    have hfit := plc_fit hplc h3
    have hlt := hplc.lt
    have hlen : (build k ((tell s.bs).n + 1) d).length = 13 + d.length := by rw [build_length]; omega
    have hst := hst x e
    rw [e] at hr happ
    simp only at hr happ ⊢
    have key : ∀ s1 : Fl, s1.on = true → s1.bs.length = s.bs.length → s1.program ((x.t : Int) * 1024 + (x.e : Int)) (build k ((tell s.bs).n + 1) d) = s1.prog (x.t * 1024 + x.e) (build k ((tell s.bs).n + 1) d) := by
      intro s1 o1 l1
      unfold Fl.program
      have hin : s1.inside ((x.t : Int) * 1024 + (x.e : Int)) ((build k ((tell s.bs).n + 1) d).length : Int) = true := by
        unfold Fl.inside
        rw [hlen, l1]
        unfold nsec at hlt
        simp
        omega
      have : s1.reachC ((x.t : Int) * 1024 + (x.e : Int)) ((build k ((tell s.bs).n + 1) d).length : Int) = 0 := by
        rw [reach_on _ _ o1, hin]
        rfl
      rw [if_pos this]
      congr 1
    by_cases he : x.er = true
    · rw [if_pos he] at hr ⊢
      have h0 : x.e = 0 := by
        rcases hplc.way with ⟨_, _, w3, _⟩ | ⟨_, w2, _⟩
        · rw [w3] at he; cases he
        · exact w2
      simp only at hr ⊢
      have o1 := erase_on hr
      have l1 : (s.erase (x.t : Int)).bs.length = s.bs.length := erase_len ok
      refine ⟨x, hplc, rfl, o1, l1, erase_ops _ _, ?_, hst, by omega⟩
      rw [happ]
      unfold lay
      rw [if_pos he, if_neg (fun q => q hr)]
      have := key _ o1 l1
      rw [h0] at this
      rw [h0]
      exact this.symm
    · rw [if_neg he] at hr ⊢
      refine ⟨x, hplc, rfl, h, rfl, by show s.ops ≤ _; omega, ?_, hst, by show x.e ≤ _; omega⟩
      rw [happ]
      unfold lay
      rw [if_neg he]
      exact (key _ h rfl).symm
theorem app_ops (ok : s.Ok) : (app s k d).1.ops ≤ s.ops + 1000 := by
  cases h : s.on with
  | false => rw [app_off h]; show s.ops ≤ _; omega
  | true =>
    by_cases hp : pre (tell s.bs) k d.length = 0
    · have h3 := (pre_ok hp).2.2
      by_cases hr : (rdy s d.length).2.2.1 = 0
      · obtain ⟨x, h1, h2, h3', h4, h5, h6, h7, h8⟩ := app_go ok h hp hr
        rw [h6]
        unfold Fl.program
        split
        · have := prog_ops (s := (rdy s d.length).2.2.2) (k := ((((rdy s d.length).1 : Nat) : Int) * 1024 + (((rdy s d.length).2.1 : Nat) : Int)).toNat) (x := build k ((tell s.bs).n + 1) d)
          rw [build_length] at this
          omega
        · show (rdy s d.length).2.2.2.ops ≤ _
          omega
      · rw [app_ready h hp hr]
        unfold rdy
        split
        · show s.ops ≤ _; omega
        · split
          · have := erase_ops s ((‹Pl›.t : Nat) : Int)
            show (s.erase _).ops ≤ _
            omega
          · show s.ops ≤ _; omega
    · rw [app_pre h hp]; show s.ops ≤ _; omega
end
end Jou
end Go.Proofs.Ytppjjdaejhilkaa

namespace Go.Proofs.Ytppjjdaejhilkaa
namespace Jou
open Go.RowKit Mem Fla Rec Sec
set_option linter.unusedVariables false
set_option linter.unusedSimpArgs false
set_option maxRecDepth 100000

def blankN (n : Nat) : List UInt8 := List.replicate (n * 1024) 255
theorem blankN_len (n : Nat) : (blankN n).length = n * 1024 := List.length_replicate
theorem nsec_blank (n : Nat) : nsec (blankN n) = n := by unfold nsec; rw [blankN_len]; omega
theorem lk_blank (n i : Nat) : lk (blankN n) i = Lk.zero := by
  unfold lk
  refine look_ones ?_
  by_cases h : (secOf (blankN n) i) = []
  · exact .inr h
  · left
    have hl : 0 < (secOf (blankN n) i).length := List.length_pos_iff.2 h
    have hm : (secOf (blankN n) i)[0] ∈ blankN n := by
      have : (secOf (blankN n) i)[0] ∈ secOf (blankN n) i := List.getElem_mem hl
      exact List.mem_of_mem_drop (List.mem_of_mem_take this)
    have he : (secOf (blankN n) i)[0] = 255 := List.eq_of_mem_replicate hm
    unfold byt
    simp [hl, he]
theorem clean_blankN (n i : Nat) : clean (secOf (blankN n) i) = true := by
  unfold clean
  simp only [decide_eq_true_eq]
  intro y hy
  exact List.eq_of_mem_replicate (List.mem_of_mem_drop (List.mem_of_mem_take (List.mem_of_mem_drop hy)))
theorem unused_blank (n i : Nat) : unused (blankN n) i = true := by
  unfold unused
  rw [lk_blank, clean_blankN]
  rfl
theorem newest_blank (n : Nat) : newest (blankN n) = none := by
  refine newest_eq ?_
  intro i _
  rw [lk_blank]
  rfl
theorem tell_blank (n : Nat) : tell (blankN n) = Lk.zero := by unfold tell; rw [newest_blank]
theorem new_ok (n : Nat) (m : Int) (h0 : 1 ≤ n) (h1 : n ≤ 8) (m0 : 0 ≤ m) (m1 : m ≤ 9223372036854775807) : (Fl.new (blankN n) m).Ok :=
  Fl.Ok.new (by rw [blankN_len]; omega) (by rw [blankN_len]; omega) (by rw [blankN_len]; omega) m0 m1
/-- Where the first record goes. -/
theorem first_nxt (can : Nat → Bool) (w : Nat → Int) (hc : can 0 = true) (hw : ∀ i, ¬ w i < w 0) : ∀ n, 1 ≤ n → nxtF can w n = some 0 := by
  intro n
  induction n with
  | zero => intro h; omega
  | succ k ih =>
    intro _
    unfold nxtF
    rcases Nat.eq_zero_or_pos k with rfl | hk
    · simp [nxtF, hc]
    · rw [ih hk]
      simp [hw k]
theorem first_place (n : Nat) (m : Int) (hn : 1 ≤ n) (l : Nat) : place (Fl.new (blankN n) m) l = some ⟨0, 0, false⟩ := by
  unfold place
  have e : newest (Fl.new (blankN n) m).bs = none := newest_blank n
  rw [e]
  unfold begin_
  have e2 : nsec (Fl.new (blankN n) m).bs = n := nsec_blank n
  have hw : ∀ i, (Fl.new (blankN n) m).wearAt i = 0 := by
    intro i
    unfold Fl.wearAt Fl.new
    simp only [List.getD_eq_getElem?_getD]
    by_cases hi : i < 8
    · rw [List.getElem?_replicate, if_pos hi]; rfl
    · rw [List.getElem?_replicate, if_neg hi]; rfl
  rw [e2, first_nxt (can (Fl.new (blankN n) m)) _ ?_ ?_ n hn]
  · have : unused (Fl.new (blankN n) m).bs 0 = true := unused_blank n 0
    simp only [this]
    rfl
  · unfold can
    rw [e]
    have : unused (Fl.new (blankN n) m).bs 0 = true := unused_blank n 0
    rw [this]
    rfl
  · intro i
    rw [hw, hw]
    omega
def one (n : Nat) (m : Int) (d : List UInt8) : Fl := (app (Fl.new (blankN n) m) 1 d).1
/-- The first Append of a snapshot. -/
theorem app_first (n : Nat) (m : Int) (d : List UInt8) (hn : 1 ≤ n) (h8 : n ≤ 8) (m0 : 0 ≤ m) (m1 : m ≤ 9223372036854775807) (hd : d.length ≤ 960) : (app (Fl.new (blankN n) m) 1 d).2 = 0 ∧ newest (one n m d).bs = some 0 ∧ (tell (one n m d).bs).k = 1 ∧ (tell (one n m d).bs).n = 1 ∧ (tell (one n m d).bs).d = d ∧
    (one n m d).on = true ∧ (one n m d).bs = splice (blankN n) 0 (build 1 1 d) := by
  have ok := new_ok n m hn h8 m0 m1
  have hon : (Fl.new (blankN n) m).on = true := rfl
  have ht : tell (Fl.new (blankN n) m).bs = Lk.zero := tell_blank n
  have hp : pre (tell (Fl.new (blankN n) m).bs) 1 d.length = 0 := by
    rw [ht]
    unfold pre err Lk.zero
    simp
    omega
  obtain ⟨h1, h2, h3⟩ := pre_ok hp
  have ha := app_in hon hp
  rw [first_place n m hn] at ha
  have hst : Step (Fl.new (blankN n) m) (app (Fl.new (blankN n) m) 1 d).1 (app (Fl.new (blankN n) m) 1 d).2 ⟨0, 0, false⟩ 1 d := by
    rw [ha]
    exact lay_step (place_spec (first_place n m hn _)) hon ok.a0 h1 h2
  have hc : (app (Fl.new (blankN n) m) 1 d).2 = 0 := by
    rcases hst.out with ⟨o, _⟩ | ⟨_, o, _⟩
    · exact o
    · cases o
  have hT := hst.tells (place_spec (first_place n m hn _))
  have hon1 : (one n m d).on = true := by
    rcases hst.out with ⟨_, o, _⟩ | ⟨_, o, _⟩
    · exact o
    · cases o
  refine ⟨hc, hT.2.1 hc, ?_⟩
  rcases hT.2.2 with ⟨t1, t2, t3, _⟩ | ⟨t1, _⟩
  · refine ⟨t1, ?_, t3, hon1, ?_⟩
    · have : (tell (one n m d).bs).n = (tell (Fl.new (blankN n) m).bs).n + 1 := t2
      rw [this, ht]
      rfl
    · unfold one
      rw [ha, ht]
      show (lay (Fl.new (blankN n) m) ⟨0, 0, false⟩ (build 1 (Lk.zero.n + 1) d)).1.bs = _
      unfold lay
      rw [if_neg (by decide), prog_plain _ _ _ rfl]
      show zipA (blankN n) (0 * 1024 + 0) (build 1 (Lk.zero.n + 1) d) = _
      refine zipA_ones (build 1 1 d) (blankN n) 0 ?_ ?_
      · rw [build_length, blankN_len]; omega
      · intro i _ hi
        rw [build_length] at hi
        have hi' : i < n * 1024 := by omega
        unfold blankN
        simp [hi']
  · rw [hc] at t1; cases t1
theorem read2 {s : Fl} {d : List UInt8} {n : Nat} (hon : s.on = true) (hb : s.bs = splice (blankN n) 0 (build 1 1 d)) (hn : 1 ≤ n) (hd : d.length ≤ 960) : s.read 0 2 = ([87, 1], 0) := by
  have hl : s.bs.length = n * 1024 := by rw [hb, splice_len (by rw [build_length, blankN_len]; omega), blankN_len]
  unfold Fl.read
  have hin : s.inside 0 2 = true := by unfold Fl.inside; simp; omega
  have : s.reachC 0 2 = 0 := by rw [reach_on _ _ hon, hin]; rfl
  rw [if_pos this, hb]
  have e : ((splice (blankN n) 0 (build 1 1 d)).drop (0 : Int).toNat).take (2 : Int).toNat = [87, 1] := by
    show ((splice (blankN n) 0 (build 1 1 d)).drop 0).take 2 = _
    unfold splice build Sum.seal_ head
    simp [Oct.bytes]
  rw [e]
theorem app_bad (s : Fl) (h : s.on = true) (hn : (tell s.bs).n ≠ 4294967295) : app s 3 [] = (s, 1) := by
  have hp : pre (tell s.bs) 3 ([] : List UInt8).length = 1 := by
    unfold pre err
    rw [if_neg hn, if_neg (by omega)]
  rw [app_pre h (by rw [hp]; decide), hp]
end Jou
end Go.Proofs.Ytppjjdaejhilkaa
