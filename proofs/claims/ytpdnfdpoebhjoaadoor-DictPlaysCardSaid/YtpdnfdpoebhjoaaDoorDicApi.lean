/-
  A dictionary as a value: Len, Find, Get, Peek, May, Set, Poke.
-/
import Derived.Test.YtpdnfdpoebhjoaaDoorDicLook
namespace Go.Proofs.YtpdnfdpoebhjoaaDoor
namespace Dic
open Go.RowKit Mem Ent
set_option linter.unusedVariables false
set_option linter.unusedSimpArgs false
set_option maxRecDepth 100000

/-- A dictionary stands in block p, with the row v: its entries and values as a value. -/
def HasD (W : World) (p : Nat) (v : Value) (N : Nat → Prop) (s : Ds) : Prop := ∃ rs, IsD W p v N rs ∧ evs rs = s.l ∧ rs.map (·.v) = s.v
section
variable {W W' : World} {p : Nat} {v : Value} {N N' : Nat → Prop} {s : Ds}
theorem HasD.lt (h : HasD W p v N s) : p < W.heap.size := by
  obtain ⟨rs, h, _⟩ := h
  exact h.lt
theorem HasD.vlt (h : HasD W p v N s) {g : Nat} (hg : v.ownBlock = some g) : g < W.heap.size := by
  obtain ⟨rs, h, _⟩ := h
  exact h.vlt hg
theorem HasD.keep (h : HasD W p v N s) (hs : W.heap.size ≤ W'.heap.size) (hk : ∀ g, g < W.heap.size → ¬ N g → W'.heap[g]? = W.heap[g]?) (hN : ∀ g, g < W.heap.size → N' g → N g) : HasD W' p v N' s := by
  obtain ⟨rs, h, e⟩ := h
  exact ⟨rs, h.keep hs hk hN, e⟩
theorem HasD.below (h : HasD W p v N s) (b : Below W.heap.size W W') : HasD W' p v N s := h.keep b.size (fun g hg _ => b.block g hg) (fun _ _ k => k)
theorem HasD.np (h : HasD W p v N s) : ¬ N p ∧ v.ownBlock ≠ some p ∧ ∀ g, v.ownBlock = some g → ¬ N g := by
  obtain ⟨rs, h, _⟩ := h
  exact ⟨h.np, h.ne, h.nk⟩
theorem vat_map (rs : List Rv) (k : Nat) : vat (rs.map (·.v)) k = (rs.getD k Rv.zero).v := by
  unfold vat
  rw [List.getD_eq_getElem?_getD, List.getElem?_map, List.getD_eq_getElem?_getD]
  cases rs[k]? <;> rfl

theorem len_any (h : HasD W p v N s) : Calls Tryd.prog 17 #[ptr p] W fun e w' => e = .returned (.int .i64 (s.l.length : Int)) ∧ W = w' := by
  obtain ⟨rs, h, e1, e2⟩ := h
  have HN := none_any h
  have c0 := h.c0
  obtain ⟨A, c, rfl, _⟩ := h.form
  rw [← e1, List.length_map]
  clear h e1 e2
  go_enter Tryd.func17, Tryd.ntmps17
  go_wp2_with fail
  refine HN.mono ?_
  rintro e w' ⟨rfl, rfl⟩
  go_wp2_with fail
  go_ret
  exact ⟨rfl, rfl⟩

theorem finds_any (h : HasD W p v N s) (hi : Inv s) (ix sub : Int) :
    Calls Tryd.prog 39 #[ptr p, .int .i64 ix, .int .i64 sub] W fun e w' => e = .returned (.tuple #[.int .i64 (findA s.l ix sub).1, .bool (findA s.l ix sub).2]) ∧ Below W.heap.size W w' := by
  obtain ⟨rs, h, e1, e2⟩ := h
  have hf := hi.fine
  rw [← e1] at hf ⊢
  exact find_any h (by simpa using hf) ix sub
theorem fine_of {rs : List Rv} (hi : Inv s) (e : evs rs = s.l) : Fine (evs rs) rs.length := by
  have hf := hi.fine
  rw [← e] at hf
  simpa using hf
theorem fnd_of {l : List Ev} {ix sub : Int} (h : ¬ fnd l ix sub < 0) : ∃ k : Nat, k < l.length ∧ fnd l ix sub = (k : Int) ∧ (at_ l k).ix = ix ∧ (at_ l k).sub = sub := by
  rcases fnd_cases l ix sub with e | e | h1
  · omega
  · omega
  · exact h1

/-- Bytes of one's own, and a code. -/
def GetEnds (W : World) (bs : List UInt8) (u : Value) (e : Ending) (w' : World) : Prop := ∃ x, e = .returned (.tuple #[x, u]) ∧ Own w' W.heap.size YT x bs ∧ Below W.heap.size W w'

set_option maxHeartbeats 1000000 in
theorem get_bad {ix sub c : Int} {pv : Value} (LK : Calls Tryd.prog 44 #[ptr p, .int .i64 ix, .int .i64 sub, .func (.func 45) #[] #[]] W fun e w' => e = .returned (.tuple #[pv, .int .u32 c]) ∧ Below W.heap.size W w') (hc : c ≠ 0) :
    Calls Tryd.prog 19 #[ptr p, .int .i64 ix, .int .i64 sub] W (GetEnds W [] (.int .u32 c)) := by
  have hd : (c != 0) = true := by simpa using hc
  clear hc
  have LK := Lib.hid LK
  go_enter Tryd.func19, Tryd.ntmps19
  go_wp2_with fail
  refine LK.out.mono ?_
  rintro e w' ⟨rfl, b⟩
  have T := Lib.hid b
  clear b LK
  go_wp2_with fail
  go_ret2
  exact ⟨_, rfl, Own.nil _ _ _, T.out⟩

set_option maxHeartbeats 1000000 in
theorem get_good {rs : List Rv} {g c : Nat} (h : IsD W p (.slice (some ⟨g, 0, none⟩) rs.length c) N rs) {ix sub : Int} {k : Nat} (hk : k < rs.length) {r : Rv} (hr : rs.getD k Rv.zero = r)
    (LK : Calls Tryd.prog 44 #[ptr p, .int .i64 ix, .int .i64 sub, .func (.func 45) #[] #[]] W fun e w' => e = .returned (.tuple #[.pointer (some ⟨g, k * 12, none⟩), .int .u32 0]) ∧ Below W.heap.size W w') :
    Calls Tryd.prog 19 #[ptr p, .int .i64 ix, .int .i64 sub] W (GetEnds W r.v (.int .u32 0)) := by
  have LK := Lib.hid LK
  have AT := Lib.hid (fun X (b : Below W.heap.size W X) => (h.below b).at hk hr)
  have hm : r ∈ rs := by rw [← hr]; exact getD_mem hk
  have hl := (h.ok r hm).2
  have hrd := (h.rd hm).2
  have CL := Lib.hid (fun X (b : Below W.heap.size W X) => Byt.clone_any r.V r.v.length r.cV r.v X ((hrd.below b).mono b.size) rfl (by omega))
  clear h hr hm hl hrd
  go_enter Tryd.func19, Tryd.ntmps19
  go_wp2_with fail
  refine LK.out.mono ?_
  rintro e w1 ⟨rfl, b⟩
  have T := Lib.hid b
  clear b LK
  obtain ⟨g', c', e1, hg, z1, z2, ⟨q0, q1, q2, q3, q4, q5, q6, q7, q8, q9, q10, q11⟩, z3⟩ := AT.out w1 T.out
  injection e1 with e1 e2 e3
  injection e1 with e1
  injection e1 with e1
  subst e1
  clear e2 e3 z1 z2 z3 hg AT q0 q1 q2 q3 q4 q5 q6 q7 q8 q9 q10
  go_wp2_with fail
  refine (CL.out w1 T.out).mono ?_
  rintro e w2 ⟨u, rfl, o, b⟩
  have T2 := Lib.hid (T.out.trans (b.mono T.out.size))
  have O2 := Lib.hid (show Own w2 W.heap.size YT u r.v from o.lower T.out.size)
  clear b T CL o q11
  go_wp2_with fail
  go_ret2
  exact ⟨_, rfl, O2.out, T2.out⟩

set_option maxHeartbeats 1000000 in
theorem peek_bad {ix sub c : Int} {pv : Value} (LK : Calls Tryd.prog 44 #[ptr p, .int .i64 ix, .int .i64 sub, .func (.func 58) #[] #[]] W fun e w' => e = .returned (.tuple #[pv, .int .u32 c]) ∧ Below W.heap.size W w') (hc : c ≠ 0) :
    Calls Tryd.prog 32 #[ptr p, .int .i64 ix, .int .i64 sub] W (GetEnds W [] (.bool false)) := by
  have hd : (c != 0) = true := by simpa using hc
  clear hc
  have LK := Lib.hid LK
  go_enter Tryd.func32, Tryd.ntmps32
  go_wp2_with fail
  refine LK.out.mono ?_
  rintro e w' ⟨rfl, b⟩
  have T := Lib.hid b
  clear b LK
  go_wp2_with fail
  go_ret2
  exact ⟨_, rfl, Own.nil _ _ _, T.out⟩

set_option maxHeartbeats 1000000 in
theorem peek_good {rs : List Rv} {g c : Nat} (h : IsD W p (.slice (some ⟨g, 0, none⟩) rs.length c) N rs) {ix sub : Int} {k : Nat} (hk : k < rs.length) {r : Rv} (hr : rs.getD k Rv.zero = r)
    (LK : Calls Tryd.prog 44 #[ptr p, .int .i64 ix, .int .i64 sub, .func (.func 58) #[] #[]] W fun e w' => e = .returned (.tuple #[.pointer (some ⟨g, k * 12, none⟩), .int .u32 0]) ∧ Below W.heap.size W w') :
    Calls Tryd.prog 32 #[ptr p, .int .i64 ix, .int .i64 sub] W (GetEnds W r.v (.bool true)) := by
  have LK := Lib.hid LK
  have AT := Lib.hid (fun X (b : Below W.heap.size W X) => (h.below b).at hk hr)
  have hm : r ∈ rs := by rw [← hr]; exact getD_mem hk
  have hl := (h.ok r hm).2
  have hrd := (h.rd hm).2
  have CL := Lib.hid (fun X (b : Below W.heap.size W X) => Byt.clone_any r.V r.v.length r.cV r.v X ((hrd.below b).mono b.size) rfl (by omega))
  clear h hr hm hl hrd
  go_enter Tryd.func32, Tryd.ntmps32
  go_wp2_with fail
  refine LK.out.mono ?_
  rintro e w1 ⟨rfl, b⟩
  have T := Lib.hid b
  clear b LK
  obtain ⟨g', c', e1, hg, z1, z2, ⟨q0, q1, q2, q3, q4, q5, q6, q7, q8, q9, q10, q11⟩, z3⟩ := AT.out w1 T.out
  injection e1 with e1 e2 e3
  injection e1 with e1
  injection e1 with e1
  subst e1
  clear e2 e3 z1 z2 z3 hg AT q0 q1 q2 q3 q4 q5 q6 q7 q8 q9 q10
  go_wp2_with fail
  refine (CL.out w1 T.out).mono ?_
  rintro e w2 ⟨u, rfl, o, b⟩
  have T2 := Lib.hid (T.out.trans (b.mono T.out.size))
  have O2 := Lib.hid (show Own w2 W.heap.size YT u r.v from o.lower T.out.size)
  clear b T CL o q11
  go_wp2_with fail
  go_ret2
  exact ⟨_, rfl, O2.out, T2.out⟩

theorem get_any (h : HasD W p v N s) (hi : Inv s) (ix sub : Int) : Calls Tryd.prog 19 #[ptr p, .int .i64 ix, .int .i64 sub] W (GetEnds W (s.get ix sub).1 (.int .u32 (s.get ix sub).2)) := by
  obtain ⟨rs, h, e1, e2⟩ := h
  have hf := fine_of hi e1
  unfold Ds.get
  rw [← e1, ← e2]
  by_cases hn : fnd (evs rs) ix sub < 0
  · rw [if_pos hn]
    exact get_bad (look_no h hf ix sub _ hn) (miss_ne _)
  · rw [if_neg hn]
    obtain ⟨k, hk, ek, _, _⟩ := fnd_of hn
    have hk' : k < rs.length := by simpa using hk
    obtain ⟨g, c, rfl, _⟩ := h.at hk' rfl
    have LK := look_toRead h hf ix sub ek hk' rfl
    rw [ek, Int.toNat_natCast, at_evs, vat_map]
    by_cases hr : readN (rs.getD k Rv.zero).e.ac = 0
    · rw [if_neg (by simpa using hr)]
      rw [hr] at LK
      exact get_good h hk' rfl LK
    · rw [if_pos hr]
      exact get_bad LK hr
theorem peek_any (h : HasD W p v N s) (hi : Inv s) (ix sub : Int) : Calls Tryd.prog 32 #[ptr p, .int .i64 ix, .int .i64 sub] W (GetEnds W (s.peek ix sub).1 (.bool (s.peek ix sub).2)) := by
  obtain ⟨rs, h, e1, e2⟩ := h
  have hf := fine_of hi e1
  unfold Ds.peek
  rw [← e1, ← e2]
  by_cases hn : fnd (evs rs) ix sub < 0
  · rw [if_pos hn]
    exact peek_bad (look_no h hf ix sub _ hn) (miss_ne _)
  · rw [if_neg hn]
    obtain ⟨k, hk, ek, _, _⟩ := fnd_of hn
    have hk' : k < rs.length := by simpa using hk
    obtain ⟨g, c, rfl, _⟩ := h.at hk' rfl
    have LK := look_anyhow h hf ix sub ek hk' rfl
    rw [ek, Int.toNat_natCast, vat_map]
    exact peek_good h hk' rfl LK

theorem may_of {ix sub c : Int} {b pv : Value} (FT : Calls Tryd.prog 59 #[ptr p, .int .i64 ix, .int .i64 sub, b, .func (.func 43) #[] #[]] W fun e w' => e = .returned (.tuple #[pv, .int .u32 c]) ∧ Below W.heap.size W w') :
    Calls Tryd.prog 34 #[ptr p, .int .i64 ix, .int .i64 sub, b] W fun e w' => e = .returned (.int .u32 c) ∧ Below W.heap.size W w' := by
  have FT := Lib.hid FT
  go_enter Tryd.func34, Tryd.ntmps34
  go_wp2_with fail
  refine FT.out.mono ?_
  rintro e w' ⟨rfl, b⟩
  have T := Lib.hid b
  clear b FT
  go_wp2_with fail
  go_ret
  exact ⟨rfl, T.out⟩
/-- What a call ends with that may set a value. -/
def SetEnds (W : World) (p : Nat) (v : Value) (N : Nat → Prop) (s : Ds) (c : Int) (e : Ending) (w' : World) : Prop :=
  e = .returned (.int .u32 c) ∧ HasD w' p v N s ∧ Upd (fun q => v.ownBlock = some q) W w'
theorem SetEnds.no {c : Int} (h : HasD W p v N s) {e : Ending} {w' : World} (he : e = .returned (.int .u32 c)) (b : Below W.heap.size W w') : SetEnds W p v N s c e w' := ⟨he, h.below b, .of_below b⟩
theorem evs_set (rs : List Rv) (k : Nat) (A : Option Addr) (bs : List UInt8) (c : Nat) : evs (rs.set k { rs.getD k Rv.zero with V := A, v := bs, cV := c }) = evs rs := by
  unfold evs
  rw [List.map_set]
  apply List.ext_getElem?
  intro i
  rw [List.getElem?_set]
  split
  · rename_i h
    subst h
    split
    · rename_i hk
      have hk' : k < rs.length := by simpa using hk
      simp [List.getD_eq_getElem?_getD, hk']
    · rename_i hk
      rw [List.getElem?_eq_none (by omega)]
  · rfl

theorem set_way {ix sub c : Int} {b : Value} {Q : Ending → World → Prop} (FT : Calls Tryd.prog 42 #[ptr p, .int .i64 ix, .int .i64 sub, b, .func (.func 43) #[] #[]] W fun e w' => e = .returned (.int .u32 c) ∧ Q e w') :
    Calls Tryd.prog 18 #[ptr p, .int .i64 ix, .int .i64 sub, b] W fun e w' => e = .returned (.int .u32 c) ∧ Q e w' := by
  have FT := Lib.hid FT
  go_enter Tryd.func18, Tryd.ntmps18
  go_wp2_with fail
  refine FT.out.mono ?_
  rintro e w' ⟨rfl, b⟩
  have T := Lib.hid b
  clear b FT
  go_wp2_with fail
  go_ret
  exact ⟨rfl, T.out⟩

theorem poke_way {ix sub c : Int} {b : Value} {Q : Ending → World → Prop} (FT : Calls Tryd.prog 42 #[ptr p, .int .i64 ix, .int .i64 sub, b, .func (.func 58) #[] #[]] W fun e w' => e = .returned (.int .u32 c) ∧ Q e w') :
    Calls Tryd.prog 30 #[ptr p, .int .i64 ix, .int .i64 sub, b] W fun e w' => e = .returned (.int .u32 c) ∧ Q e w' := by
  have FT := Lib.hid FT
  go_enter Tryd.func30, Tryd.ntmps30
  go_wp2_with fail
  refine FT.out.mono ?_
  rintro e w' ⟨rfl, b⟩
  have T := Lib.hid b
  clear b FT
  go_wp2_with fail
  go_ret
  exact ⟨rfl, T.out⟩

theorem sets_step {rs : List Rv} {k : Nat} {A : Option Addr} {c : Nat} {bs : List UInt8} (h : IsD W p v N (rs.set k { rs.getD k Rv.zero with V := A, v := bs, cV := c })) : HasD W p v N ((⟨evs rs, rs.map (·.v)⟩ : Ds).put k bs) :=
  ⟨_, h, evs_set rs k A bs c, by simp [Ds.put, List.map_set]⟩
theorem poke_any (h : HasD W p v N s) (hi : Inv s) (hN : ∀ q, N q → q < W.heap.size) (ix sub : Int) {A : Option Addr} {cb : Nat} {bs : List UInt8} (hb : Rd W W.heap.size A bs) (hl : bs.length ≤ 1000) (hg : TG W) :
    Calls Tryd.prog 30 #[ptr p, .int .i64 ix, .int .i64 sub, .slice A bs.length cb] W (SetEnds W p v N (s.upon (s.poke ix sub bs) ix sub bs) (s.poke ix sub bs)) := by
  have H := h
  obtain ⟨rs, h, e1, e2⟩ := h
  have hf := fine_of hi e1
  obtain ⟨l, vs⟩ := s
  obtain rfl : evs rs = l := e1
  obtain rfl : rs.map (·.v) = vs := e2
  unfold Ds.poke
  by_cases hn : fnd (evs rs) ix sub < 0
  · rw [if_pos hn]
    have e : (⟨evs rs, rs.map (·.v)⟩ : Ds).upon (miss (fnd (evs rs) ix sub)) ix sub bs = ⟨evs rs, rs.map (·.v)⟩ := if_neg (miss_ne _)
    rw [e]
    exact (poke_way (Q := fun _ w' => Below W.heap.size W w') (put_bad (fit_bad (look_no h hf ix sub _ hn) (miss_ne _)) (miss_ne _))).mono fun e w' ⟨h1, h2⟩ => .no H h1 h2
  · rw [if_neg hn]
    obtain ⟨k, hk, ek, _, _⟩ := fnd_of hn
    have hk' : k < rs.length := by simpa using hk
    obtain ⟨g, c, rfl, _⟩ := h.at hk' rfl
    have LK := look_anyhow h hf ix sub ek hk' rfl
    have FT := fit_good h hk' rfl LK (cb := cb) hb hl hg
    show Calls _ _ _ W (SetEnds W p _ N ((⟨evs rs, rs.map (·.v)⟩ : Ds).upon ((at_ (evs rs) (fnd (evs rs) ix sub).toNat).val bs) ix sub bs) ((at_ (evs rs) (fnd (evs rs) ix sub).toNat).val bs))
    rw [ek, Int.toNat_natCast, at_evs]
    by_cases hv : (rs.getD k Rv.zero).e.val bs = 0
    · rw [hv] at FT ⊢
      have e : (⟨evs rs, rs.map (·.v)⟩ : Ds).upon 0 ix sub bs = (⟨evs rs, rs.map (·.v)⟩ : Ds).put k bs := by
        unfold Ds.upon
        rw [if_pos rfl]
        show Ds.put _ (fnd (evs rs) ix sub).toNat bs = _
        rw [ek, Int.toNat_natCast]
      rw [e]
      refine (poke_way (Q := fun _ w' => (∃ A2 c2, IsD w' p (.slice (some ⟨g, 0, none⟩) rs.length c) N (rs.set k { rs.getD k Rv.zero with V := A2, v := bs, cV := c2 })) ∧ Upd (fun q => (Value.slice (some ⟨g, 0, none⟩) rs.length c).ownBlock = some q) W w') ((put_good h hN hk' rfl hb hl FT).mono fun e w' h => h)).mono fun e w' ⟨h1, ⟨A2, c2, h2⟩, h3⟩ => ⟨h1, sets_step h2, h3⟩
    · have e : (⟨evs rs, rs.map (·.v)⟩ : Ds).upon ((rs.getD k Rv.zero).e.val bs) ix sub bs = ⟨evs rs, rs.map (·.v)⟩ := if_neg hv
      rw [e]
      exact (poke_way (Q := fun _ w' => Below W.heap.size W w') (put_bad FT hv)).mono fun e w' ⟨h1, h2⟩ => .no H h1 h2
theorem set_any (h : HasD W p v N s) (hi : Inv s) (hN : ∀ q, N q → q < W.heap.size) (ix sub : Int) {A : Option Addr} {cb : Nat} {bs : List UInt8} (hb : Rd W W.heap.size A bs) (hl : bs.length ≤ 1000) (hg : TG W) :
    Calls Tryd.prog 34 #[ptr p, .int .i64 ix, .int .i64 sub, .slice A bs.length cb] W (fun e w' => e = .returned (.int .u32 (s.may ix sub bs)) ∧ Below W.heap.size W w') ∧
    Calls Tryd.prog 18 #[ptr p, .int .i64 ix, .int .i64 sub, .slice A bs.length cb] W (SetEnds W p v N (s.upon (s.may ix sub bs) ix sub bs) (s.may ix sub bs)) := by
  have H := h
  obtain ⟨rs, h, e1, e2⟩ := h
  have hf := fine_of hi e1
  obtain ⟨l, vs⟩ := s
  obtain rfl : evs rs = l := e1
  obtain rfl : rs.map (·.v) = vs := e2
  unfold Ds.may
  by_cases hn : fnd (evs rs) ix sub < 0
  · rw [if_pos hn]
    have e : (⟨evs rs, rs.map (·.v)⟩ : Ds).upon (miss (fnd (evs rs) ix sub)) ix sub bs = ⟨evs rs, rs.map (·.v)⟩ := if_neg (miss_ne _)
    rw [e]
    have FT := fit_bad (fv := .func (.func 43) #[] #[]) (look_no h hf ix sub _ hn) (miss_ne _) (b := .slice A bs.length cb)
    exact ⟨may_of FT, (set_way (Q := fun _ w' => Below W.heap.size W w') (put_bad FT (miss_ne _))).mono fun e w' ⟨h1, h2⟩ => .no H h1 h2⟩
  · rw [if_neg hn]
    obtain ⟨k, hk, ek, _, _⟩ := fnd_of hn
    have hk' : k < rs.length := by simpa using hk
    obtain ⟨g, c, rfl, _⟩ := h.at hk' rfl
    have LK := look_toWrite h hf ix sub ek hk' rfl
    have eq : (⟨evs rs, rs.map (·.v)⟩ : Ds).l = evs rs := rfl
    simp only [eq, ek, Int.toNat_natCast, at_evs]
    by_cases hw : writeN (rs.getD k Rv.zero).e.ac = 0
    · rw [if_neg (by simpa using hw)]
      rw [hw] at LK
      have FT := fit_good h hk' rfl LK (cb := cb) hb hl hg
      refine ⟨may_of FT, ?_⟩
      by_cases hv : (rs.getD k Rv.zero).e.val bs = 0
      · rw [hv] at FT ⊢
        have e : (⟨evs rs, rs.map (·.v)⟩ : Ds).upon 0 ix sub bs = (⟨evs rs, rs.map (·.v)⟩ : Ds).put k bs := by
          unfold Ds.upon
          rw [if_pos rfl]
          show Ds.put _ (fnd (evs rs) ix sub).toNat bs = _
          rw [ek, Int.toNat_natCast]
        rw [e]
        refine (set_way (Q := fun _ w' => (∃ A2 c2, IsD w' p (.slice (some ⟨g, 0, none⟩) rs.length c) N (rs.set k { rs.getD k Rv.zero with V := A2, v := bs, cV := c2 })) ∧ Upd (fun q => (Value.slice (some ⟨g, 0, none⟩) rs.length c).ownBlock = some q) W w') ((put_good h hN hk' rfl hb hl FT).mono fun e w' h => h)).mono fun e w' ⟨h1, ⟨A2, c2, h2⟩, h3⟩ => ⟨h1, sets_step h2, h3⟩
      · have e : (⟨evs rs, rs.map (·.v)⟩ : Ds).upon ((rs.getD k Rv.zero).e.val bs) ix sub bs = ⟨evs rs, rs.map (·.v)⟩ := if_neg hv
        rw [e]
        exact (set_way (Q := fun _ w' => Below W.heap.size W w') (put_bad FT hv)).mono fun e w' ⟨h1, h2⟩ => .no H h1 h2
    · rw [if_pos hw]
      have e : (⟨evs rs, rs.map (·.v)⟩ : Ds).upon (writeN (rs.getD k Rv.zero).e.ac) ix sub bs = ⟨evs rs, rs.map (·.v)⟩ := if_neg hw
      rw [e]
      have FT := fit_bad LK hw (b := .slice A bs.length cb)
      exact ⟨may_of FT, (set_way (Q := fun _ w' => Below W.heap.size W w') (put_bad FT hw)).mono fun e w' ⟨h1, h2⟩ => .no H h1 h2⟩
end
end Dic
end Go.Proofs.YtpdnfdpoebhjoaaDoor
