/-
  An operation, whole or torn: what operate does with the two method values that it is handed; and Erase, Program.
-/
import Derived.Test.YtkkbjngjjeajoaaFlaAct
import Derived.Outline
namespace Go.Proofs.Ytkkbjngjjeajoaa
namespace Fla
open Go.RowKit Mem
set_option linter.unusedVariables false

section
variable {w W : World} {p D c : Nat} {s : Fl}
/-- How an operation ends: its code, the flash behind it, and nothing else is changed. -/
def Ends (p D c : Nat) (w : World) (code : Int) (s' : Fl) (e : Ending) (w' : World) : Prop := e = .returned (.int .i64 code) ∧ IsF w' p D c s' ∧ Far p D w w'
theorem set_tail (D c j : Nat) (v : Value) (h8 : s.wear.length = 8) : (s.cells D c).set (9 + j) v = .slice (some ⟨D, 0, none⟩) s.bs.length c :: (s.wear.map (Value.int .i64) ++ [Value.int .i64 s.most, .bool s.on, .bool s.pl, .int .i64 s.ahead, .int .u32 s.mask, .int .i64 s.ops].set j v) := by
  rw [show 9 + j = 8 + j + 1 by omega]
  unfold Fl.cells
  rw [List.set_cons_succ, List.set_append_right _ _ (by simp [h8]), List.length_map, h8, Nat.add_sub_cancel_left]
theorem set_wear (D c n : Nat) (x : Int) (h8 : s.wear.length = 8) (hn : n < 8) : (s.cells D c).set (1 + n) (.int .i64 x) = Fl.cells { s with wear := s.wear.set n x } D c := by
  rw [Nat.add_comm 1 n]
  unfold Fl.cells
  rw [List.set_cons_succ, List.set_append_left _ _ (by simp [h8, hn]), List.map_set]
theorem IsF.set10 (h : IsF W p D c s) (b : Bool) : IsF (W.setCell ⟨p, 10, none⟩ (.bool b)) p D c { s with on := b } :=
  h.set 10 _ _ rfl (set_tail D c 1 _ h.ok.w8) ⟨h.ok.len0, h.ok.len1, h.ok.secs, h.ok.w8, h.ok.wb, h.ok.m1, h.ok.a0, h.ok.a1, h.ok.k0, h.ok.k1, h.ok.o0, h.ok.o1⟩
theorem IsF.set11 (h : IsF W p D c s) (b : Bool) : IsF (W.setCell ⟨p, 11, none⟩ (.bool b)) p D c { s with pl := b } :=
  h.set 11 _ _ rfl (set_tail D c 2 _ h.ok.w8) ⟨h.ok.len0, h.ok.len1, h.ok.secs, h.ok.w8, h.ok.wb, h.ok.m1, h.ok.a0, h.ok.a1, h.ok.k0, h.ok.k1, h.ok.o0, h.ok.o1⟩
theorem IsF.set12 (h : IsF W p D c s) (n : Int) (h0 : 0 ≤ n) (h1 : n ≤ 9223372036854775807) : IsF (W.setCell ⟨p, 12, none⟩ (.int .i64 n)) p D c { s with ahead := n } :=
  h.set 12 _ _ rfl (set_tail D c 3 _ h.ok.w8) ⟨h.ok.len0, h.ok.len1, h.ok.secs, h.ok.w8, h.ok.wb, h.ok.m1, h0, h1, h.ok.k0, h.ok.k1, h.ok.o0, h.ok.o1⟩
theorem IsF.set13 (h : IsF W p D c s) (n : Int) (h0 : 0 ≤ n) (h1 : n ≤ 4294967295) : IsF (W.setCell ⟨p, 13, none⟩ (.int .u32 n)) p D c { s with mask := n } :=
  h.set 13 _ _ rfl (set_tail D c 4 _ h.ok.w8) ⟨h.ok.len0, h.ok.len1, h.ok.secs, h.ok.w8, h.ok.wb, h.ok.m1, h.ok.a0, h.ok.a1, h0, h1, h.ok.o0, h.ok.o1⟩
theorem IsF.set14 (h : IsF W p D c s) (n : Int) (h0 : 0 ≤ n) (h1 : n ≤ 4611686018427387904) : IsF (W.setCell ⟨p, 14, none⟩ (.int .i64 n)) p D c { s with ops := n } :=
  h.set 14 _ _ rfl (set_tail D c 5 _ h.ok.w8) ⟨h.ok.len0, h.ok.len1, h.ok.secs, h.ok.w8, h.ok.wb, h.ok.m1, h.ok.a0, h.ok.a1, h.ok.k0, h.ok.k1, h0, h1⟩
theorem IsF.fall (h : IsF W p D c s) : IsF ((((W.setCell ⟨p, 11, none⟩ (.bool false)).setCell ⟨p, 12, none⟩ (.int .i64 0)).setCell ⟨p, 13, none⟩ (.int .u32 0)).setCell ⟨p, 10, none⟩ (.bool false)) p D c s.fell :=
  (((h.set11 false).set12 0 (by omega) (by omega)).set13 0 (by omega) (by omega)).set10 false
theorem Far.fall (W : World) : Far p D W ((((W.setCell ⟨p, 11, none⟩ (.bool false)).setCell ⟨p, 12, none⟩ (.int .i64 0)).setCell ⟨p, 13, none⟩ (.int .u32 0)).setCell ⟨p, 10, none⟩ (.bool false)) :=
  ((((Far.refl _ _ _).set_p _ _).set_p _ _).set_p _ _).set_p _ _


theorem fewhole_any {w : World} {p D c : Nat} {s : Fl} (a cc : Nat) (h : IsF w p D c s) (ha : a + 1024 ≤ s.bs.length) :
    Calls Try.prog 69 #[.agg #[.slice (some ⟨D, a, none⟩) 1024 cc]] w fun e w' => e = .returned (.tuple #[]) ∧ IsF w' p D c (s.with_ (ones s.bs a 1024)) ∧ Far p D w w' := by
  refine (ewhole_any s.bs.length a 1024 cc s.bs w h.own rfl ha h.ok.len1).mono ?_
  rintro e w1 ⟨rfl, o1, g1⟩
  exact ⟨rfl, h.grown g1 (ones_length ha) o1, .of_grown g1⟩
theorem fetorn_any {w : World} {p D c : Nat} {s : Fl} (a cc : Nat) (m : Int) (m0 : 0 ≤ m) (m1 : m ≤ 4294967295) (h : IsF w p D c s) (ha : a + 1024 ≤ s.bs.length) (h1 : 1024 ≤ cc) (h2 : cc ≤ maxLen) :
    Calls Try.prog 123 #[.agg #[.slice (some ⟨D, a, none⟩) 1024 cc], .int .u32 m] w fun e w' => e = .returned (.tuple #[]) ∧ IsF w' p D c (s.with_ (ones s.bs a (m.toNat % 1025))) ∧ Far p D w w' := by
  refine (etorn_any s.bs.length a cc m m0 m1 s.bs w h.own rfl ha h.ok.len1 h1 h2).mono ?_
  rintro e w1 ⟨rfl, o1, g1⟩
  exact ⟨rfl, h.grown g1 (ones_length (by omega)) o1, .of_grown g1⟩

set_option maxHeartbeats 1000000 in
theorem operate_p (k : Nat) (b : UInt8) (h : IsF w p D c s) (hk : k < s.bs.length) (ho : s.ops < 4611686018427387904) :
    Calls Try.prog 104 #[at_ p, .func (.func 105) #[.agg #[.pointer (some ⟨D, k, none⟩), .int .u8 (b.toNat : Int)]] #[], .func (.func 106) #[.agg #[.pointer (some ⟨D, k, none⟩), .int .u8 (b.toNat : Int)]] #[]] w (Ends p D c w (if s.cuts then 7 else 0) (if s.cuts then (s.with_ (s.bs.set k (tornB (s.bs.getD k 0) b s.mask))).fell else (s.with_ (s.bs.set k (s.bs.getD k 0 &&& b))).past)) := by
  have h11 := h.c11
  have h12 := h.c12
  have hplt := h.lt
  have hk0 := h.ok.k0
  have hk1 := h.ok.k1
  cases hp : s.pl with
  | false =>
    have hcut : s.cuts = false := by simp [Fl.cuts, hp]
    have H1 := Lib.hid ((fun h => pwhole_any k b h hk) h)
    have HP : Hid ((s.with_ (s.bs.set k (s.bs.getD k 0 &&& b))).past = { (s.with_ (s.bs.set k (s.bs.getD k 0 &&& b))) with ops := s.ops + 1 }) := Lib.hid (by simp [Fl.past, Fl.with_, hp])
    have o0 := h.ok.o0
    rw [hp] at h11
    rw [hcut, if_neg (by decide), if_neg (by decide)]
    clear hp hcut h
    go_enter Try.func104, Try.ntmps104
    go_wp2_with fail
    refine H1.out.mono ?_
    rintro e w1 ⟨rfl, i1, f1⟩
    have h14 : w1.cell? ⟨p, 14, none⟩ = some (.int .i64 s.ops) := i1.c14
    have hf14 := i1.free 14
    have I1 := Lib.hid i1
    have F1 := Lib.hid f1
    clear i1 f1 h11 h12
    go_wp2_with fail
    go_ret
    exact ⟨rfl, by rw [HP.out]; exact I1.out.set14 _ (by omega) (by omega), F1.out.set_p _ _⟩
  | true =>
    by_cases ha : s.ahead = 0
    · have hcut : s.cuts = true := by simp [Fl.cuts, hp, ha]
      have h13 := h.c13
      have H1 := Lib.hid ((fun h => ptorn_any k b s.mask hk0 hk1 h hk) h)
      rw [hp] at h11
      rw [ha] at h12
      rw [hcut, if_pos rfl, if_pos rfl]
      clear hp hcut ha h
      generalize s.mask = msk at *
      go_enter Try.func104, Try.ntmps104
      go_wp2_with fail
      refine H1.out.mono ?_
      rintro e w1 ⟨rfl, i1, f1⟩
      have hf := i1.free
      have hs1 := i1.lt
      have k10 := i1.c10
      have k11 := i1.c11
      have k12 := i1.c12
      have k13 := i1.c13
      have I1 := Lib.hid i1
      have F1 := Lib.hid f1
      clear i1 f1 h11 h12 h13
      go_wp2_with fail
      go_ret
      exact ⟨rfl, I1.out.fall, F1.out.trans (Far.fall _)⟩
    · have hcut : s.cuts = false := by simp [Fl.cuts, hp, ha]
      have ha1 : (s.ahead == 0) = false := by simpa using ha
      have a0 := h.ok.a0
      have a1 := h.ok.a1
      have hf12 := h.free 12
      have hi := h.set12 (s.ahead - 1) (by omega) (by omega)
      have H1 := Lib.hid (pwhole_any k b hi hk)
      have HP : Hid ((s.with_ (s.bs.set k (s.bs.getD k 0 &&& b))).past = { ({ s with ahead := s.ahead - 1 } : Fl).with_ (s.bs.set k (s.bs.getD k 0 &&& b)) with ops := s.ops + 1 }) := Lib.hid (by simp [Fl.past, Fl.with_, hp])
      have o0 := h.ok.o0
      rw [hp] at h11
      rw [hcut, if_neg (by decide), if_neg (by decide)]
      clear hp hcut h hi
      go_enter Try.func104, Try.ntmps104
      go_wp2_with fail
      refine H1.out.mono ?_
      rintro e w1 ⟨rfl, i1, f1⟩
      have h14 : w1.cell? ⟨p, 14, none⟩ = some (.int .i64 s.ops) := i1.c14
      have hf14 := i1.free 14
      have I1 := Lib.hid i1
      have F1 := Lib.hid (((Far.refl p D w).set_p 12 (.int .i64 (s.ahead - 1))).trans f1)
      clear i1 f1 h11 h12
      go_wp2_with fail
      go_ret
      exact ⟨rfl, by rw [HP.out]; exact I1.out.set14 _ (by omega) (by omega), F1.out.set_p _ _⟩

set_option maxHeartbeats 1000000 in
theorem operate_e (a cc : Nat) (h : IsF w p D c s) (hle : a + 1024 ≤ s.bs.length) (hcc : 1024 ≤ cc) (hcm : cc ≤ maxLen) (ho : s.ops < 4611686018427387904) :
    Calls Try.prog 104 #[at_ p, .func (.func 69) #[.agg #[.slice (some ⟨D, a, none⟩) 1024 cc]] #[], .func (.func 123) #[.agg #[.slice (some ⟨D, a, none⟩) 1024 cc]] #[]] w (Ends p D c w (if s.cuts then 7 else 0) (if s.cuts then (s.with_ (ones s.bs a (s.mask.toNat % 1025))).fell else (s.with_ (ones s.bs a 1024)).past)) := by
  have h11 := h.c11
  have h12 := h.c12
  have hplt := h.lt
  have hk0 := h.ok.k0
  have hk1 := h.ok.k1
  cases hp : s.pl with
  | false =>
    have hcut : s.cuts = false := by simp [Fl.cuts, hp]
    have H1 := Lib.hid ((fun h => fewhole_any a cc h hle) h)
    have HP : Hid ((s.with_ (ones s.bs a 1024)).past = { (s.with_ (ones s.bs a 1024)) with ops := s.ops + 1 }) := Lib.hid (by simp [Fl.past, Fl.with_, hp])
    have o0 := h.ok.o0
    rw [hp] at h11
    rw [hcut, if_neg (by decide), if_neg (by decide)]
    clear hp hcut h
    go_enter Try.func104, Try.ntmps104
    go_wp2_with fail
    refine H1.out.mono ?_
    rintro e w1 ⟨rfl, i1, f1⟩
    have h14 : w1.cell? ⟨p, 14, none⟩ = some (.int .i64 s.ops) := i1.c14
    have hf14 := i1.free 14
    have I1 := Lib.hid i1
    have F1 := Lib.hid f1
    clear i1 f1 h11 h12
    go_wp2_with fail
    go_ret
    exact ⟨rfl, by rw [HP.out]; exact I1.out.set14 _ (by omega) (by omega), F1.out.set_p _ _⟩
  | true =>
    by_cases ha : s.ahead = 0
    · have hcut : s.cuts = true := by simp [Fl.cuts, hp, ha]
      have h13 := h.c13
      have H1 := Lib.hid ((fun h => fetorn_any a cc s.mask hk0 hk1 h hle hcc hcm) h)
      rw [hp] at h11
      rw [ha] at h12
      rw [hcut, if_pos rfl, if_pos rfl]
      clear hp hcut ha h
      generalize s.mask = msk at *
      go_enter Try.func104, Try.ntmps104
      go_wp2_with fail
      refine H1.out.mono ?_
      rintro e w1 ⟨rfl, i1, f1⟩
      have hf := i1.free
      have hs1 := i1.lt
      have k10 := i1.c10
      have k11 := i1.c11
      have k12 := i1.c12
      have k13 := i1.c13
      have I1 := Lib.hid i1
      have F1 := Lib.hid f1
      clear i1 f1 h11 h12 h13
      go_wp2_with fail
      go_ret
      exact ⟨rfl, I1.out.fall, F1.out.trans (Far.fall _)⟩
    · have hcut : s.cuts = false := by simp [Fl.cuts, hp, ha]
      have ha1 : (s.ahead == 0) = false := by simpa using ha
      have a0 := h.ok.a0
      have a1 := h.ok.a1
      have hf12 := h.free 12
      have hi := h.set12 (s.ahead - 1) (by omega) (by omega)
      have H1 := Lib.hid (fewhole_any a cc hi hle)
      have HP : Hid ((s.with_ (ones s.bs a 1024)).past = { ({ s with ahead := s.ahead - 1 } : Fl).with_ (ones s.bs a 1024) with ops := s.ops + 1 }) := Lib.hid (by simp [Fl.past, Fl.with_, hp])
      have o0 := h.ok.o0
      rw [hp] at h11
      rw [hcut, if_neg (by decide), if_neg (by decide)]
      clear hp hcut h hi
      go_enter Try.func104, Try.ntmps104
      go_wp2_with fail
      refine H1.out.mono ?_
      rintro e w1 ⟨rfl, i1, f1⟩
      have h14 : w1.cell? ⟨p, 14, none⟩ = some (.int .i64 s.ops) := i1.c14
      have hf14 := i1.free 14
      have I1 := Lib.hid i1
      have F1 := Lib.hid (((Far.refl p D w).set_p 12 (.int .i64 (s.ahead - 1))).trans f1)
      clear i1 f1 h11 h12
      go_wp2_with fail
      go_ret
      exact ⟨rfl, by rw [HP.out]; exact I1.out.set14 _ (by omega) (by omega), F1.out.set_p _ _⟩

end
end Fla
end Go.Proofs.Ytkkbjngjjeajoaa
