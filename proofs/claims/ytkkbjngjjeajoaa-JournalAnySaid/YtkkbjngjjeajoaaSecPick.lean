/-
  Which sector is the newest, and which is begun next: Room, Newest, Next of package sector.
-/
import Derived.Test.YtkkbjngjjeajoaaProg
import Derived.Test.YtkkbjngjjeajoaaSecOf
import Derived.Test.YtkkbjngjjeajoaaInts
import Derived.Test.YtkkbjngjjeajoaaText
namespace Go.Proofs.Ytkkbjngjjeajoaa
namespace Sec
open Go.RowKit Mem Rec
set_option linter.unusedVariables false
set_option linter.unusedSimpArgs false

/-- A look, its cells told. -/
structure Lv where
  k : Int
  n : Int
  A : Option Addr
  m : Nat
  c : Nat
  cnt : Int
  e : Int
  cl : Bool
def Lv.zero : Lv := ⟨0, 0, none, 0, 0, 0, 0, false⟩
def Lv.vals (l : Lv) : Array Value := #[.int .i64 l.k, .int .u32 l.n, .slice l.A l.m l.c, .int .i64 l.cnt, .int .i64 l.e, .bool l.cl]
/-- A list of looks, one behind the other. -/
def RdL (W : World) (B : Nat) (A : Option Addr) (ls : List Lv) : Prop :=
  ls = [] ∨ ∃ g off, A = some ⟨g, off, none⟩ ∧ g < B ∧ ∀ j, j < ls.length → ∀ i, i < 6 → W.cell? ⟨g, off + j * 6 + i, none⟩ = (ls.getD j Lv.zero).vals[i]?
theorem RdL.below {W W' : World} {B : Nat} {A : Option Addr} {ls : List Lv} (h : RdL W B A ls) (b : Below B W W') : RdL W' B A ls := by
  rcases h with h | ⟨g, off, e, hg, hc⟩
  · exact .inl h
  · exact .inr ⟨g, off, e, hg, fun j hj i hi => (b.cell (p := ⟨g, off + j * 6 + i, none⟩) hg).trans (hc j hj i hi)⟩
theorem RdL.at_ {W : World} {B : Nat} {A : Option Addr} {ls : List Lv} (h : RdL W B A ls) {j : Nat} (hj : j < ls.length) : ∃ g off, A = some ⟨g, off, none⟩ ∧ g < B ∧ ∀ i, i < 6 → W.cell? ⟨g, off + j * 6 + i, none⟩ = (ls.getD j Lv.zero).vals[i]? := by
  rcases h with h | ⟨g, off, e, hg, hc⟩
  · subst h; simp at hj
  · exact ⟨g, off, e, hg, hc j hj⟩

theorem RdL.six {W : World} {B : Nat} {A : Option Addr} {ls : List Lv} (h : RdL W B A ls) {j : Nat} (hj : j < ls.length) {l : Lv} (hl : ls.getD j Lv.zero = l) : ∃ g off, A = some ⟨g, off, none⟩ ∧ g < B ∧
    W.cell? ⟨g, off + j * 6, none⟩ = some (.int .i64 l.k) ∧ W.cell? ⟨g, off + j * 6 + 1, none⟩ = some (.int .u32 l.n) ∧ W.cell? ⟨g, off + j * 6 + 2, none⟩ = some (.slice l.A l.m l.c) ∧
    W.cell? ⟨g, off + j * 6 + 3, none⟩ = some (.int .i64 l.cnt) ∧ W.cell? ⟨g, off + j * 6 + 4, none⟩ = some (.int .i64 l.e) ∧ W.cell? ⟨g, off + j * 6 + 5, none⟩ = some (.bool l.cl) := by
  obtain ⟨g, off, e, hg, hc⟩ := h.at_ hj
  rw [hl] at hc
  exact ⟨g, off, e, hg, hc 0 (by omega), hc 1 (by omega), hc 2 (by omega), hc 3 (by omega), hc 4 (by omega), hc 5 (by omega)⟩

/-- Which of the first k is the newest. -/
def nst (ls : List Lv) : Nat → Option Nat
  | 0 => none
  | k + 1 =>
    match nst ls k with
    | none => if 0 < (ls.getD k Lv.zero).cnt then some k else none
    | some b => if 0 < (ls.getD k Lv.zero).cnt ∧ (ls.getD b Lv.zero).n < (ls.getD k Lv.zero).n then some k else some b
/-- May the k-th be begun next, s being the newest? -/
def Can (ls : List Lv) (left : List Int) (s : Option Nat) (k : Nat) : Prop := s ≠ some k ∧ ((ls.getD k Lv.zero).cnt = 0 ∧ (ls.getD k Lv.zero).cl = true ∨ 0 < left.getD k 0)
instance (ls : List Lv) (left : List Int) (s : Option Nat) (k : Nat) : Decidable (Can ls left s k) := by unfold Can; infer_instance
/-- Which of the first k is begun next. -/
def nxt (ls : List Lv) (wear left : List Int) (s : Option Nat) : Nat → Option Nat
  | 0 => none
  | k + 1 =>
    match nxt ls wear left s k with
    | none => if Can ls left s k then some k else none
    | some b => if Can ls left s k ∧ wear.getD k 0 < wear.getD b 0 then some k else some b
theorem nst_lt {ls : List Lv} : ∀ {k b : Nat}, nst ls k = some b → b < k := by
  intro k
  induction k with
  | zero => intro b h; simp [nst] at h
  | succ k ih =>
    intro b h
    unfold nst at h
    split at h
    · split at h
      · injection h with h; omega
      · cases h
    · rename_i c hc
      have := ih hc
      split at h <;> (injection h with h; omega)

def roomB (cl : Bool) (e data : Int) : Bool := decide (cl = true ∧ 0 ≤ e ∧ e ≤ 1024 ∧ 0 ≤ data ∧ data ≤ 960 ∧ 13 + data ≤ 1024 - e)
def unusedB (cnt : Int) (cl : Bool) : Bool := decide (cnt = 0 ∧ cl = true)
theorem retb {a b : Bool} (h : a = true ↔ b = true) : Ending.returned (.bool a) = .returned (.bool b) := by rw [Bool.eq_iff_iff.2 h]

set_option maxHeartbeats 400000 in
theorem room_any (l : Lv) (data : Int) (w : World) (h1 : -9223372036854775808 ≤ data) (h2 : data ≤ 9223372036854775807) (h3 : -9223372036854775808 ≤ l.e) (h4 : l.e ≤ 9223372036854775807) :
    Calls Try.prog 98 #[.agg l.vals, .int .i64 data] w fun e w' => e = .returned (.bool (roomB l.cl l.e data)) ∧ Below w.heap.size w w' := by
  obtain ⟨k, n, A, m, c, cnt, e, cl⟩ := l
  simp only [Lv.vals] at *
  cases cl
  all_goals go_enter Try.func98, Try.ntmps98
  all_goals go_wp2_with fail
  all_goals
    go_ret
    refine ⟨retb ?_, below1 _ _⟩
    simp only [roomB, decide_eq_true_eq, Bool.false_eq_true, false_iff, true_and, false_and, not_false_eq_true]
    try omega

set_option maxHeartbeats 400000 in
theorem unused_any (l : Lv) (w : World) :
    Calls Try.prog 121 #[.agg l.vals] w fun e w' => e = .returned (.bool (unusedB l.cnt l.cl)) ∧ Below w.heap.size w w' := by
  obtain ⟨k, n, A, m, c, cnt, e, cl⟩ := l
  simp only [Lv.vals] at *
  go_enter Try.func121, Try.ntmps121
  go_wp2_with fail
  all_goals
    go_ret
    refine ⟨retb ?_, below1 _ _⟩
    simp [unusedB, *]

set_option maxHeartbeats 400000 in
theorem at_any (A : Option Addr) (c : Nat) (zs : List Int) (i : Nat) (w : World) {B : Nat} {x : Int} (hx : zs.getD i 0 = x) (h : RdI .i64 w B A zs) (hi : i ≤ 1099511627776) (hl : zs.length ≤ 1099511627776) :
    Calls Try.prog 122 #[.slice A zs.length c, .int .i64 (i : Int)] w fun e w' => e = .returned (.int .i64 x) ∧ w = w' := by
  subst hx
  by_cases hi : i < zs.length
  · obtain ⟨g, off, rfl, hg, hc⟩ := h.at_ hi
    go_enter Try.func122, Try.ntmps122
    go_wp2_with fail
    go_ret
    refine ⟨?_, rfl⟩
    simp [hi]
  · have h0 : zs.getD i 0 = 0 := by simp [List.getElem?_eq_none (Nat.le_of_not_lt hi)]
    rw [h0]
    go_enter Try.func122, Try.ntmps122
    go_wp2_with fail
    go_ret
    exact ⟨rfl, rfl⟩

/-- A round's own look at block g. -/
structure NS (w W : World) (g : Nat) (l : Lv) : Prop where
  c1 : W.cell? ⟨g, 1, none⟩ = some (.int .u32 l.n)
  c3 : W.cell? ⟨g, 3, none⟩ = some (.int .i64 l.cnt)
  b : Below w.heap.size w W
theorem NS.new {w wr : World} (l : Lv) (t : TypeId) (b : Below w.heap.size w wr) : NS w (wr.alloc (.cells #[.int .i64 l.k, .int .u32 l.n, .slice l.A l.m l.c, .int .i64 l.cnt, .int .i64 l.e, .bool l.cl] t)).drew wr.heap.size l := by
  have h := heap_alloc_new wr (.cells #[.int .i64 l.k, .int .u32 l.n, .slice l.A l.m l.c, .int .i64 l.cnt, .int .i64 l.e, .bool l.cl] t)
  exact ⟨cell_of h 1, cell_of h 3, (b.alloc b.size _).drew⟩

set_option maxRecDepth 100000 in
set_option maxHeartbeats 1000000 in
theorem newest_any (A : Option Addr) (c : Nat) (ls : List Lv) (w : World) (hr : RdL w w.heap.size A ls) (hl : ls.length ≤ 1099511627776) :
    Calls Try.prog 96 #[.slice A ls.length c] w fun e w' => e = .returned (.tuple #[.int .i64 (((nst ls ls.length).getD 0 : Nat) : Int), .bool (nst ls ls.length).isSome]) ∧ Below w.heap.size w w' := by
  go_enter Try.func96, Try.ntmps96
  go_wp2_with fail
  go_loopw [4, 5, 10] (fun b y i wr => ∃ k : Nat, k ≤ ls.length ∧ i = .int .i64 (k : Int) ∧ b = .int .i64 (((nst ls k).getD 0 : Nat) : Int) ∧ y = .bool (nst ls k).isSome ∧ Below w.heap.size w wr) (fun _ _ i _ => ls.length - (intOf i).toNat)
  case atStart => exact ⟨0, by omega, rfl, rfl, rfl, Below.refl _ _⟩
  case round =>
    obtain ⟨k, hk, rfl, rfl, rfl, b⟩ := hrel
    by_cases hlt : k < ls.length
    · have hn1 := Lib.hid (show nst ls (k + 1) = _ from rfl)
      obtain ⟨l, hl⟩ : ∃ l, ls.getD k Lv.zero = l := ⟨_, rfl⟩
      obtain ⟨g, off, rfl, hg, c0, c1, c2, c3, c4, c5⟩ := (hr.below b).six hlt hl
      have key : nst ls (k + 1) = match nst ls k with
        | none => if 0 < l.cnt then some k else none
        | some b => if 0 < l.cnt ∧ (ls.getD b Lv.zero).n < l.n then some k else some b := by rw [← hl]; rfl
      have KEY := Lib.hid key
      clear key hn1
      have B1 : ∀ o, Below w.heap.size w (wr.alloc o) := fun o => b.alloc b.size _
      cases hs : nst ls k with
      | none =>
        have R := KEY.out
        rw [hs] at R
        by_cases hc : 0 < l.cnt
        · have hcd : decide (0 < l.cnt) = true := by simpa using hc
          have R := Lib.hid (R.trans (if_pos hc))
          go_wp2_with fail
          refine Txt.wp_region_textN 19 (fun W => NS w W wr.heap.size l) (by kernel_rfl) (by kernel_rfl) (by kernel_rfl) (by kernel_rfl) (fun _ _ _ _ _ h => h) (NS.new l _ b) ?_
          repeat (
            apply Txt.step rfl
            · intro W hS K hK
              have s1 := hS.c1
              have s3 := hS.c3
              have HS := Lib.hid hS
              clear hS
              go_simp
              first
                | exact hK.out _ HS.out
                | (go_wp2_with fail; exact hK.out _ HS.out)
            · first | exact ⟨_, rfl⟩ | exact ⟨undef, rfl⟩)
          refine Txt.last fun W hS => ?_
          have HB := Lib.hid hS.b
          clear hS
          go_wp2_with fail
          go_roundw
          case rel => exact ⟨k + 1, by omega, by go_num, by rw [R.out]; rfl, by rw [R.out]; rfl, HB.out⟩
          case measure => simp [intOf]; omega
        · have hcd : decide (0 < l.cnt) = false := by simpa using hc
          have R := Lib.hid (R.trans (if_neg hc))
          go_wp2_with fail
          refine Txt.wp_region_textN 19 (fun W => NS w W wr.heap.size l) (by kernel_rfl) (by kernel_rfl) (by kernel_rfl) (by kernel_rfl) (fun _ _ _ _ _ h => h) (NS.new l _ b) ?_
          repeat (
            apply Txt.step rfl
            · intro W hS K hK
              have s1 := hS.c1
              have s3 := hS.c3
              have HS := Lib.hid hS
              clear hS
              go_simp
              first
                | exact hK.out _ HS.out
                | (go_wp2_with fail; exact hK.out _ HS.out)
            · first | exact ⟨_, rfl⟩ | exact ⟨undef, rfl⟩)
          refine Txt.last fun W hS => ?_
          have HB := Lib.hid hS.b
          clear hS
          go_wp2_with fail
          go_roundw
          case rel => exact ⟨k + 1, by omega, by go_num, by rw [R.out]; rfl, by rw [R.out]; rfl, HB.out⟩
          case measure => simp [intOf]; omega
      | some d =>
        have hd := nst_lt hs
        obtain ⟨l2, hl2⟩ : ∃ l, ls.getD d Lv.zero = l := ⟨_, rfl⟩
        have D1 : ∀ W, Below w.heap.size w W → W.cell? ⟨g, off + d * 6 + 1, none⟩ = some (.int .u32 l2.n) := fun W bW => by
          obtain ⟨g', off', e1, _, _, d1, _⟩ := (hr.below bW).six (Nat.lt_trans hd hlt) hl2
          injection e1 with e1
          injection e1 with e1 e2
          subst e1
          subst e2
          exact d1
        have R := KEY.out
        rw [hs] at R
        simp only [hl2] at R
        by_cases hc : 0 < l.cnt
        · have hcd : decide (0 < l.cnt) = true := by simpa using hc
          by_cases hq : l2.n < l.n
          · have hqd : decide (l2.n < l.n) = true := by simpa using hq
            have R := Lib.hid (R.trans (if_pos ⟨hc, hq⟩))
            go_wp2_with fail
            refine Txt.wp_region_textN 19 (fun W => NS w W wr.heap.size l) (by kernel_rfl) (by kernel_rfl) (by kernel_rfl) (by kernel_rfl) (fun _ _ _ _ _ h => h) (NS.new l _ b) ?_
            repeat (
              apply Txt.step rfl
              · intro W hS K hK
                have s1 := hS.c1
                have s3 := hS.c3
                have d1 := D1 W hS.b
                have HS := Lib.hid hS
                clear hS
                go_simp
                first
                  | exact hK.out _ HS.out
                  | (go_wp2_with fail; exact hK.out _ HS.out)
              · first | exact ⟨_, rfl⟩ | exact ⟨undef, rfl⟩)
            refine Txt.last fun W hS => ?_
            have HB := Lib.hid hS.b
            clear hS
            go_wp2_with fail
            go_roundw
            case rel => exact ⟨k + 1, by omega, by go_num, by rw [R.out]; rfl, by rw [R.out]; rfl, HB.out⟩
            case measure => simp [intOf]; omega
          · have hqd : decide (l2.n < l.n) = false := by simpa using hq
            have R := Lib.hid (R.trans (if_neg (fun h => hq h.2)))
            go_wp2_with fail
            refine Txt.wp_region_textN 19 (fun W => NS w W wr.heap.size l) (by kernel_rfl) (by kernel_rfl) (by kernel_rfl) (by kernel_rfl) (fun _ _ _ _ _ h => h) (NS.new l _ b) ?_
            repeat (
              apply Txt.step rfl
              · intro W hS K hK
                have s1 := hS.c1
                have s3 := hS.c3
                have d1 := D1 W hS.b
                have HS := Lib.hid hS
                clear hS
                go_simp
                first
                  | exact hK.out _ HS.out
                  | (go_wp2_with fail; exact hK.out _ HS.out)
              · first | exact ⟨_, rfl⟩ | exact ⟨undef, rfl⟩)
            refine Txt.last fun W hS => ?_
            have HB := Lib.hid hS.b
            clear hS
            go_wp2_with fail
            go_roundw
            case rel => exact ⟨k + 1, by omega, by go_num, by rw [R.out]; rfl, by rw [R.out]; rfl, HB.out⟩
            case measure => simp [intOf]; omega
        · have hcd : decide (0 < l.cnt) = false := by simpa using hc
          have R := Lib.hid (R.trans (if_neg (fun h => hc h.1)))
          go_wp2_with fail
          refine Txt.wp_region_textN 19 (fun W => NS w W wr.heap.size l) (by kernel_rfl) (by kernel_rfl) (by kernel_rfl) (by kernel_rfl) (fun _ _ _ _ _ h => h) (NS.new l _ b) ?_
          repeat (
            apply Txt.step rfl
            · intro W hS K hK
              have s1 := hS.c1
              have s3 := hS.c3
              have d1 := D1 W hS.b
              have HS := Lib.hid hS
              clear hS
              go_simp
              first
                | exact hK.out _ HS.out
                | (go_wp2_with fail; exact hK.out _ HS.out)
            · first | exact ⟨_, rfl⟩ | exact ⟨undef, rfl⟩)
          refine Txt.last fun W hS => ?_
          have HB := Lib.hid hS.b
          clear hS
          go_wp2_with fail
          go_roundw
          case rel => exact ⟨k + 1, by omega, by go_num, by rw [R.out]; rfl, by rw [R.out]; rfl, HB.out⟩
          case measure => simp [intOf]; omega
    · obtain rfl : k = ls.length := by omega
      go_wp2_with fail
      go_ret2
      exact ⟨rfl, b⟩

theorem nxt_can {ls : List Lv} {wear left : List Int} {s : Option Nat} {k : Nat} (h : Can ls left s k) : (nxt ls wear left s k = none → nxt ls wear left s (k + 1) = some k) ∧
    ∀ d, nxt ls wear left s k = some d → (wear.getD k 0 < wear.getD d 0 → nxt ls wear left s (k + 1) = some k) ∧ (¬ wear.getD k 0 < wear.getD d 0 → nxt ls wear left s (k + 1) = some d) := by
  refine ⟨fun e => ?_, fun d e => ⟨fun q => ?_, fun q => ?_⟩⟩
  · simp only [nxt, e, if_pos h]
  · simp only [nxt, e, if_pos (show Can ls left s k ∧ _ from ⟨h, q⟩)]
  · simp only [nxt, e, if_neg (show ¬ (Can ls left s k ∧ _) from fun hh => q hh.2)]
theorem nxt_no {ls : List Lv} {wear left : List Int} {s : Option Nat} {k : Nat} (h : ¬ Can ls left s k) : nxt ls wear left s (k + 1) = nxt ls wear left s k := by
  cases e : nxt ls wear left s k with
  | none => simp only [nxt, e, if_neg h]
  | some d => simp only [nxt, e, if_neg (show ¬ (Can ls left s k ∧ _) from fun hh => h hh.1)]
theorem nxt_lt {ls : List Lv} {wear left : List Int} {s : Option Nat} : ∀ {k b : Nat}, nxt ls wear left s k = some b → b < k := by
  intro k
  induction k with
  | zero => intro b h; simp [nxt] at h
  | succ k ih =>
    intro b h
    unfold nxt at h
    split at h
    · split at h
      · injection h with h; omega
      · cases h
    · rename_i c hc
      have := ih hc
      split at h <;> (injection h with h; omega)

set_option maxRecDepth 100000 in
set_option maxHeartbeats 2000000 in
theorem next_any (A Aw Al : Option Addr) (c cw cl : Nat) (ls : List Lv) (wear left : List Int) (w : World) (hr : RdL w w.heap.size A ls) (hl : ls.length ≤ 1099511627776) (hw : RdI .i64 w w.heap.size Aw wear) (hf : RdI .i64 w w.heap.size Al left)
    (lw : wear.length ≤ 1099511627776) (lf : left.length ≤ 1099511627776) :
    Calls Try.prog 99 #[.slice A ls.length c, .slice Aw wear.length cw, .slice Al left.length cl] w fun e w' =>
      e = .returned (.tuple #[.int .i64 (((nxt ls wear left (nst ls ls.length) ls.length).getD 0 : Nat) : Int), .bool (nxt ls wear left (nst ls ls.length) ls.length).isSome]) ∧ Below w.heap.size w w' := by
  have NW := Lib.hid (newest_any A c ls w hr hl)
  obtain ⟨s, hs⟩ : ∃ s, nst ls ls.length = s := ⟨_, rfl⟩
  rw [hs] at NW ⊢
  clear hs
  go_enter Try.func99, Try.ntmps99
  go_wp2_with fail
  refine NW.out.mono ?_
  rintro e w1 ⟨rfl, b1⟩
  clear NW
  cases s with
  | none =>
    simp only [Option.getD_none, Option.getD_some, Option.isSome_none, Option.isSome_some]
    rw [show ((0 : Nat) : Int) = 0 from rfl]
    go_wp2_with fail
    go_loopw [10, 11, 22] (fun b y i wr => ∃ k : Nat, k ≤ ls.length ∧ i = .int .i64 (k : Int) ∧ b = .int .i64 (((nxt ls wear left none k).getD 0 : Nat) : Int) ∧ y = .bool (nxt ls wear left none k).isSome ∧ Below w.heap.size w wr) (fun _ _ i _ => ls.length - (intOf i).toNat)
    case atStart => exact ⟨0, by omega, rfl, rfl, rfl, b1⟩
    case round =>
      obtain ⟨k, hk, rfl, rfl, rfl, b⟩ := hrel
      by_cases hlt : k < ls.length
      · obtain ⟨l, hl⟩ : ∃ l, ls.getD k Lv.zero = l := ⟨_, rfl⟩
        obtain ⟨g, off, rfl, hg, c0, c1, c2, c3, c4, c5⟩ := (hr.below b).six hlt hl
        have hsk : none ≠ some k := fun h => by cases h
        go_wp2_with fail
        refine (unused_any l _).mono ?_
        rintro e w2 ⟨rfl, b2⟩
        have B := Lib.hid ((b.alloc b.size (.cells #[.int .i64 l.k, .int .u32 l.n, .slice l.A l.m l.c, .int .i64 l.cnt, .int .i64 l.e, .bool l.cl] 118)).trans (b2.mono (b.alloc b.size _).size))
        obtain ⟨U, hU⟩ : ∃ U, unusedB l.cnt l.cl = U := ⟨_, rfl⟩
        have HU : U = true ↔ l.cnt = 0 ∧ l.cl = true := by rw [← hU]; simp [unusedB]
        rw [hU]
        clear hU c0 c1 c2 c3 c4 c5 b2
        cases U with
        | true =>
          have hcan : Can ls left none k := ⟨hsk, .inl (by rw [hl]; exact HU.1 rfl)⟩
          clear HU
          have NC := Lib.hid (nxt_can (wear := wear) hcan)
          cases hx : nxt ls wear left none k with
          | none =>
            have R := Lib.hid (NC.out.1 hx)
            go_wp2_with fail
            go_roundw
            case rel => exact ⟨k + 1, by omega, by go_num, by rw [R.out]; rfl, by rw [R.out]; rfl, B.out⟩
            case measure => simp [intOf]; omega
          | some d =>
            have hdk := nxt_lt hx
            have R2 := Lib.hid (NC.out.2 d hx)
            obtain ⟨x, hx1⟩ : ∃ x, wear.getD k 0 = x := ⟨_, rfl⟩
            obtain ⟨y, hy1⟩ : ∃ y, wear.getD d 0 = y := ⟨_, rfl⟩
            rw [hx1, hy1] at R2
            go_wp2_with fail
            refine (at_any Aw cw wear k _ hx1 (hw.below B.out) (by omega) lw).mono ?_
            rintro e w' ⟨rfl, rfl⟩
            go_wp2_with fail
            refine (at_any Aw cw wear d _ hy1 (hw.below B.out) (by omega) lw).mono ?_
            rintro e w' ⟨rfl, rfl⟩
            clear hx1 hy1
            by_cases hq : x < y
            · have hqd : decide (x < y) = true := by simpa using hq
              have R := Lib.hid (R2.out.1 hq)
              go_wp2_with fail
              go_roundw
              case rel => exact ⟨k + 1, by omega, by go_num, by rw [R.out]; rfl, by rw [R.out]; rfl, B.out⟩
              case measure => simp [intOf]; omega
            · have hqd : decide (x < y) = false := by simpa using hq
              have R := Lib.hid (R2.out.2 (by omega))
              go_wp2_with fail
              go_roundw
              case rel => exact ⟨k + 1, by omega, by go_num, by rw [R.out]; rfl, by rw [R.out]; rfl, B.out⟩
              case measure => simp [intOf]; omega
        | false =>
          obtain ⟨z, hz⟩ : ∃ z, left.getD k 0 = z := ⟨_, rfl⟩
          go_wp2_with fail
          refine (at_any Al cl left k _ hz (hf.below B.out) (by omega) lf).mono ?_
          rintro e w' ⟨rfl, rfl⟩
          have HZ : Can ls left none k ↔ 0 < z := by
            unfold Can
            rw [hl, hz]
            have h2 : ¬ (l.cnt = 0 ∧ l.cl = true) := fun h => by have := HU.2 h; cases this
            constructor
            · rintro ⟨_, h | h⟩
              · exact absurd h h2
              · exact h
            · exact fun h => ⟨hsk, .inr h⟩
          clear HU hz
          by_cases hzz : 0 < z
          · have hzd : decide (z ≤ 0) = false := by simp; omega
            have hcan := HZ.2 hzz
            clear HZ
            have NC := Lib.hid (nxt_can (wear := wear) hcan)
            cases hx : nxt ls wear left none k with
            | none =>
              have R := Lib.hid (NC.out.1 hx)
              go_wp2_with fail
              go_roundw
              case rel => exact ⟨k + 1, by omega, by go_num, by rw [R.out]; rfl, by rw [R.out]; rfl, B.out⟩
              case measure => simp [intOf]; omega
            | some d =>
              have hdk := nxt_lt hx
              have R2 := Lib.hid (NC.out.2 d hx)
              obtain ⟨x, hx1⟩ : ∃ x, wear.getD k 0 = x := ⟨_, rfl⟩
              obtain ⟨y, hy1⟩ : ∃ y, wear.getD d 0 = y := ⟨_, rfl⟩
              rw [hx1, hy1] at R2
              go_wp2_with fail
              refine (at_any Aw cw wear k _ hx1 (hw.below B.out) (by omega) lw).mono ?_
              rintro e w' ⟨rfl, rfl⟩
              go_wp2_with fail
              refine (at_any Aw cw wear d _ hy1 (hw.below B.out) (by omega) lw).mono ?_
              rintro e w' ⟨rfl, rfl⟩
              clear hx1 hy1
              by_cases hq : x < y
              · have hqd : decide (x < y) = true := by simpa using hq
                have R := Lib.hid (R2.out.1 hq)
                go_wp2_with fail
                go_roundw
                case rel => exact ⟨k + 1, by omega, by go_num, by rw [R.out]; rfl, by rw [R.out]; rfl, B.out⟩
                case measure => simp [intOf]; omega
              · have hqd : decide (x < y) = false := by simpa using hq
                have R := Lib.hid (R2.out.2 (by omega))
                go_wp2_with fail
                go_roundw
                case rel => exact ⟨k + 1, by omega, by go_num, by rw [R.out]; rfl, by rw [R.out]; rfl, B.out⟩
                case measure => simp [intOf]; omega
          · have hzd : decide (z ≤ 0) = true := by simp; omega
            have hno : ¬ Can ls left none k := fun h => hzz (HZ.1 h)
            clear HZ
            have R := Lib.hid (nxt_no (wear := wear) hno)
            go_wp2_with fail
            go_roundw
            case rel => exact ⟨k + 1, by omega, by go_num, by rw [R.out], by rw [R.out], B.out⟩
            case measure => simp [intOf]; omega
      · obtain rfl : k = ls.length := by omega
        go_wp2_with fail
        go_ret2
        exact ⟨rfl, b⟩
  | some q =>
    simp only [Option.getD_none, Option.getD_some, Option.isSome_none, Option.isSome_some]
    go_wp2_with fail
    go_loopw [10, 11, 22] (fun b y i wr => ∃ k : Nat, k ≤ ls.length ∧ i = .int .i64 (k : Int) ∧ b = .int .i64 (((nxt ls wear left (some q) k).getD 0 : Nat) : Int) ∧ y = .bool (nxt ls wear left (some q) k).isSome ∧ Below w.heap.size w wr) (fun _ _ i _ => ls.length - (intOf i).toNat)
    case atStart => exact ⟨0, by omega, rfl, rfl, rfl, b1⟩
    case round =>
      obtain ⟨k, hk, rfl, rfl, rfl, b⟩ := hrel
      by_cases hlt : k < ls.length
      · obtain ⟨l, hl⟩ : ∃ l, ls.getD k Lv.zero = l := ⟨_, rfl⟩
        obtain ⟨g, off, rfl, hg, c0, c1, c2, c3, c4, c5⟩ := (hr.below b).six hlt hl
        by_cases hkq : k = q
        · subst hkq
          have hno : ¬ Can ls left (some k) k := fun h => h.1 rfl
          have R := Lib.hid (nxt_no (wear := wear) hno)
          have B := Lib.hid (b.alloc b.size (.cells #[.int .i64 l.k, .int .u32 l.n, .slice l.A l.m l.c, .int .i64 l.cnt, .int .i64 l.e, .bool l.cl] 118))
          go_wp2_with fail
          go_roundw
          case rel => exact ⟨k + 1, by omega, by go_num, by rw [R.out], by rw [R.out], B.out⟩
          case measure => simp [intOf]; omega
        · have hne : ((k : Int) == (q : Int)) = false := by simp; omega
          have hsk : some q ≠ some k := fun h => hkq (by injection h with h; exact h.symm)
          clear hkq
          go_wp2_with fail
          refine (unused_any l _).mono ?_
          rintro e w2 ⟨rfl, b2⟩
          have B := Lib.hid ((b.alloc b.size (.cells #[.int .i64 l.k, .int .u32 l.n, .slice l.A l.m l.c, .int .i64 l.cnt, .int .i64 l.e, .bool l.cl] 118)).trans (b2.mono (b.alloc b.size _).size))
          obtain ⟨U, hU⟩ : ∃ U, unusedB l.cnt l.cl = U := ⟨_, rfl⟩
          have HU : U = true ↔ l.cnt = 0 ∧ l.cl = true := by rw [← hU]; simp [unusedB]
          rw [hU]
          clear hU c0 c1 c2 c3 c4 c5 b2
          cases U with
          | true =>
            have hcan : Can ls left (some q) k := ⟨hsk, .inl (by rw [hl]; exact HU.1 rfl)⟩
            clear HU
            have NC := Lib.hid (nxt_can (wear := wear) hcan)
            cases hx : nxt ls wear left (some q) k with
            | none =>
              have R := Lib.hid (NC.out.1 hx)
              go_wp2_with fail
              go_roundw
              case rel => exact ⟨k + 1, by omega, by go_num, by rw [R.out]; rfl, by rw [R.out]; rfl, B.out⟩
              case measure => simp [intOf]; omega
            | some d =>
              have hdk := nxt_lt hx
              have R2 := Lib.hid (NC.out.2 d hx)
              obtain ⟨x, hx1⟩ : ∃ x, wear.getD k 0 = x := ⟨_, rfl⟩
              obtain ⟨y, hy1⟩ : ∃ y, wear.getD d 0 = y := ⟨_, rfl⟩
              rw [hx1, hy1] at R2
              go_wp2_with fail
              refine (at_any Aw cw wear k _ hx1 (hw.below B.out) (by omega) lw).mono ?_
              rintro e w' ⟨rfl, rfl⟩
              go_wp2_with fail
              refine (at_any Aw cw wear d _ hy1 (hw.below B.out) (by omega) lw).mono ?_
              rintro e w' ⟨rfl, rfl⟩
              clear hx1 hy1
              by_cases hq : x < y
              · have hqd : decide (x < y) = true := by simpa using hq
                have R := Lib.hid (R2.out.1 hq)
                go_wp2_with fail
                go_roundw
                case rel => exact ⟨k + 1, by omega, by go_num, by rw [R.out]; rfl, by rw [R.out]; rfl, B.out⟩
                case measure => simp [intOf]; omega
              · have hqd : decide (x < y) = false := by simpa using hq
                have R := Lib.hid (R2.out.2 (by omega))
                go_wp2_with fail
                go_roundw
                case rel => exact ⟨k + 1, by omega, by go_num, by rw [R.out]; rfl, by rw [R.out]; rfl, B.out⟩
                case measure => simp [intOf]; omega
          | false =>
            obtain ⟨z, hz⟩ : ∃ z, left.getD k 0 = z := ⟨_, rfl⟩
            go_wp2_with fail
            refine (at_any Al cl left k _ hz (hf.below B.out) (by omega) lf).mono ?_
            rintro e w' ⟨rfl, rfl⟩
            have HZ : Can ls left (some q) k ↔ 0 < z := by
              unfold Can
              rw [hl, hz]
              have h2 : ¬ (l.cnt = 0 ∧ l.cl = true) := fun h => by have := HU.2 h; cases this
              constructor
              · rintro ⟨_, h | h⟩
                · exact absurd h h2
                · exact h
              · exact fun h => ⟨hsk, .inr h⟩
            clear HU hz
            by_cases hzz : 0 < z
            · have hzd : decide (z ≤ 0) = false := by simp; omega
              have hcan := HZ.2 hzz
              clear HZ
              have NC := Lib.hid (nxt_can (wear := wear) hcan)
              cases hx : nxt ls wear left (some q) k with
              | none =>
                have R := Lib.hid (NC.out.1 hx)
                go_wp2_with fail
                go_roundw
                case rel => exact ⟨k + 1, by omega, by go_num, by rw [R.out]; rfl, by rw [R.out]; rfl, B.out⟩
                case measure => simp [intOf]; omega
              | some d =>
                have hdk := nxt_lt hx
                have R2 := Lib.hid (NC.out.2 d hx)
                obtain ⟨x, hx1⟩ : ∃ x, wear.getD k 0 = x := ⟨_, rfl⟩
                obtain ⟨y, hy1⟩ : ∃ y, wear.getD d 0 = y := ⟨_, rfl⟩
                rw [hx1, hy1] at R2
                go_wp2_with fail
                refine (at_any Aw cw wear k _ hx1 (hw.below B.out) (by omega) lw).mono ?_
                rintro e w' ⟨rfl, rfl⟩
                go_wp2_with fail
                refine (at_any Aw cw wear d _ hy1 (hw.below B.out) (by omega) lw).mono ?_
                rintro e w' ⟨rfl, rfl⟩
                clear hx1 hy1
                by_cases hq : x < y
                · have hqd : decide (x < y) = true := by simpa using hq
                  have R := Lib.hid (R2.out.1 hq)
                  go_wp2_with fail
                  go_roundw
                  case rel => exact ⟨k + 1, by omega, by go_num, by rw [R.out]; rfl, by rw [R.out]; rfl, B.out⟩
                  case measure => simp [intOf]; omega
                · have hqd : decide (x < y) = false := by simpa using hq
                  have R := Lib.hid (R2.out.2 (by omega))
                  go_wp2_with fail
                  go_roundw
                  case rel => exact ⟨k + 1, by omega, by go_num, by rw [R.out]; rfl, by rw [R.out]; rfl, B.out⟩
                  case measure => simp [intOf]; omega
            · have hzd : decide (z ≤ 0) = true := by simp; omega
              have hno : ¬ Can ls left (some q) k := fun h => hzz (HZ.1 h)
              clear HZ
              have R := Lib.hid (nxt_no (wear := wear) hno)
              go_wp2_with fail
              go_roundw
              case rel => exact ⟨k + 1, by omega, by go_num, by rw [R.out], by rw [R.out], B.out⟩
              case measure => simp [intOf]; omega
      · obtain rfl : k = ls.length := by omega
        go_wp2_with fail
        go_ret2
        exact ⟨rfl, b⟩

end Sec
end Go.Proofs.Ytkkbjngjjeajoaa
