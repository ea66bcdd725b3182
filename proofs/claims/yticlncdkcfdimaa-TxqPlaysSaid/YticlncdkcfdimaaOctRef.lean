/-
  What the document's functions for package octet do with bytes: digits, Join, Put, half, PutInt, Get, GetInt.
-/
import Derived.Test.YticlncdkcfdimaaProg
import Derived.Test.YticlncdkcfdimaaOctLay
import Derived.Test.YticlncdkcfdimaaOctGet
namespace Go.Proofs.Yticlncdkcfdimaa
open Go.RowKit Mem
set_option linter.unusedVariables false

set_option maxRecDepth 100000 in
set_option maxHeartbeats 400000 in
theorem join_any (A B : Option Addr) (n m c d X : Nat) (xs bs : List UInt8) (w : World) (ha : Rd w w.heap.size A xs) (hb : Rd w w.heap.size B bs) (hn : n = xs.length) (hm : m = bs.length) (hle : n ≤ 1099511627776) (hme : m ≤ 1099511627776) :
    Calls Try.prog 41 #[.slice A n c, .slice B m d] w (Made 5 w (xs ++ bs) id) := by
  subst hn
  subst hm
  obtain ⟨i0, hi, hz0, hz1, hz2⟩ := info_parts info_u8
  go_enter Try.func41, Try.ntmps41
  go_wp2_with (first
    | (at_builtin; refine wpList_app _ rfl (.tmp 6) (.tmp 7) 32 rfl w.heap.size 5 i0 Try.underlying32 hi hz0 hz1 hz2 (.slice none 0 0) [] rfl (Own.nil _ _ _) A xs.length c xs rfl rfl w.heap.size ha (by simp; omega) (Nat.le_refl _) ?_; intro v1 w1 o1 g1 t1; have b1 : Below w.heap.size w w1 := (Below.refl _ _).grown g1 (Nat.le_refl _) (by simp [Value.ownBlock]); have hb1 := hb.below b1; simp only [List.nil_append] at o1)
    | (at_builtin; refine wpList_app _ rfl (.tmp 9) (.tmp 10) 32 rfl w.heap.size 5 i0 Try.underlying32 hi hz0 hz1 hz2 v1 xs rfl o1 B bs.length d bs rfl rfl w.heap.size hb1 (by omega) b1.size ?_; intro v2 w2 o2 g2 t2))
  go_ret
  exact ⟨v2, rfl, o2, b1.grown g2 b1.size (fun g hg => (o1.lt g hg).1)⟩

end Go.Proofs.Yticlncdkcfdimaa
