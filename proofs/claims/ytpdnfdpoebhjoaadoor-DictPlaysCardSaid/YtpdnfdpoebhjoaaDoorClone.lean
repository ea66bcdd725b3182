/-
  What bytes.Clone does.
-/
import Derived.Test.YtpdnfdpoebhjoaaDoorProg
import Derived.Test.YtpdnfdpoebhjoaaDoorMem
import Derived.WalkSpells
namespace Go.Proofs.YtpdnfdpoebhjoaaDoor
namespace Byt
open Go.RowKit Mem
set_option linter.unusedVariables false

theorem info_u8 : (Tryd.prog.info? 5).map (fun i => (i.zero, i.size, i.bytes)) = some (some (.int .u8 0), 1, 1) := by kernel_rfl
theorem own_empty (w : World) (t : TypeId) : Own (w.alloc (.cells #[] t)) w.heap.size t (.slice (some ⟨w.heap.size, 0, none⟩) 0 0) [] := by
  refine ⟨by simp [u8s], .inr ⟨w.heap.size, 0, #[], by simp, Nat.le_refl _, heap_alloc_new w _, by simp, by simp [maxLen], by simp, by simp [u8s]⟩⟩

theorem clone_any (A : Option Addr) (n c : Nat) (bs : List UInt8) (w : World) (hr : Rd w w.heap.size A bs) (hn : n = bs.length) (hle : n ≤ 1099511627776) :
    Calls Tryd.prog 23 #[.slice A n c] w (Made 5 w bs id) := by
  obtain ⟨i0, hi, hz0, hz1, hz2⟩ := info_parts info_u8
  have q : ∀ (w : World) (a : Option Addr) (n c n' c' : Nat), (binOp .eql 36 (.slice a n c) (.slice none n' c')).run Tryd.prog w = .ok (.bool a.isNone) w := fun w a n c n' c' => Lib.run_eql_slice_nil w _ _ a n c n' c' Tryd.underlying36
  cases A with
  | none =>
    obtain rfl : bs = [] := by
      rcases hr with h | ⟨g, off, h, _⟩
      · exact h
      · cases h
    go_enter Tryd.func23, Tryd.ntmps23
    go_wp2_with fail
    go_ret
    exact ⟨_, rfl, Own.nil _ _ _, Below.refl _ _⟩
  | some ad =>
    subst hn
    have b1 : Below w.heap.size w (w.alloc (.cells #[] 5)) := (Below.refl _ _).alloc (Nat.le_refl _) _
    have r1 := hr.below b1
    have o1 := own_empty w 5
    have B1 := Lib.hid b1
    clear b1 hr
    go_enter Tryd.func23, Tryd.ntmps23
    go_wp2_with (at_builtin; refine wpList_app _ rfl (.tmp 5) (.tmp 6) 36 rfl w.heap.size 5 i0 Tryd.underlying36 hi hz0 hz1 hz2 (.slice (some ⟨w.heap.size, 0, none⟩) 0 0) [] rfl o1 (some ad) bs.length c bs rfl rfl w.heap.size r1 (by simp; omega) B1.out.size ?_; intro v2 w2 o2 g2 t2; simp only [List.nil_append] at o2)
    go_ret
    exact ⟨v2, rfl, o2, B1.out.grown g2 B1.out.size (by simp [Value.ownBlock])⟩
end Byt
end Go.Proofs.YtpdnfdpoebhjoaaDoor
