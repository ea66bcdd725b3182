/-
  Right of the document.
-/
import Derived.Test.YtpdnfdpoebhjoaaDoorEntRRn
import Derived.Test.YtpdnfdpoebhjoaaDoorEntRRo
namespace Go.Proofs.YtpdnfdpoebhjoaaDoor
namespace Ent
open Go.RowKit Mem
set_option linter.unusedVariables false
set_option linter.unusedSimpArgs false
set_option maxRecDepth 100000

theorem rright_any (ix sub : Int) (nm : List UInt8) (ty ac : Int) (mp st : Bool) (mx lo hi : Int) (A : Option Addr) (n c B : Nat) (bs : List UInt8) (w : World) (hl : nm.length ≤ 1099511627776) (hm0 : -9223372036854775808 ≤ mx) (hm1 : mx ≤ 9223372036854775807)
    (hB : B ≤ w.heap.size) (hr : Rd w B A bs) (hn : n = bs.length) (hle : n ≤ 1099511627776) :
    Calls Tryd.prog 24 #[ent ix sub nm ty ac mp st mx lo hi (.slice A n c)] w fun e w' => e = .returned (.int .i64 (rightN ix sub nm ty ac mp st mx lo hi bs)) ∧ Below w.heap.size w w' := by
  by_cases h : (ix < 1 ∨ 65535 < ix ∨ sub < 0 ∨ 255 < sub) ∨ nameB nm = false ∨ Typ.known ty = false ∨ ac < 1 ∨ 4 < ac
  · exact rright_a ix sub nm ty ac mp st mx lo hi A n c B bs w hl hm0 hm1 hB hr hn hle h
  · have p0 : ¬ ix < 1 := fun e => h (.inl (.inl e))
    have p1 : ¬ 65535 < ix := fun e => h (.inl (.inr (.inl e)))
    have p2 : ¬ sub < 0 := fun e => h (.inl (.inr (.inr (.inl e))))
    have p3 : ¬ 255 < sub := fun e => h (.inl (.inr (.inr (.inr e))))
    have h2 : nameB nm = true := by cases e : nameB nm with
      | true => rfl
      | false => exact absurd (.inr (.inl e)) h
    have h3 : Typ.known ty = true := by cases e : Typ.known ty with
      | true => rfl
      | false => exact absurd (.inr (.inr (.inl e))) h
    have a0 : ¬ ac < 1 := fun e => h (.inr (.inr (.inr (.inl e))))
    have a1 : ¬ 4 < ac := fun e => h (.inr (.inr (.inr (.inr e))))
    cases hnum : Typ.isNum ty with
    | true => exact rright_n ix sub nm ty ac mp st mx lo hi A n c B bs w hl hm0 hm1 hB hr hn hle (place_in p0 p1 p2 p3) h2 h3 p0 p1 p2 p3 a0 a1 hnum
    | false => exact rright_o ix sub nm ty ac mp st mx lo hi A n c B bs w hl hm0 hm1 hB hr hn hle (place_in p0 p1 p2 p3) h2 h3 p0 p1 p2 p3 a0 a1 hnum
end Ent
end Go.Proofs.YtpdnfdpoebhjoaaDoor
