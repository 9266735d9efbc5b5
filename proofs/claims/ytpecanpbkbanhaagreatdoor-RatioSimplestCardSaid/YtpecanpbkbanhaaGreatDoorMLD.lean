/-
  What the rows' lists give: the table of powers of ten, and both errors of package api.
  What the lists give besides: the table of math/bits that TrailingZeros64 looks up.
  What the lists of the laws on fractions give: both tables, and the cells of three errors.
-/
import Derived.Test.YtpecanpbkbanhaaGreatDoorMGA
import Derived.Test.YtpecanpbkbanhaaGreatDoorCards
import Derived.Test.YtpecanpbkbanhaaGreatDoorTie
import Derived.WalkKit
import Derived.ProofKit
import Derived.OpenShut
import Derived.Deep.DeepHandedRow
import Derived.Deep.DeepLaidRun
import Derived.Lib.LaidTab
import Derived.Lib.ItoaNum
import Derived.Stop.LaidErr
import Derived.Test.YtpecanpbkbanhaaGreatDoorProg
namespace Go.Proofs.YtpecanpbkbanhaaGreatDoor
open Go.RowKit Go.ChangeShapes Go.WideShapes Go.ChangeAt
theorem own : ownKnob Tryz.prog.godebug = none := by kernel_rfl
theorem gPow : Tryz.prog.globalNamed "internal/strconv.uint64pow10" = some 12 := by kernel_rfl
theorem gPowType : (Tryz.prog.globals[12]?).map (·.type) = some 286 := by kernel_rfl
theorem gText : Tryz.prog.globalNamed "optima/api.ErrText" = some 2 := by kernel_rfl
theorem gTextType : (Tryz.prog.globals[2]?).map (·.type) = some 33 := by kernel_rfl
theorem gBound : Tryz.prog.globalNamed "optima/api.ErrBound" = some 3 := by kernel_rfl
theorem gBoundType : (Tryz.prog.globals[3]?).map (·.type) = some 33 := by kernel_rfl
theorem cellsPow : Tryz.prog.cellsOf 286 = 20 := by kernel_rfl
theorem cellsU64 : Tryz.prog.cellsOf 143 = 1 := by kernel_rfl
theorem cellsErr : Tryz.prog.cellsOf 325 = 1 := by kernel_rfl
theorem cellsStr : Tryz.prog.cellsOf 9 = 1 := by kernel_rfl
theorem star : ("*" ++ "errors.errorString" : String) = "*errors.errorString" := by decide
theorem rowErr (u : TypeId) (h : Tryz.prog.typeName? 3 u = some "*errors.errorString") : u = 307 :=
  typeName_ptr_named (nm := "errors.errorString") (by rw [star]; kernel_rfl) (by kernel_rfl) (by decide) u (by rw [star]; exact h)
end Go.Proofs.YtpecanpbkbanhaaGreatDoor
namespace Go.Proofs.YtpecanpbkbanhaaGreatDoor
open Go.RowKit
theorem gDb : Tryz.prog.globalNamed "math/bits.deBruijn64tab" = some 10 := by kernel_rfl
theorem gDbType : (Tryz.prog.globals[10]?).map (·.type) = some 257 := by kernel_rfl
theorem cellsDb : Tryz.prog.cellsOf 257 = 64 := by kernel_rfl
theorem cellsU8 : Tryz.prog.cellsOf 5 = 1 := by kernel_rfl
theorem laid_tab64 {r : List (String × DataW Unit)} {W : World} {a : String × DataW Unit} (h : laidMet Tryz.prog (a :: ("math/bits.deBruijn64tab", Rows.laid_math_bits_deBruijn64tab) :: r) W) : Tab64 W := by
  have ht : Lib.TabIs Tryz.prog W "math/bits.deBruijn64tab" .u8 (Lib.deBruijn64tab.map fun (n : Nat) => (n : Int)) :=
    Lib.tabIs_of_head gDb gDbType Tryz.underlying257 Tryz.underlying5 cellsU8 cellsDb h.tail
  intro j hj
  have h2 := ht.cell gDb j (by rw [List.length_map]; exact hj)
  rw [h2]
  congr 2
  simp [List.getD, hj]
end Go.Proofs.YtpecanpbkbanhaaGreatDoor
namespace Go.Proofs.YtpecanpbkbanhaaGreatDoor
open Go.RowKit
theorem gZero : Tryz.prog.globalNamed "optima/api.ErrZero" = some 4 := by kernel_rfl
theorem gZeroType : (Tryz.prog.globals[4]?).map (·.type) = some 33 := by kernel_rfl
/-- What the list gives: the table of powers of ten, and the cells of three errors. -/
theorem laid_facts3 {r : List (String × DataW Unit)} {W : World} {a b : String × DataW Unit}
    (h : laidMet Tryz.prog (a :: b :: ("internal/strconv.uint64pow10", Rows.laid_internal_strconv_uint64pow10) :: ("optima/api.ErrText", Rows.laid_optima_api_ErrText) :: ("optima/api.ErrBound", Rows.laid_optima_api_ErrBound) :: ("optima/api.ErrZero", Rows.laid_optima_api_ErrZero) :: r) W) :
    ∃ A : Nat → Addr, Lib.TabIs Tryz.prog W "internal/strconv.uint64pow10" .u64 Lib.pow10Tab ∧ W.cell? ⟨2, 0, none⟩ = some (.iface 307 (.pointer (some (A 0)))) ∧ W.cell? ⟨3, 0, none⟩ = some (.iface 307 (.pointer (some (A 1)))) ∧ W.cell? ⟨4, 0, none⟩ = some (.iface 307 (.pointer (some (A 2)))) := by
  obtain ⟨a0, s0, hv0, -, -, -⟩ := laid_sentinel h.tail.tail.tail gText gTextType Tryz.underlying33 rowErr Tryz.underlying307 Tryz.underlying325 rfl rfl Tryz.underlying9 cellsErr cellsStr
  obtain ⟨a1, s1, hv1, -, -, -⟩ := laid_sentinel h.tail.tail.tail.tail gBound gBoundType Tryz.underlying33 rowErr Tryz.underlying307 Tryz.underlying325 rfl rfl Tryz.underlying9 cellsErr cellsStr
  obtain ⟨a2, s2, hv2, -, -, -⟩ := laid_sentinel h.tail.tail.tail.tail.tail gZero gZeroType Tryz.underlying33 rowErr Tryz.underlying307 Tryz.underlying325 rfl rfl Tryz.underlying9 cellsErr cellsStr
  have c0 := World.var?_cell gText hv0 0
  have c1 := World.var?_cell gBound hv1 0
  have c2 := World.var?_cell gZero hv2 0
  refine ⟨fun j => match j with | 0 => a0 | 1 => a1 | _ => a2, Lib.tabIs_of_head gPow gPowType Tryz.underlying286 Tryz.underlying143 cellsU64 cellsPow h.tail.tail, ?_, ?_, ?_⟩
  · simpa using c0
  · simpa using c1
  · simpa using c2
end Go.Proofs.YtpecanpbkbanhaaGreatDoor
