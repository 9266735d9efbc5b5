/-
  What the rows' lists give: the table of powers of ten, and both errors of package api.
  What the lists give besides: the table of math/bits that TrailingZeros64 looks up.
  What the lists of the laws on fractions give: both tables, and the cells of three errors.
-/
import Derived.Test.YtmhebjeefdanmaaGreatDoorMGA
import Derived.Test.YtmhebjeefdanmaaGreatDoorCards
import Derived.Test.YtmhebjeefdanmaaGreatDoorTie
import Derived.WalkKit
import Derived.ProofKit
import Derived.OpenShut
import Derived.Deep.DeepHandedRow
import Derived.Deep.DeepLaidRun
import Derived.Lib.LaidTab
import Derived.Lib.ItoaNum
import Derived.Stop.LaidErr
import Derived.Test.YtmhebjeefdanmaaGreatDoorProg
namespace Go.Proofs.YtmhebjeefdanmaaGreatDoor
open Go.RowKit Go.ChangeShapes Go.WideShapes Go.ChangeAt

theorem own : ownKnob Tryz.prog.godebug = none := by kernel_rfl
theorem gPow : Tryz.prog.globalNamed "internal/strconv.uint64pow10" = some 12 := by kernel_rfl
theorem gPowType : (Tryz.prog.globals[12]?).map (·.type) = some 213 := by kernel_rfl
theorem gText : Tryz.prog.globalNamed "optima/api.ErrText" = some 0 := by kernel_rfl
theorem gTextType : (Tryz.prog.globals[0]?).map (·.type) = some 33 := by kernel_rfl
theorem gBound : Tryz.prog.globalNamed "optima/api.ErrBound" = some 1 := by kernel_rfl
theorem gBoundType : (Tryz.prog.globals[1]?).map (·.type) = some 33 := by kernel_rfl
theorem cellsPow : Tryz.prog.cellsOf 213 = 20 := by kernel_rfl
theorem cellsU64 : Tryz.prog.cellsOf 105 = 1 := by kernel_rfl
theorem cellsErr : Tryz.prog.cellsOf 252 = 1 := by kernel_rfl
theorem cellsStr : Tryz.prog.cellsOf 9 = 1 := by kernel_rfl
theorem star : ("*" ++ "errors.errorString" : String) = "*errors.errorString" := by decide
theorem rowErr (u : TypeId) (h : Tryz.prog.typeName? 3 u = some "*errors.errorString") : u = 234 :=
  typeName_ptr_named (nm := "errors.errorString") (by rw [star]; kernel_rfl) (by kernel_rfl) (by decide) u (by rw [star]; exact h)

/-- What the list gives: the table of powers of ten, and the cells of both errors. -/
theorem laid_facts {r : List (String × DataW Unit)} {W : World} {a b : String × DataW Unit}
    (h : laidMet Tryz.prog (a :: b :: ("internal/strconv.uint64pow10", Rows.laid_internal_strconv_uint64pow10) :: ("optima/api.ErrText", Rows.laid_optima_api_ErrText) :: ("optima/api.ErrBound", Rows.laid_optima_api_ErrBound) :: r) W) :
    Lib.TabIs Tryz.prog W "internal/strconv.uint64pow10" .u64 Lib.pow10Tab ∧ (∃ t p, W.cell? ⟨0, 0, none⟩ = some (.iface t p)) ∧ (∃ t p, W.cell? ⟨1, 0, none⟩ = some (.iface t p)) := by
  refine ⟨Lib.tabIs_of_head gPow gPowType Tryz.underlying213 Tryz.underlying105 cellsU64 cellsPow h.tail.tail, ?_, ?_⟩
  · obtain ⟨a0, s0, hv0, -, -, -⟩ := laid_sentinel h.tail.tail.tail gText gTextType Tryz.underlying33 rowErr Tryz.underlying234 Tryz.underlying252 rfl rfl Tryz.underlying9 cellsErr cellsStr
    exact ⟨_, _, by have h0 := World.var?_cell gText hv0 0; simpa using h0⟩
  · obtain ⟨a0, s0, hv0, -, -, -⟩ := laid_sentinel h.tail.tail.tail.tail gBound gBoundType Tryz.underlying33 rowErr Tryz.underlying234 Tryz.underlying252 rfl rfl Tryz.underlying9 cellsErr cellsStr
    exact ⟨_, _, by have h0 := World.var?_cell gBound hv0 0; simpa using h0⟩
end Go.Proofs.YtmhebjeefdanmaaGreatDoor
namespace Go.Proofs.YtmhebjeefdanmaaGreatDoor
open Go.RowKit

theorem gDb : Tryz.prog.globalNamed "math/bits.deBruijn64tab" = some 10 := by kernel_rfl
theorem gDbType : (Tryz.prog.globals[10]?).map (·.type) = some 184 := by kernel_rfl
theorem cellsDb : Tryz.prog.cellsOf 184 = 64 := by kernel_rfl
theorem cellsU8 : Tryz.prog.cellsOf 5 = 1 := by kernel_rfl
theorem laid_tab64 {r : List (String × DataW Unit)} {W : World} {a : String × DataW Unit} (h : laidMet Tryz.prog (a :: ("math/bits.deBruijn64tab", Rows.laid_math_bits_deBruijn64tab) :: r) W) : Tab64 W := by
  have ht : Lib.TabIs Tryz.prog W "math/bits.deBruijn64tab" .u8 (Lib.deBruijn64tab.map fun (n : Nat) => (n : Int)) :=
    Lib.tabIs_of_head gDb gDbType Tryz.underlying184 Tryz.underlying5 cellsU8 cellsDb h.tail
  intro j hj
  have h2 := ht.cell gDb j (by rw [List.length_map]; exact hj)
  rw [h2]
  congr 2
  simp [List.getD, hj]
end Go.Proofs.YtmhebjeefdanmaaGreatDoor
namespace Go.Proofs.YtmhebjeefdanmaaGreatDoor
open Go.RowKit

theorem gZero : Tryz.prog.globalNamed "optima/api.ErrZero" = some 2 := by kernel_rfl
theorem gZeroType : (Tryz.prog.globals[2]?).map (·.type) = some 33 := by kernel_rfl
/-- What the list gives: the table of powers of ten, and the cells of three errors. -/
theorem laid_facts3 {r : List (String × DataW Unit)} {W : World} {a b : String × DataW Unit}
    (h : laidMet Tryz.prog (a :: b :: ("internal/strconv.uint64pow10", Rows.laid_internal_strconv_uint64pow10) :: ("optima/api.ErrText", Rows.laid_optima_api_ErrText) :: ("optima/api.ErrBound", Rows.laid_optima_api_ErrBound) :: ("optima/api.ErrZero", Rows.laid_optima_api_ErrZero) :: r) W) :
    ∃ A : Nat → Addr, Lib.TabIs Tryz.prog W "internal/strconv.uint64pow10" .u64 Lib.pow10Tab ∧ W.cell? ⟨0, 0, none⟩ = some (.iface 234 (.pointer (some (A 0)))) ∧ W.cell? ⟨1, 0, none⟩ = some (.iface 234 (.pointer (some (A 1)))) ∧ W.cell? ⟨2, 0, none⟩ = some (.iface 234 (.pointer (some (A 2)))) := by
  obtain ⟨a0, s0, hv0, -, -, -⟩ := laid_sentinel h.tail.tail.tail gText gTextType Tryz.underlying33 rowErr Tryz.underlying234 Tryz.underlying252 rfl rfl Tryz.underlying9 cellsErr cellsStr
  obtain ⟨a1, s1, hv1, -, -, -⟩ := laid_sentinel h.tail.tail.tail.tail gBound gBoundType Tryz.underlying33 rowErr Tryz.underlying234 Tryz.underlying252 rfl rfl Tryz.underlying9 cellsErr cellsStr
  obtain ⟨a2, s2, hv2, -, -, -⟩ := laid_sentinel h.tail.tail.tail.tail.tail gZero gZeroType Tryz.underlying33 rowErr Tryz.underlying234 Tryz.underlying252 rfl rfl Tryz.underlying9 cellsErr cellsStr
  have c0 := World.var?_cell gText hv0 0
  have c1 := World.var?_cell gBound hv1 0
  have c2 := World.var?_cell gZero hv2 0
  refine ⟨fun j => match j with | 0 => a0 | 1 => a1 | _ => a2, Lib.tabIs_of_head gPow gPowType Tryz.underlying213 Tryz.underlying105 cellsU64 cellsPow h.tail.tail, ?_, ?_, ?_⟩
  · simpa using c0
  · simpa using c1
  · simpa using c2
end Go.Proofs.YtmhebjeefdanmaaGreatDoor
