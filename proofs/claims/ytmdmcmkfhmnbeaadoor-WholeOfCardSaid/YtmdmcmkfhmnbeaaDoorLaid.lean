/-
  What the rows' lists give: the table of powers of ten, and both errors of package api.
-/
import Derived.Test.YtmdmcmkfhmnbeaaDoorCards
import Derived.Test.YtmdmcmkfhmnbeaaDoorTie
import Derived.WalkKit
import Derived.ProofKit
import Derived.OpenShut
import Derived.Deep.DeepHandedRow
import Derived.Deep.DeepLaidRun
import Derived.Lib.LaidTab
import Derived.Lib.ItoaNum
import Derived.Stop.LaidErr
import Derived.Test.YtmdmcmkfhmnbeaaDoorProg
namespace Go.Proofs.YtmdmcmkfhmnbeaaDoor
open Go.RowKit Go.ChangeShapes Go.WideShapes Go.ChangeAt

theorem own : ownKnob Tryd.prog.godebug = none := by kernel_rfl
theorem gPow : Tryd.prog.globalNamed "internal/strconv.uint64pow10" = some 11 := by kernel_rfl
theorem gPowType : (Tryd.prog.globals[11]?).map (·.type) = some 156 := by kernel_rfl
theorem gText : Tryd.prog.globalNamed "optima/api.ErrText" = some 0 := by kernel_rfl
theorem gTextType : (Tryd.prog.globals[0]?).map (·.type) = some 24 := by kernel_rfl
theorem gBound : Tryd.prog.globalNamed "optima/api.ErrBound" = some 2 := by kernel_rfl
theorem gBoundType : (Tryd.prog.globals[2]?).map (·.type) = some 24 := by kernel_rfl
theorem cellsPow : Tryd.prog.cellsOf 156 = 20 := by kernel_rfl
theorem cellsU64 : Tryd.prog.cellsOf 63 = 1 := by kernel_rfl
theorem cellsErr : Tryd.prog.cellsOf 183 = 1 := by kernel_rfl
theorem cellsStr : Tryd.prog.cellsOf 9 = 1 := by kernel_rfl
theorem star : ("*" ++ "errors.errorString" : String) = "*errors.errorString" := by decide
theorem rowErr (u : TypeId) (h : Tryd.prog.typeName? 3 u = some "*errors.errorString") : u = 165 :=
  typeName_ptr_named (nm := "errors.errorString") (by rw [star]; kernel_rfl) (by kernel_rfl) (by decide) u (by rw [star]; exact h)

/-- What the list gives: the table of powers of ten, and the cells of both errors. -/
theorem laid_facts {r : List (String × DataW Unit)} {W : World} {a b : String × DataW Unit}
    (h : laidMet Tryd.prog (a :: b :: ("internal/strconv.uint64pow10", Rows.laid_internal_strconv_uint64pow10) :: ("optima/api.ErrText", Rows.laid_optima_api_ErrText) :: ("optima/api.ErrBound", Rows.laid_optima_api_ErrBound) :: r) W) :
    Lib.TabIs Tryd.prog W "internal/strconv.uint64pow10" .u64 Lib.pow10Tab ∧ (∃ t p, W.cell? ⟨0, 0, none⟩ = some (.iface t p)) ∧ (∃ t p, W.cell? ⟨2, 0, none⟩ = some (.iface t p)) := by
  refine ⟨Lib.tabIs_of_head gPow gPowType Tryd.underlying156 Tryd.underlying63 cellsU64 cellsPow h.tail.tail, ?_, ?_⟩
  · obtain ⟨a0, s0, hv0, -, -, -⟩ := laid_sentinel h.tail.tail.tail gText gTextType Tryd.underlying24 rowErr Tryd.underlying165 Tryd.underlying183 rfl rfl Tryd.underlying9 cellsErr cellsStr
    exact ⟨_, _, by have h0 := World.var?_cell gText hv0 0; simpa using h0⟩
  · obtain ⟨a0, s0, hv0, -, -, -⟩ := laid_sentinel h.tail.tail.tail.tail gBound gBoundType Tryd.underlying24 rowErr Tryd.underlying165 Tryd.underlying183 rfl rfl Tryd.underlying9 cellsErr cellsStr
    exact ⟨_, _, by have h0 := World.var?_cell gBound hv0 0; simpa using h0⟩
end Go.Proofs.YtmdmcmkfhmnbeaaDoor
