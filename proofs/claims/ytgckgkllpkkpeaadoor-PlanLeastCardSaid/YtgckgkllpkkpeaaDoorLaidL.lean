/-
  What the list of a law on ints gives: the cells of ten errors, the handle of the type error; and a world that holds them.
-/
import Derived.Test.YtgckgkllpkkpeaaDoorCards
import Derived.Test.YtgckgkllpkkpeaaDoorTie
import Derived.WalkKit
import Derived.ProofKit
import Derived.OpenShut
import Derived.Deep.DeepHandedRow
import Derived.Deep.DeepLaidRun
import Derived.LaidHandle
import Derived.Stop.LaidErr
import Derived.Test.YtgckgkllpkkpeaaDoorE3
namespace Go.Proofs.YtgckgkllpkkpeaaDoor
open Go.RowKit Go.ChangeShapes Go.WideShapes Go.ChangeAt

theorem own : ownKnob Tryd.prog.godebug = none := by kernel_rfl
theorem cellsErr : Tryd.prog.cellsOf 136 = 1 := by kernel_rfl
theorem cellsStr : Tryd.prog.cellsOf 9 = 1 := by kernel_rfl
theorem star : ("*" ++ "errors.errorString" : String) = "*errors.errorString" := by decide
theorem rowErr (u : TypeId) (h : Tryd.prog.typeName? 3 u = some "*errors.errorString") : u = 114 :=
  typeName_ptr_named (nm := "errors.errorString") (by rw [star]; kernel_rfl) (by kernel_rfl) (by decide) u (by rw [star]; exact h)
theorem gErrText : Tryd.prog.globalNamed "optima/api.ErrText" = some 1 := by kernel_rfl
theorem tErrText : (Tryd.prog.globals[1]?).map (·.type) = some 27 := by kernel_rfl
theorem gErrBound : Tryd.prog.globalNamed "optima/api.ErrBound" = some 0 := by kernel_rfl
theorem tErrBound : (Tryd.prog.globals[0]?).map (·.type) = some 27 := by kernel_rfl
theorem gErrZero : Tryd.prog.globalNamed "optima/api.ErrZero" = some 2 := by kernel_rfl
theorem tErrZero : (Tryd.prog.globals[2]?).map (·.type) = some 27 := by kernel_rfl
theorem gErrShape : Tryd.prog.globalNamed "optima/api.ErrShape" = some 3 := by kernel_rfl
theorem tErrShape : (Tryd.prog.globals[3]?).map (·.type) = some 27 := by kernel_rfl
theorem gErrSingular : Tryd.prog.globalNamed "optima/api.ErrSingular" = some 4 := by kernel_rfl
theorem tErrSingular : (Tryd.prog.globals[4]?).map (·.type) = some 27 := by kernel_rfl
theorem gErrSense : Tryd.prog.globalNamed "optima/api.ErrSense" = some 5 := by kernel_rfl
theorem tErrSense : (Tryd.prog.globals[5]?).map (·.type) = some 27 := by kernel_rfl
theorem gErrName : Tryd.prog.globalNamed "optima/api.ErrName" = some 6 := by kernel_rfl
theorem tErrName : (Tryd.prog.globals[6]?).map (·.type) = some 27 := by kernel_rfl
theorem gErrNumber : Tryd.prog.globalNamed "optima/api.ErrNumber" = some 7 := by kernel_rfl
theorem tErrNumber : (Tryd.prog.globals[7]?).map (·.type) = some 27 := by kernel_rfl
theorem gErrBasis : Tryd.prog.globalNamed "optima/api.ErrBasis" = some 8 := by kernel_rfl
theorem tErrBasis : (Tryd.prog.globals[8]?).map (·.type) = some 27 := by kernel_rfl
theorem gErrOpen : Tryd.prog.globalNamed "optima/api.ErrOpen" = some 9 := by kernel_rfl
theorem tErrOpen : (Tryd.prog.globals[9]?).map (·.type) = some 27 := by kernel_rfl
theorem gHandle : Tryd.prog.globalNamed "errors.errorType" = some 10 := by kernel_rfl
theorem rtHandle : (Tryd.prog.cutTypes.find? (·.1 == "internal/reflectlite.rtype")).map (·.2) = some 99 := by kernel_rfl
theorem oneRow : ((List.range Tryd.prog.types.size).filter fun t => Tryd.prog.rowNamed t [101, 114, 114, 111, 114]) = [27] := by kernel_rfl

set_option maxRecDepth 100000 in
/-- An error that the list lays first: where it lies. -/
theorem sent_of {n nm : String} {text : List UInt8} {r : List (String × DataW Unit)} {W : World} {g : Nat} (hnm : nm = "*errors.errorString")
    (h : laidMet Tryd.prog ((n, .iface nm (.ptr (.agg [.lit (.string text)]))) :: r) W) (hg : Tryd.prog.globalNamed n = some g) (ht : (Tryd.prog.globals[g]?).map (·.type) = some 27) :
    ∃ (a : Addr) (s : ByteArray) (c : Array Value) (t : TypeId), W.cell? ⟨g, 0, none⟩ = some (.iface 114 (.pointer (some a))) ∧ W.cell? a = some (.string s) ∧ s.data.toList = text ∧ W.heap[a.block]? = some (.cells c t (0, 0)) := by
  subst hnm
  obtain ⟨ps, ⟨g0, t0, cs0, f0, p0, q0, hg0, ht0, hv0, hd0, _, e0⟩, _, hrows⟩ := h
  obtain rfl := Option.some.inj (hg.symm.trans hg0)
  obtain rfl := Option.some.inj (ht.symm.trans ht0)
  subst e0
  obtain ⟨l0⟩ := cs0
  have ok0 : ∀ u v, l0 = [.iface u v] → Value.okWide Tryd.prog W .any 0 u v := fun u v e => by
    subst e
    exact (hrows g 0 (by simp [MemPlace.row])).2 u v (by simpa using World.var?_cell hg0 hv0 0)
  obtain ⟨a0, s0, rfl, hc0, hs0, hz0, rfl⟩ := errorString_of_trod Tryd.underlying27 rowErr Tryd.underlying114 Tryd.underlying136 rfl rfl Tryd.underlying9 cellsErr cellsStr hd0 ok0
  obtain ⟨c, t, hb⟩ := (hrows a0.block a0.off (by simp [MemPlace.row])).1
  exact ⟨a0, s0, c, t, by simpa using World.var?_cell hg0 hv0 0, hc0, hs0, hb⟩
/-- The text of an error, as a row lists it. -/
def textOf : DataW Unit → List UInt8
  | .iface _ (.ptr (.agg [.lit (.string s)])) => s
  | _ => []
def txt : Nat → List UInt8
  | 0 => textOf Rows.laid_optima_api_ErrText
  | 1 => textOf Rows.laid_optima_api_ErrBound
  | 2 => textOf Rows.laid_optima_api_ErrZero
  | 3 => textOf Rows.laid_optima_api_ErrShape
  | 4 => textOf Rows.laid_optima_api_ErrSingular
  | 5 => textOf Rows.laid_optima_api_ErrSense
  | 6 => textOf Rows.laid_optima_api_ErrName
  | 7 => textOf Rows.laid_optima_api_ErrNumber
  | 8 => textOf Rows.laid_optima_api_ErrBasis
  | _ => textOf Rows.laid_optima_api_ErrOpen
set_option maxRecDepth 100000 in
theorem txt_apart : ∀ i, i < 10 → ∀ j, j < 10 → i ≠ j → txt i ≠ txt j := by decide
set_option maxRecDepth 100000 in
theorem laid_sents {W : World} (h : laidMetH Tryd.prog Rows.planLeastRow.laid W) : ∃ A, Sents W A := by
  have h' : laidMet Tryd.prog [("optima/api.ErrText", Rows.laid_optima_api_ErrText), ("optima/api.ErrBound", Rows.laid_optima_api_ErrBound), ("optima/api.ErrZero", Rows.laid_optima_api_ErrZero), ("optima/api.ErrShape", Rows.laid_optima_api_ErrShape), ("optima/api.ErrSingular", Rows.laid_optima_api_ErrSingular), ("optima/api.ErrSense", Rows.laid_optima_api_ErrSense), ("optima/api.ErrName", Rows.laid_optima_api_ErrName), ("optima/api.ErrNumber", Rows.laid_optima_api_ErrNumber), ("optima/api.ErrBasis", Rows.laid_optima_api_ErrBasis), ("optima/api.ErrOpen", Rows.laid_optima_api_ErrOpen)] W ∧ handlesMet Tryd.prog [("errors.errorType", Rows.laid_errors_errorType)] W := h
  obtain ⟨a0, s0, c0, t0, v0, x0, y0, z0⟩ := sent_of rfl h'.1 gErrText tErrText
  obtain ⟨a1, s1, c1, t1, v1, x1, y1, z1⟩ := sent_of rfl h'.1.tail gErrBound tErrBound
  obtain ⟨a2, s2, c2, t2, v2, x2, y2, z2⟩ := sent_of rfl h'.1.tail.tail gErrZero tErrZero
  obtain ⟨a3, s3, c3, t3, v3, x3, y3, z3⟩ := sent_of rfl h'.1.tail.tail.tail gErrShape tErrShape
  obtain ⟨a4, s4, c4, t4, v4, x4, y4, z4⟩ := sent_of rfl h'.1.tail.tail.tail.tail gErrSingular tErrSingular
  obtain ⟨a5, s5, c5, t5, v5, x5, y5, z5⟩ := sent_of rfl h'.1.tail.tail.tail.tail.tail gErrSense tErrSense
  obtain ⟨a6, s6, c6, t6, v6, x6, y6, z6⟩ := sent_of rfl h'.1.tail.tail.tail.tail.tail.tail gErrName tErrName
  obtain ⟨a7, s7, c7, t7, v7, x7, y7, z7⟩ := sent_of rfl h'.1.tail.tail.tail.tail.tail.tail.tail gErrNumber tErrNumber
  obtain ⟨a8, s8, c8, t8, v8, x8, y8, z8⟩ := sent_of rfl h'.1.tail.tail.tail.tail.tail.tail.tail.tail gErrBasis tErrBasis
  obtain ⟨a9, s9, c9, t9, v9, x9, y9, z9⟩ := sent_of rfl h'.1.tail.tail.tail.tail.tail.tail.tail.tail.tail gErrOpen tErrOpen
  have hh : W.cell? ⟨10, 0, none⟩ = some (.iface 99 (.agg #[.pointer (some ⟨11, 27, none⟩)])) := by
    obtain ⟨name, u, ty, e1, e2, e3, e4, e5⟩ := h'.2 _ (List.mem_singleton.2 rfl)
    have en : name = [101, 114, 114, 111, 114] := (Option.some.inj e1).symm
    subst en
    obtain rfl := Option.some.inj (rtHandle.symm.trans e2)
    have hm : ty ∈ (List.range Tryd.prog.types.size).filter fun t => Tryd.prog.rowNamed t [101, 114, 114, 111, 114] := List.mem_filter.2 ⟨List.mem_range.2 e3, e4⟩
    rw [oneRow] at hm
    obtain rfl := List.mem_singleton.1 hm
    have hq : typeHandle Tryd.prog 27 = .pointer (some ⟨11, 27, none⟩) := by kernel_rfl
    rw [hq] at e5
    simpa using World.var?_cell gHandle e5 0
  let A : Nat → Addr := fun j => match j with
    | 0 => a0
    | 1 => a1
    | 2 => a2
    | 3 => a3
    | 4 => a4
    | 5 => a5
    | 6 => a6
    | 7 => a7
    | 8 => a8
    | _ => a9
  have hT : ∀ j, j < 10 → ∃ s, W.cell? (A j) = some (.string s) ∧ s.data.toList = txt j := by
    intro j hj
    rcases (by omega : j = 0 ∨ j = 1 ∨ j = 2 ∨ j = 3 ∨ j = 4 ∨ j = 5 ∨ j = 6 ∨ j = 7 ∨ j = 8 ∨ j = 9) with rfl | rfl | rfl | rfl | rfl | rfl | rfl | rfl | rfl | rfl
    · exact ⟨s0, x0, y0⟩
    · exact ⟨s1, x1, y1⟩
    · exact ⟨s2, x2, y2⟩
    · exact ⟨s3, x3, y3⟩
    · exact ⟨s4, x4, y4⟩
    · exact ⟨s5, x5, y5⟩
    · exact ⟨s6, x6, y6⟩
    · exact ⟨s7, x7, y7⟩
    · exact ⟨s8, x8, y8⟩
    · exact ⟨s9, x9, y9⟩
  refine ⟨A, v0, v1, v2, v3, v4, v5, v6, v7, v8, v9, ?_, ?_, hh⟩
  · intro j hj
    rcases (by omega : j = 0 ∨ j = 1 ∨ j = 2 ∨ j = 3 ∨ j = 4 ∨ j = 5 ∨ j = 6 ∨ j = 7 ∨ j = 8 ∨ j = 9) with rfl | rfl | rfl | rfl | rfl | rfl | rfl | rfl | rfl | rfl
    · exact ⟨c0, t0, z0⟩
    · exact ⟨c1, t1, z1⟩
    · exact ⟨c2, t2, z2⟩
    · exact ⟨c3, t3, z3⟩
    · exact ⟨c4, t4, z4⟩
    · exact ⟨c5, t5, z5⟩
    · exact ⟨c6, t6, z6⟩
    · exact ⟨c7, t7, z7⟩
    · exact ⟨c8, t8, z8⟩
    · exact ⟨c9, t9, z9⟩
  · intro i j hi hj hne e
    obtain ⟨s, e1, e2⟩ := hT i hi
    obtain ⟨u, f1, f2⟩ := hT j hj
    rw [e, f1] at e1
    have : u = s := by simpa using e1
    subst this
    exact txt_apart i hi j hj hne (e2.symm.trans f2)

def put (cs : Array Value) : Obj → Obj
  | .cells _ t frozen => .cells cs t frozen
  | o => o
/-- A world for the witness: the settled one, the variables holding what their initialisers lay. -/
noncomputable def low : Nat := (World.holding Tryd.prog default ⟨#[], #[], []⟩).heap.size
noncomputable def laidWorld (os : Os) : World :=
  let w0 := World.holding Tryd.prog os ⟨#[.cells #[.string ⟨(txt 0).toArray⟩] 136, .cells #[.string ⟨(txt 1).toArray⟩] 136, .cells #[.string ⟨(txt 2).toArray⟩] 136, .cells #[.string ⟨(txt 3).toArray⟩] 136, .cells #[.string ⟨(txt 4).toArray⟩] 136, .cells #[.string ⟨(txt 5).toArray⟩] 136, .cells #[.string ⟨(txt 6).toArray⟩] 136, .cells #[.string ⟨(txt 7).toArray⟩] 136, .cells #[.string ⟨(txt 8).toArray⟩] 136, .cells #[.string ⟨(txt 9).toArray⟩] 136], #[], []⟩
  { w0 with heap := (((((((((((w0.heap).modify 1 (put #[.iface 114 (.pointer (some ⟨low + 0, 0, none⟩))])).modify 0 (put #[.iface 114 (.pointer (some ⟨low + 1, 0, none⟩))])).modify 2 (put #[.iface 114 (.pointer (some ⟨low + 2, 0, none⟩))])).modify 3 (put #[.iface 114 (.pointer (some ⟨low + 3, 0, none⟩))])).modify 4 (put #[.iface 114 (.pointer (some ⟨low + 4, 0, none⟩))])).modify 5 (put #[.iface 114 (.pointer (some ⟨low + 5, 0, none⟩))])).modify 6 (put #[.iface 114 (.pointer (some ⟨low + 6, 0, none⟩))])).modify 7 (put #[.iface 114 (.pointer (some ⟨low + 7, 0, none⟩))])).modify 8 (put #[.iface 114 (.pointer (some ⟨low + 8, 0, none⟩))])).modify 9 (put #[.iface 114 (.pointer (some ⟨low + 9, 0, none⟩))])).modify 10 (put #[.iface 99 (.agg #[.pointer (some ⟨11, 27, none⟩)])]) }
end Go.Proofs.YtgckgkllpkkpeaaDoor
