/-
  RatioRead: for every text the law answers true (in a world where the tables of math/bits and strconv, errors.errorType and the ten errors of package api hold what their initialisers lay), and the text reads afterwards as it read before. No further condition.
-/
import Derived.Test.YtmhebjeefdanmaaGreatDoorML6
import Derived.Test.YtmhebjeefdanmaaGreatDoorCards
import Derived.Test.YtmhebjeefdanmaaGreatDoorTie
import Derived.WalkKit
import Derived.ProofKit
import Derived.OpenShut
import Derived.Deep.DeepHandedRow
import Derived.Deep.DeepLaidRun
import Derived.LaidHandle
import Derived.Stop.LaidErr
import Derived.Lib.LaidTab
import Derived.Lib.ItoaNum
namespace Go.Proofs.YtmhebjeefdanmaaGreatDoor
open Go.RowKit Go.ChangeShapes Go.WideShapes Go.ChangeAt
open Go.ChangeMaps (open_string shut_string)

theorem own : ownKnob Tryz.prog.godebug = none := by kernel_rfl
theorem cellsErr : Tryz.prog.cellsOf 252 = 1 := by kernel_rfl
theorem cellsStr : Tryz.prog.cellsOf 9 = 1 := by kernel_rfl
theorem star : ("*" ++ "errors.errorString" : String) = "*errors.errorString" := by decide
theorem rowErr (u : TypeId) (h : Tryz.prog.typeName? 3 u = some "*errors.errorString") : u = 234 :=
  typeName_ptr_named (nm := "errors.errorString") (by rw [star]; kernel_rfl) (by kernel_rfl) (by decide) u (by rw [star]; exact h)
theorem gErrText : Tryz.prog.globalNamed "optima/api.ErrText" = some 0 := by kernel_rfl
theorem tErrText : (Tryz.prog.globals[0]?).map (·.type) = some 33 := by kernel_rfl
theorem gErrBound : Tryz.prog.globalNamed "optima/api.ErrBound" = some 1 := by kernel_rfl
theorem tErrBound : (Tryz.prog.globals[1]?).map (·.type) = some 33 := by kernel_rfl
theorem gErrZero : Tryz.prog.globalNamed "optima/api.ErrZero" = some 2 := by kernel_rfl
theorem tErrZero : (Tryz.prog.globals[2]?).map (·.type) = some 33 := by kernel_rfl
theorem gErrShape : Tryz.prog.globalNamed "optima/api.ErrShape" = some 3 := by kernel_rfl
theorem tErrShape : (Tryz.prog.globals[3]?).map (·.type) = some 33 := by kernel_rfl
theorem gErrSingular : Tryz.prog.globalNamed "optima/api.ErrSingular" = some 4 := by kernel_rfl
theorem tErrSingular : (Tryz.prog.globals[4]?).map (·.type) = some 33 := by kernel_rfl
theorem gErrSense : Tryz.prog.globalNamed "optima/api.ErrSense" = some 5 := by kernel_rfl
theorem tErrSense : (Tryz.prog.globals[5]?).map (·.type) = some 33 := by kernel_rfl
theorem gErrName : Tryz.prog.globalNamed "optima/api.ErrName" = some 6 := by kernel_rfl
theorem tErrName : (Tryz.prog.globals[6]?).map (·.type) = some 33 := by kernel_rfl
theorem gErrNumber : Tryz.prog.globalNamed "optima/api.ErrNumber" = some 7 := by kernel_rfl
theorem tErrNumber : (Tryz.prog.globals[7]?).map (·.type) = some 33 := by kernel_rfl
theorem gErrBasis : Tryz.prog.globalNamed "optima/api.ErrBasis" = some 8 := by kernel_rfl
theorem tErrBasis : (Tryz.prog.globals[8]?).map (·.type) = some 33 := by kernel_rfl
theorem gErrOpen : Tryz.prog.globalNamed "optima/api.ErrOpen" = some 9 := by kernel_rfl
theorem tErrOpen : (Tryz.prog.globals[9]?).map (·.type) = some 33 := by kernel_rfl
theorem gPow : Tryz.prog.globalNamed "internal/strconv.uint64pow10" = some 12 := by kernel_rfl
theorem gPowType : (Tryz.prog.globals[12]?).map (·.type) = some 213 := by kernel_rfl
theorem cellsPow : Tryz.prog.cellsOf 213 = 20 := by kernel_rfl
theorem cellsU64 : Tryz.prog.cellsOf 105 = 1 := by kernel_rfl
theorem gHandle : Tryz.prog.globalNamed "errors.errorType" = some 11 := by kernel_rfl
theorem rtHandle : (Tryz.prog.cutTypes.find? (·.1 == "internal/reflectlite.rtype")).map (·.2) = some 218 := by kernel_rfl
theorem oneRow : ((List.range Tryz.prog.types.size).filter fun t => Tryz.prog.rowNamed t [101, 114, 114, 111, 114]) = [33] := by kernel_rfl

set_option maxRecDepth 100000 in
/-- An error that the list lays first: where it lies. -/
theorem sent_of {n nm : String} {text : List UInt8} {r : List (String × DataW Unit)} {W : World} {g : Nat} (hnm : nm = "*errors.errorString")
    (h : laidMet Tryz.prog ((n, .iface nm (.ptr (.agg [.lit (.string text)]))) :: r) W) (hg : Tryz.prog.globalNamed n = some g) (ht : (Tryz.prog.globals[g]?).map (·.type) = some 33) :
    ∃ (a : Addr) (s : ByteArray) (c : Array Value) (t : TypeId), W.cell? ⟨g, 0, none⟩ = some (.iface 234 (.pointer (some a))) ∧ W.cell? a = some (.string s) ∧ s.data.toList = text ∧ W.heap[a.block]? = some (.cells c t (0, 0)) := by
  subst hnm
  obtain ⟨ps, ⟨g0, t0, cs0, f0, p0, q0, hg0, ht0, hv0, hd0, _, e0⟩, _, hrows⟩ := h
  obtain rfl := Option.some.inj (hg.symm.trans hg0)
  obtain rfl := Option.some.inj (ht.symm.trans ht0)
  subst e0
  obtain ⟨l0⟩ := cs0
  have ok0 : ∀ u v, l0 = [.iface u v] → Value.okWide Tryz.prog W .any 0 u v := fun u v e => by
    subst e
    exact (hrows g 0 (by simp [MemPlace.row])).2 u v (by simpa using World.var?_cell hg0 hv0 0)
  obtain ⟨a0, s0, rfl, hc0, hs0, hz0, rfl⟩ := errorString_of_trod Tryz.underlying33 rowErr Tryz.underlying234 Tryz.underlying252 rfl rfl Tryz.underlying9 cellsErr cellsStr hd0 ok0
  obtain ⟨c, t, hb⟩ := (hrows a0.block a0.off (by simp [MemPlace.row])).1
  exact ⟨a0, s0, c, t, by simpa using World.var?_cell hg0 hv0 0, hc0, hs0, hb⟩
/-- The text of an error, as a row lists it. -/
def textOf : DataW Unit → List UInt8
  | .iface _ (.ptr (.agg [.lit (.string s)])) => s
  | _ => []
def txt : Nat → List UInt8
  | 0 => textOf Rows.laid_optima_api_ErrText
  | 1 => textOf Rows.laid_optima_api_ErrBound
  | 2 => textOf Rows.laid_optima_api_ErrZero
  | 3 => textOf Rows.laid_optima_api_ErrShape
  | 4 => textOf Rows.laid_optima_api_ErrSingular
  | 5 => textOf Rows.laid_optima_api_ErrSense
  | 6 => textOf Rows.laid_optima_api_ErrName
  | 7 => textOf Rows.laid_optima_api_ErrNumber
  | 8 => textOf Rows.laid_optima_api_ErrBasis
  | _ => textOf Rows.laid_optima_api_ErrOpen
set_option maxRecDepth 100000 in
theorem txt_apart : ∀ i, i < 10 → ∀ j, j < 10 → i ≠ j → txt i ≠ txt j := by decide
theorem gDb : Tryz.prog.globalNamed "math/bits.deBruijn64tab" = some 10 := by kernel_rfl
theorem gDbType : (Tryz.prog.globals[10]?).map (·.type) = some 184 := by kernel_rfl
theorem cellsDb : Tryz.prog.cellsOf 184 = 64 := by kernel_rfl
theorem cellsU8 : Tryz.prog.cellsOf 5 = 1 := by kernel_rfl
theorem laid_tab64 {r : List (String × DataW Unit)} {W : World} {a : String × DataW Unit} (h : laidMet Tryz.prog (a :: ("math/bits.deBruijn64tab", Rows.laid_math_bits_deBruijn64tab) :: r) W) : Tab64 W := by
  have ht : Lib.TabIs Tryz.prog W "math/bits.deBruijn64tab" .u8 (Lib.deBruijn64tab.map fun (n : Nat) => (n : Int)) :=
    Lib.tabIs_of_head gDb gDbType Tryz.underlying184 Tryz.underlying5 cellsU8 cellsDb h.tail
  intro j hj
  have h2 := ht.cell gDb j (by rw [List.length_map]; exact hj)
  rw [h2]
  congr 2
  simp [List.getD, hj]
set_option maxRecDepth 100000 in
theorem laid_sents {W : World} (h : laidMetH Tryz.prog Rows.ratioReadRow.laid W) : (∃ A, Sents W A) ∧ Lib.TabIs Tryz.prog W "internal/strconv.uint64pow10" .u64 Lib.pow10Tab ∧ Tab64 W := by
  have h' : laidMet Tryz.prog [("math/bits.deBruijn32tab", Rows.laid_math_bits_deBruijn32tab), ("math/bits.deBruijn64tab", Rows.laid_math_bits_deBruijn64tab), ("internal/strconv.uint64pow10", Rows.laid_internal_strconv_uint64pow10), ("optima/api.ErrText", Rows.laid_optima_api_ErrText), ("optima/api.ErrBound", Rows.laid_optima_api_ErrBound), ("optima/api.ErrZero", Rows.laid_optima_api_ErrZero), ("optima/api.ErrShape", Rows.laid_optima_api_ErrShape), ("optima/api.ErrSingular", Rows.laid_optima_api_ErrSingular), ("optima/api.ErrSense", Rows.laid_optima_api_ErrSense), ("optima/api.ErrName", Rows.laid_optima_api_ErrName), ("optima/api.ErrNumber", Rows.laid_optima_api_ErrNumber), ("optima/api.ErrBasis", Rows.laid_optima_api_ErrBasis), ("optima/api.ErrOpen", Rows.laid_optima_api_ErrOpen)] W ∧ handlesMet Tryz.prog [("errors.errorType", Rows.laid_errors_errorType)] W := h
  obtain ⟨a0, s0, c0, t0, v0, x0, y0, z0⟩ := sent_of rfl h'.1.tail.tail.tail gErrText tErrText
  obtain ⟨a1, s1, c1, t1, v1, x1, y1, z1⟩ := sent_of rfl h'.1.tail.tail.tail.tail gErrBound tErrBound
  obtain ⟨a2, s2, c2, t2, v2, x2, y2, z2⟩ := sent_of rfl h'.1.tail.tail.tail.tail.tail gErrZero tErrZero
  obtain ⟨a3, s3, c3, t3, v3, x3, y3, z3⟩ := sent_of rfl h'.1.tail.tail.tail.tail.tail.tail gErrShape tErrShape
  obtain ⟨a4, s4, c4, t4, v4, x4, y4, z4⟩ := sent_of rfl h'.1.tail.tail.tail.tail.tail.tail.tail gErrSingular tErrSingular
  obtain ⟨a5, s5, c5, t5, v5, x5, y5, z5⟩ := sent_of rfl h'.1.tail.tail.tail.tail.tail.tail.tail.tail gErrSense tErrSense
  obtain ⟨a6, s6, c6, t6, v6, x6, y6, z6⟩ := sent_of rfl h'.1.tail.tail.tail.tail.tail.tail.tail.tail.tail gErrName tErrName
  obtain ⟨a7, s7, c7, t7, v7, x7, y7, z7⟩ := sent_of rfl h'.1.tail.tail.tail.tail.tail.tail.tail.tail.tail.tail gErrNumber tErrNumber
  obtain ⟨a8, s8, c8, t8, v8, x8, y8, z8⟩ := sent_of rfl h'.1.tail.tail.tail.tail.tail.tail.tail.tail.tail.tail.tail gErrBasis tErrBasis
  obtain ⟨a9, s9, c9, t9, v9, x9, y9, z9⟩ := sent_of rfl h'.1.tail.tail.tail.tail.tail.tail.tail.tail.tail.tail.tail.tail gErrOpen tErrOpen
  have hh : W.cell? ⟨11, 0, none⟩ = some (.iface 218 (.agg #[.pointer (some ⟨17, 33, none⟩)])) := by
    obtain ⟨name, u, ty, e1, e2, e3, e4, e5⟩ := h'.2 _ (List.mem_singleton.2 rfl)
    have en : name = [101, 114, 114, 111, 114] := (Option.some.inj e1).symm
    subst en
    obtain rfl := Option.some.inj (rtHandle.symm.trans e2)
    have hm : ty ∈ (List.range Tryz.prog.types.size).filter fun t => Tryz.prog.rowNamed t [101, 114, 114, 111, 114] := List.mem_filter.2 ⟨List.mem_range.2 e3, e4⟩
    rw [oneRow] at hm
    obtain rfl := List.mem_singleton.1 hm
    have hq : typeHandle Tryz.prog 33 = .pointer (some ⟨17, 33, none⟩) := by kernel_rfl
    rw [hq] at e5
    simpa using World.var?_cell gHandle e5 0
  let A : Nat → Addr := fun j => match j with
    | 0 => a0
    | 1 => a1
    | 2 => a2
    | 3 => a3
    | 4 => a4
    | 5 => a5
    | 6 => a6
    | 7 => a7
    | 8 => a8
    | _ => a9
  have hT : ∀ j, j < 10 → ∃ s, W.cell? (A j) = some (.string s) ∧ s.data.toList = txt j := by
    intro j hj
    rcases (by omega : j = 0 ∨ j = 1 ∨ j = 2 ∨ j = 3 ∨ j = 4 ∨ j = 5 ∨ j = 6 ∨ j = 7 ∨ j = 8 ∨ j = 9) with rfl | rfl | rfl | rfl | rfl | rfl | rfl | rfl | rfl | rfl
    · exact ⟨s0, x0, y0⟩
    · exact ⟨s1, x1, y1⟩
    · exact ⟨s2, x2, y2⟩
    · exact ⟨s3, x3, y3⟩
    · exact ⟨s4, x4, y4⟩
    · exact ⟨s5, x5, y5⟩
    · exact ⟨s6, x6, y6⟩
    · exact ⟨s7, x7, y7⟩
    · exact ⟨s8, x8, y8⟩
    · exact ⟨s9, x9, y9⟩
  refine ⟨⟨A, v0, v1, v2, v3, v4, v5, v6, v7, v8, v9, ?_, ?_, hh⟩, Lib.tabIs_of_head gPow gPowType Tryz.underlying213 Tryz.underlying105 cellsU64 cellsPow h'.1.tail.tail, laid_tab64 h'.1⟩
  · intro j hj
    rcases (by omega : j = 0 ∨ j = 1 ∨ j = 2 ∨ j = 3 ∨ j = 4 ∨ j = 5 ∨ j = 6 ∨ j = 7 ∨ j = 8 ∨ j = 9) with rfl | rfl | rfl | rfl | rfl | rfl | rfl | rfl | rfl | rfl
    · exact ⟨c0, t0, z0⟩
    · exact ⟨c1, t1, z1⟩
    · exact ⟨c2, t2, z2⟩
    · exact ⟨c3, t3, z3⟩
    · exact ⟨c4, t4, z4⟩
    · exact ⟨c5, t5, z5⟩
    · exact ⟨c6, t6, z6⟩
    · exact ⟨c7, t7, z7⟩
    · exact ⟨c8, t8, z8⟩
    · exact ⟨c9, t9, z9⟩
  · intro i j hi hj hne e
    obtain ⟨s, e1, e2⟩ := hT i hi
    obtain ⟨u, f1, f2⟩ := hT j hj
    rw [e, f1] at e1
    have : u = s := by simpa using e1
    subst this
    exact txt_apart i hi j hj hne (e2.symm.trans f2)

set_option maxRecDepth 100000 in
theorem rrc_contract (H : Type) (enc : TypeId × Value → H) (W : World) (base : Nat) (args : Array Value) (ds gs : List (DataW H)) (before : List MemPlace)
    (hval : ∀ (j : Nat) t v, Tryz.f4.params[j]? = some t → args[j]? = some v → Value.okWide Tryz.prog W .any base t v)
    (hW : DataW.Whole enc Tryz.prog Tryz.f4.params.toList Rows.ratioReadSpec.vars false W args.toList ds gs before) (hL : laidMetH Tryz.prog Rows.ratioReadRow.laid W) :
    Calls Tryz.prog 4 args W fun e W' => ∃ v, e = .returned v ∧ Rows.ratioReadSpec.post enc Tryz.prog Tryz.f4 false true false false W args v W' := by
  have hW' := hW
  obtain ⟨p, q, hA0, hV, rfl, hfz, hnd⟩ := hW
  have hA : DataW.TrodAll enc Tryz.prog W 0 (fun _ => true) true Tryz.f4.params.toList args.toList ds p := hA0
  rw [Tryz.params4] at hA hval
  obtain ⟨v0, vs0, d0, ds0, p0, q0, hargs, rfl, rfl, h0, r0⟩ := trodAll_cons hA
  obtain ⟨rfl, rfl, rfl⟩ := trodAll_nil r0
  obtain rfl : args = #[v0] := by cases args; simp_all
  obtain ⟨rfl, rfl⟩ := trodVars_none hV
  obtain ⟨s, rfl, rfl, rfl, hs⟩ := open_string Tryz.underlying9 (hval 0 9 v0 rfl rfl) h0
  clear hA0
  simp only [List.append_nil] at hW'
  obtain ⟨⟨A, hS⟩, htab, hT⟩ := laid_sents hL
  refine (ratioRead_law A s W hS htab hT).mono fun e W' ⟨he, hb⟩ => ?_
  subst he
  exact ⟨_, rfl, _, _, _, [], [], [], hW', trodAll_cons_mk (shut_bool Tryz.underlying4 _) trodAll_mk0, trodAll_cons_mk (shut_string Tryz.underlying9 hs) trodAll_mk0, rfl, hb.frame _, fun h => by cases h⟩

def cellsIn : DataW Unit → Array Value
  | .agg l => (l.map fun d => match d with | .lit (.int k z) => Value.int k z | _ => .bool false).toArray
  | _ => #[]
def put (cs : Array Value) : Obj → Obj
  | .cells _ t frozen => .cells cs t frozen
  | o => o
/-- A world for the witness: the settled one, the variables holding what their initialisers lay. -/
noncomputable def low : Nat := (World.holding Tryz.prog default ⟨#[], #[], []⟩).heap.size
noncomputable def laidWorld (os : Os) : World :=
  let w0 := World.holding Tryz.prog os ⟨#[.cells #[.string ⟨(txt 0).toArray⟩] 252, .cells #[.string ⟨(txt 1).toArray⟩] 252, .cells #[.string ⟨(txt 2).toArray⟩] 252, .cells #[.string ⟨(txt 3).toArray⟩] 252, .cells #[.string ⟨(txt 4).toArray⟩] 252, .cells #[.string ⟨(txt 5).toArray⟩] 252, .cells #[.string ⟨(txt 6).toArray⟩] 252, .cells #[.string ⟨(txt 7).toArray⟩] 252, .cells #[.string ⟨(txt 8).toArray⟩] 252, .cells #[.string ⟨(txt 9).toArray⟩] 252], #[], []⟩
  { w0 with heap := ((((((((((((((w0.heap).modify 0 (put #[.iface 234 (.pointer (some ⟨low + 0, 0, none⟩))])).modify 1 (put #[.iface 234 (.pointer (some ⟨low + 1, 0, none⟩))])).modify 2 (put #[.iface 234 (.pointer (some ⟨low + 2, 0, none⟩))])).modify 3 (put #[.iface 234 (.pointer (some ⟨low + 3, 0, none⟩))])).modify 4 (put #[.iface 234 (.pointer (some ⟨low + 4, 0, none⟩))])).modify 5 (put #[.iface 234 (.pointer (some ⟨low + 5, 0, none⟩))])).modify 6 (put #[.iface 234 (.pointer (some ⟨low + 6, 0, none⟩))])).modify 7 (put #[.iface 234 (.pointer (some ⟨low + 7, 0, none⟩))])).modify 8 (put #[.iface 234 (.pointer (some ⟨low + 8, 0, none⟩))])).modify 9 (put #[.iface 234 (.pointer (some ⟨low + 9, 0, none⟩))])).modify 11 (put #[.iface 218 (.agg #[.pointer (some ⟨17, 33, none⟩)])])).modify 12 (put (cellsIn Rows.laid_internal_strconv_uint64pow10))).modify 16 (put (cellsIn Rows.laid_math_bits_deBruijn32tab))).modify 10 (put (cellsIn Rows.laid_math_bits_deBruijn64tab)) }
set_option maxRecDepth 100000 in
theorem rrc_laid (os : Os) : laidMetH Tryz.prog Rows.ratioReadRow.laid ((laidWorld os).forCall (fun _ _ => 0) ⟨#[], #[.string ⟨#[]⟩], []⟩).memory :=
  laidMetH_of_parts (laidMet_of_run3 8 (by kernel_rfl) (by kernel_rfl) (by kernel_rfl)) (by kernel_rfl)
theorem rrc_reads (os : Os) {H : Type} (enc : TypeId × Value → H) : ∃ places, DataW.whole enc Tryz.prog ((laidWorld os).forCall (fun _ _ => 0) ⟨#[], #[.string ⟨#[]⟩], []⟩).memory Tryz.f4.params.toList Rows.ratioReadSpec.vars false #[Value.string ⟨#[]⟩].toList 8 = some ([.lit (.string [])], [], places) :=
  ⟨[], by kernel_rfl⟩

set_option maxRecDepth 100000 in
theorem rrc_lifted (os : Os) (started : os.Started) (H : Type) (enc : TypeId × Value → H) (F : Stop.Interp) :
    ReturnsInHanded {} Tryz.checked os 4 .any ((OpenSpec.ofChange Rows.ratioReadSpec).preRow enc Tryz.prog Tryz.f4 Rows.ratioReadRow.domain false Rows.ratioReadRow.laid) (((OpenSpec.ofChange Rows.ratioReadSpec).at F).post enc Tryz.prog Tryz.f4 false true false false) := by
  obtain ⟨places, hx⟩ := rrc_reads os enc
  refine returnsInHanded_of_row (C := Tryz.checked) (s := OpenSpec.ofChange Rows.ratioReadSpec) own started (by kernel_rfl) Tryz.func4
    (witness_row_at (enc := enc) (C := Tryz.checked) false (laidWorld os) #[.string ⟨#[]⟩] rfl (by kernel_rfl) (by kernel_rfl) (by kernel_rfl)
      (OpenSpec.preRow_of_cond 8 hx (by kernel_rfl) (fun k hk => by cases hk) (by kernel_rfl) (rrc_laid os))) ?_
  intro W base args ds gs before hval hW _ _ _ hL _ _
  exact rrc_contract H enc W base args ds gs before hval hW hL

theorem rrc_said : Rows.RatioReadSaid :=
  OpenClaim.holds_of_cond 4 Tryz.f4 rfl rfl rfl rfl rfl rfl rfl ⟨rfl, rfl, rfl, rfl, rfl⟩ rfl rfl rfl rfl rfl (by kernel_rfl) Tryz.func4 (by kernel_rfl)
    (of_decide_eq_true (by kernel_rfl)) (by unfold Func.isWrapper; first | (rw [if_pos (by decide +kernel)]; kernel_rfl) | (rw [if_neg (by decide +kernel)]; exact ⟨rfl, rfl⟩))
    (fun os started H enc _ F => by rw [OpenClaim.pre_eq_preRow]; exact rrc_lifted os started H enc F)
/-- No parameter wants a stand-in. -/
theorem rrc_plain (f : FuncId) (fn : Func) (hf : Tryz.pinned.checked.prog.funcNamed "optima/optimalaw1.RatioRead" = some f) (hfn : Tryz.pinned.checked.prog.funcs[f]? = some fn) :
    true = Tryz.pinned.checked.prog.looks [] ∧ ∀ (j : Nat) t, fn.params[j]? = some t → Tryz.pinned.checked.prog.wantsStandIn t = false := by
  obtain rfl : f = 4 := Option.some.inj ((show Tryz.prog.funcNamed "optima/optimalaw1.RatioRead" = some 4 by kernel_rfl).symm.trans hf) |>.symm
  obtain rfl : fn = Tryz.f4 := (Option.some.inj (Tryz.func4.symm.trans hfn)).symm
  refine ⟨by kernel_rfl, fun j t ht => ?_⟩
  rw [Tryz.params4] at ht
  obtain rfl : t = 9 := by simpa using Array.mem_of_getElem? ht
  exact (show Tryz.prog.wantsStandIn 9 = false by kernel_rfl)

theorem ratioRead_holds : Rows.RatioReadCardSaid :=
  Claim7.holds_tied_plain_at .later [] _ _ _ _ rrc_said (fun _ h => by cases h) (by kernel_rfl) (fun _ h => by cases h) ratioRead_row_tie rfl ⟨rfl, rfl⟩ (by kernel_rfl) rfl rrc_plain (by kernel_rfl)
end Go.Proofs.YtmhebjeefdanmaaGreatDoor
