/-
  RatioSimplest: for every two texts the law answers true: the simplest fraction between two is the document's (in a world where the tables of math/bits and strconv and three errors of package api hold what their initialisers lay).
-/
import Derived.Test.YtpecanpbkbanhaaGreatDoorMLD
import Derived.Test.YtpecanpbkbanhaaGreatDoorML10
namespace Go.Proofs.YtpecanpbkbanhaaGreatDoor
open Go.RowKit Go.ChangeShapes Go.WideShapes Go.ChangeAt
open Go.ChangeMaps (open_string shut_string)
set_option maxRecDepth 100000 in
theorem rsp_contract (H : Type) (enc : TypeId × Value → H) (W : World) (base : Nat) (args : Array Value) (ds gs : List (DataW H)) (before : List MemPlace)
    (hval : ∀ (j : Nat) t v, Tryz.f8.params[j]? = some t → args[j]? = some v → Value.okWide Tryz.prog W .any base t v)
    (hW : DataW.Whole enc Tryz.prog Tryz.f8.params.toList Rows.ratioSimplestSpec.vars false W args.toList ds gs before) (hL : laidMetH Tryz.prog Rows.ratioSimplestRow.laid W) :
    Calls Tryz.prog 8 args W fun e W' => ∃ v, e = .returned v ∧ Rows.ratioSimplestSpec.post enc Tryz.prog Tryz.f8 false true false false W args v W' := by
  have hW' := hW
  obtain ⟨p, q, hA0, hV, rfl, hfz, hnd⟩ := hW
  have hA : DataW.TrodAll enc Tryz.prog W 0 (fun _ => true) true Tryz.f8.params.toList args.toList ds p := hA0
  rw [Tryz.params8] at hA hval
  obtain ⟨v0, vs0, d0, ds0, p0, q0, hargs, rfl, rfl, h0, r0⟩ := trodAll_cons hA
  obtain ⟨v1, vs1, d1, ds1, p1, q1, rfl, rfl, rfl, h1, r1⟩ := trodAll_cons r0
  obtain ⟨rfl, rfl, rfl⟩ := trodAll_nil r1
  obtain rfl : args = #[v0, v1] := by cases args; simp_all
  obtain ⟨rfl, rfl⟩ := trodVars_none hV
  obtain ⟨s, rfl, rfl, rfl, hs⟩ := open_string Tryz.underlying9 (hval 0 9 v0 rfl rfl) h0
  obtain ⟨t, rfl, rfl, rfl, ht⟩ := open_string Tryz.underlying9 (hval 1 9 v1 rfl rfl) h1
  clear hA0
  simp only [List.append_nil] at hW'
  obtain ⟨A, htab, hc1, hc2, hc3⟩ := laid_facts3 hL
  have hT := laid_tab64 hL
  refine (ratioSimplest_law A s t W hs ht hc1 hc2 hc3 htab hT).mono fun e W' ⟨he, hb⟩ => ?_
  subst he
  exact ⟨_, rfl, _, _, _, [], [], [], hW', trodAll_cons_mk (shut_bool Tryz.underlying4 _) trodAll_mk0, trodAll_cons_mk (shut_string Tryz.underlying9 hs) (trodAll_cons_mk (shut_string Tryz.underlying9 ht) trodAll_mk0), rfl, hb.frame _, fun h => by cases h⟩
/-- The cells of a table, the text of an error, as a row lists them. -/
def cellsIn : DataW Unit → Array Value
  | .agg l => (l.map fun d => match d with | .lit (.int k z) => Value.int k z | _ => .bool false).toArray
  | _ => #[]
def textIn : DataW Unit → ByteArray
  | .iface _ (.ptr (.agg [.lit (.string s)])) => ⟨s.toArray⟩
  | _ => ⟨#[]⟩
def put (cs : Array Value) : Obj → Obj
  | .cells _ t frozen => .cells cs t frozen
  | o => o
/-- A world for the witness: the settled one, the variables holding what their initialisers lay. -/
noncomputable def low : Nat := (World.holding Tryz.prog default ⟨#[], #[], []⟩).heap.size
noncomputable def laidWorld (os : Os) : World :=
  let w0 := World.holding Tryz.prog os ⟨#[.cells #[.string (textIn Rows.laid_optima_api_ErrText)] 325, .cells #[.string (textIn Rows.laid_optima_api_ErrBound)] 325, .cells #[.string (textIn Rows.laid_optima_api_ErrZero)] 325], #[], []⟩
  { w0 with heap := (((((w0.heap.modify 2 (put #[.iface 307 (.pointer (some ⟨low + 0, 0, none⟩))])).modify 3 (put #[.iface 307 (.pointer (some ⟨low + 1, 0, none⟩))])).modify 4 (put #[.iface 307 (.pointer (some ⟨low + 2, 0, none⟩))])).modify 12 (put (cellsIn Rows.laid_internal_strconv_uint64pow10))).modify 16 (put (cellsIn Rows.laid_math_bits_deBruijn32tab))).modify 10 (put (cellsIn Rows.laid_math_bits_deBruijn64tab)) }
theorem rsp_laid (os : Os) : laidMet Tryz.prog Rows.ratioSimplestRow.laid ((laidWorld os).forCall (fun _ _ => 0) ⟨#[], #[.string ⟨#[]⟩, .string ⟨#[]⟩], []⟩).memory :=
  laidMet_of_run3 8 (by kernel_rfl) (by kernel_rfl) (by kernel_rfl)
theorem rsp_reads (os : Os) {H : Type} (enc : TypeId × Value → H) : ∃ places, DataW.whole enc Tryz.prog ((laidWorld os).forCall (fun _ _ => 0) ⟨#[], #[.string ⟨#[]⟩, .string ⟨#[]⟩], []⟩).memory Tryz.f8.params.toList Rows.ratioSimplestSpec.vars false #[Value.string ⟨#[]⟩, Value.string ⟨#[]⟩].toList 8 = some ([.lit (.string []), .lit (.string [])], [], places) :=
  ⟨[], by kernel_rfl⟩
set_option maxRecDepth 100000 in
theorem rsp_lifted (os : Os) (started : os.Started) (H : Type) (enc : TypeId × Value → H) (F : Stop.Interp) :
    ReturnsInHanded {} Tryz.checked os 8 .any ((OpenSpec.ofChange Rows.ratioSimplestSpec).preRow enc Tryz.prog Tryz.f8 Rows.ratioSimplestRow.domain false Rows.ratioSimplestRow.laid) (((OpenSpec.ofChange Rows.ratioSimplestSpec).at F).post enc Tryz.prog Tryz.f8 false true false false) := by
  obtain ⟨places, hx⟩ := rsp_reads os enc
  refine returnsInHanded_of_row (C := Tryz.checked) (s := OpenSpec.ofChange Rows.ratioSimplestSpec) own started (by kernel_rfl) Tryz.func8
    (witness_row_at (enc := enc) (C := Tryz.checked) false (laidWorld os) #[.string ⟨#[]⟩, .string ⟨#[]⟩] rfl (by kernel_rfl) (by kernel_rfl) (by kernel_rfl)
      (OpenSpec.preRow_of_cond 8 hx (by kernel_rfl) (fun k hk => by cases hk) (by kernel_rfl) (rsp_laid os))) ?_
  intro W base args ds gs before hval hW _ _ _ hL _ _
  exact rsp_contract H enc W base args ds gs before hval hW hL
theorem rsp_facts : joinedFacts Tryz.pinned.checked.prog 8 Tryz.f8 (OpenSpec.ofChange Rows.ratioSimplestSpec).bare Rows.ratioSimplestRow = true := by kernel_rfl
theorem rsp_inst : Tryz.f8.isInstance Tryz.pinned.checked.prog Rows.ratioSimplestRow.origin Rows.ratioSimplestRow.targs := of_decide_eq_true (by kernel_rfl)
set_option maxHeartbeats 2000000 in
theorem rsp_said : Rows.RatioSimplestSaid :=
  OpenClaim.holds_of_cond 8 Tryz.f8 rfl rfl rfl rfl rfl rfl rfl ⟨rfl, rfl, rfl, rfl, rfl⟩ rfl rfl rfl rfl rfl (by kernel_rfl) Tryz.func8 rsp_facts
    rsp_inst (by unfold Func.isWrapper; first | (rw [if_pos (by decide +kernel)]; kernel_rfl) | (rw [if_neg (by decide +kernel)]; exact ⟨rfl, rfl⟩))
    (fun os started H enc _ F => by rw [OpenClaim.pre_eq_preRow]; exact rsp_lifted os started H enc F)
/-- No parameter wants a stand-in; the program's own looks are off. -/
theorem rsp_plain (f : FuncId) (fn : Func) (hf : Tryz.pinned.checked.prog.funcNamed "optima/optimalaw1.RatioSimplest" = some f) (hfn : Tryz.pinned.checked.prog.funcs[f]? = some fn) :
    true = Tryz.pinned.checked.prog.looks [] ∧ ∀ (j : Nat) t, fn.params[j]? = some t → Tryz.pinned.checked.prog.wantsStandIn t = false := by
  obtain rfl : f = 8 := Option.some.inj ((show Tryz.prog.funcNamed "optima/optimalaw1.RatioSimplest" = some 8 by kernel_rfl).symm.trans hf) |>.symm
  obtain rfl : fn = Tryz.f8 := (Option.some.inj (Tryz.func8.symm.trans hfn)).symm
  refine ⟨by kernel_rfl, fun j t ht => ?_⟩
  rw [Tryz.params8] at ht
  obtain rfl : t = 9 := by simpa using Array.mem_of_getElem? ht
  exact (show Tryz.prog.wantsStandIn 9 = false by kernel_rfl)
theorem ratioSimplest_holds : Rows.RatioSimplestCardSaid :=
  Claim7.holds_tied_plain_at .later [] _ _ _ _ rsp_said (fun _ h => by cases h) (by kernel_rfl) (fun _ h => by cases h) ratioSimplest_row_tie rfl ⟨rfl, rfl⟩ (by kernel_rfl) rfl rsp_plain (by kernel_rfl)
end Go.Proofs.YtpecanpbkbanhaaGreatDoor
