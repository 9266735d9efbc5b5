/-
  PlanLeast: for every plan and every starts the law answers true (in a world where errors.errorType and the ten errors of package api hold what their initialisers lay), and what came in reads afterwards as it read before.
-/
import Derived.Test.YtgckgkllpkkpeaaDoorLaidL
import Derived.Test.YtgckgkllpkkpeaaDoorUO
import Derived.Test.YtgckgkllpkkpeaaDoorUH
import Derived.Test.YtgckgkllpkkpeaaDoorZP
import Derived.Carry
namespace Go.Proofs.YtgckgkllpkkpeaaDoor
open Go.RowKit Go.ChangeShapes Go.WideShapes Go.ChangeAt

theorem ple_laidOut : laidOutB Tryd.prog = true := by kernel_rfl
theorem ple_read_q0 : Tryd.prog.readableRec 25 = true := by kernel_rfl
theorem ple_row_q0 : 25 < Tryd.prog.types.size := of_decide_eq_true (by kernel_rfl)
theorem ple_read_q1 : Tryd.prog.readableRec 23 = true := by kernel_rfl
theorem ple_row_q1 : 23 < Tryd.prog.types.size := of_decide_eq_true (by kernel_rfl)
set_option maxRecDepth 100000 in
theorem ple_contract (H : Type) (enc : TypeId × Value → H) (W : World) (base : Nat) (args : Array Value) (ds gs : List (DataW H)) (before : List MemPlace)
    (hval : ∀ (j : Nat) t v, Tryd.f3.params[j]? = some t → args[j]? = some v → Value.okWide Tryd.prog W .any base t v)
    (hW : DataW.Whole enc Tryd.prog Tryd.f3.params.toList Rows.planLeastSpec.vars false W args.toList ds gs before) (hL : laidMetH Tryd.prog Rows.planLeastRow.laid W) :
    Calls Tryd.prog 3 args W fun e W' => ∃ v, e = .returned v ∧ Rows.planLeastSpec.post enc Tryd.prog Tryd.f3 false true false false W args v W' := by
  have hW' := hW
  have hlt := hW.lt
  obtain ⟨p, q, hA0, hV0, rfl, hfz, hnd⟩ := hW
  have hA : DataW.TrodAll enc Tryd.prog W 0 (fun _ => true) true Tryd.f3.params.toList args.toList ds p := hA0
  rw [Tryd.params3] at hA hval
  obtain ⟨v0, vs0, d0, ds0, p0, q0, hargs, rfl, rfl, h0, r0⟩ := trodAll_cons hA
  obtain ⟨v1, vs1, d1, ds1, p1, q1, rfl, rfl, rfl, h1, r1⟩ := trodAll_cons r0
  obtain ⟨rfl, rfl, rfl⟩ := trodAll_nil r1
  obtain rfl : args = #[v0, v1] := by cases args; simp_all
  obtain ⟨rfl, rfl⟩ := trodVars_none hV0
  simp only [List.append_nil] at hW' hlt
  obtain ⟨P, hP⟩ := open_plan (hval 0 25 v0 rfl rfl) h0
  obtain ⟨x, hx⟩ := open_row_ints Tryd.underlying23 Tryd.underlying3 cells_int (hval 1 23 v1 rfl rfl) h1
  obtain ⟨A, hS⟩ := laid_sents hL
  refine (planLeast_law W hS hP hx (least_any A)).mono fun e W' ⟨he, hbl⟩ => ?_
  subst he
  exact ⟨_, rfl, _, _, _, [], _, _, hW', trodAll_cons_mk (shut_bool Tryd.underlying4 _) trodAll_mk0, (trodAll_cons_mk (Below.trod ple_laidOut ple_read_q0 ple_row_q0 h0 hbl (fun x hx => hlt x (by simp [hx]))) (trodAll_cons_mk (Below.trod ple_laidOut ple_read_q1 ple_row_q1 h1 hbl (fun x hx => hlt x (by simp [hx]))) trodAll_mk0)), rfl, hbl.frame _, fun h => by cases h⟩

set_option maxRecDepth 100000 in
theorem ple_laid (os : Os) : laidMetH Tryd.prog Rows.planLeastRow.laid ((laidWorld os).forCall (fun _ _ => 0) ⟨#[], #[.agg #[.slice none 0 0, .slice none 0 0], .slice none 0 0], []⟩).memory :=
  laidMetH_of_parts (laidMet_of_run3 8 (by kernel_rfl) (by kernel_rfl) (by kernel_rfl)) (by kernel_rfl)
theorem ple_reads (os : Os) {H : Type} (enc : TypeId × Value → H) : ∃ places, DataW.whole enc Tryd.prog ((laidWorld os).forCall (fun _ _ => 0) ⟨#[], #[.agg #[.slice none 0 0, .slice none 0 0], .slice none 0 0], []⟩).memory Tryd.f3.params.toList Rows.planLeastSpec.vars false (#[.agg #[.slice none 0 0, .slice none 0 0], .slice none 0 0] : Array Value).toList 8 = some ([.agg [.nil, .nil], .nil], [], places) :=
  ⟨[], by kernel_rfl⟩
set_option maxRecDepth 100000 in
theorem ple_lifted (os : Os) (started : os.Started) (H : Type) (enc : TypeId × Value → H) (F : Stop.Interp) :
    ReturnsInHanded {} Tryd.checked os 3 .any ((OpenSpec.ofChange Rows.planLeastSpec).preRow enc Tryd.prog Tryd.f3 Rows.planLeastRow.domain false Rows.planLeastRow.laid) (((OpenSpec.ofChange Rows.planLeastSpec).at F).post enc Tryd.prog Tryd.f3 false true false false) := by
  obtain ⟨places, hx⟩ := ple_reads os enc
  refine returnsInHanded_of_row (C := Tryd.checked) (s := OpenSpec.ofChange Rows.planLeastSpec) own started (by kernel_rfl) Tryd.func3
    (witness_row_at (enc := enc) (C := Tryd.checked) false (laidWorld os) #[.agg #[.slice none 0 0, .slice none 0 0], .slice none 0 0] rfl (by kernel_rfl) (by kernel_rfl) (by kernel_rfl)
      (OpenSpec.preRow_of_cond 8 hx (by kernel_rfl) (fun k hk => by cases hk) (by kernel_rfl) (ple_laid os))) ?_
  intro W base args ds gs before hval hW _ _ _ hL _ _
  exact ple_contract H enc W base args ds gs before hval hW hL
theorem ple_facts : joinedFacts Tryd.pinned.checked.prog 3 Tryd.f3 (OpenSpec.ofChange Rows.planLeastSpec).bare Rows.planLeastRow = true := by kernel_rfl
theorem ple_inst : Tryd.f3.isInstance Tryd.pinned.checked.prog Rows.planLeastRow.origin Rows.planLeastRow.targs := of_decide_eq_true (by kernel_rfl)
set_option maxHeartbeats 2000000 in
theorem ple_said : Rows.PlanLeastSaid :=
  OpenClaim.holds_of_cond 3 Tryd.f3 rfl rfl rfl rfl rfl rfl rfl ⟨rfl, rfl, rfl, rfl, rfl⟩ rfl rfl rfl rfl rfl (by kernel_rfl) Tryd.func3 ple_facts
    ple_inst (by unfold Func.isWrapper; first | (rw [if_pos (by decide +kernel)]; kernel_rfl) | (rw [if_neg (by decide +kernel)]; exact ⟨rfl, rfl⟩))
    (fun os started H enc _ F => by rw [OpenClaim.pre_eq_preRow]; exact ple_lifted os started H enc F)
/-- No parameter wants a stand-in; the program's own looks are off. -/
theorem ple_plain (f : FuncId) (fn : Func) (hf : Tryd.pinned.checked.prog.funcNamed "optima/optimalaw3.PlanLeast" = some f) (hfn : Tryd.pinned.checked.prog.funcs[f]? = some fn) :
    true = Tryd.pinned.checked.prog.looks [] ∧ ∀ (j : Nat) t, fn.params[j]? = some t → Tryd.pinned.checked.prog.wantsStandIn t = false := by
  obtain rfl : f = 3 := Option.some.inj ((show Tryd.prog.funcNamed "optima/optimalaw3.PlanLeast" = some 3 by kernel_rfl).symm.trans hf) |>.symm
  obtain rfl : fn = Tryd.f3 := (Option.some.inj (Tryd.func3.symm.trans hfn)).symm
  refine ⟨by kernel_rfl, fun j t ht => ?_⟩
  rw [Tryd.params3] at ht
  rcases j with _ | _ | j
  · obtain rfl : 25 = t := by simpa using ht
    exact (show Tryd.prog.wantsStandIn 25 = false by kernel_rfl)
  · obtain rfl : 23 = t := by simpa using ht
    exact (show Tryd.prog.wantsStandIn 23 = false by kernel_rfl)
  · simp at ht
theorem planLeast_holds : Rows.PlanLeastCardSaid :=
  Claim7.holds_tied_plain_at .later [] _ _ _ _ ple_said (fun _ h => by cases h) (by kernel_rfl) (fun _ h => by cases h) planLeast_row_tie rfl ⟨rfl, rfl⟩ (by kernel_rfl) rfl ple_plain (by kernel_rfl)
end Go.Proofs.YtgckgkllpkkpeaaDoor
