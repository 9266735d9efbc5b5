/-
  FiniteKeeps: for every puzzle and every values the law answers true (in a world where errors.errorType and the ten errors of package api hold what their initialisers lay), and what came in reads afterwards as it read before.
-/
import Derived.Test.YthoppmbmmplkiaaGreatDoorLaidF
import Derived.Test.YthoppmbmmplkiaaGreatDoorYP
import Derived.Test.YthoppmbmmplkiaaGreatDoorVR
import Derived.Carry
namespace Go.Proofs.YthoppmbmmplkiaaGreatDoor
open Go.RowKit Go.ChangeShapes Go.WideShapes Go.ChangeAt

theorem fke_laidOut : laidOutB Tryz.prog = true := by kernel_rfl
theorem fke_read_q0 : Tryz.prog.readableRec 25 = true := by kernel_rfl
theorem fke_row_q0 : 25 < Tryz.prog.types.size := of_decide_eq_true (by kernel_rfl)
theorem fke_read_q1 : Tryz.prog.readableRec 26 = true := by kernel_rfl
theorem fke_row_q1 : 26 < Tryz.prog.types.size := of_decide_eq_true (by kernel_rfl)
set_option maxRecDepth 100000 in
theorem fke_contract (H : Type) (enc : TypeId × Value → H) (W : World) (base : Nat) (args : Array Value) (ds gs : List (DataW H)) (before : List MemPlace)
    (hval : ∀ (j : Nat) t v, Tryz.f3.params[j]? = some t → args[j]? = some v → Value.okWide Tryz.prog W .any base t v)
    (hW : DataW.Whole enc Tryz.prog Tryz.f3.params.toList Rows.finiteKeepsSpec.vars false W args.toList ds gs before) (hL : laidMetH Tryz.prog Rows.finiteKeepsRow.laid W) :
    Calls Tryz.prog 3 args W fun e W' => ∃ v, e = .returned v ∧ Rows.finiteKeepsSpec.post enc Tryz.prog Tryz.f3 false true false false W args v W' := by
  have hW' := hW
  have hlt := hW.lt
  obtain ⟨p, q, hA0, hV0, rfl, hfz, hnd⟩ := hW
  have hA : DataW.TrodAll enc Tryz.prog W 0 (fun _ => true) true Tryz.f3.params.toList args.toList ds p := hA0
  rw [Tryz.params3] at hA hval
  obtain ⟨v0, vs0, d0, ds0, p0, q0, hargs, rfl, rfl, h0, r0⟩ := trodAll_cons hA
  obtain ⟨v1, vs1, d1, ds1, p1, q1, rfl, rfl, rfl, h1, r1⟩ := trodAll_cons r0
  obtain ⟨rfl, rfl, rfl⟩ := trodAll_nil r1
  obtain rfl : args = #[v0, v1] := by cases args; simp_all
  obtain ⟨rfl, rfl⟩ := trodVars_none hV0
  simp only [List.append_nil] at hW' hlt
  obtain ⟨P, hP⟩ := open_puzzle (hval 0 25 v0 rfl rfl) h0
  obtain ⟨x, hx⟩ := open_row_ints Tryz.underlying26 Tryz.underlying3 cells_int (hval 1 26 v1 rfl rfl) h1
  obtain ⟨A, hS⟩ := laid_sents hL
  refine (finiteKeeps_law W hS hP hx (valid_any A) (keeps_any A)).mono fun e W' ⟨he, hbl⟩ => ?_
  subst he
  exact ⟨_, rfl, _, _, _, [], _, _, hW', trodAll_cons_mk (shut_bool Tryz.underlying4 _) trodAll_mk0, (trodAll_cons_mk (Below.trod fke_laidOut fke_read_q0 fke_row_q0 h0 hbl (fun x hx => hlt x (by simp [hx]))) (trodAll_cons_mk (Below.trod fke_laidOut fke_read_q1 fke_row_q1 h1 hbl (fun x hx => hlt x (by simp [hx]))) trodAll_mk0)), rfl, hbl.frame _, fun h => by cases h⟩

set_option maxRecDepth 100000 in
theorem fke_laid (os : Os) : laidMetH Tryz.prog Rows.finiteKeepsRow.laid ((laidWorld os).forCall (fun _ _ => 0) ⟨#[], #[.agg #[.slice none 0 0, .slice none 0 0], .slice none 0 0], []⟩).memory :=
  laidMetH_of_parts (laidMet_of_run3 8 (by kernel_rfl) (by kernel_rfl) (by kernel_rfl)) (by kernel_rfl)
theorem fke_reads (os : Os) {H : Type} (enc : TypeId × Value → H) : ∃ places, DataW.whole enc Tryz.prog ((laidWorld os).forCall (fun _ _ => 0) ⟨#[], #[.agg #[.slice none 0 0, .slice none 0 0], .slice none 0 0], []⟩).memory Tryz.f3.params.toList Rows.finiteKeepsSpec.vars false (#[.agg #[.slice none 0 0, .slice none 0 0], .slice none 0 0] : Array Value).toList 8 = some ([.agg [.nil, .nil], .nil], [], places) :=
  ⟨[], by kernel_rfl⟩
set_option maxRecDepth 100000 in
theorem fke_lifted (os : Os) (started : os.Started) (H : Type) (enc : TypeId × Value → H) (F : Stop.Interp) :
    ReturnsInHanded {} Tryz.checked os 3 .any ((OpenSpec.ofChange Rows.finiteKeepsSpec).preRow enc Tryz.prog Tryz.f3 Rows.finiteKeepsRow.domain false Rows.finiteKeepsRow.laid) (((OpenSpec.ofChange Rows.finiteKeepsSpec).at F).post enc Tryz.prog Tryz.f3 false true false false) := by
  obtain ⟨places, hx⟩ := fke_reads os enc
  refine returnsInHanded_of_row (C := Tryz.checked) (s := OpenSpec.ofChange Rows.finiteKeepsSpec) own started (by kernel_rfl) Tryz.func3
    (witness_row_at (enc := enc) (C := Tryz.checked) false (laidWorld os) #[.agg #[.slice none 0 0, .slice none 0 0], .slice none 0 0] rfl (by kernel_rfl) (by kernel_rfl) (by kernel_rfl)
      (OpenSpec.preRow_of_cond 8 hx (by kernel_rfl) (fun k hk => by cases hk) (by kernel_rfl) (fke_laid os))) ?_
  intro W base args ds gs before hval hW _ _ _ hL _ _
  exact fke_contract H enc W base args ds gs before hval hW hL
theorem fke_facts : joinedFacts Tryz.pinned.checked.prog 3 Tryz.f3 (OpenSpec.ofChange Rows.finiteKeepsSpec).bare Rows.finiteKeepsRow = true := by kernel_rfl
theorem fke_inst : Tryz.f3.isInstance Tryz.pinned.checked.prog Rows.finiteKeepsRow.origin Rows.finiteKeepsRow.targs := of_decide_eq_true (by kernel_rfl)
set_option maxHeartbeats 2000000 in
theorem fke_said : Rows.FiniteKeepsSaid :=
  OpenClaim.holds_of_cond 3 Tryz.f3 rfl rfl rfl rfl rfl rfl rfl ⟨rfl, rfl, rfl, rfl, rfl⟩ rfl rfl rfl rfl rfl (by kernel_rfl) Tryz.func3 fke_facts
    fke_inst (by unfold Func.isWrapper; first | (rw [if_pos (by decide +kernel)]; kernel_rfl) | (rw [if_neg (by decide +kernel)]; exact ⟨rfl, rfl⟩))
    (fun os started H enc _ F => by rw [OpenClaim.pre_eq_preRow]; exact fke_lifted os started H enc F)
/-- No parameter wants a stand-in; the program's own looks are off. -/
theorem fke_plain (f : FuncId) (fn : Func) (hf : Tryz.pinned.checked.prog.funcNamed "optima/optimalaw3.FiniteKeeps" = some f) (hfn : Tryz.pinned.checked.prog.funcs[f]? = some fn) :
    true = Tryz.pinned.checked.prog.looks [] ∧ ∀ (j : Nat) t, fn.params[j]? = some t → Tryz.pinned.checked.prog.wantsStandIn t = false := by
  obtain rfl : f = 3 := Option.some.inj ((show Tryz.prog.funcNamed "optima/optimalaw3.FiniteKeeps" = some 3 by kernel_rfl).symm.trans hf) |>.symm
  obtain rfl : fn = Tryz.f3 := (Option.some.inj (Tryz.func3.symm.trans hfn)).symm
  refine ⟨by kernel_rfl, fun j t ht => ?_⟩
  rw [Tryz.params3] at ht
  rcases j with _ | _ | j
  · obtain rfl : 25 = t := by simpa using ht
    exact (show Tryz.prog.wantsStandIn 25 = false by kernel_rfl)
  · obtain rfl : 26 = t := by simpa using ht
    exact (show Tryz.prog.wantsStandIn 26 = false by kernel_rfl)
  · simp at ht
theorem finiteKeeps_holds : Rows.FiniteKeepsCardSaid :=
  Claim7.holds_tied_plain_at .later [] _ _ _ _ fke_said (fun _ h => by cases h) (by kernel_rfl) (fun _ h => by cases h) finiteKeeps_row_tie rfl ⟨rfl, rfl⟩ (by kernel_rfl) rfl fke_plain (by kernel_rfl)
end Go.Proofs.YthoppmbmmplkiaaGreatDoor
