/-
 MatrixReduced: for every table of texts (of bulk at most 1048576) the law answers true: the reduced form of a table, and the columns in which its rows begin, are the document's (in a world where the tables of math/bits and strconv, errors.errorType and the ten errors of package api hold what their initialisers lay), and the table reads afterwards as it read before.
-/
import Derived.Test.YtkifiolkfdicoaaGreatDoorMOL
import Derived.Test.YtkifiolkfdicoaaGreatDoorMN6
namespace Go.Proofs.YtkifiolkfdicoaaGreatDoor
open Go.RowKit Go.ChangeShapes Go.WideShapes Go.ChangeAt
theorem mrd_laidOut:laidOutB Tryz.prog=true:=by kernel_rfl
theorem mrd_read_ss:Tryz.prog.readableRec 87=true:=by kernel_rfl
theorem mrd_row_ss:87<Tryz.prog.types.size:=of_decide_eq_true (by kernel_rfl)
theorem mrd_cells_s:Tryz.prog.cellsOf 109=1:=by kernel_rfl
theorem mrd_cells_t:Tryz.prog.cellsOf 9=1:=by kernel_rfl
set_option maxRecDepth 100000 in
theorem mrd_contract (H:Type) (enc:TypeId×Value→H) (W:World) (base:Nat) (args:Array Value) (ds gs:List (DataW H)) (before:List MemPlace)
   (hval:∀ (j:Nat) t v,Tryz.f10.params[j]? = some t→args[j]? = some v→Value.okWide Tryz.prog W .any base t v)
   (hW:DataW.Whole enc Tryz.prog Tryz.f10.params.toList Rows.matrixReducedSpec.vars false W args.toList ds gs before) (hk:Rows.uptoSmall H (ds++gs)=true) (hL:laidMetH Tryz.prog Rows.matrixReducedUptoRow.laid W) :
   Calls Tryz.prog 10 args W fun e W'=>∃ v,e=.returned v∧Rows.matrixReducedSpec.post enc Tryz.prog Tryz.f10 false true false false W args v W':=by
 have hW':=hW
 have hlt:=hW.lt
 obtain ⟨p,q,hA0,hV,rfl,hfz,hnd⟩:=hW
 have hA:DataW.TrodAll enc Tryz.prog W 0 (fun _=>true) true Tryz.f10.params.toList args.toList ds p:=hA0
 rw [Tryz.params10] at hA hval
 obtain ⟨v0,vs0,d0,ds0,p0,q0,hargs,rfl,rfl,h0,r0⟩:=trodAll_cons hA
 obtain ⟨rfl,rfl,rfl⟩:=trodAll_nil r0
 obtain rfl:args=#[v0]:=by cases args;simp_all
 obtain ⟨rfl,rfl⟩:=trodVars_none hV
 simp only [List.append_nil] at hW' hk hlt
 have hb:Rows.uptoBulkAll [d0]≤1048576:=by simpa [Rows.uptoSmall] using hk
 simp only [Rows.uptoBulkAll] at hb
 obtain ⟨l0,hr0,hl0,hll0⟩:=open_table Tryz.underlying87 Tryz.underlying109 Tryz.underlying9 mrd_cells_s mrd_cells_t (hval 0 87 v0 rfl rfl) h0
 obtain ⟨⟨A,hS⟩,htab,hT⟩:=laid_sents hL
 refine (matrixReduced_law W ⟨hS.h0,hS.h1,hS.h2,htab,hT⟩ hS hr0 (by omega) (fun r hr=>by have:=hll0 r hr;omega)).mono fun e W' ⟨he,hbl⟩ => ?_
 subst he
 exact ⟨_,rfl,_,_,_,[],_,_,hW',trodAll_cons_mk (shut_bool Tryz.underlying4 _) trodAll_mk0,trodAll_cons_mk (Below.trod mrd_laidOut mrd_read_ss mrd_row_ss h0 hbl (fun x hx=>hlt x (by simp [hx]))) trodAll_mk0,rfl,hbl.frame _,fun h=>by cases h⟩
set_option maxRecDepth 100000 in
theorem mrd_laid (os:Os):laidMetH Tryz.prog Rows.matrixReducedUptoRow.laid ((laidWorld os).forCall (fun _ _=>0) ⟨#[],#[.slice none 0 0],[]⟩).memory :=
 laidMetH_of_parts (laidMet_of_run3 8 (by kernel_rfl) (by kernel_rfl) (by kernel_rfl)) (by kernel_rfl)
theorem mrd_reads (os:Os) {H:Type} (enc:TypeId×Value→H):∃ places,DataW.whole enc Tryz.prog ((laidWorld os).forCall (fun _ _=>0) ⟨#[],#[.slice none 0 0],[]⟩).memory Tryz.f10.params.toList Rows.matrixReducedSpec.vars false #[Value.slice none 0 0].toList 8=some ([.nil],[],places) :=
 ⟨[],by kernel_rfl⟩
set_option maxRecDepth 100000 in
theorem mrd_lifted (os:Os) (started:os.Started) (H:Type) (enc:TypeId×Value→H) (F:Stop.Interp) :
   ReturnsInHanded {} Tryz.checked os 10 .any ((Rows.OpenSpec.upto Rows.matrixReducedSpec).preRow enc Tryz.prog Tryz.f10 Rows.matrixReducedUptoRow.domain false Rows.matrixReducedUptoRow.laid) (((Rows.OpenSpec.upto Rows.matrixReducedSpec).at F).post enc Tryz.prog Tryz.f10 false true false false):=by
 obtain ⟨places,hx⟩:=mrd_reads os enc
 refine returnsInHanded_of_row (C:=Tryz.checked) (s:=Rows.OpenSpec.upto Rows.matrixReducedSpec) own started (by kernel_rfl) Tryz.func10
   (witness_row_at (enc:=enc) (C:=Tryz.checked) false (laidWorld os) #[.slice none 0 0] rfl (by kernel_rfl) (by kernel_rfl) (by kernel_rfl)
     (OpenSpec.preRow_of_cond 8 hx (by kernel_rfl) (fun k hk=>by cases hk;kernel_rfl) (by kernel_rfl) (mrd_laid os))) ?_
 intro W base args ds gs before hval hW _ hcond _ hL _ _
 exact mrd_contract H enc W base args ds gs before hval hW (hcond _ rfl) hL
theorem mrd_facts:joinedFacts Tryz.pinned.checked.prog 10 Tryz.f10 (Rows.OpenSpec.upto Rows.matrixReducedSpec).bare Rows.matrixReducedUptoRow=true:=by kernel_rfl
theorem mrd_inst:Tryz.f10.isInstance Tryz.pinned.checked.prog Rows.matrixReducedUptoRow.origin Rows.matrixReducedUptoRow.targs:=of_decide_eq_true (by kernel_rfl)
set_option maxHeartbeats 2000000 in
theorem mrd_said:Rows.MatrixReducedUptoSaid :=
 OpenClaim.holds_of_cond 10 Tryz.f10 rfl rfl rfl rfl rfl rfl rfl ⟨rfl,rfl,rfl,rfl,rfl⟩ rfl rfl rfl rfl rfl (by kernel_rfl) Tryz.func10 mrd_facts
   mrd_inst (by unfold Func.isWrapper;first | (rw [if_pos (by decide +kernel)];kernel_rfl) | (rw [if_neg (by decide +kernel)];exact ⟨rfl,rfl⟩))
   (fun os started H enc _ F=>by rw [OpenClaim.pre_eq_preRow];exact mrd_lifted os started H enc F)
theorem mrd_plain (f : FuncId) (fn : Func) (hf : Tryz.pinned.checked.prog.funcNamed "optima/optimalaw1.MatrixReduced" = some f) (hfn : Tryz.pinned.checked.prog.funcs[f]? = some fn) :
   true=Tryz.pinned.checked.prog.looks []∧∀ (j:Nat) t,fn.params[j]? = some t→Tryz.pinned.checked.prog.wantsStandIn t=false:=by
 obtain rfl : f = 10 := Option.some.inj ((show Tryz.prog.funcNamed "optima/optimalaw1.MatrixReduced" = some 10 by kernel_rfl).symm.trans hf) |>.symm
 obtain rfl:fn=Tryz.f10:=(Option.some.inj (Tryz.func10.symm.trans hfn)).symm
 refine ⟨by kernel_rfl,fun j t ht => ?_⟩
 rw [Tryz.params10] at ht
 obtain rfl:t=87:=by simpa using Array.mem_of_getElem? ht
 exact (show Tryz.prog.wantsStandIn 87=false by kernel_rfl)
theorem matrixReduced_holds:Rows.MatrixReducedUptoCardSaid :=
 Claim7.holds_tied_plain_at .later [] _ _ _ _ mrd_said (fun _ h=>by cases h) (by kernel_rfl) (fun _ h=>by cases h) matrixReducedUpto_row_tie rfl ⟨rfl,rfl⟩ (by kernel_rfl) rfl mrd_plain (by kernel_rfl)
end Go.Proofs.YtkifiolkfdicoaaGreatDoor
