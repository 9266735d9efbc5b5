/-
 NetsMost: for every number of nodes, every arcs in texts (of bulk at most 1048576) and every two nodes the law answers true: Most answers a flow that is right as the document has it, or the error that the document asks (in a world where the tables of math/bits and of the powers of ten, errors.errorType and the ten errors of package api hold what their initialisers lay), and what came in reads afterwards as it read before.
-/
import Derived.Test.YtkdobjmhammhbaaGreatDoorMOL
import Derived.Test.YtkdobjmhammhbaaGreatDoorMBL
namespace Go.Proofs.YtkdobjmhammhbaaGreatDoor
set_option maxHeartbeats 2000000
set_option maxRecDepth 100000
open Go.RowKit Go.ChangeShapes Go.WideShapes Go.ChangeAt
theorem nmo_laidOut:laidOutB Tryz.prog=true:=by kernel_rfl
theorem nmo_read_as:Tryz.prog.readableRec 22=true:=by kernel_rfl
theorem nmo_row_as:22<Tryz.prog.types.size:=of_decide_eq_true (by kernel_rfl)
theorem nmo_contract (H:Type) (enc:TypeId×Value->H) (W:World) (base:Nat) (args:Array Value) (ds gs:List (DataW H)) (before:List MemPlace)
 (hval:∀ (j:Nat) t v,Tryz.f3.params[j]? = some t->args[j]? = some v->Value.okWide Tryz.prog W .any base t v)
 (hW:DataW.Whole enc Tryz.prog Tryz.f3.params.toList Rows.netsMostSpec.vars false W args.toList ds gs before) (hk:Rows.uptoSmall H (ds++gs)=true) (hL:laidMetH Tryz.prog Rows.netsMostUptoRow.laid W) :
 Calls Tryz.prog 3 args W fun e W'=>∃ v,e=.returned v/\Rows.netsMostSpec.post enc Tryz.prog Tryz.f3 false true false false W args v W':=by
 have hW':=hW
 have hlt:=hW.lt
 obtain ⟨p,q,hA0,hV,rfl,hfz,hnd⟩:=hW
 have hA:DataW.TrodAll enc Tryz.prog W 0 (fun _=>true) true Tryz.f3.params.toList args.toList ds p:=hA0
 rw [Tryz.params3] at hA hval
 obtain ⟨v0,vs0,d0,ds0,p0,q0,hargs,rfl,rfl,h0,r0⟩:=trodAll_cons hA
 obtain ⟨v1,vs1,d1,ds1,p1,q1,rfl,rfl,rfl,h1,r1⟩:=trodAll_cons r0
 obtain ⟨v2,vs2,d2,ds2,p2,q2,rfl,rfl,rfl,h2,r2⟩:=trodAll_cons r1
 obtain ⟨v3,vs3,d3,ds3,p3,q3,rfl,rfl,rfl,h3,r3⟩:=trodAll_cons r2
 obtain ⟨rfl,rfl,rfl⟩:=trodAll_nil r3
 obtain rfl:args=#[v0,v1,v2,v3]:=by cases args;simp_all
 obtain ⟨rfl,rfl⟩:=trodVars_none hV
 simp only [List.append_nil] at hW' hk hlt
 have hb:Rows.uptoBulkAll [d0,d1,d2,d3]<=1048576:=by simpa [Rows.uptoSmall] using hk
 simp only [Rows.uptoBulkAll] at hb
 obtain ⟨n0,rfl,rfl,rfl,hn0⟩:=open_int Tryz.underlying3 (hval 0 3 v0 rfl rfl) h0
 obtain ⟨l1,hr1,hl1⟩:=open_arcs (hval 1 22 v1 rfl rfl) h1
 obtain ⟨n2,rfl,rfl,rfl,hn2⟩:=open_int Tryz.underlying3 (hval 2 3 v2 rfl rfl) h2
 obtain ⟨n3,rfl,rfl,rfl,hn3⟩:=open_int Tryz.underlying3 (hval 3 3 v3 rfl rfl) h3
 obtain ⟨⟨A,hS⟩,hT⟩:=laid_sents hL
 refine (netsMost_law W ⟨hS.h0,hS.h1,hS.h2,hT.1,hT.2⟩ hS hr1 (by omega)).mono fun e W' ⟨he,hbl⟩ => ?_
 subst he
 exact ⟨_,rfl,_,_,_,[],_,_,hW',trodAll_cons_mk (shut_bool Tryz.underlying4 _) trodAll_mk0,trodAll_cons_mk (shut_int Tryz.underlying3 hn0) (trodAll_cons_mk (Below.trod nmo_laidOut nmo_read_as nmo_row_as h1 hbl (fun x hx=>hlt x (by simp [hx]))) (trodAll_cons_mk (shut_int Tryz.underlying3 hn2) (trodAll_cons_mk (shut_int Tryz.underlying3 hn3) trodAll_mk0))),rfl,hbl.frame _,fun h=>by cases h⟩
theorem nmo_laid (os:Os):laidMetH Tryz.prog Rows.netsMostUptoRow.laid ((laidWorld os).forCall (fun _ _=>0) ⟨#[],#[.int .i64 0,.slice none 0 0,.int .i64 0,.int .i64 0],[]⟩).memory :=
 laidMetH_of_parts (laidMet_of_run3 8 (by kernel_rfl) (by kernel_rfl) (by kernel_rfl)) (by kernel_rfl)
theorem nmo_reads (os:Os) {H:Type} (enc:TypeId×Value->H):∃ places,DataW.whole enc Tryz.prog ((laidWorld os).forCall (fun _ _=>0) ⟨#[],#[.int .i64 0,.slice none 0 0,.int .i64 0,.int .i64 0],[]⟩).memory Tryz.f3.params.toList Rows.netsMostSpec.vars false #[Value.int .i64 0,Value.slice none 0 0,Value.int .i64 0,Value.int .i64 0].toList 8=some ([.lit (.int .i64 0),.nil,.lit (.int .i64 0),.lit (.int .i64 0)],[],places) :=
 ⟨[],by kernel_rfl⟩
theorem nmo_lifted (os:Os) (started:os.Started) (H:Type) (enc:TypeId×Value->H) (F:Stop.Interp) :
 ReturnsInHanded {} Tryz.checked os 3 .any ((Rows.OpenSpec.upto Rows.netsMostSpec).preRow enc Tryz.prog Tryz.f3 Rows.netsMostUptoRow.domain false Rows.netsMostUptoRow.laid) (((Rows.OpenSpec.upto Rows.netsMostSpec).at F).post enc Tryz.prog Tryz.f3 false true false false):=by
 obtain ⟨places,hx⟩:=nmo_reads os enc
 refine returnsInHanded_of_row (C:=Tryz.checked) (s:=Rows.OpenSpec.upto Rows.netsMostSpec) own started (by kernel_rfl) Tryz.func3
  (witness_row_at (enc:=enc) (C:=Tryz.checked) false (laidWorld os) #[.int .i64 0,.slice none 0 0,.int .i64 0,.int .i64 0] rfl (by kernel_rfl) (by kernel_rfl) (by kernel_rfl)
   (OpenSpec.preRow_of_cond 8 hx (by kernel_rfl) (fun k hk=>by cases hk;kernel_rfl) (by kernel_rfl) (nmo_laid os))) ?_
 intro W base args ds gs before hval hW _ hcond _ hL _ _
 exact nmo_contract H enc W base args ds gs before hval hW (hcond _ rfl) hL
theorem nmo_facts:joinedFacts Tryz.pinned.checked.prog 3 Tryz.f3 (Rows.OpenSpec.upto Rows.netsMostSpec).bare Rows.netsMostUptoRow=true:=by kernel_rfl
theorem nmo_inst:Tryz.f3.isInstance Tryz.pinned.checked.prog Rows.netsMostUptoRow.origin Rows.netsMostUptoRow.targs:=of_decide_eq_true (by kernel_rfl)
theorem nmo_said:Rows.NetsMostUptoSaid :=
 OpenClaim.holds_of_cond 3 Tryz.f3 rfl rfl rfl rfl rfl rfl rfl ⟨rfl,rfl,rfl,rfl,rfl⟩ rfl rfl rfl rfl rfl (by kernel_rfl) Tryz.func3 nmo_facts
  nmo_inst (by unfold Func.isWrapper;first | (rw [if_pos (by decide +kernel)];kernel_rfl) | (rw [if_neg (by decide +kernel)];exact ⟨rfl,rfl⟩))
  (fun os started H enc _ F=>by rw [OpenClaim.pre_eq_preRow];exact nmo_lifted os started H enc F)
theorem nmo_plain (f : FuncId) (fn : Func) (hf : Tryz.pinned.checked.prog.funcNamed "optima/optimalaw3.NetsMost" = some f) (hfn : Tryz.pinned.checked.prog.funcs[f]? = some fn) :
 true=Tryz.pinned.checked.prog.looks []/\∀ (j:Nat) t,fn.params[j]? = some t->Tryz.pinned.checked.prog.wantsStandIn t=false:=by
 obtain rfl : f = 3 := Option.some.inj ((show Tryz.prog.funcNamed "optima/optimalaw3.NetsMost" = some 3 by kernel_rfl).symm.trans hf) |>.symm
 obtain rfl:fn=Tryz.f3:=(Option.some.inj (Tryz.func3.symm.trans hfn)).symm
 refine ⟨by kernel_rfl,fun j t ht => ?_⟩
 rw [Tryz.params3] at ht
 have hm:=Array.mem_of_getElem? ht
 simp only [List.mem_toArray,List.mem_cons,List.not_mem_nil,or_false] at hm
 rcases hm with rfl | rfl | rfl | rfl
 ·exact (show Tryz.prog.wantsStandIn 3=false by kernel_rfl)
 ·exact (show Tryz.prog.wantsStandIn 22=false by kernel_rfl)
 ·exact (show Tryz.prog.wantsStandIn 3=false by kernel_rfl)
 ·exact (show Tryz.prog.wantsStandIn 3=false by kernel_rfl)
theorem netsMost_holds:Rows.NetsMostUptoCardSaid :=
 Claim7.holds_tied_plain_at .later [] _ _ _ _ nmo_said (fun _ h=>by cases h) (by kernel_rfl) (fun _ h=>by cases h) netsMostUpto_row_tie rfl ⟨rfl,rfl⟩ (by kernel_rfl) rfl nmo_plain (by kernel_rfl)
end Go.Proofs.YtkdobjmhammhbaaGreatDoor
