/-
 NetsChecks: for every number of nodes, every arcs and supplies in texts and every plan in texts (together of bulk at most 1048576) the law answers true: Check answers as the document has it, with the error that the document asks or with whether the plan shows itself (in a world where the table of math/bits, errors.errorType and the ten errors of package api hold what their initialisers lay), and what came in reads afterwards as it read before.
-/
import Derived.Test.YtkdobjmhammhbaaGreatDoorMIH
import Derived.Test.YtkdobjmhammhbaaGreatDoorMID
namespace Go.Proofs.YtkdobjmhammhbaaGreatDoor
open Go.RowKit Go.ChangeShapes Go.WideShapes Go.ChangeAt
theorem nch_laidOut:laidOutB Tryz.prog=true:=by kernel_rfl
theorem nch_read_as:Tryz.prog.readableRec 22=true:=by kernel_rfl
theorem nch_row_as:22<Tryz.prog.types.size:=of_decide_eq_true (by kernel_rfl)
theorem nch_read_s:Tryz.prog.readableRec 25=true:=by kernel_rfl
theorem nch_row_s:25<Tryz.prog.types.size:=of_decide_eq_true (by kernel_rfl)
theorem nch_read_wy:Tryz.prog.readableRec 28=true:=by kernel_rfl
theorem nch_row_wy:28<Tryz.prog.types.size:=of_decide_eq_true (by kernel_rfl)
set_option maxRecDepth 100000 in
theorem nch_contract (H:Type) (enc:TypeId×Value→H) (W:World) (base:Nat) (args:Array Value) (ds gs:List (DataW H)) (before:List MemPlace)
   (hval:∀ (j:Nat) t v,Tryz.f4.params[j]? = some t→args[j]? = some v→Value.okWide Tryz.prog W .any base t v)
   (hW:DataW.Whole enc Tryz.prog Tryz.f4.params.toList Rows.netsChecksSpec.vars false W args.toList ds gs before) (hk:Rows.uptoSmall H (ds++gs)=true) (hL:laidMetH Tryz.prog Rows.netsChecksUptoRow.laid W) :
   Calls Tryz.prog 4 args W fun e W'=>∃ v,e=.returned v∧Rows.netsChecksSpec.post enc Tryz.prog Tryz.f4 false true false false W args v W':=by
 have hW':=hW
 have hlt:=hW.lt
 obtain ⟨p,q,hA0,hV,rfl,hfz,hnd⟩:=hW
 have hA:DataW.TrodAll enc Tryz.prog W 0 (fun _=>true) true Tryz.f4.params.toList args.toList ds p:=hA0
 rw [Tryz.params4] at hA hval
 obtain ⟨v0,vs0,d0,ds0,p0,q0,hargs,rfl,rfl,h0,r0⟩:=trodAll_cons hA
 obtain ⟨v1,vs1,d1,ds1,p1,q1,rfl,rfl,rfl,h1,r1⟩:=trodAll_cons r0
 obtain ⟨v2,vs2,d2,ds2,p2,q2,rfl,rfl,rfl,h2,r2⟩:=trodAll_cons r1
 obtain ⟨v3,vs3,d3,ds3,p3,q3,rfl,rfl,rfl,h3,r3⟩:=trodAll_cons r2
 obtain ⟨rfl,rfl,rfl⟩:=trodAll_nil r3
 obtain rfl:args=#[v0,v1,v2,v3]:=by cases args;simp_all
 obtain ⟨rfl,rfl⟩:=trodVars_none hV
 simp only [List.append_nil] at hW' hk hlt
 have hb:Rows.uptoBulkAll [d0,d1,d2,d3]≤1048576:=by simpa [Rows.uptoSmall] using hk
 simp only [Rows.uptoBulkAll] at hb
 obtain ⟨n0,rfl,rfl,rfl,hn0⟩:=open_int Tryz.underlying3 (hval 0 3 v0 rfl rfl) h0
 obtain ⟨l1,hr1,hl1⟩:=open_arcs (hval 1 22 v1 rfl rfl) h1
 obtain ⟨l2,hr2,hl2⟩:=open_row_texts Tryz.underlying25 Tryz.underlying9 cells_s1 (hval 2 25 v2 rfl rfl) h2
 obtain ⟨nn,fa,fc,pa,pc,sa,sc,co,fl,pr,side,rfl,hrf,hrp,hrs,hco,hlf,hlp⟩:=open_way (hval 3 28 v3 rfl rfl) h3
 obtain ⟨⟨A,hS⟩,hT⟩:=laid_sents hL
 refine (netsChecks_law W ⟨hS.h0,hS.h1,hS.h2,hT⟩ hS hr1 hr2 hrf hrp hrs hco ⟨by omega,by omega,by omega,by omega⟩).mono fun e W' ⟨he,hbl⟩ => ?_
 subst he
 exact ⟨_,rfl,_,_,_,[],_,_,hW',trodAll_cons_mk (shut_bool Tryz.underlying4 _) trodAll_mk0,trodAll_cons_mk (shut_int Tryz.underlying3 hn0) (trodAll_cons_mk (Below.trod nch_laidOut nch_read_as nch_row_as h1 hbl (fun x hx=>hlt x (by simp [hx]))) (trodAll_cons_mk (Below.trod nch_laidOut nch_read_s nch_row_s h2 hbl (fun x hx=>hlt x (by simp [hx]))) (trodAll_cons_mk (Below.trod nch_laidOut nch_read_wy nch_row_wy h3 hbl (fun x hx=>hlt x (by simp [hx]))) trodAll_mk0))),rfl,hbl.frame _,fun h=>by cases h⟩
set_option maxRecDepth 100000 in
theorem nch_laid (os:Os):laidMetH Tryz.prog Rows.netsChecksUptoRow.laid ((laidWorld os).forCall (fun _ _=>0) ⟨#[],#[.int .i64 0,.slice none 0 0,.slice none 0 0,.agg #[.bool false,.slice none 0 0,.slice none 0 0,.slice none 0 0,.string ⟨#[]⟩]],[]⟩).memory :=
 laidMetH_of_parts (laidMet_of_run3 8 (by kernel_rfl) (by kernel_rfl) (by kernel_rfl)) (by kernel_rfl)
theorem nch_reads (os:Os) {H:Type} (enc:TypeId×Value→H):∃ places,DataW.whole enc Tryz.prog ((laidWorld os).forCall (fun _ _=>0) ⟨#[],#[.int .i64 0,.slice none 0 0,.slice none 0 0,.agg #[.bool false,.slice none 0 0,.slice none 0 0,.slice none 0 0,.string ⟨#[]⟩]],[]⟩).memory Tryz.f4.params.toList Rows.netsChecksSpec.vars false #[Value.int .i64 0,Value.slice none 0 0,Value.slice none 0 0,Value.agg #[.bool false,.slice none 0 0,.slice none 0 0,.slice none 0 0,.string ⟨#[]⟩]].toList 8=some ([.lit (.int .i64 0),.nil,.nil,.agg [.lit (.bool false),.nil,.nil,.nil,.lit (.string [])]],[],places) :=
 ⟨[],by kernel_rfl⟩
set_option maxRecDepth 100000 in
theorem nch_lifted (os:Os) (started:os.Started) (H:Type) (enc:TypeId×Value→H) (F:Stop.Interp) :
   ReturnsInHanded {} Tryz.checked os 4 .any ((Rows.OpenSpec.upto Rows.netsChecksSpec).preRow enc Tryz.prog Tryz.f4 Rows.netsChecksUptoRow.domain false Rows.netsChecksUptoRow.laid) (((Rows.OpenSpec.upto Rows.netsChecksSpec).at F).post enc Tryz.prog Tryz.f4 false true false false):=by
 obtain ⟨places,hx⟩:=nch_reads os enc
 refine returnsInHanded_of_row (C:=Tryz.checked) (s:=Rows.OpenSpec.upto Rows.netsChecksSpec) own started (by kernel_rfl) Tryz.func4
   (witness_row_at (enc:=enc) (C:=Tryz.checked) false (laidWorld os) #[.int .i64 0,.slice none 0 0,.slice none 0 0,.agg #[.bool false,.slice none 0 0,.slice none 0 0,.slice none 0 0,.string ⟨#[]⟩]] rfl (by kernel_rfl) (by kernel_rfl) (by kernel_rfl)
     (OpenSpec.preRow_of_cond 8 hx (by kernel_rfl) (fun k hk=>by cases hk;kernel_rfl) (by kernel_rfl) (nch_laid os))) ?_
 intro W base args ds gs before hval hW _ hcond _ hL _ _
 exact nch_contract H enc W base args ds gs before hval hW (hcond _ rfl) hL
theorem nch_facts:joinedFacts Tryz.pinned.checked.prog 4 Tryz.f4 (Rows.OpenSpec.upto Rows.netsChecksSpec).bare Rows.netsChecksUptoRow=true:=by kernel_rfl
theorem nch_inst:Tryz.f4.isInstance Tryz.pinned.checked.prog Rows.netsChecksUptoRow.origin Rows.netsChecksUptoRow.targs:=of_decide_eq_true (by kernel_rfl)
set_option maxHeartbeats 2000000 in
theorem nch_said:Rows.NetsChecksUptoSaid :=
 OpenClaim.holds_of_cond 4 Tryz.f4 rfl rfl rfl rfl rfl rfl rfl ⟨rfl,rfl,rfl,rfl,rfl⟩ rfl rfl rfl rfl rfl (by kernel_rfl) Tryz.func4 nch_facts
   nch_inst (by unfold Func.isWrapper;first | (rw [if_pos (by decide +kernel)];kernel_rfl) | (rw [if_neg (by decide +kernel)];exact ⟨rfl,rfl⟩))
   (fun os started H enc _ F=>by rw [OpenClaim.pre_eq_preRow];exact nch_lifted os started H enc F)
theorem nch_plain (f : FuncId) (fn : Func) (hf : Tryz.pinned.checked.prog.funcNamed "optima/optimalaw3.NetsChecks" = some f) (hfn : Tryz.pinned.checked.prog.funcs[f]? = some fn) :
   true=Tryz.pinned.checked.prog.looks []∧∀ (j:Nat) t,fn.params[j]? = some t→Tryz.pinned.checked.prog.wantsStandIn t=false:=by
 obtain rfl : f = 4 := Option.some.inj ((show Tryz.prog.funcNamed "optima/optimalaw3.NetsChecks" = some 4 by kernel_rfl).symm.trans hf) |>.symm
 obtain rfl:fn=Tryz.f4:=(Option.some.inj (Tryz.func4.symm.trans hfn)).symm
 refine ⟨by kernel_rfl,fun j t ht => ?_⟩
 rw [Tryz.params4] at ht
 have hm:=Array.mem_of_getElem? ht
 simp only [List.mem_toArray,List.mem_cons,List.not_mem_nil,or_false] at hm
 rcases hm with rfl | rfl | rfl | rfl
 · exact (show Tryz.prog.wantsStandIn 3=false by kernel_rfl)
 · exact (show Tryz.prog.wantsStandIn 22=false by kernel_rfl)
 · exact (show Tryz.prog.wantsStandIn 25=false by kernel_rfl)
 · exact (show Tryz.prog.wantsStandIn 28=false by kernel_rfl)
theorem netsChecks_holds:Rows.NetsChecksUptoCardSaid :=
 Claim7.holds_tied_plain_at .later [] _ _ _ _ nch_said (fun _ h=>by cases h) (by kernel_rfl) (fun _ h=>by cases h) netsChecksUpto_row_tie rfl ⟨rfl,rfl⟩ (by kernel_rfl) rfl nch_plain (by kernel_rfl)
end Go.Proofs.YtkdobjmhammhbaaGreatDoor
