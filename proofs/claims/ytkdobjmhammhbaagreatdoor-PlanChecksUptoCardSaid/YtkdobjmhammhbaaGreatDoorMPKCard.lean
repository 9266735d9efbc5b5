/-
 PlanChecks: for every roll, every sizes and patterns, and every times, worths and number of rolls in texts (together of bulk at most 1048576) the law answers true: CheckCut answers as the document has it, with the error that the document asks or with whether the cutting shows itself (in a world where the table of math/bits, errors.errorType and the ten errors of package api hold what their initialisers lay), and what came in reads afterwards as it read before.
-/
import Derived.Test.YtkdobjmhammhbaaGreatDoorMPJ
import Derived.Test.YtkdobjmhammhbaaGreatDoorMPL
namespace Go.Proofs.YtkdobjmhammhbaaGreatDoor
open Go.RowKit Go.ChangeShapes Go.WideShapes Go.ChangeAt
open Go.ChangeMaps (open_string shut_string)
theorem pkc_laidOut:laidOutB Tryz.prog=true:=by kernel_rfl
theorem pkc_read_ii:Tryz.prog.readableRec 73=true:=by kernel_rfl
theorem pkc_row_ii:73<Tryz.prog.types.size:=of_decide_eq_true (by kernel_rfl)
theorem pkc_read_sz:Tryz.prog.readableRec 72=true:=by kernel_rfl
theorem pkc_row_sz:72<Tryz.prog.types.size:=of_decide_eq_true (by kernel_rfl)
theorem pkc_read_s:Tryz.prog.readableRec 25=true:=by kernel_rfl
theorem pkc_row_s:25<Tryz.prog.types.size:=of_decide_eq_true (by kernel_rfl)
set_option maxRecDepth 100000 in
theorem pkc_contract (H:Type) (enc:TypeId×Value→H) (W:World) (base:Nat) (args:Array Value) (ds gs:List (DataW H)) (before:List MemPlace)
   (hval:∀ (j:Nat) t v,Tryz.f5.params[j]? = some t→args[j]? = some v→Value.okWide Tryz.prog W .any base t v)
   (hW:DataW.Whole enc Tryz.prog Tryz.f5.params.toList Rows.planChecksSpec.vars false W args.toList ds gs before) (hk:Rows.uptoSmall H (ds++gs)=true) (hL:laidMetH Tryz.prog Rows.planChecksUptoRow.laid W) :
   Calls Tryz.prog 5 args W fun e W'=>∃ v,e=.returned v∧Rows.planChecksSpec.post enc Tryz.prog Tryz.f5 false true false false W args v W':=by
 have hW':=hW
 have hlt:=hW.lt
 obtain ⟨p,q,hA0,hV,rfl,hfz,hnd⟩:=hW
 have hA:DataW.TrodAll enc Tryz.prog W 0 (fun _=>true) true Tryz.f5.params.toList args.toList ds p:=hA0
 rw [Tryz.params5] at hA hval
 obtain ⟨v0,vs0,d0,ds0,p0,q0,hargs,rfl,rfl,h0,r0⟩:=trodAll_cons hA
 obtain ⟨v1,vs1,d1,ds1,p1,q1,rfl,rfl,rfl,h1,r1⟩:=trodAll_cons r0
 obtain ⟨v2,vs2,d2,ds2,p2,q2,rfl,rfl,rfl,h2,r2⟩:=trodAll_cons r1
 obtain ⟨v3,vs3,d3,ds3,p3,q3,rfl,rfl,rfl,h3,r3⟩:=trodAll_cons r2
 obtain ⟨v4,vs4,d4,ds4,p4,q4,rfl,rfl,rfl,h4,r4⟩:=trodAll_cons r3
 obtain ⟨v5,vs5,d5,ds5,p5,q5,rfl,rfl,rfl,h5,r5⟩:=trodAll_cons r4
 obtain ⟨rfl,rfl,rfl⟩:=trodAll_nil r5
 obtain rfl:args=#[v0,v1,v2,v3,v4,v5]:=by cases args;simp_all
 obtain ⟨rfl,rfl⟩:=trodVars_none hV
 simp only [List.append_nil] at hW' hk hlt
 have hb:Rows.uptoBulkAll [d0,d1,d2,d3,d4,d5]≤1048576:=by simpa [Rows.uptoSmall] using hk
 simp only [Rows.uptoBulkAll] at hb
 obtain ⟨n0,rfl,rfl,rfl,hn0⟩:=open_int Tryz.underlying3 (hval 0 3 v0 rfl rfl) h0
 obtain ⟨l1,hr1⟩:=open_sizes (hval 1 72 v1 rfl rfl) h1
 obtain ⟨l2,hr2⟩:=open_pats (hval 2 73 v2 rfl rfl) h2
 obtain ⟨l3,hr3,hl3⟩:=open_row_texts Tryz.underlying25 Tryz.underlying9 cells_s1 (hval 3 25 v3 rfl rfl) h3
 obtain ⟨l4,hr4,hl4⟩:=open_row_texts Tryz.underlying25 Tryz.underlying9 cells_s1 (hval 4 25 v4 rfl rfl) h4
 obtain ⟨s5,rfl,rfl,rfl,hs5⟩:=open_string Tryz.underlying9 (hval 5 9 v5 rfl rfl) h5
 obtain ⟨⟨A,hS⟩,hT⟩:=laid_sents hL
 refine (planChecks_law W ⟨hS.h0,hS.h1,hS.h2,hT⟩ hS hr1 hr2 hr3 hr4 hs5 ⟨by omega,by omega⟩).mono fun e W' ⟨he,hbl⟩ => ?_
 subst he
 exact ⟨_,rfl,_,_,_,[],_,_,hW',trodAll_cons_mk (shut_bool Tryz.underlying4 _) trodAll_mk0,trodAll_cons_mk (shut_int Tryz.underlying3 hn0) (trodAll_cons_mk (Below.trod pkc_laidOut pkc_read_sz pkc_row_sz h1 hbl (fun x hx=>hlt x (by simp [hx]))) (trodAll_cons_mk (Below.trod pkc_laidOut pkc_read_ii pkc_row_ii h2 hbl (fun x hx=>hlt x (by simp [hx]))) (trodAll_cons_mk (Below.trod pkc_laidOut pkc_read_s pkc_row_s h3 hbl (fun x hx=>hlt x (by simp [hx]))) (trodAll_cons_mk (Below.trod pkc_laidOut pkc_read_s pkc_row_s h4 hbl (fun x hx=>hlt x (by simp [hx]))) (trodAll_cons_mk (shut_string Tryz.underlying9 hs5) trodAll_mk0))))),rfl,hbl.frame _,fun h=>by cases h⟩
set_option maxRecDepth 100000 in
theorem pkc_laid (os:Os):laidMetH Tryz.prog Rows.planChecksUptoRow.laid ((laidWorld os).forCall (fun _ _=>0) ⟨#[],#[.int .i64 0,.slice none 0 0,.slice none 0 0,.slice none 0 0,.slice none 0 0,.string ⟨#[]⟩],[]⟩).memory :=
 laidMetH_of_parts (laidMet_of_run3 8 (by kernel_rfl) (by kernel_rfl) (by kernel_rfl)) (by kernel_rfl)
theorem pkc_reads (os:Os) {H:Type} (enc:TypeId×Value→H):∃ places,DataW.whole enc Tryz.prog ((laidWorld os).forCall (fun _ _=>0) ⟨#[],#[.int .i64 0,.slice none 0 0,.slice none 0 0,.slice none 0 0,.slice none 0 0,.string ⟨#[]⟩],[]⟩).memory Tryz.f5.params.toList Rows.planChecksSpec.vars false #[Value.int .i64 0,Value.slice none 0 0,Value.slice none 0 0,Value.slice none 0 0,Value.slice none 0 0,Value.string ⟨#[]⟩].toList 8=some ([.lit (.int .i64 0),.nil,.nil,.nil,.nil,.lit (.string [])],[],places) :=
 ⟨[],by kernel_rfl⟩
set_option maxRecDepth 100000 in
theorem pkc_lifted (os:Os) (started:os.Started) (H:Type) (enc:TypeId×Value→H) (F:Stop.Interp) :
   ReturnsInHanded {} Tryz.checked os 5 .any ((Rows.OpenSpec.upto Rows.planChecksSpec).preRow enc Tryz.prog Tryz.f5 Rows.planChecksUptoRow.domain false Rows.planChecksUptoRow.laid) (((Rows.OpenSpec.upto Rows.planChecksSpec).at F).post enc Tryz.prog Tryz.f5 false true false false):=by
 obtain ⟨places,hx⟩:=pkc_reads os enc
 refine returnsInHanded_of_row (C:=Tryz.checked) (s:=Rows.OpenSpec.upto Rows.planChecksSpec) own started (by kernel_rfl) Tryz.func5
   (witness_row_at (enc:=enc) (C:=Tryz.checked) false (laidWorld os) #[.int .i64 0,.slice none 0 0,.slice none 0 0,.slice none 0 0,.slice none 0 0,.string ⟨#[]⟩] rfl (by kernel_rfl) (by kernel_rfl) (by kernel_rfl)
     (OpenSpec.preRow_of_cond 8 hx (by kernel_rfl) (fun k hk=>by cases hk;kernel_rfl) (by kernel_rfl) (pkc_laid os))) ?_
 intro W base args ds gs before hval hW _ hcond _ hL _ _
 exact pkc_contract H enc W base args ds gs before hval hW (hcond _ rfl) hL
theorem pkc_facts:joinedFacts Tryz.pinned.checked.prog 5 Tryz.f5 (Rows.OpenSpec.upto Rows.planChecksSpec).bare Rows.planChecksUptoRow=true:=by kernel_rfl
theorem pkc_inst:Tryz.f5.isInstance Tryz.pinned.checked.prog Rows.planChecksUptoRow.origin Rows.planChecksUptoRow.targs:=of_decide_eq_true (by kernel_rfl)
set_option maxHeartbeats 2000000 in
theorem pkc_said:Rows.PlanChecksUptoSaid :=
 OpenClaim.holds_of_cond 5 Tryz.f5 rfl rfl rfl rfl rfl rfl rfl ⟨rfl,rfl,rfl,rfl,rfl⟩ rfl rfl rfl rfl rfl (by kernel_rfl) Tryz.func5 pkc_facts
   pkc_inst (by unfold Func.isWrapper;first | (rw [if_pos (by decide +kernel)];kernel_rfl) | (rw [if_neg (by decide +kernel)];exact ⟨rfl,rfl⟩))
   (fun os started H enc _ F=>by rw [OpenClaim.pre_eq_preRow];exact pkc_lifted os started H enc F)
theorem pkc_plain (f : FuncId) (fn : Func) (hf : Tryz.pinned.checked.prog.funcNamed "optima/optimalaw3.PlanChecks" = some f) (hfn : Tryz.pinned.checked.prog.funcs[f]? = some fn) :
   true=Tryz.pinned.checked.prog.looks []∧∀ (j:Nat) t,fn.params[j]? = some t→Tryz.pinned.checked.prog.wantsStandIn t=false:=by
 obtain rfl : f = 5 := Option.some.inj ((show Tryz.prog.funcNamed "optima/optimalaw3.PlanChecks" = some 5 by kernel_rfl).symm.trans hf) |>.symm
 obtain rfl:fn=Tryz.f5:=(Option.some.inj (Tryz.func5.symm.trans hfn)).symm
 refine ⟨by kernel_rfl,fun j t ht => ?_⟩
 rw [Tryz.params5] at ht
 have hm:=Array.mem_of_getElem? ht
 simp only [List.mem_toArray,List.mem_cons,List.not_mem_nil,or_false] at hm
 rcases hm with rfl | rfl | rfl | rfl | rfl | rfl
 · exact (show Tryz.prog.wantsStandIn 3=false by kernel_rfl)
 · exact (show Tryz.prog.wantsStandIn 72=false by kernel_rfl)
 · exact (show Tryz.prog.wantsStandIn 73=false by kernel_rfl)
 · exact (show Tryz.prog.wantsStandIn 25=false by kernel_rfl)
 · exact (show Tryz.prog.wantsStandIn 25=false by kernel_rfl)
 · exact (show Tryz.prog.wantsStandIn 9=false by kernel_rfl)
theorem planChecks_holds:Rows.PlanChecksUptoCardSaid :=
 Claim7.holds_tied_plain_at .later [] _ _ _ _ pkc_said (fun _ h=>by cases h) (by kernel_rfl) (fun _ h=>by cases h) planChecksUpto_row_tie rfl ⟨rfl,rfl⟩ (by kernel_rfl) rfl pkc_plain (by kernel_rfl)
end Go.Proofs.YtkdobjmhammhbaaGreatDoor
