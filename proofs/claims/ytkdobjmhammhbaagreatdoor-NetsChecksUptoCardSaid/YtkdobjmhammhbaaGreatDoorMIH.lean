import Derived.Test.YtkdobjmhammhbaaGreatDoorMOL
import Derived.Test.YtkdobjmhammhbaaGreatDoorMJ1
namespace Go.Proofs.YtkdobjmhammhbaaGreatDoor
open Go.RowKit Go.ChangeShapes Go.WideShapes Go.Deep
theorem wf_int {n:Int} (h:Lit.wf (.int .i64 n)=true):I64 n:=by
 simp only [Lit.wf,Bool.and_eq_true,decide_eq_true_eq] at h
 exact h
section
variable {H:Type}{enc:TypeId×Value→H}{P:Program}{w:World}
theorem open_rowsE {α:Type} [Inhabited α] {E:World→List Value → α → Prop}{t e:TypeId}{k fuel:Nat}{v:Value}{x:DataW H×List MemPlace} (ht:P.underlying t=some (.slice e)) (hk:P.cellsOf e=k) (k0:0<k)
   (hE:∀ n cs y,cs.length=k→DataW.trod enc P w 0 (fun _=>true) true n e cs=some y→∃ a,E w cs a)
   (h:DataW.trod enc P w 0 (fun _=>true) true fuel t [v]=some x):∃ l:List α,Rows k E w v l∧l.length≤Rows.uptoBulk x.1:=by
 rcases open_slice ht h with ⟨h1,_⟩ | ⟨a,len,cap,m,n,D,Pl,h1,_,hl,hm,hmm,hxx,hx⟩
 · obtain rfl:v=.slice none 0 0:=by simpa using h1
   exact ⟨[],rows_nil _,Nat.zero_le _⟩
 · obtain rfl:v=.slice (some a) len cap:=by simpa using h1
   simp only [if_true] at hmm
   subst hmm
   rw [hk] at hx
   obtain ⟨f,hf⟩:=choose_lt (n:=m) (p:=fun i (q:List Value × α)=>w.cells? 0 (a.add (i*k)) k=some q.1∧E w q.1 q.2) (fun i hi=>by
     obtain ⟨cs',h2,h3⟩:=hx i hi
     obtain ⟨y,hy⟩:=hE n cs' _ (World.cells?_some h2).2.1 h3
     exact ⟨(cs',y),h2,hy⟩)
   refine ⟨(List.range len).map fun i=>(f i).2,⟨some a,m,by simp,by simpa using hl,hm,?_⟩,?_⟩
   · by_cases h0:len=0
     · left;subst h0;rfl
     · right
       obtain ⟨b,o,spot⟩:=a
       have hs:spot=none:=by
         obtain ⟨_,hlen,hc⟩:=World.cells?_some (hf 0 (by omega)).1
         have h4:=hc 0 k0
         rw [List.getElem?_eq_getElem (by omega)] at h4
         simpa [Addr.add] using World.cell?_spot h4
       subst hs
       refine ⟨b,o,rfl,fun i y hy => ?_⟩
       obtain ⟨hi,rfl⟩:i<len∧(f i).2=y:=by
         rw [List.getElem?_map,Option.map_eq_some_iff] at hy
         obtain ⟨j,hj,rfl⟩:=hy
         obtain ⟨h3,h4⟩:=List.getElem?_eq_some_iff.1 hj
         simp at h3 h4
         subst h4
         exact ⟨h3,rfl⟩
       obtain ⟨g1,g2⟩:=hf i (by omega)
       obtain ⟨_,hlen,hc⟩:=World.cells?_some g1
       refine ⟨(f i).1,hlen,fun j u hu => ?_,g2⟩
       have hj:j<k:=by have:=(List.getElem?_eq_some_iff.1 hu).1;omega
       have h5:=hc j hj
       rw [add_plain',add_plain',hu] at h5
       rw [← h5,Nat.add_assoc]
   · subst hxx
     have h2:=bulk_len ((List.range len).map D)
     simp only [List.length_map,List.length_range] at h2 ⊢
     simp only [Rows.uptoBulk]
     omega
theorem open_flagsE {t e:TypeId}{fuel:Nat}{v:Value}{x:DataW H×List MemPlace} (ht:P.underlying t=some (.slice e)) (he:P.underlying e=some .bool) (hk:P.cellsOf e=1)
   (h:DataW.trod enc P w 0 (fun _=>true) true fuel t [v]=some x):∃ l:List Bool,Rows 1 BE w v l:=by
 obtain ⟨l,h1,_⟩:=open_rowsE (E:=BE) ht hk (by decide) (fun n cs y _ h=>by
   obtain ⟨z,rfl,_⟩:=DataW.trod_bool he h
   exact ⟨z,rfl⟩) h
 exact ⟨l,h1⟩
theorem open_spec {t ti ts:TypeId}{f0 f1 f2 f3:Field}{n:Nat}{u0 u1 u2 u3:Value}{y:DataW H×List MemPlace} (ht:P.underlying t=some (.struct #[f0,f1,f2,f3])) (o0:f0.offset=0) (o1:f1.offset=1) (o2:f2.offset=2) (o3:f3.offset=3)
   (e0:f0.type=ti) (e1:f1.type=ti) (e2:f2.type=ts) (e3:f3.type=ts) (ci:P.cellsOf ti=1) (cs:P.cellsOf ts=1) (hi:P.underlying ti=some (.int .i64)) (hs:P.underlying ts=some .string) (h:DataW.trod enc P w 0 (fun _=>true) true n t [u0,u1,u2,u3]=some y) :
   ∃ a,SpE w [u0,u1,u2,u3] a:=by
 obtain ⟨xs,n,_,_,_,hxl,hf⟩:=DataW.trod_struct ht h
 match xs,hxl with
 | [y0,y1,y2,y3],_ =>
   have t0:=hf 0 f0 rfl
   have t1:=hf 1 f1 rfl
   have t2:=hf 2 f2 rfl
   have t3:=hf 3 f3 rfl
   simp only [o0,e0,o1,e1,o2,e2,o3,e3,ci,cs,List.drop,List.take,List.getElem?_cons_zero,List.getElem?_cons_succ] at t0 t1 t2 t3
   obtain ⟨z,hz,_,wz⟩:=DataW.trod_int hi t0
   obtain ⟨z',hz',_,wz'⟩:=DataW.trod_int hi t1
   obtain ⟨s,hs1,_,ws⟩:=DataW.trod_string hs t2
   obtain ⟨s',hs2,_,ws'⟩:=DataW.trod_string hs t3
   obtain rfl:u0=.int .i64 z:=by simpa using hz
   obtain rfl:u1=.int .i64 z':=by simpa using hz'
   obtain rfl:u2=.string s:=by simpa using hs1
   obtain rfl:u3=.string s':=by simpa using hs2
   exact ⟨(z,z',s,s'),rfl,wf_int wz,wf_int wz',ws,ws'⟩
theorem trod_five {t:TypeId}{f0 f1 f2 f3 f4:Field}{fuel:Nat}{u0 u1 u2 u3 u4:Value}{x:DataW H×List MemPlace} (ht:P.underlying t=some (.struct #[f0,f1,f2,f3,f4])) (o0:f0.offset=0) (o1:f1.offset=1) (o2:f2.offset=2) (o3:f3.offset=3) (o4:f4.offset=4) (c0:P.cellsOf f0.type=1) (c1:P.cellsOf f1.type=1) (c2:P.cellsOf f2.type=1) (c3:P.cellsOf f3.type=1) (c4:P.cellsOf f4.type=1)
   (h:DataW.trod enc P w 0 (fun _=>true) true fuel t [u0,u1,u2,u3,u4]=some x):∃ y0 y1 y2 y3 y4 n,x.1=.agg [y0.1,y1.1,y2.1,y3.1,y4.1]∧DataW.trod enc P w 0 (fun _=>true) true n f0.type [u0]=some y0∧DataW.trod enc P w 0 (fun _=>true) true n f1.type [u1]=some y1∧DataW.trod enc P w 0 (fun _=>true) true n f2.type [u2]=some y2∧DataW.trod enc P w 0 (fun _=>true) true n f3.type [u3]=some y3∧DataW.trod enc P w 0 (fun _=>true) true n f4.type [u4]=some y4:=by
 obtain ⟨xs,n,_,hx,_,hxl,hf⟩:=DataW.trod_struct ht h
 match xs,hxl with
 | [y0,y1,y2,y3,y4],_ =>
   have t0:=hf 0 f0 rfl
   have t1:=hf 1 f1 rfl
   have t2:=hf 2 f2 rfl
   have t3:=hf 3 f3 rfl
   have t4:=hf 4 f4 rfl
   simp only [o0,c0,o1,c1,o2,c2,o3,c3,o4,c4,List.drop,List.take,List.getElem?_cons_zero,List.getElem?_cons_succ] at t0 t1 t2 t3 t4
   exact ⟨y0,y1,y2,y3,y4,n,by rw [hx];simp,t0,t1,t2,t3,t4⟩
end
theorem cells_spec:Tryz.prog.cellsOf 91=4:=by kernel_rfl
theorem cells_i1:Tryz.prog.cellsOf 3=1:=by kernel_rfl
theorem cells_s1:Tryz.prog.cellsOf 9=1:=by kernel_rfl
theorem cells_b1:Tryz.prog.cellsOf 4=1:=by kernel_rfl
theorem cells_ss1:Tryz.prog.cellsOf 25=1:=by kernel_rfl
theorem cells_bs1:Tryz.prog.cellsOf 26=1:=by kernel_rfl
theorem cells_way:Tryz.prog.cellsOf 28=5:=by kernel_rfl
set_option maxRecDepth 100000 in
theorem open_arcs {H:Type}{enc:TypeId×Value→H}{w:World}{v:Value}{d:DataW H}{p:List MemPlace}{r:Reach}{b0:Nat} (hval:Value.okWide Tryz.prog w r b0 22 v) (h:DataW.Trod enc Tryz.prog w 0 (fun _=>true) true 22 v d p):∃ l,Rows 4 SpE w v l∧l.length≤Rows.uptoBulk d:=by
 obtain ⟨a0,n0,c0,rfl⟩:=okWide_slice Tryz.underlying22 hval
 obtain ⟨fuel,h⟩:=h
 rw [show (Value.slice a0 n0 c0).cells.toList=[.slice a0 n0 c0] from rfl] at h
 exact open_rowsE (E:=SpE) Tryz.underlying22 cells_spec (by decide) (fun n cs y hl h=>by
   match cs,hl with
   | [u0,u1,u2,u3],_=>exact open_spec Tryz.underlying91 rfl rfl rfl rfl rfl rfl rfl rfl cells_i1 cells_s1 Tryz.underlying3 Tryz.underlying9 h) h
set_option maxRecDepth 4000 in
theorem open_way {H:Type}{enc:TypeId×Value→H}{w:World}{v:Value}{d:DataW H}{p:List MemPlace}{r:Reach}{b0:Nat} (hval:Value.okWide Tryz.prog w r b0 28 v) (h:DataW.Trod enc Tryz.prog w 0 (fun _=>true) true 28 v d p) :
   ∃ nn fa fc pa pc sa sc co,∃ (fl pr:List ByteArray) (side:List Bool),v=.agg #[.bool nn,.slice fa fl.length fc,.slice pa pr.length pc,.slice sa side.length sc,.string co]∧Rows 1 TE w (.slice fa fl.length fc) fl∧Rows 1 TE w (.slice pa pr.length pc) pr∧Rows 1 BE w (.slice sa side.length sc) side∧co.size≤maxLen∧fl.length≤Rows.uptoBulk d∧pr.length≤Rows.uptoBulk d:=by
 obtain ⟨cs,rfl,hcs⟩:=okWide_struct Tryz.underlying28 hval
 obtain ⟨fuel,h⟩:=h
 rw [cells_way] at hcs
 obtain ⟨l⟩:=cs
 match l,hcs with
 | [u0,u1,u2,u3,u4],_ =>
   rw [show (Value.agg ⟨[u0,u1,u2,u3,u4]⟩).cells.toList=[u0,u1,u2,u3,u4] from rfl] at h
   obtain ⟨y0,y1,y2,y3,y4,n,hx,t0,t1,t2,t3,t4⟩:=trod_five Tryz.underlying28 rfl rfl rfl rfl rfl cells_b1 cells_ss1 cells_ss1 cells_bs1 cells_s1 h
   obtain ⟨z,hz,_⟩:=DataW.trod_bool Tryz.underlying4 t0
   obtain rfl:u0=.bool z:=by simpa using hz
   obtain ⟨s,hs,_,ws⟩:=DataW.trod_string Tryz.underlying9 t4
   obtain rfl:u4=.string s:=by simpa using hs
   obtain ⟨l1,r1,b1⟩:=open_texts Tryz.underlying25 Tryz.underlying9 cells_s1 t1
   obtain ⟨l2,r2,b2⟩:=open_texts Tryz.underlying25 Tryz.underlying9 cells_s1 t2
   obtain ⟨l3,r3⟩:=open_flagsE Tryz.underlying26 Tryz.underlying4 cells_b1 t3
   obtain ⟨fa,fc,rfl⟩:=r1.shape
   obtain ⟨pa,pc,rfl⟩:=r2.shape
   obtain ⟨sa,sc,rfl⟩:=r3.shape
   simp only at hx
   have g1:=bulk_part (d:=y1.1) (l:=[y0.1,y1.1,y2.1,y3.1,y4.1]) (by simp)
   have g2:=bulk_part (d:=y2.1) (l:=[y0.1,y1.1,y2.1,y3.1,y4.1]) (by simp)
   refine ⟨z,fa,fc,pa,pc,sa,sc,s,l1,l2,l3,rfl,r1,r2,r3,ws,?_,?_⟩
   all_goals
     rw [hx]
     simp only [Rows.uptoBulk]
     omega
end Go.Proofs.YtkdobjmhammhbaaGreatDoor
