import Derived.Test.YtkdobjmhammhbaaGreatDoorMOL
import Derived.Test.YtkdobjmhammhbaaGreatDoorMPA
namespace Go.Proofs.YtkdobjmhammhbaaGreatDoor
open Go.RowKit Go.ChangeShapes Go.WideShapes Go.Deep
theorem wf_int {n:Int} (h:Lit.wf (.int .i64 n)=true):I64 n:=by
 simp only [Lit.wf,Bool.and_eq_true,decide_eq_true_eq] at h
 exact h
section
variable {H:Type}{enc:TypeId×Value→H}{P:Program}{w:World}
theorem open_rowsE {α:Type} [Inhabited α] {E:World→List Value → α → Prop}{t e:TypeId}{k fuel:Nat}{v:Value}{x:DataW H×List MemPlace} (ht:P.underlying t=some (.slice e)) (hk:P.cellsOf e=k) (k0:0<k)
   (hE:∀ n cs y,cs.length=k→DataW.trod enc P w 0 (fun _=>true) true n e cs=some y→∃ a,E w cs a)
   (h:DataW.trod enc P w 0 (fun _=>true) true fuel t [v]=some x):∃ l:List α,Rows k E w v l∧l.length≤Rows.uptoBulk x.1:=by
 rcases open_slice ht h with ⟨h1,_⟩ | ⟨a,len,cap,m,n,D,Pl,h1,_,hl,hm,hmm,hxx,hx⟩
 · obtain rfl:v=.slice none 0 0:=by simpa using h1
   exact ⟨[],rows_nil _,Nat.zero_le _⟩
 · obtain rfl:v=.slice (some a) len cap:=by simpa using h1
   simp only [if_true] at hmm
   subst hmm
   rw [hk] at hx
   obtain ⟨f,hf⟩:=choose_lt (n:=m) (p:=fun i (q:List Value × α)=>w.cells? 0 (a.add (i*k)) k=some q.1∧E w q.1 q.2) (fun i hi=>by
     obtain ⟨cs',h2,h3⟩:=hx i hi
     obtain ⟨y,hy⟩:=hE n cs' _ (World.cells?_some h2).2.1 h3
     exact ⟨(cs',y),h2,hy⟩)
   refine ⟨(List.range len).map fun i=>(f i).2,⟨some a,m,by simp,by simpa using hl,hm,?_⟩,?_⟩
   · by_cases h0:len=0
     · left;subst h0;rfl
     · right
       obtain ⟨b,o,spot⟩:=a
       have hs:spot=none:=by
         obtain ⟨_,hlen,hc⟩:=World.cells?_some (hf 0 (by omega)).1
         have h4:=hc 0 k0
         rw [List.getElem?_eq_getElem (by omega)] at h4
         simpa [Addr.add] using World.cell?_spot h4
       subst hs
       refine ⟨b,o,rfl,fun i y hy => ?_⟩
       obtain ⟨hi,rfl⟩:i<len∧(f i).2=y:=by
         rw [List.getElem?_map,Option.map_eq_some_iff] at hy
         obtain ⟨j,hj,rfl⟩:=hy
         obtain ⟨h3,h4⟩:=List.getElem?_eq_some_iff.1 hj
         simp at h3 h4
         subst h4
         exact ⟨h3,rfl⟩
       obtain ⟨g1,g2⟩:=hf i (by omega)
       obtain ⟨_,hlen,hc⟩:=World.cells?_some g1
       refine ⟨(f i).1,hlen,fun j u hu => ?_,g2⟩
       have hj:j<k:=by have:=(List.getElem?_eq_some_iff.1 hu).1;omega
       have h5:=hc j hj
       rw [add_plain',add_plain',hu] at h5
       rw [← h5,Nat.add_assoc]
   · subst hxx
     have h2:=bulk_len ((List.range len).map D)
     simp only [List.length_map,List.length_range] at h2 ⊢
     simp only [Rows.uptoBulk]
     omega
end
theorem cells_i1:Tryz.prog.cellsOf 3=1:=by kernel_rfl
theorem cells_s1:Tryz.prog.cellsOf 9=1:=by kernel_rfl
section
variable {H:Type}{enc:TypeId×Value→H}{P:Program}{w:World}
theorem open_size {t ti:TypeId}{f0 f1:Field}{n:Nat}{u0 u1:Value}{y:DataW H×List MemPlace} (ht:P.underlying t=some (.struct #[f0,f1])) (o0:f0.offset=0) (o1:f1.offset=1)
   (e0:f0.type=ti) (e1:f1.type=ti) (ci:P.cellsOf ti=1) (hi:P.underlying ti=some (.int .i64)) (h:DataW.trod enc P w 0 (fun _=>true) true n t [u0,u1]=some y) :
   ∃ a,SzE w [u0,u1] a:=by
 obtain ⟨xs,n,_,_,_,hxl,hf⟩:=DataW.trod_struct ht h
 match xs,hxl with
 | [y0,y1],_ =>
   have t0:=hf 0 f0 rfl
   have t1:=hf 1 f1 rfl
   simp only [o0,e0,o1,e1,ci,List.drop,List.take,List.getElem?_cons_zero,List.getElem?_cons_succ] at t0 t1
   obtain ⟨z,hz,_,wz⟩:=DataW.trod_int hi t0
   obtain ⟨z',hz',_,wz'⟩:=DataW.trod_int hi t1
   obtain rfl:u0=.int .i64 z:=by simpa using hz
   obtain rfl:u1=.int .i64 z':=by simpa using hz'
   exact ⟨(z,z'),rfl,wf_int wz,wf_int wz'⟩
theorem open_intsE {t e:TypeId}{fuel:Nat}{v:Value}{x:DataW H×List MemPlace} (ht:P.underlying t=some (.slice e)) (he:P.underlying e=some (.int .i64)) (hk:P.cellsOf e=1)
   (h:DataW.trod enc P w 0 (fun _=>true) true fuel t [v]=some x):∃ l:List Int,Rows 1 JE w v l:=by
 obtain ⟨l,h1,_⟩:=open_rowsE (E:=JE) ht hk (by decide) (fun n cs y hl h=>by
   match cs,hl with
   | [u0],_ =>
     obtain ⟨z,hz,_,wz⟩:=DataW.trod_int he h
     obtain rfl:u0=.int .i64 z:=by simpa using hz
     exact ⟨z,rfl,wf_int wz⟩) h
 exact ⟨l,h1⟩
end
theorem cells_size:Tryz.prog.cellsOf 76=2:=by kernel_rfl
theorem cells_is1:Tryz.prog.cellsOf 55=1:=by kernel_rfl
set_option maxRecDepth 100000 in
theorem open_sizes {H:Type}{enc:TypeId×Value→H}{w:World}{v:Value}{d:DataW H}{p:List MemPlace}{r:Reach}{b0:Nat} (hval:Value.okWide Tryz.prog w r b0 72 v) (h:DataW.Trod enc Tryz.prog w 0 (fun _=>true) true 72 v d p):∃ l,Rows 2 SzE w v l:=by
 obtain ⟨a0,n0,c0,rfl⟩:=okWide_slice Tryz.underlying72 hval
 obtain ⟨fuel,h⟩:=h
 rw [show (Value.slice a0 n0 c0).cells.toList=[.slice a0 n0 c0] from rfl] at h
 obtain ⟨l,h1,_⟩:=open_rowsE (E:=SzE) Tryz.underlying72 cells_size (by decide) (fun n cs y hl h=>by
   match cs,hl with
   | [u0,u1],_=>exact open_size Tryz.underlying76 rfl rfl rfl rfl cells_i1 Tryz.underlying3 h) h
 exact ⟨l,h1⟩
set_option maxRecDepth 100000 in
theorem open_pats {H:Type}{enc:TypeId×Value→H}{w:World}{v:Value}{d:DataW H}{p:List MemPlace}{r:Reach}{b0:Nat} (hval:Value.okWide Tryz.prog w r b0 73 v) (h:DataW.Trod enc Tryz.prog w 0 (fun _=>true) true 73 v d p):∃ l,Rows 1 (LE 1 JE) w v l:=by
 obtain ⟨a0,n0,c0,rfl⟩:=okWide_slice Tryz.underlying73 hval
 obtain ⟨fuel,h⟩:=h
 rw [show (Value.slice a0 n0 c0).cells.toList=[.slice a0 n0 c0] from rfl] at h
 obtain ⟨l,h1,_⟩:=open_rowsE (E:=LE 1 JE) Tryz.underlying73 cells_is1 (by decide) (fun n cs y hl h=>by
   match cs,hl with
   | [u0],_ =>
     obtain ⟨l,hl⟩:=open_intsE Tryz.underlying55 Tryz.underlying3 cells_i1 h
     exact ⟨l,u0,rfl,hl⟩) h
 exact ⟨l,h1⟩
end Go.Proofs.YtkdobjmhammhbaaGreatDoor
