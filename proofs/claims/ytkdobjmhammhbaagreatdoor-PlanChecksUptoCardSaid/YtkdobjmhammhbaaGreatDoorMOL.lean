import Derived.Test.YtkdobjmhammhbaaGreatDoorMEA
import Derived.Test.YtkdobjmhammhbaaGreatDoorMK1
import Derived.Test.YtkdobjmhammhbaaGreatDoorCards
import Derived.Test.YtkdobjmhammhbaaGreatDoorTie
import Derived.ProofKit
import Derived.OpenShut
import Derived.Deep.DeepHandedRow
import Derived.Deep.DeepLaidRun
import Derived.Stop.LaidErr
import Derived.Deep.Strs
namespace Go.Proofs.YtkdobjmhammhbaaGreatDoor
open Go.RowKit Go.ChangeShapes Go.WideShapes Go.ChangeAt
theorem own:ownKnob Tryz.prog.godebug=none:=by kernel_rfl
theorem cellsErr:Tryz.prog.cellsOf 342=1:=by kernel_rfl
theorem cellsStr:Tryz.prog.cellsOf 9=1:=by kernel_rfl
theorem star : ("*" ++ "errors.errorString" : String) = "*errors.errorString" := by decide
theorem rowErr (u : TypeId) (h : Tryz.prog.typeName? 3 u = some "*errors.errorString") : u = 324 :=
 typeName_ptr_named (nm := "errors.errorString") (by rw [star]; kernel_rfl) (by kernel_rfl) (by decide) u (by rw [star]; exact h)
theorem gErrText : Tryz.prog.globalNamed "optima/api.ErrText" = some 1 := by kernel_rfl
theorem tErrText:(Tryz.prog.globals[1]?).map (·.type)=some 43:=by kernel_rfl
theorem gErrBound : Tryz.prog.globalNamed "optima/api.ErrBound" = some 2 := by kernel_rfl
theorem tErrBound:(Tryz.prog.globals[2]?).map (·.type)=some 43:=by kernel_rfl
theorem gErrZero : Tryz.prog.globalNamed "optima/api.ErrZero" = some 3 := by kernel_rfl
theorem tErrZero:(Tryz.prog.globals[3]?).map (·.type)=some 43:=by kernel_rfl
theorem gErrShape : Tryz.prog.globalNamed "optima/api.ErrShape" = some 0 := by kernel_rfl
theorem tErrShape:(Tryz.prog.globals[0]?).map (·.type)=some 43:=by kernel_rfl
theorem gErrSingular : Tryz.prog.globalNamed "optima/api.ErrSingular" = some 4 := by kernel_rfl
theorem tErrSingular:(Tryz.prog.globals[4]?).map (·.type)=some 43:=by kernel_rfl
theorem gErrSense : Tryz.prog.globalNamed "optima/api.ErrSense" = some 5 := by kernel_rfl
theorem tErrSense:(Tryz.prog.globals[5]?).map (·.type)=some 43:=by kernel_rfl
theorem gErrName : Tryz.prog.globalNamed "optima/api.ErrName" = some 6 := by kernel_rfl
theorem tErrName:(Tryz.prog.globals[6]?).map (·.type)=some 43:=by kernel_rfl
theorem gErrNumber : Tryz.prog.globalNamed "optima/api.ErrNumber" = some 7 := by kernel_rfl
theorem tErrNumber:(Tryz.prog.globals[7]?).map (·.type)=some 43:=by kernel_rfl
theorem gErrBasis : Tryz.prog.globalNamed "optima/api.ErrBasis" = some 8 := by kernel_rfl
theorem tErrBasis:(Tryz.prog.globals[8]?).map (·.type)=some 43:=by kernel_rfl
theorem gErrOpen : Tryz.prog.globalNamed "optima/api.ErrOpen" = some 9 := by kernel_rfl
theorem tErrOpen:(Tryz.prog.globals[9]?).map (·.type)=some 43:=by kernel_rfl
theorem gHandle : Tryz.prog.globalNamed "errors.errorType" = some 10 := by kernel_rfl
theorem rtHandle : (Tryz.prog.cutTypes.find? (·.1 == "internal/reflectlite.rtype")).map (·.2) = some 274 := by kernel_rfl
theorem oneRow:((List.range Tryz.prog.types.size).filter fun t=>Tryz.prog.rowNamed t [101,114,114,111,114])=[43]:=by kernel_rfl
set_option maxRecDepth 100000 in
theorem sent_of {n nm : String} {text : List UInt8} {r : List (String × DataW Unit)} {W : World} {g : Nat} (hnm : nm = "*errors.errorString")
   (h:laidMet Tryz.prog ((n,.iface nm (.ptr (.agg [.lit (.string text)]))) :: r) W) (hg:Tryz.prog.globalNamed n=some g) (ht:(Tryz.prog.globals[g]?).map (·.type)=some 43) :
   ∃ (a:Addr) (s:ByteArray) (c:Array Value) (t:TypeId),W.cell? ⟨g,0,none⟩=some (.iface 324 (.pointer (some a)))∧W.cell? a=some (.string s)∧s.data.toList=text∧W.heap[a.block]? = some (.cells c t (0,0)):=by
 subst hnm
 obtain ⟨ps,⟨g0,t0,cs0,f0,p0,q0,hg0,ht0,hv0,hd0,_,e0⟩,_,hrows⟩:=h
 obtain rfl:=Option.some.inj (hg.symm.trans hg0)
 obtain rfl:=Option.some.inj (ht.symm.trans ht0)
 subst e0
 obtain ⟨l0⟩:=cs0
 have ok0:∀ u v,l0=[.iface u v]→Value.okWide Tryz.prog W .any 0 u v:=fun u v e=>by
   subst e
   exact (hrows g 0 (by simp [MemPlace.row])).2 u v (by simpa using World.var?_cell hg0 hv0 0)
 obtain ⟨a0,s0,rfl,hc0,hs0,hz0,rfl⟩:=errorString_of_trod Tryz.underlying43 rowErr Tryz.underlying324 Tryz.underlying342 rfl rfl Tryz.underlying9 cellsErr cellsStr hd0 ok0
 obtain ⟨c,t,hb⟩:=(hrows a0.block a0.off (by simp [MemPlace.row])).1
 exact ⟨a0,s0,c,t,by simpa using World.var?_cell hg0 hv0 0,hc0,hs0,hb⟩
def textOf:DataW Unit→List UInt8
 | .iface _ (.ptr (.agg [.lit (.string s)]))=>s
 | _=>[]
def txt:Nat→List UInt8
 | 0=>textOf Rows.laid_optima_api_ErrText
 | 1=>textOf Rows.laid_optima_api_ErrBound
 | 2=>textOf Rows.laid_optima_api_ErrZero
 | 3=>textOf Rows.laid_optima_api_ErrShape
 | 4=>textOf Rows.laid_optima_api_ErrSingular
 | 5=>textOf Rows.laid_optima_api_ErrSense
 | 6=>textOf Rows.laid_optima_api_ErrName
 | 7=>textOf Rows.laid_optima_api_ErrNumber
 | 8=>textOf Rows.laid_optima_api_ErrBasis
 | _=>textOf Rows.laid_optima_api_ErrOpen
set_option maxRecDepth 100000 in
theorem txt_apart:∀ i,i<10→∀ j,j<10→i≠j→txt i≠txt j:=by decide
theorem gDb : Tryz.prog.globalNamed "math/bits.deBruijn64tab" = some 14 := by kernel_rfl
theorem gDbType:(Tryz.prog.globals[14]?).map (·.type)=some 318:=by kernel_rfl
theorem cellsDb:Tryz.prog.cellsOf 318=64:=by kernel_rfl
theorem cellsU8:Tryz.prog.cellsOf 5=1:=by kernel_rfl
theorem laid_tab64 {r : List (String × DataW Unit)} {W : World} (h : laidMet Tryz.prog (("math/bits.deBruijn64tab", Rows.laid_math_bits_deBruijn64tab) :: r) W) : Tab64 W := by
 have ht : Lib.TabIs Tryz.prog W "math/bits.deBruijn64tab" .u8 (Lib.deBruijn64tab.map fun (n : Nat) => (n : Int)) :=
   Lib.tabIs_of_head gDb gDbType Tryz.underlying318 Tryz.underlying5 cellsU8 cellsDb h
 intro j hj
 have h2:=ht.cell gDb j (by rw [List.length_map];exact hj)
 rw [h2]
 congr 2
 simp [List.getD,hj]
set_option maxRecDepth 100000 in
theorem laid_sents {W:World} (h:laidMetH Tryz.prog Rows.netsChecksUptoRow.laid W):(∃ A,Sents W A)∧Tab64 W:=by
 have h' : laidMet Tryz.prog [("math/bits.deBruijn64tab", Rows.laid_math_bits_deBruijn64tab), ("optima/api.ErrText", Rows.laid_optima_api_ErrText), ("optima/api.ErrBound", Rows.laid_optima_api_ErrBound), ("optima/api.ErrZero", Rows.laid_optima_api_ErrZero), ("optima/api.ErrShape", Rows.laid_optima_api_ErrShape), ("optima/api.ErrSingular", Rows.laid_optima_api_ErrSingular), ("optima/api.ErrSense", Rows.laid_optima_api_ErrSense), ("optima/api.ErrName", Rows.laid_optima_api_ErrName), ("optima/api.ErrNumber", Rows.laid_optima_api_ErrNumber), ("optima/api.ErrBasis", Rows.laid_optima_api_ErrBasis), ("optima/api.ErrOpen", Rows.laid_optima_api_ErrOpen)] W ∧ handlesMet Tryz.prog [("errors.errorType", Rows.laid_errors_errorType)] W := h
 obtain ⟨a0,s0,c0,t0,v0,x0,y0,z0⟩:=sent_of rfl h'.1.tail gErrText tErrText
 obtain ⟨a1,s1,c1,t1,v1,x1,y1,z1⟩:=sent_of rfl h'.1.tail.tail gErrBound tErrBound
 obtain ⟨a2,s2,c2,t2,v2,x2,y2,z2⟩:=sent_of rfl h'.1.tail.tail.tail gErrZero tErrZero
 obtain ⟨a3,s3,c3,t3,v3,x3,y3,z3⟩:=sent_of rfl h'.1.tail.tail.tail.tail gErrShape tErrShape
 obtain ⟨a4,s4,c4,t4,v4,x4,y4,z4⟩:=sent_of rfl h'.1.tail.tail.tail.tail.tail gErrSingular tErrSingular
 obtain ⟨a5,s5,c5,t5,v5,x5,y5,z5⟩:=sent_of rfl h'.1.tail.tail.tail.tail.tail.tail gErrSense tErrSense
 obtain ⟨a6,s6,c6,t6,v6,x6,y6,z6⟩:=sent_of rfl h'.1.tail.tail.tail.tail.tail.tail.tail gErrName tErrName
 obtain ⟨a7,s7,c7,t7,v7,x7,y7,z7⟩:=sent_of rfl h'.1.tail.tail.tail.tail.tail.tail.tail.tail gErrNumber tErrNumber
 obtain ⟨a8,s8,c8,t8,v8,x8,y8,z8⟩:=sent_of rfl h'.1.tail.tail.tail.tail.tail.tail.tail.tail.tail gErrBasis tErrBasis
 obtain ⟨a9,s9,c9,t9,v9,x9,y9,z9⟩:=sent_of rfl h'.1.tail.tail.tail.tail.tail.tail.tail.tail.tail.tail gErrOpen tErrOpen
 have hh:W.cell? ⟨10,0,none⟩=some (.iface 274 (.agg #[.pointer (some ⟨17,43,none⟩)])):=by
   obtain ⟨name,u,ty,e1,e2,e3,e4,e5⟩:=h'.2 _ (List.mem_singleton.2 rfl)
   have en:name=[101,114,114,111,114]:=(Option.some.inj e1).symm
   subst en
   obtain rfl:=Option.some.inj (rtHandle.symm.trans e2)
   have hm:ty ∈ (List.range Tryz.prog.types.size).filter fun t=>Tryz.prog.rowNamed t [101,114,114,111,114]:=List.mem_filter.2 ⟨List.mem_range.2 e3,e4⟩
   rw [oneRow] at hm
   obtain rfl:=List.mem_singleton.1 hm
   have hq:typeHandle Tryz.prog 43=.pointer (some ⟨17,43,none⟩):=by kernel_rfl
   rw [hq] at e5
   simpa using World.var?_cell gHandle e5 0
 let A:Nat→Addr:=fun j=>match j with
   | 0=>a0
   | 1=>a1
   | 2=>a2
   | 3=>a3
   | 4=>a4
   | 5=>a5
   | 6=>a6
   | 7=>a7
   | 8=>a8
   | _=>a9
 have hT:∀ j,j<10→∃ s,W.cell? (A j)=some (.string s)∧s.data.toList=txt j:=by
   intro j hj
   rcases (by omega:j=0∨j=1∨j=2∨j=3∨j=4∨j=5∨j=6∨j=7∨j=8∨j=9) with rfl | rfl | rfl | rfl | rfl | rfl | rfl | rfl | rfl | rfl
   · exact ⟨s0,x0,y0⟩
   · exact ⟨s1,x1,y1⟩
   · exact ⟨s2,x2,y2⟩
   · exact ⟨s3,x3,y3⟩
   · exact ⟨s4,x4,y4⟩
   · exact ⟨s5,x5,y5⟩
   · exact ⟨s6,x6,y6⟩
   · exact ⟨s7,x7,y7⟩
   · exact ⟨s8,x8,y8⟩
   · exact ⟨s9,x9,y9⟩
 refine ⟨⟨A,v0,v1,v2,v3,v4,v5,v6,v7,v8,v9,?_,?_,hh⟩,laid_tab64 h'.1⟩
 · intro j hj
   rcases (by omega:j=0∨j=1∨j=2∨j=3∨j=4∨j=5∨j=6∨j=7∨j=8∨j=9) with rfl | rfl | rfl | rfl | rfl | rfl | rfl | rfl | rfl | rfl
   · exact ⟨c0,t0,z0⟩
   · exact ⟨c1,t1,z1⟩
   · exact ⟨c2,t2,z2⟩
   · exact ⟨c3,t3,z3⟩
   · exact ⟨c4,t4,z4⟩
   · exact ⟨c5,t5,z5⟩
   · exact ⟨c6,t6,z6⟩
   · exact ⟨c7,t7,z7⟩
   · exact ⟨c8,t8,z8⟩
   · exact ⟨c9,t9,z9⟩
 · intro i j hi hj hne e
   obtain ⟨s,e1,e2⟩:=hT i hi
   obtain ⟨u,f1,f2⟩:=hT j hj
   rw [e,f1] at e1
   have:u=s:=by simpa using e1
   subst this
   exact txt_apart i hi j hj hne (e2.symm.trans f2)
def cellsIn:DataW Unit→Array Value
 | .agg l=>(l.map fun d=>match d with | .lit (.int k z)=>Value.int k z | _=>.bool false).toArray
 | _=>#[]
def put (cs:Array Value):Obj→Obj
 | .cells _ t frozen=>.cells cs t frozen
 | o=>o
noncomputable def lowG:Nat:=(World.holding Tryz.prog default ⟨#[],#[],[]⟩).heap.size
noncomputable def laidWorld (os:Os):World :=
 let w0:=World.holding Tryz.prog os ⟨#[.cells #[.string ⟨(txt 0).toArray⟩] 342,.cells #[.string ⟨(txt 1).toArray⟩] 342,.cells #[.string ⟨(txt 2).toArray⟩] 342,.cells #[.string ⟨(txt 3).toArray⟩] 342,.cells #[.string ⟨(txt 4).toArray⟩] 342,.cells #[.string ⟨(txt 5).toArray⟩] 342,.cells #[.string ⟨(txt 6).toArray⟩] 342,.cells #[.string ⟨(txt 7).toArray⟩] 342,.cells #[.string ⟨(txt 8).toArray⟩] 342,.cells #[.string ⟨(txt 9).toArray⟩] 342],#[],[]⟩
 { w0 with heap:=((((((((((((w0.heap).modify 1 (put #[.iface 324 (.pointer (some ⟨lowG+0,0,none⟩))])).modify 2 (put #[.iface 324 (.pointer (some ⟨lowG+1,0,none⟩))])).modify 3 (put #[.iface 324 (.pointer (some ⟨lowG+2,0,none⟩))])).modify 0 (put #[.iface 324 (.pointer (some ⟨lowG+3,0,none⟩))])).modify 4 (put #[.iface 324 (.pointer (some ⟨lowG+4,0,none⟩))])).modify 5 (put #[.iface 324 (.pointer (some ⟨lowG+5,0,none⟩))])).modify 6 (put #[.iface 324 (.pointer (some ⟨lowG+6,0,none⟩))])).modify 7 (put #[.iface 324 (.pointer (some ⟨lowG+7,0,none⟩))])).modify 8 (put #[.iface 324 (.pointer (some ⟨lowG+8,0,none⟩))])).modify 9 (put #[.iface 324 (.pointer (some ⟨lowG+9,0,none⟩))])).modify 10 (put #[.iface 274 (.agg #[.pointer (some ⟨17,43,none⟩)])])).modify 14 (put (cellsIn Rows.laid_math_bits_deBruijn64tab)) }
open Go.RowKit Go.ChangeShapes Go.WideShapes Go.Deep
theorem bulk_one {H:Type} (d:DataW H):1≤Rows.uptoBulk d:=by
 cases d with
 | lit l=>cases l <;> simp [Rows.uptoBulk]
 | nil=>simp [Rows.uptoBulk]
 | ptr d=>simp [Rows.uptoBulk]
 | slice elems spare=>simp [Rows.uptoBulk]
 | agg parts=>simp [Rows.uptoBulk]
 | iface t d=>simp [Rows.uptoBulk]
 | map entries=>simp [Rows.uptoBulk]
 | held h=>simp [Rows.uptoBulk]
theorem bulk_len {H:Type} (l:List (DataW H)):l.length≤Rows.uptoBulkAll l:=by
 induction l with
 | nil=>simp [Rows.uptoBulkAll]
 | cons x r ih=>have:=bulk_one x;simp only [Rows.uptoBulkAll,List.length_cons];omega
theorem cell_spot {w:World}{a:Addr}{u:Value} (h:w.cell? a=some u):a=⟨a.block,a.off,none⟩:=by
 obtain ⟨_,_,_,_,h,_⟩:=cell_block h
 cases a
 simp_all
theorem add_plain' (b o i:Nat):(⟨b,o,none⟩:Addr).add i=⟨b,o+i,none⟩:=by
 unfold Addr.add;split <;> simp_all
section
variable {H:Type}{enc:TypeId×Value→H}{P:Program}{w:World}
theorem open_texts {t e:TypeId}{fuel:Nat}{v:Value}{x:DataW H×List MemPlace} (ht:P.underlying t=some (.slice e)) (he:P.underlying e=some .string) (hc:P.cellsOf e=1)
   (h:DataW.trod enc P w 0 (fun _=>true) true fuel t [v]=some x):∃ l:List ByteArray,Rows 1 TE w v l∧l.length≤Rows.uptoBulk x.1:=by
 rcases open_strs ht he hc h with ⟨h1,rfl⟩ | ⟨a,len,cap,m,Sx,h1,_,hl,hm,hmm,rfl,hcell⟩
 · obtain rfl:v=.slice none 0 0:=by simpa using h1
   exact ⟨[],⟨none,0,rfl,Nat.le_refl _,Nat.zero_le _,Or.inl rfl⟩,Nat.zero_le _⟩
 · obtain rfl:v=.slice (some a) len cap:=by simpa using h1
   simp only [if_true] at hmm
   have hmm':=hmm.symm
   subst hmm'
   refine ⟨(List.range len).map Sx,⟨some a,cap,by simp,by simpa using hl,hm,?_⟩,?_⟩
   · by_cases h0:len=0
     · left;subst h0;rfl
     · right
       have ha:a=⟨a.block,a.off,none⟩:=by
         have:=(hcell 0 (by omega)).1
         rw [show a.add 0=a from rfl] at this
         exact cell_spot this
       refine ⟨a.block,a.off,by rw [← ha],fun i x hx => ?_⟩
       obtain ⟨hi,rfl⟩:i<len∧Sx i=x:=by
         rw [List.getElem?_map,Option.map_eq_some_iff] at hx
         obtain ⟨j,hj,rfl⟩:=hx
         obtain ⟨h3,h4⟩:=List.getElem?_eq_some_iff.1 hj
         simp at h3 h4
         subst h4
         exact ⟨h3,rfl⟩
       obtain ⟨k1,k2⟩:=hcell i (by omega)
       refine ⟨[.string (Sx i)],rfl,fun j u hu => ?_,rfl,k2⟩
       obtain ⟨rfl,rfl⟩:j=0∧.string (Sx i)=u:=by
         cases j with
         | zero=>exact ⟨rfl,by simpa using hu⟩
         | succ j=>simp at hu
       rw [ha,add_plain'] at k1
       simpa using k1
   · have h2:=bulk_len ((List.range len).map fun i=>(DataW.lit (H:=H) (.string (Sx i).data.toList)))
     simp only [List.length_map,List.length_range] at h2 ⊢
     simp only [Rows.uptoBulk]
     omega
theorem open_row_texts {t e:TypeId}{v:Value}{d:DataW H}{p:List MemPlace}{r:Reach}{b0:Nat} (ht:P.underlying t=some (.slice e)) (he:P.underlying e=some .string) (ce:P.cellsOf e=1) (hval:Value.okWide P w r b0 t v) (h:DataW.Trod enc P w 0 (fun _=>true) true t v d p):∃ l:List ByteArray,Rows 1 TE w v l∧l.length≤Rows.uptoBulk d:=by
 obtain ⟨a0,n0,c0,rfl⟩:=okWide_slice ht hval
 obtain ⟨fuel,h⟩:=h
 rw [show (Value.slice a0 n0 c0).cells.toList=[.slice a0 n0 c0] from rfl] at h
 exact open_texts ht he ce h
end
end Go.Proofs.YtkdobjmhammhbaaGreatDoor
