import Derived.Test.YtkdobjmhammhbaaGreatDoorMEA
import Derived.Test.YtkdobjmhammhbaaGreatDoorMJ1
import Derived.Test.YtkdobjmhammhbaaGreatDoorCards
import Derived.Test.YtkdobjmhammhbaaGreatDoorTie
import Derived.ProofKit
import Derived.OpenShut
import Derived.Deep.DeepHandedRow
import Derived.Deep.DeepLaidRun
import Derived.Stop.LaidErr
import Derived.Deep.Strs
namespace Go.Proofs.YtkdobjmhammhbaaGreatDoor
set_option maxRecDepth 100000
open Go.RowKit Go.ChangeShapes Go.WideShapes Go.ChangeAt
theorem own:ownKnob Tryz.prog.godebug=none:=by kernel_rfl
theorem cellsErr:Tryz.prog.cellsOf 342=1:=by kernel_rfl
theorem cellsStr:Tryz.prog.cellsOf 9=1:=by kernel_rfl
theorem star : ("*" ++ "errors.errorString" : String) = "*errors.errorString" := by decide
theorem rowErr (u : TypeId) (h : Tryz.prog.typeName? 3 u = some "*errors.errorString") : u = 324 :=
 typeName_ptr_named (nm := "errors.errorString") (by rw [star]; kernel_rfl) (by kernel_rfl) (by decide) u (by rw [star]; exact h)
theorem gErrText : Tryz.prog.globalNamed "optima/api.ErrText" = some 1 := by kernel_rfl
theorem tErrText:(Tryz.prog.globals[1]?).map (·.type)=some 43:=by kernel_rfl
theorem gErrBound : Tryz.prog.globalNamed "optima/api.ErrBound" = some 2 := by kernel_rfl
theorem tErrBound:(Tryz.prog.globals[2]?).map (·.type)=some 43:=by kernel_rfl
theorem gErrZero : Tryz.prog.globalNamed "optima/api.ErrZero" = some 3 := by kernel_rfl
theorem tErrZero:(Tryz.prog.globals[3]?).map (·.type)=some 43:=by kernel_rfl
theorem gErrShape : Tryz.prog.globalNamed "optima/api.ErrShape" = some 0 := by kernel_rfl
theorem tErrShape:(Tryz.prog.globals[0]?).map (·.type)=some 43:=by kernel_rfl
theorem gErrSingular : Tryz.prog.globalNamed "optima/api.ErrSingular" = some 4 := by kernel_rfl
theorem tErrSingular:(Tryz.prog.globals[4]?).map (·.type)=some 43:=by kernel_rfl
theorem gErrSense : Tryz.prog.globalNamed "optima/api.ErrSense" = some 5 := by kernel_rfl
theorem tErrSense:(Tryz.prog.globals[5]?).map (·.type)=some 43:=by kernel_rfl
theorem gErrName : Tryz.prog.globalNamed "optima/api.ErrName" = some 6 := by kernel_rfl
theorem tErrName:(Tryz.prog.globals[6]?).map (·.type)=some 43:=by kernel_rfl
theorem gErrNumber : Tryz.prog.globalNamed "optima/api.ErrNumber" = some 7 := by kernel_rfl
theorem tErrNumber:(Tryz.prog.globals[7]?).map (·.type)=some 43:=by kernel_rfl
theorem gErrBasis : Tryz.prog.globalNamed "optima/api.ErrBasis" = some 8 := by kernel_rfl
theorem tErrBasis:(Tryz.prog.globals[8]?).map (·.type)=some 43:=by kernel_rfl
theorem gErrOpen : Tryz.prog.globalNamed "optima/api.ErrOpen" = some 9 := by kernel_rfl
theorem tErrOpen:(Tryz.prog.globals[9]?).map (·.type)=some 43:=by kernel_rfl
theorem gPow : Tryz.prog.globalNamed "internal/strconv.uint64pow10" = some 11 := by kernel_rfl
theorem gPowType:(Tryz.prog.globals[11]?).map (·.type)=some 314:=by kernel_rfl
theorem cellsPow:Tryz.prog.cellsOf 314=20:=by kernel_rfl
theorem cellsU64:Tryz.prog.cellsOf 200=1:=by kernel_rfl
theorem gHandle : Tryz.prog.globalNamed "errors.errorType" = some 10 := by kernel_rfl
theorem rtHandle : (Tryz.prog.cutTypes.find? (·.1 == "internal/reflectlite.rtype")).map (·.2) = some 274 := by kernel_rfl
theorem oneRow:((List.range Tryz.prog.types.size).filter fun t=>Tryz.prog.rowNamed t [101,114,114,111,114])=[43]:=by kernel_rfl
theorem sent_of {n nm : String} {text : List UInt8} {r : List (String × DataW Unit)} {W : World} {g : Nat} (hnm : nm = "*errors.errorString")
 (h:laidMet Tryz.prog ((n,.iface nm (.ptr (.agg [.lit (.string text)]))) :: r) W) (hg:Tryz.prog.globalNamed n=some g) (ht:(Tryz.prog.globals[g]?).map (·.type)=some 43) :
 ∃ (a:Addr) (s:ByteArray) (c:Array Value) (t:TypeId),W.cell? ⟨g,0,none⟩=some (.iface 324 (.pointer (some a)))/\W.cell? a=some (.string s)/\s.data.toList=text/\W.heap[a.block]? = some (.cells c t (0,0)):=by
 subst hnm
 obtain ⟨ps,⟨g0,t0,cs0,f0,p0,q0,hg0,ht0,hv0,hd0,_,e0⟩,_,hrows⟩:=h
 obtain rfl:=Option.some.inj (hg.symm.trans hg0)
 obtain rfl:=Option.some.inj (ht.symm.trans ht0)
 subst e0
 obtain ⟨l0⟩:=cs0
 have ok0:∀ u v,l0=[.iface u v]->Value.okWide Tryz.prog W .any 0 u v:=fun u v e=>by
  subst e
  exact (hrows g 0 (by simp [MemPlace.row])).2 u v (by simpa using World.var?_cell hg0 hv0 0)
 obtain ⟨a0,s0,rfl,hc0,hs0,hz0,rfl⟩:=errorString_of_trod Tryz.underlying43 rowErr Tryz.underlying324 Tryz.underlying342 rfl rfl Tryz.underlying9 cellsErr cellsStr hd0 ok0
 obtain ⟨c,t,hb⟩:=(hrows a0.block a0.off (by simp [MemPlace.row])).1
 exact ⟨a0,s0,c,t,by simpa using World.var?_cell hg0 hv0 0,hc0,hs0,hb⟩
def textOf:DataW Unit->List UInt8
 | .iface _ (.ptr (.agg [.lit (.string s)]))=>s
 | _=>[]
def txt:Nat->List UInt8
 | 0=>textOf Rows.laid_optima_api_ErrText
 | 1=>textOf Rows.laid_optima_api_ErrBound
 | 2=>textOf Rows.laid_optima_api_ErrZero
 | 3=>textOf Rows.laid_optima_api_ErrShape
 | 4=>textOf Rows.laid_optima_api_ErrSingular
 | 5=>textOf Rows.laid_optima_api_ErrSense
 | 6=>textOf Rows.laid_optima_api_ErrName
 | 7=>textOf Rows.laid_optima_api_ErrNumber
 | 8=>textOf Rows.laid_optima_api_ErrBasis
 | _=>textOf Rows.laid_optima_api_ErrOpen
theorem txt_apart:∀ i,i<10->∀ j,j<10->i≠j->txt i≠txt j:=by decide
theorem gDb : Tryz.prog.globalNamed "math/bits.deBruijn64tab" = some 14 := by kernel_rfl
theorem gDbType:(Tryz.prog.globals[14]?).map (·.type)=some 318:=by kernel_rfl
theorem cellsDb:Tryz.prog.cellsOf 318=64:=by kernel_rfl
theorem cellsU8:Tryz.prog.cellsOf 5=1:=by kernel_rfl
theorem laid_tab64 {r : List (String × DataW Unit)} {W : World} {a : String × DataW Unit} (h : laidMet Tryz.prog (a :: ("math/bits.deBruijn64tab", Rows.laid_math_bits_deBruijn64tab) :: r) W) : Tab64 W := by
 have ht : Lib.TabIs Tryz.prog W "math/bits.deBruijn64tab" .u8 (Lib.deBruijn64tab.map fun (n : Nat) => (n : Int)) :=
  Lib.tabIs_of_head gDb gDbType Tryz.underlying318 Tryz.underlying5 cellsU8 cellsDb h.tail
 intro j hj
 have h2:=ht.cell gDb j (by rw [List.length_map];exact hj)
 rw [h2]
 congr 2
 simp [List.getD,hj]
theorem laid_sents {W : World} (h : laidMetH Tryz.prog Rows.netsMostUptoRow.laid W) : (∃ A, Sents W A) ∧ Lib.TabIs Tryz.prog W "internal/strconv.uint64pow10" .u64 Lib.pow10Tab ∧ Tab64 W := by
 have h' : laidMet Tryz.prog [("math/bits.deBruijn32tab", Rows.laid_math_bits_deBruijn32tab), ("math/bits.deBruijn64tab", Rows.laid_math_bits_deBruijn64tab), ("internal/strconv.uint64pow10", Rows.laid_internal_strconv_uint64pow10), ("optima/api.ErrText", Rows.laid_optima_api_ErrText), ("optima/api.ErrBound", Rows.laid_optima_api_ErrBound), ("optima/api.ErrZero", Rows.laid_optima_api_ErrZero), ("optima/api.ErrShape", Rows.laid_optima_api_ErrShape), ("optima/api.ErrSingular", Rows.laid_optima_api_ErrSingular), ("optima/api.ErrSense", Rows.laid_optima_api_ErrSense), ("optima/api.ErrName", Rows.laid_optima_api_ErrName), ("optima/api.ErrNumber", Rows.laid_optima_api_ErrNumber), ("optima/api.ErrBasis", Rows.laid_optima_api_ErrBasis), ("optima/api.ErrOpen", Rows.laid_optima_api_ErrOpen)] W ∧ handlesMet Tryz.prog [("errors.errorType", Rows.laid_errors_errorType)] W := h
 obtain ⟨a0,s0,c0,t0,v0,x0,y0,z0⟩:=sent_of rfl h'.1.tail.tail.tail gErrText tErrText
 obtain ⟨a1,s1,c1,t1,v1,x1,y1,z1⟩:=sent_of rfl h'.1.tail.tail.tail.tail gErrBound tErrBound
 obtain ⟨a2,s2,c2,t2,v2,x2,y2,z2⟩:=sent_of rfl h'.1.tail.tail.tail.tail.tail gErrZero tErrZero
 obtain ⟨a3,s3,c3,t3,v3,x3,y3,z3⟩:=sent_of rfl h'.1.tail.tail.tail.tail.tail.tail gErrShape tErrShape
 obtain ⟨a4,s4,c4,t4,v4,x4,y4,z4⟩:=sent_of rfl h'.1.tail.tail.tail.tail.tail.tail.tail gErrSingular tErrSingular
 obtain ⟨a5,s5,c5,t5,v5,x5,y5,z5⟩:=sent_of rfl h'.1.tail.tail.tail.tail.tail.tail.tail.tail gErrSense tErrSense
 obtain ⟨a6,s6,c6,t6,v6,x6,y6,z6⟩:=sent_of rfl h'.1.tail.tail.tail.tail.tail.tail.tail.tail.tail gErrName tErrName
 obtain ⟨a7,s7,c7,t7,v7,x7,y7,z7⟩:=sent_of rfl h'.1.tail.tail.tail.tail.tail.tail.tail.tail.tail.tail gErrNumber tErrNumber
 obtain ⟨a8,s8,c8,t8,v8,x8,y8,z8⟩:=sent_of rfl h'.1.tail.tail.tail.tail.tail.tail.tail.tail.tail.tail.tail gErrBasis tErrBasis
 obtain ⟨a9,s9,c9,t9,v9,x9,y9,z9⟩:=sent_of rfl h'.1.tail.tail.tail.tail.tail.tail.tail.tail.tail.tail.tail.tail gErrOpen tErrOpen
 have hh:W.cell? ⟨10,0,none⟩=some (.iface 274 (.agg #[.pointer (some ⟨17,43,none⟩)])):=by
  obtain ⟨name,u,ty,e1,e2,e3,e4,e5⟩:=h'.2 _ (List.mem_singleton.2 rfl)
  have en:name=[101,114,114,111,114]:=(Option.some.inj e1).symm
  subst en
  obtain rfl:=Option.some.inj (rtHandle.symm.trans e2)
  have hm:ty ∈ (List.range Tryz.prog.types.size).filter fun t=>Tryz.prog.rowNamed t [101,114,114,111,114]:=List.mem_filter.2 ⟨List.mem_range.2 e3,e4⟩
  rw [oneRow] at hm
  obtain rfl:=List.mem_singleton.1 hm
  have hq:typeHandle Tryz.prog 43=.pointer (some ⟨17,43,none⟩):=by kernel_rfl
  rw [hq] at e5
  simpa using World.var?_cell gHandle e5 0
 let A:Nat->Addr:=fun j=>match j with
  | 0=>a0
  | 1=>a1
  | 2=>a2
  | 3=>a3
  | 4=>a4
  | 5=>a5
  | 6=>a6
  | 7=>a7
  | 8=>a8
  | _=>a9
 have hT:∀ j,j<10->∃ s,W.cell? (A j)=some (.string s)/\s.data.toList=txt j:=by
  intro j hj
  rcases (by omega:j=0\/j=1\/j=2\/j=3\/j=4\/j=5\/j=6\/j=7\/j=8\/j=9) with rfl | rfl | rfl | rfl | rfl | rfl | rfl | rfl | rfl | rfl
  ·exact ⟨s0,x0,y0⟩
  ·exact ⟨s1,x1,y1⟩
  ·exact ⟨s2,x2,y2⟩
  ·exact ⟨s3,x3,y3⟩
  ·exact ⟨s4,x4,y4⟩
  ·exact ⟨s5,x5,y5⟩
  ·exact ⟨s6,x6,y6⟩
  ·exact ⟨s7,x7,y7⟩
  ·exact ⟨s8,x8,y8⟩
  ·exact ⟨s9,x9,y9⟩
 refine ⟨⟨A,v0,v1,v2,v3,v4,v5,v6,v7,v8,v9,?_,?_,hh⟩,Lib.tabIs_of_head gPow gPowType Tryz.underlying314 Tryz.underlying200 cellsU64 cellsPow h'.1.tail.tail,laid_tab64 h'.1⟩
 ·intro j hj
  rcases (by omega:j=0\/j=1\/j=2\/j=3\/j=4\/j=5\/j=6\/j=7\/j=8\/j=9) with rfl | rfl | rfl | rfl | rfl | rfl | rfl | rfl | rfl | rfl
  ·exact ⟨c0,t0,z0⟩
  ·exact ⟨c1,t1,z1⟩
  ·exact ⟨c2,t2,z2⟩
  ·exact ⟨c3,t3,z3⟩
  ·exact ⟨c4,t4,z4⟩
  ·exact ⟨c5,t5,z5⟩
  ·exact ⟨c6,t6,z6⟩
  ·exact ⟨c7,t7,z7⟩
  ·exact ⟨c8,t8,z8⟩
  ·exact ⟨c9,t9,z9⟩
 ·intro i j hi hj hne e
  obtain ⟨s,e1,e2⟩:=hT i hi
  obtain ⟨u,f1,f2⟩:=hT j hj
  rw [e,f1] at e1
  have:u=s:=by simpa using e1
  subst this
  exact txt_apart i hi j hj hne (e2.symm.trans f2)
def cellsIn:DataW Unit->Array Value
 | .agg l=>(l.map fun d=>match d with | .lit (.int k z)=>Value.int k z | _=>.bool false).toArray
 | _=>#[]
def put (cs:Array Value):Obj->Obj
 | .cells _ t frozen=>.cells cs t frozen
 | o=>o
noncomputable def lowG:Nat:=(World.holding Tryz.prog default ⟨#[],#[],[]⟩).heap.size
noncomputable def laidWorld (os:Os):World :=
 let w0:=World.holding Tryz.prog os ⟨#[.cells #[.string ⟨(txt 0).toArray⟩] 342,.cells #[.string ⟨(txt 1).toArray⟩] 342,.cells #[.string ⟨(txt 2).toArray⟩] 342,.cells #[.string ⟨(txt 3).toArray⟩] 342,.cells #[.string ⟨(txt 4).toArray⟩] 342,.cells #[.string ⟨(txt 5).toArray⟩] 342,.cells #[.string ⟨(txt 6).toArray⟩] 342,.cells #[.string ⟨(txt 7).toArray⟩] 342,.cells #[.string ⟨(txt 8).toArray⟩] 342,.cells #[.string ⟨(txt 9).toArray⟩] 342],#[],[]⟩
 { w0 with heap:=((((((((((((((w0.heap).modify 1 (put #[.iface 324 (.pointer (some ⟨lowG+0,0,none⟩))])).modify 2 (put #[.iface 324 (.pointer (some ⟨lowG+1,0,none⟩))])).modify 3 (put #[.iface 324 (.pointer (some ⟨lowG+2,0,none⟩))])).modify 0 (put #[.iface 324 (.pointer (some ⟨lowG+3,0,none⟩))])).modify 4 (put #[.iface 324 (.pointer (some ⟨lowG+4,0,none⟩))])).modify 5 (put #[.iface 324 (.pointer (some ⟨lowG+5,0,none⟩))])).modify 6 (put #[.iface 324 (.pointer (some ⟨lowG+6,0,none⟩))])).modify 7 (put #[.iface 324 (.pointer (some ⟨lowG+7,0,none⟩))])).modify 8 (put #[.iface 324 (.pointer (some ⟨lowG+8,0,none⟩))])).modify 9 (put #[.iface 324 (.pointer (some ⟨lowG+9,0,none⟩))])).modify 10 (put #[.iface 274 (.agg #[.pointer (some ⟨17,43,none⟩)])])).modify 11 (put (cellsIn Rows.laid_internal_strconv_uint64pow10))).modify 16 (put (cellsIn Rows.laid_math_bits_deBruijn32tab))).modify 14 (put (cellsIn Rows.laid_math_bits_deBruijn64tab)) }
open Go.RowKit Go.ChangeShapes Go.WideShapes Go.Deep
theorem bulk_one {H:Type} (d:DataW H):1<=Rows.uptoBulk d:=by
 cases d with
 | lit l=>cases l <;> simp [Rows.uptoBulk]
 | nil=>simp [Rows.uptoBulk]
 | ptr d=>simp [Rows.uptoBulk]
 | slice elems spare=>simp [Rows.uptoBulk]
 | agg parts=>simp [Rows.uptoBulk]
 | iface t d=>simp [Rows.uptoBulk]
 | map entries=>simp [Rows.uptoBulk]
 | held h=>simp [Rows.uptoBulk]
theorem bulk_len {H:Type} (l:List (DataW H)):l.length<=Rows.uptoBulkAll l:=by
 induction l with
 | nil=>simp [Rows.uptoBulkAll]
 | cons x r ih=>have:=bulk_one x;simp only [Rows.uptoBulkAll,List.length_cons];omega
theorem add_plain' (b o i:Nat):(⟨b,o,none⟩:Addr).add i=⟨b,o+i,none⟩:=by
 unfold Addr.add;split <;> simp_all
section
variable {H:Type}{enc:TypeId×Value->H}{P:Program}{w:World}
end
theorem wf_int {n:Int} (h:Lit.wf (.int .i64 n)=true):I64 n:=by
 simp only [Lit.wf,Bool.and_eq_true,decide_eq_true_eq] at h
 exact h
section
variable {H:Type}{enc:TypeId×Value->H}{P:Program}{w:World}
theorem open_rowsE {α:Type} [Inhabited α] {E:World->List Value -> α -> Prop}{t e:TypeId}{k fuel:Nat}{v:Value}{x:DataW H×List MemPlace} (ht:P.underlying t=some (.slice e)) (hk:P.cellsOf e=k) (k0:0<k)
 (hE:∀ n cs y,cs.length=k->DataW.trod enc P w 0 (fun _=>true) true n e cs=some y->∃ a,E w cs a)
 (h:DataW.trod enc P w 0 (fun _=>true) true fuel t [v]=some x):∃ l:List α,Rows k E w v l/\l.length<=Rows.uptoBulk x.1:=by
 rcases open_slice ht h with ⟨h1,_⟩ | ⟨a,len,cap,m,n,D,Pl,h1,_,hl,hm,hmm,hxx,hx⟩
 ·obtain rfl:v=.slice none 0 0:=by simpa using h1
  exact ⟨[],rows_nil _,Nat.zero_le _⟩
 ·obtain rfl:v=.slice (some a) len cap:=by simpa using h1
  simp only [if_true] at hmm
  subst hmm
  rw [hk] at hx
  obtain ⟨f,hf⟩:=choose_lt (n:=m) (p:=fun i (q:List Value × α)=>w.cells? 0 (a.add (i*k)) k=some q.1/\E w q.1 q.2) (fun i hi=>by
   obtain ⟨cs',h2,h3⟩:=hx i hi
   obtain ⟨y,hy⟩:=hE n cs' _ (World.cells?_some h2).2.1 h3
   exact ⟨(cs',y),h2,hy⟩)
  refine ⟨(List.range len).map fun i=>(f i).2,⟨some a,m,by simp,by simpa using hl,hm,?_⟩,?_⟩
  ·by_cases h0:len=0
   ·left;subst h0;rfl
   ·right
    obtain ⟨b,o,spot⟩:=a
    have hs:spot=none:=by
     obtain ⟨_,hlen,hc⟩:=World.cells?_some (hf 0 (by omega)).1
     have h4:=hc 0 k0
     rw [List.getElem?_eq_getElem (by omega)] at h4
     simpa [Addr.add] using World.cell?_spot h4
    subst hs
    refine ⟨b,o,rfl,fun i y hy => ?_⟩
    obtain ⟨hi,rfl⟩:i<len/\(f i).2=y:=by
     rw [List.getElem?_map,Option.map_eq_some_iff] at hy
     obtain ⟨j,hj,rfl⟩:=hy
     obtain ⟨h3,h4⟩:=List.getElem?_eq_some_iff.1 hj
     simp at h3 h4
     subst h4
     exact ⟨h3,rfl⟩
    obtain ⟨g1,g2⟩:=hf i (by omega)
    obtain ⟨_,hlen,hc⟩:=World.cells?_some g1
    refine ⟨(f i).1,hlen,fun j u hu => ?_,g2⟩
    have hj:j<k:=by have:=(List.getElem?_eq_some_iff.1 hu).1;omega
    have h5:=hc j hj
    rw [add_plain',add_plain',hu] at h5
    rw [<- h5,Nat.add_assoc]
  ·subst hxx
   have h2:=bulk_len ((List.range len).map D)
   simp only [List.length_map,List.length_range] at h2 ⊢
   simp only [Rows.uptoBulk]
   omega
theorem open_spec {t ti ts:TypeId}{f0 f1 f2 f3:Field}{n:Nat}{u0 u1 u2 u3:Value}{y:DataW H×List MemPlace} (ht:P.underlying t=some (.struct #[f0,f1,f2,f3])) (o0:f0.offset=0) (o1:f1.offset=1) (o2:f2.offset=2) (o3:f3.offset=3)
 (e0:f0.type=ti) (e1:f1.type=ti) (e2:f2.type=ts) (e3:f3.type=ts) (ci:P.cellsOf ti=1) (cs:P.cellsOf ts=1) (hi:P.underlying ti=some (.int .i64)) (hs:P.underlying ts=some .string) (h:DataW.trod enc P w 0 (fun _=>true) true n t [u0,u1,u2,u3]=some y) :
 ∃ a,SpE w [u0,u1,u2,u3] a:=by
 obtain ⟨xs,n,_,_,_,hxl,hf⟩:=DataW.trod_struct ht h
 match xs,hxl with
 | [y0,y1,y2,y3],_ =>
  have t0:=hf 0 f0 rfl
  have t1:=hf 1 f1 rfl
  have t2:=hf 2 f2 rfl
  have t3:=hf 3 f3 rfl
  simp only [o0,e0,o1,e1,o2,e2,o3,e3,ci,cs,List.drop,List.take,List.getElem?_cons_zero,List.getElem?_cons_succ] at t0 t1 t2 t3
  obtain ⟨z,hz,_,wz⟩:=DataW.trod_int hi t0
  obtain ⟨z',hz',_,wz'⟩:=DataW.trod_int hi t1
  obtain ⟨s,hs1,_,ws⟩:=DataW.trod_string hs t2
  obtain ⟨s',hs2,_,ws'⟩:=DataW.trod_string hs t3
  obtain rfl:u0=.int .i64 z:=by simpa using hz
  obtain rfl:u1=.int .i64 z':=by simpa using hz'
  obtain rfl:u2=.string s:=by simpa using hs1
  obtain rfl:u3=.string s':=by simpa using hs2
  exact ⟨(z,z',s,s'),rfl,wf_int wz,wf_int wz',ws,ws'⟩
end
theorem cells_spec:Tryz.prog.cellsOf 91=4:=by kernel_rfl
theorem cells_i1:Tryz.prog.cellsOf 3=1:=by kernel_rfl
theorem cells_s1:Tryz.prog.cellsOf 9=1:=by kernel_rfl
theorem open_arcs {H:Type}{enc:TypeId×Value->H}{w:World}{v:Value}{d:DataW H}{p:List MemPlace}{r:Reach}{b0:Nat} (hval:Value.okWide Tryz.prog w r b0 22 v) (h:DataW.Trod enc Tryz.prog w 0 (fun _=>true) true 22 v d p):∃ l,Rows 4 SpE w v l/\l.length<=Rows.uptoBulk d:=by
 obtain ⟨a0,n0,c0,rfl⟩:=okWide_slice Tryz.underlying22 hval
 obtain ⟨fuel,h⟩:=h
 rw [show (Value.slice a0 n0 c0).cells.toList=[.slice a0 n0 c0] from rfl] at h
 exact open_rowsE (E:=SpE) Tryz.underlying22 cells_spec (by decide) (fun n cs y hl h=>by
  match cs,hl with
  | [u0,u1,u2,u3],_=>exact open_spec Tryz.underlying91 rfl rfl rfl rfl rfl rfl rfl rfl cells_i1 cells_s1 Tryz.underlying3 Tryz.underlying9 h) h
end Go.Proofs.YtkdobjmhammhbaaGreatDoor
