import Derived.Test.YtkdobjmhammhbaaGreatDoorProg
import Derived.Stop.Asserts
import Derived.RowKitTokens
import Derived.Deep.DeepFit
namespace Go.Proofs.YtkdobjmhammhbaaGreatDoor
set_option maxHeartbeats 4000000
set_option maxRecDepth 8000
open Go.RowKit Go.Extern.Stop Go.Stop Go.Extern
theorem isTypeOf (v:Value) (w:World):(callFunc 149 #[.iface 324 v]).run Tryz.prog w=.ok (.value (.iface 274 (.agg #[.pointer (some ⟨17,324,none⟩)]))) w:=by
 rw [@run_callFunc_extern Tryz.prog 149 _ Extern.ReflectliteType.typeOf Tryz.func149 (by kernel_rfl) (by kernel_rfl) (by kernel_rfl) (by kernel_rfl)]
 rw [show (Extern.ReflectliteType.typeOf #[.iface 324 v]).run Tryz.prog w=.ok (.iface 274 (.agg #[.pointer (some ⟨17,324,none⟩)])) w by kernel_rfl]
 rfl
theorem isComparable (w:World):(callFunc 267 #[.agg #[.pointer (some ⟨17,324,none⟩)]]).run Tryz.prog w=.ok (.value (.bool true)) w:=by
 rw [@run_callFunc_extern Tryz.prog 267 _ (Extern.ReflectliteType.method fun t => do Rtype.noPackHeld "Comparable" t; pure (.bool (← typeInfo t).comparable)) Tryz.func267 (by kernel_rfl) (by kernel_rfl) (by kernel_rfl) (by kernel_rfl)]
 rw [show ((Extern.ReflectliteType.method fun t => do Rtype.noPackHeld "Comparable" t; pure (.bool (← typeInfo t).comparable)) #[.agg #[.pointer (some ⟨17, 324, none⟩)]]).run Tryz.prog w = .ok (.bool true) w by kernel_rfl]
 rfl
theorem isMethodComparable (v : Value) (w : World) : (Go.method 454 274 v "Comparable").run Tryz.prog w = .ok (267, v) w := by kernel_rfl
theorem isComp:(Tryz.prog.info? 324).map (·.comparable)=some true:=by kernel_rfl
theorem isSize:(Tryz.prog.info? 342).map (·.size)=some 1:=by kernel_rfl
theorem noIsE (v:Value) (xT:TypeId) (w:World):(Instr.typeAssert (.iface 324 v) xT 276 true).run Tryz.prog w=.ok (.tuple #[.nilIface,.bool false]) w:=run_typeAssert_lacksB Tryz.underlying276 (by kernel_rfl) (by kernel_rfl) v xT w
theorem noUnwrapE (v:Value) (xT:TypeId) (w:World):(Instr.typeAssert (.iface 324 v) xT 279 true).run Tryz.prog w=.ok (.tuple #[.nilIface,.bool false]) w:=run_typeAssert_lacksB Tryz.underlying279 (by kernel_rfl) (by kernel_rfl) v xT w
theorem noUnwrapsE (v:Value) (xT:TypeId) (w:World):(Instr.typeAssert (.iface 324 v) xT 281 true).run Tryz.prog w=.ok (.tuple #[.nilIface,.bool false]) w:=run_typeAssert_lacksB Tryz.underlying281 (by kernel_rfl) (by kernel_rfl) v xT w
theorem is_same (a:Addr) (w:World) :
 Calls Tryz.prog 89 #[.iface 324 (.pointer (some a)),.iface 324 (.pointer (some a))] w fun e w'=>e=.returned (.bool true)/\w'=w:=by
 obtain ⟨i,hi,hcmp⟩:=Option.map_eq_some_iff.1 isComp
 obtain ⟨j,hj,hjs⟩:=Option.map_eq_some_iff.1 isSize
 have tT:=isTypeOf
 have cT:=isComparable
 have mR:=isMethodComparable
 have heq:=run_eql_iface_ptr_same (P:=Tryz.prog) w a Tryz.underlying43 Tryz.underlying324 hi hcmp hj
 go_enter Tryz.func89,Tryz.ntmps89
 go_wp2
 refine wp_loop_rounds 1 ?_
 rw [rounds_succ]
 go_wp2
 go_ret
 exact ⟨rfl,rfl⟩
theorem is_other (a b:Addr) (ca cb:Array Value) (ta tb:TypeId) (w:World) (hne:a≠b) (ha:w.heap[a.block]? = some (.cells ca ta (0,0))) (hb:w.heap[b.block]? = some (.cells cb tb (0,0))) :
 Calls Tryz.prog 89 #[.iface 324 (.pointer (some a)),.iface 324 (.pointer (some b))] w fun e w'=>e=.returned (.bool false)/\w'=w:=by
 obtain ⟨i,hi,hcmp⟩:=Option.map_eq_some_iff.1 isComp
 obtain ⟨j,hj,hjs⟩:=Option.map_eq_some_iff.1 isSize
 have tT:=isTypeOf
 have cT:=isComparable
 have mR:=isMethodComparable
 have nE:=noIsE
 have uE:=noUnwrapE
 have vE:=noUnwrapsE
 have heq:=run_eql_iface_ptr_other (P:=Tryz.prog) w Tryz.underlying43 Tryz.underlying324 hi hcmp hj (by rw [hjs];decide) hne ha hb
 go_enter Tryz.func89,Tryz.ntmps89
 go_wp2
 refine wp_loop_rounds 1 ?_
 rw [rounds_succ]
 go_wp2
 go_ret
 exact ⟨rfl,rfl⟩
theorem newer {w w1:World}{o:Obj} (h:Below w.heap.size w w1):Below w.heap.size w (w1.alloc o):=h.alloc h.size o
theorem noAsE (v:Value) (xT:TypeId) (w:World):(Instr.typeAssert (.iface 324 v) xT 285 true).run Tryz.prog w=.ok (.tuple #[.nilIface,.bool false]) w:=run_typeAssert_lacksB Tryz.underlying285 (by kernel_rfl) (by kernel_rfl) v xT w
theorem asValueOf (t:Addr) (w:World):(callFunc 151 #[.iface 164 (.pointer (some t))]).run Tryz.prog w
 = .ok (.value (.agg #[.pointer (some ⟨17,164,none⟩),.pointer (some ⟨w.heap.size,0,none⟩),.int .u64 150])) (w.alloc (.cells #[.pointer (some t)] 164)):=by
 rw [@run_callFunc_extern Tryz.prog 151 _ (fun args=>ReflectliteValue.unpack (args.getD 0 (.tuple #[]))) Tryz.func151 (by kernel_rfl) (by kernel_rfl) (by kernel_rfl) (by kernel_rfl)]
 rw [show (ReflectliteValue.unpack ((#[.iface 164 (.pointer (some t))]:Array Value).getD 0 (.tuple #[]))).run Tryz.prog w=.ok (.agg #[.pointer (some ⟨17,164,none⟩),.pointer (some ⟨w.heap.size,0,none⟩),.int .u64 150]) (w.alloc (.cells #[.pointer (some t)] 164)) by kernel_rfl]
 rfl
theorem asType (a:Addr) (w:World):(callFunc 152 #[.agg #[.pointer (some ⟨17,164,none⟩),.pointer (some a),.int .u64 150]]).run Tryz.prog w
 = .ok (.value (.iface 274 (.agg #[.pointer (some ⟨17,164,none⟩)]))) w:=by
 rw [@run_callFunc_extern Tryz.prog 152 _ (ReflectliteValue.methodAny (ReflectliteValue.valueError "reflectlite.Value.Type" 0) (fun t _ _ _ => ReflectliteType.toType t)) Tryz.func152 (by kernel_rfl) (by kernel_rfl) (by kernel_rfl) (by kernel_rfl)]
 rw [show (ReflectliteValue.methodAny (ReflectliteValue.valueError "reflectlite.Value.Type" 0) (fun t _ _ _ => ReflectliteType.toType t) #[.agg #[.pointer (some ⟨17, 164, none⟩), .pointer (some a), .int .u64 150]]).run Tryz.prog w = .ok (.iface 274 (.agg #[.pointer (some ⟨17, 164, none⟩)])) w by kernel_rfl]
 rfl
theorem asMethodKind (h : Value) (w : World) : (Go.method 454 274 (.agg #[h]) "Kind").run Tryz.prog w = .ok (255, h) w := by kernel_rfl
theorem asKind2 (w:World):(callFunc 255 #[.pointer (some ⟨17,164,none⟩)]).run Tryz.prog w=.ok (.value (.int .u8 22)) w:=by
 rw [@run_callFunc_extern Tryz.prog 255 _ (ReflectliteType.abiMethod fun t=>do pure (.int .u8 (<- Rtype.kind t))) Tryz.func255 (by kernel_rfl) (by kernel_rfl) (by kernel_rfl) (by kernel_rfl)]
 rw [show ((ReflectliteType.abiMethod fun t=>do pure (.int .u8 (<- Rtype.kind t))) #[.pointer (some ⟨17,164,none⟩)]).run Tryz.prog w=.ok (.int .u8 22) w by kernel_rfl]
 rfl
theorem asKind1 (w:World):(callFunc 255 #[.pointer (some ⟨17,162,none⟩)]).run Tryz.prog w=.ok (.value (.int .u8 22)) w:=by
 rw [@run_callFunc_extern Tryz.prog 255 _ (ReflectliteType.abiMethod fun t=>do pure (.int .u8 (<- Rtype.kind t))) Tryz.func255 (by kernel_rfl) (by kernel_rfl) (by kernel_rfl) (by kernel_rfl)]
 rw [show ((ReflectliteType.abiMethod fun t=>do pure (.int .u8 (<- Rtype.kind t))) #[.pointer (some ⟨17,162,none⟩)]).run Tryz.prog w=.ok (.int .u8 22) w by kernel_rfl]
 rfl
theorem rlm (z:Sem Value) (f:TypeId->Addr->Nat->Nat->Sem Value) (v:Value) :
 ReflectliteValue.method z f #[v]=(do match <- ReflectliteValue.parts v with | none=>z | some (t,a,fl)=>f t a fl (fl % 32)):=rfl
theorem asParts2 (a:Addr) (w:World):(ReflectliteValue.parts (.agg #[.pointer (some ⟨17,164,none⟩),.pointer (some a),.int .u64 150])).run Tryz.prog w=.ok (some (164,a,150)) w:=by kernel_rfl
theorem asIsNil (a p:Addr) (W:World) (ha:W.cell? a=some (.pointer (some p))) :
 (callFunc 153 #[.agg #[.pointer (some ⟨17,164,none⟩),.pointer (some a),.int .u64 150]]).run Tryz.prog W=.ok (.value (.bool false)) W:=by
 rw [@run_callFunc_extern Tryz.prog 153 _ (ReflectliteValue.method (ReflectliteValue.valueError "reflectlite.Value.IsNil" 0) ReflectliteValue.isNil) Tryz.func153 (by kernel_rfl) (by kernel_rfl) (by kernel_rfl) (by kernel_rfl)]
 rw [rlm]
 simp only [Sem.run_bind,asParts2,Result.andThen]
 simp [ReflectliteValue.isNil,loadVar,isAgg,underlying,Tryz.underlying164,ha,Result.andThen]
theorem asMethodElem (h : Value) (w : World) : (Go.method 454 274 (.agg #[h]) "Elem").run Tryz.prog w = .ok (268, .agg #[h]) w := by kernel_rfl
theorem asMethodImplements (h : Value) (w : World) : (Go.method 454 274 (.agg #[h]) "Implements").run Tryz.prog w = .ok (269, .agg #[h]) w := by kernel_rfl
theorem asMethodAssignableTo (h : Value) (w : World) : (Go.method 454 274 (.agg #[h]) "AssignableTo").run Tryz.prog w = .ok (266, .agg #[h]) w := by kernel_rfl
theorem asElem (w:World):(callFunc 268 #[.agg #[.pointer (some ⟨17,164,none⟩)]]).run Tryz.prog w=.ok (.value (.iface 274 (.agg #[.pointer (some ⟨17,162,none⟩)]))) w:=by
 rw [@run_callFunc_extern Tryz.prog 268 _ (ReflectliteType.method ReflectliteType.elem) Tryz.func268 (by kernel_rfl) (by kernel_rfl) (by kernel_rfl) (by kernel_rfl)]
 rw [show (ReflectliteType.method ReflectliteType.elem #[.agg #[.pointer (some ⟨17,164,none⟩)]]).run Tryz.prog w=.ok (.iface 274 (.agg #[.pointer (some ⟨17,162,none⟩)])) w by kernel_rfl]
 rfl
theorem asImplements (w:World):(callFunc 269 #[.agg #[.pointer (some ⟨17,162,none⟩)],.iface 274 (.agg #[.pointer (some ⟨17,43,none⟩)])]).run Tryz.prog w=.ok (.value (.bool true)) w:=by
 rw [@run_callFunc_extern Tryz.prog 269 _ (ReflectliteType.relation "Implements" ReflectliteType.implements_) Tryz.func269 (by kernel_rfl) (by kernel_rfl) (by kernel_rfl) (by kernel_rfl)]
 rw [show (ReflectliteType.relation "Implements" ReflectliteType.implements_ #[.agg #[.pointer (some ⟨17, 162, none⟩)], .iface 274 (.agg #[.pointer (some ⟨17, 43, none⟩)])]).run Tryz.prog w = .ok (.bool true) w by kernel_rfl]
 rfl
theorem asNotAssignable (w:World):(callFunc 266 #[.agg #[.pointer (some ⟨17,324,none⟩)],.iface 274 (.agg #[.pointer (some ⟨17,162,none⟩)])]).run Tryz.prog w=.ok (.value (.bool false)) w:=by
 rw [@run_callFunc_extern Tryz.prog 266 _ (ReflectliteType.relation "AssignableTo" ReflectliteType.assignableTo) Tryz.func266 (by kernel_rfl) (by kernel_rfl) (by kernel_rfl) (by kernel_rfl)]
 rw [show (ReflectliteType.relation "AssignableTo" ReflectliteType.assignableTo #[.agg #[.pointer (some ⟨17, 324, none⟩)], .iface 274 (.agg #[.pointer (some ⟨17, 162, none⟩)])]).run Tryz.prog w = .ok (.bool false) w by kernel_rfl]
 rfl
theorem as_miss (e t:Addr) (w:World) (hg:w.cell? ⟨10,0,none⟩=some (.iface 274 (.agg #[.pointer (some ⟨17,43,none⟩)]))) :
 Calls Tryz.prog 90 #[.iface 324 (.pointer (some e)),.iface 164 (.pointer (some t))] w fun ev w'=>ev=.returned (.bool false)/\Below w.heap.size w w':=by
 have f0:=isTypeOf
 have f1:=noAsE
 have f2:=noUnwrapE
 have f3:=noUnwrapsE
 have f4:=asValueOf
 have f5:=asType
 have f6:=asMethodKind
 have f7:=asKind2
 have f8:=asKind1
 have f9:=asMethodElem
 have f10:=asMethodImplements
 have f11:=asMethodAssignableTo
 have f12:=asElem
 have f13:=asImplements
 have f14:=asNotAssignable
 have hlt:10<w.heap.size:=World.block_lt_of_cell? w _ hg
 have n8:=asIsNil ⟨w.heap.size,0,none⟩ t ((w.alloc (.cells #[.pointer (some t)] 164)).alloc (.cells #[.pointer (some ⟨17,164,none⟩),.pointer (some ⟨w.heap.size,0,none⟩),.int .u64 150] 233)) (by simp)
 have hg2:((w.alloc (.cells #[.pointer (some t)] 164)).alloc (.cells #[.pointer (some ⟨17,164,none⟩),.pointer (some ⟨w.heap.size,0,none⟩),.int .u64 150] 233)).cell? ⟨10,0,none⟩=some (.iface 274 (.agg #[.pointer (some ⟨17,43,none⟩)])):=by
  rw [World.cell?_alloc_lt _ _ ⟨10,0,none⟩ (by simp;omega),World.cell?_alloc_lt _ _ ⟨10,0,none⟩ hlt];exact hg
 go_enter Tryz.func90,Tryz.ntmps90
 go_wp2
 refine wp_loop_rounds 1 ?_
 rw [rounds_succ]
 go_wp2
 go_ret
 refine ⟨rfl,?_⟩
 first
  | exact newer (newer (newer (newer (Below.refl _ _))))
  | exact newer (newer (newer (Below.refl _ _)))
  | exact newer (newer (Below.refl _ _))
open Go.RowKit
theorem older {w wp w1:World} (hb:Below wp.heap.size wp w1) (h:Below w.heap.size w wp):Below w.heap.size w w1:=h.trans (hb.mono h.size)
theorem hide2 {p:Prop} (h:p):Hid p:=h
structure Sents (w:World) (A:Nat->Addr):Prop where
 h0:w.cell? ⟨1,0,none⟩=some (.iface 324 (.pointer (some (A 0))))
 h1:w.cell? ⟨2,0,none⟩=some (.iface 324 (.pointer (some (A 1))))
 h2:w.cell? ⟨3,0,none⟩=some (.iface 324 (.pointer (some (A 2))))
 h3:w.cell? ⟨0,0,none⟩=some (.iface 324 (.pointer (some (A 3))))
 h4:w.cell? ⟨4,0,none⟩=some (.iface 324 (.pointer (some (A 4))))
 h5:w.cell? ⟨5,0,none⟩=some (.iface 324 (.pointer (some (A 5))))
 h6:w.cell? ⟨6,0,none⟩=some (.iface 324 (.pointer (some (A 6))))
 h7:w.cell? ⟨7,0,none⟩=some (.iface 324 (.pointer (some (A 7))))
 h8:w.cell? ⟨8,0,none⟩=some (.iface 324 (.pointer (some (A 8))))
 h9:w.cell? ⟨9,0,none⟩=some (.iface 324 (.pointer (some (A 9))))
 rows:∀ j,j<10->∃ c t,w.heap[(A j).block]? = some (.cells c t (0,0))
 apart:∀ i j,i<10->j<10->i≠j->A i≠A j
 handle:w.cell? ⟨10,0,none⟩=some (.iface 274 (.agg #[.pointer (some ⟨17,43,none⟩)]))
theorem zxh {w w1:World}{b o:Nat}{v:Value} (hb:Below w.heap.size w w1) (h:w.cell? ⟨b,o,none⟩=some v):w1.cell? ⟨b,o,none⟩=some v:=by
 have hlt:=World.block_lt_of_cell? w _ h
 have:=hb.block b hlt
 simp only [World.cell?] at h ⊢
 rw [this];exact h
theorem Sents.later {w w1:World}{A:Nat->Addr} (h:Sents w A) (hb:Below w.heap.size w w1):Sents w1 A where
 h0:=zxh hb h.h0
 h1:=zxh hb h.h1
 h2:=zxh hb h.h2
 h3:=zxh hb h.h3
 h4:=zxh hb h.h4
 h5:=zxh hb h.h5
 h6:=zxh hb h.h6
 h7:=zxh hb h.h7
 h8:=zxh hb h.h8
 h9:=zxh hb h.h9
 rows j hj:=by
  obtain ⟨c,t,e⟩:=h.rows j hj
  exact ⟨c,t,by rw [hb.block _ (Array.getElem?_eq_some_iff.1 e).1];exact e⟩
 apart:=h.apart
 handle:=zxh hb h.handle
def tenOf (A:Nat->Addr):Array Value:=#[.iface 324 (.pointer (some (A 0))),.iface 324 (.pointer (some (A 1))),.iface 324 (.pointer (some (A 2))),.iface 324 (.pointer (some (A 3))),.iface 324 (.pointer (some (A 4))),.iface 324 (.pointer (some (A 5))),.iface 324 (.pointer (some (A 6))),.iface 324 (.pointer (some (A 7))),.iface 324 (.pointer (some (A 8))),.iface 324 (.pointer (some (A 9)))]
theorem tenOf_at (A:Nat->Addr) (j:Nat) (hj:j<10):(tenOf A)[j]? = some (.iface 324 (.pointer (some (A j)))):=by
 rcases (by omega:j=0\/j=1\/j=2\/j=3\/j=4\/j=5\/j=6\/j=7\/j=8\/j=9) with rfl | rfl | rfl | rfl | rfl | rfl | rfl | rfl | rfl | rfl <;> rfl
theorem ten_cell (A:Nat->Addr) (w:World) (T:TypeId) (j:Nat) (hj:j<10):(w.alloc (.cells (tenOf A) T)).cell? ⟨w.heap.size,j,none⟩=some (.iface 324 (.pointer (some (A j)))):=by
 have e:(w.alloc (.cells (tenOf A) T)).heap[w.heap.size]? = some (.cells (tenOf A) T (0,0)):=heap_alloc_new w _
 simp only [World.cell?,e]
 exact tenOf_at A j hj
theorem code_any (A:Nat->Addr) (w:World) (k:Nat) (hk:k<10) (hS:Sents w A) :
 Calls Tryz.prog 38 #[.iface 324 (.pointer (some (A k)))] w fun e w'=>e=.returned (.tuple #[.int .i64 ((k:Int)+1),.int .i64 (-1)])/\Below w.heap.size w w':=by
 have h0:=hS.h0
 have h1:=hS.h1
 have h2:=hS.h2
 have h3:=hS.h3
 have h4:=hS.h4
 have h5:=hS.h5
 have h6:=hS.h6
 have h7:=hS.h7
 have h8:=hS.h8
 have h9:=hS.h9
 have HC:=hide2 (ten_cell A w 43)
 have HB:=hide2 (newer (o:=.cells (tenOf A) 43) (Below.refl w.heap.size w))
 have HS:=hide2 (hS.later HB.out)
 unfold tenOf at HC HB HS
 go_enter Tryz.func38,Tryz.ntmps38
 go_wp2_with fail
 clear h0 h1 h2 h3 h4 h5 h6 h7 h8 h9
 obtain ⟨w0,hw0⟩:∃ w0,w0=w.alloc (.cells #[.iface 324 (.pointer (some (A 0))),.iface 324 (.pointer (some (A 1))),.iface 324 (.pointer (some (A 2))),.iface 324 (.pointer (some (A 3))),.iface 324 (.pointer (some (A 4))),.iface 324 (.pointer (some (A 5))),.iface 324 (.pointer (some (A 6))),.iface 324 (.pointer (some (A 7))),.iface 324 (.pointer (some (A 8))),.iface 324 (.pointer (some (A 9)))] 43):=⟨_,rfl⟩
 rw [<- hw0] at HC HB HS
 rw [<- hw0]
 clear hw0
 go_loop [4,22] (fun n i=>∃ j:Nat,j<=10/\i=.int .i64 j/\n=.int .i64 (if k<j then (k:Int)+1 else 0)) (fun _ i=>10 - (intOf i).toNat)
 case atStart=>exact ⟨0,by omega,rfl,by simp⟩
 case round =>
  obtain ⟨j,hj,rfl,rfl⟩:=hrel
  by_cases hlt:j<10
  ·have hc:=HC.out j hlt
   have hji:(j:Int)<10:=by omega
   by_cases hjk:j=k
   ·subst hjk
    have hn:(if j<j then (j:Int)+1 else 0)=0:=by simp
    rw [hn]
    go_wp2_with fail
    go_fit (is_same (A j) _)
    rintro e w1 ⟨rfl,rfl⟩
    go_wp2
    go_round
    case rel=>exact ⟨j+1,by omega,by go_num,by simp⟩
    case measure=>simp [intOf];omega
   ·obtain ⟨c1,t1,e1⟩:=HS.out.rows k hk
    obtain ⟨c2,t2,e2⟩:=HS.out.rows j hlt
    have hne:=HS.out.apart k j hk hlt (fun e=>hjk e.symm)
    have HNE:=hide2 hne
    have E1:=hide2 e1
    have E2:=hide2 e2
    have HJK:=hide2 hjk
    obtain ⟨v,hv⟩:∃ v:Int,(if k<j then (k:Int)+1 else 0)=v:=⟨_,rfl⟩
    rw [hv]
    have HV:=hide2 hv
    clear hne e1 e2 hv hjk
    go_wp2_with fail
    go_fit (is_other (A k) (A j) c1 c2 t1 t2 _ HNE.out E1.out E2.out)
    rintro e w1 ⟨rfl,rfl⟩
    go_wp2
    go_round
    case rel=>exact ⟨j+1,by omega,by go_num,by
     rw [<- HV.out]
     have:=HJK.out
     by_cases h:k<j
     ·rw [if_pos h,if_pos (by omega)]
     ·rw [if_neg h,if_neg (by omega)]⟩
    case measure=>simp [intOf];omega
  ·obtain rfl:j=10:=by omega
   rw [if_pos hk]
   have hki:((k:Int)+1 == 0)=false:=by simp;omega
   have hkb:(k:Int)<10:=by omega
   go_wp2_with fail
   go_fit (as_miss _ _ _ (zxh (newer (Below.refl _ _)) HS.out.handle))
   rintro e w1 ⟨rfl,hb1⟩
   have hB:Below w.heap.size w w1:=older hb1 (newer HB.out)
   clear hb1
   go_wp2
   go_ret2
   exact ⟨rfl,hB⟩
end Go.Proofs.YtkdobjmhammhbaaGreatDoor
