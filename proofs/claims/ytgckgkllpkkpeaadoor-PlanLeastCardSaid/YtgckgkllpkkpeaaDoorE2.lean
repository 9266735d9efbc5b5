/-
  errors.As of an error that errors.New made, at a *api.Fault: it is none.
-/
import Derived.Test.YtgckgkllpkkpeaaDoorE1
namespace Go.Proofs.YtgckgkllpkkpeaaDoor
open Go.RowKit Go.Extern.Stop Go.Stop Go.Extern

theorem newer {w w1 : World} {o : Obj} (h : Below w.heap.size w w1) : Below w.heap.size w (w1.alloc o) := h.alloc h.size o
theorem noAsE (v : Value) (xT : TypeId) (w : World) : (Instr.typeAssert (.iface 114 v) xT 110 true).run Tryd.prog w = .ok (.tuple #[.nilIface, .bool false]) w := run_typeAssert_lacksB Tryd.underlying110 (by kernel_rfl) (by kernel_rfl) v xT w
theorem asValueOf (t : Addr) (w : World) : (callFunc 41 #[.iface 66 (.pointer (some t))]).run Tryd.prog w
    = .ok (.value (.agg #[.pointer (some ⟨11, 66, none⟩), .pointer (some ⟨w.heap.size, 0, none⟩), .int .u64 150])) (w.alloc (.cells #[.pointer (some t)] 66)) := by
  rw [@run_callFunc_extern Tryd.prog 41 _ (fun args => ReflectliteValue.unpack (args.getD 0 (.tuple #[]))) Tryd.func41 (by kernel_rfl) (by kernel_rfl) (by kernel_rfl) (by kernel_rfl)]
  rw [show (ReflectliteValue.unpack ((#[.iface 66 (.pointer (some t))] : Array Value).getD 0 (.tuple #[]))).run Tryd.prog w = .ok (.agg #[.pointer (some ⟨11, 66, none⟩), .pointer (some ⟨w.heap.size, 0, none⟩), .int .u64 150]) (w.alloc (.cells #[.pointer (some t)] 66)) by kernel_rfl]
  rfl
theorem asType (a : Addr) (w : World) : (callFunc 42 #[.agg #[.pointer (some ⟨11, 66, none⟩), .pointer (some a), .int .u64 150]]).run Tryd.prog w
    = .ok (.value (.iface 99 (.agg #[.pointer (some ⟨11, 66, none⟩)]))) w := by
  rw [@run_callFunc_extern Tryd.prog 42 _ (ReflectliteValue.methodAny (ReflectliteValue.valueError "reflectlite.Value.Type" 0) (fun t _ _ _ => ReflectliteType.toType t)) Tryd.func42 (by kernel_rfl) (by kernel_rfl) (by kernel_rfl) (by kernel_rfl)]
  rw [show (ReflectliteValue.methodAny (ReflectliteValue.valueError "reflectlite.Value.Type" 0) (fun t _ _ _ => ReflectliteType.toType t) #[.agg #[.pointer (some ⟨11, 66, none⟩), .pointer (some a), .int .u64 150]]).run Tryd.prog w = .ok (.iface 99 (.agg #[.pointer (some ⟨11, 66, none⟩)])) w by kernel_rfl]
  rfl
theorem asMethodKind (h : Value) (w : World) : (Go.method 248 99 (.agg #[h]) "Kind").run Tryd.prog w = .ok (67, h) w := by kernel_rfl
theorem asKind2 (w : World) : (callFunc 67 #[.pointer (some ⟨11, 66, none⟩)]).run Tryd.prog w = .ok (.value (.int .u8 22)) w := by
  rw [@run_callFunc_extern Tryd.prog 67 _ (ReflectliteType.abiMethod fun t => do pure (.int .u8 (← Rtype.kind t))) Tryd.func67 (by kernel_rfl) (by kernel_rfl) (by kernel_rfl) (by kernel_rfl)]
  rw [show ((ReflectliteType.abiMethod fun t => do pure (.int .u8 (← Rtype.kind t))) #[.pointer (some ⟨11, 66, none⟩)]).run Tryd.prog w = .ok (.int .u8 22) w by kernel_rfl]
  rfl
theorem asKind1 (w : World) : (callFunc 67 #[.pointer (some ⟨11, 64, none⟩)]).run Tryd.prog w = .ok (.value (.int .u8 22)) w := by
  rw [@run_callFunc_extern Tryd.prog 67 _ (ReflectliteType.abiMethod fun t => do pure (.int .u8 (← Rtype.kind t))) Tryd.func67 (by kernel_rfl) (by kernel_rfl) (by kernel_rfl) (by kernel_rfl)]
  rw [show ((ReflectliteType.abiMethod fun t => do pure (.int .u8 (← Rtype.kind t))) #[.pointer (some ⟨11, 64, none⟩)]).run Tryd.prog w = .ok (.int .u8 22) w by kernel_rfl]
  rfl
theorem rlm (z : Sem Value) (f : TypeId → Addr → Nat → Nat → Sem Value) (v : Value) :
    ReflectliteValue.method z f #[v] = (do match ← ReflectliteValue.parts v with | none => z | some (t, a, fl) => f t a fl (fl % 32)) := rfl
theorem asParts2 (a : Addr) (w : World) : (ReflectliteValue.parts (.agg #[.pointer (some ⟨11, 66, none⟩), .pointer (some a), .int .u64 150])).run Tryd.prog w = .ok (some (66, a, 150)) w := by kernel_rfl
theorem asIsNil (a p : Addr) (W : World) (ha : W.cell? a = some (.pointer (some p))) :
    (callFunc 43 #[.agg #[.pointer (some ⟨11, 66, none⟩), .pointer (some a), .int .u64 150]]).run Tryd.prog W = .ok (.value (.bool false)) W := by
  rw [@run_callFunc_extern Tryd.prog 43 _ (ReflectliteValue.method (ReflectliteValue.valueError "reflectlite.Value.IsNil" 0) ReflectliteValue.isNil) Tryd.func43 (by kernel_rfl) (by kernel_rfl) (by kernel_rfl) (by kernel_rfl)]
  rw [rlm]
  simp only [Sem.run_bind, asParts2, Result.andThen]
  simp [ReflectliteValue.isNil, loadVar, isAgg, underlying, Tryd.underlying66, ha, Result.andThen]
theorem asMethodElem (h : Value) (w : World) : (Go.method 248 99 (.agg #[h]) "Elem").run Tryd.prog w = .ok (78, .agg #[h]) w := by kernel_rfl
theorem asMethodImplements (h : Value) (w : World) : (Go.method 248 99 (.agg #[h]) "Implements").run Tryd.prog w = .ok (79, .agg #[h]) w := by kernel_rfl
theorem asMethodAssignableTo (h : Value) (w : World) : (Go.method 248 99 (.agg #[h]) "AssignableTo").run Tryd.prog w = .ok (76, .agg #[h]) w := by kernel_rfl
theorem asElem (w : World) : (callFunc 78 #[.agg #[.pointer (some ⟨11, 66, none⟩)]]).run Tryd.prog w = .ok (.value (.iface 99 (.agg #[.pointer (some ⟨11, 64, none⟩)]))) w := by
  rw [@run_callFunc_extern Tryd.prog 78 _ (ReflectliteType.method ReflectliteType.elem) Tryd.func78 (by kernel_rfl) (by kernel_rfl) (by kernel_rfl) (by kernel_rfl)]
  rw [show (ReflectliteType.method ReflectliteType.elem #[.agg #[.pointer (some ⟨11, 66, none⟩)]]).run Tryd.prog w = .ok (.iface 99 (.agg #[.pointer (some ⟨11, 64, none⟩)])) w by kernel_rfl]
  rfl
theorem asImplements (w : World) : (callFunc 79 #[.agg #[.pointer (some ⟨11, 64, none⟩)], .iface 99 (.agg #[.pointer (some ⟨11, 27, none⟩)])]).run Tryd.prog w = .ok (.value (.bool true)) w := by
  rw [@run_callFunc_extern Tryd.prog 79 _ (ReflectliteType.relation "Implements" ReflectliteType.implements_) Tryd.func79 (by kernel_rfl) (by kernel_rfl) (by kernel_rfl) (by kernel_rfl)]
  rw [show (ReflectliteType.relation "Implements" ReflectliteType.implements_ #[.agg #[.pointer (some ⟨11, 64, none⟩)], .iface 99 (.agg #[.pointer (some ⟨11, 27, none⟩)])]).run Tryd.prog w = .ok (.bool true) w by kernel_rfl]
  rfl
theorem asNotAssignable (w : World) : (callFunc 76 #[.agg #[.pointer (some ⟨11, 114, none⟩)], .iface 99 (.agg #[.pointer (some ⟨11, 64, none⟩)])]).run Tryd.prog w = .ok (.value (.bool false)) w := by
  rw [@run_callFunc_extern Tryd.prog 76 _ (ReflectliteType.relation "AssignableTo" ReflectliteType.assignableTo) Tryd.func76 (by kernel_rfl) (by kernel_rfl) (by kernel_rfl) (by kernel_rfl)]
  rw [show (ReflectliteType.relation "AssignableTo" ReflectliteType.assignableTo #[.agg #[.pointer (some ⟨11, 114, none⟩)], .iface 99 (.agg #[.pointer (some ⟨11, 64, none⟩)])]).run Tryd.prog w = .ok (.bool false) w by kernel_rfl]
  rfl

set_option maxRecDepth 8000 in
set_option maxHeartbeats 4000000 in
/-- errors.As of such an error at a *api.Fault: false; nothing old turns. -/
theorem as_miss (e t : Addr) (w : World) (hg : w.cell? ⟨10, 0, none⟩ = some (.iface 99 (.agg #[.pointer (some ⟨11, 27, none⟩)]))) :
    Calls Tryd.prog 24 #[.iface 114 (.pointer (some e)), .iface 66 (.pointer (some t))] w fun ev w' => ev = .returned (.bool false) ∧ Below w.heap.size w w' := by
  have f0 := isTypeOf
  have f1 := noAsE
  have f2 := noUnwrapE
  have f3 := noUnwrapsE
  have f4 := asValueOf
  have f5 := asType
  have f6 := asMethodKind
  have f7 := asKind2
  have f8 := asKind1
  have f9 := asMethodElem
  have f10 := asMethodImplements
  have f11 := asMethodAssignableTo
  have f12 := asElem
  have f13 := asImplements
  have f14 := asNotAssignable
  have hlt : 10 < w.heap.size := World.block_lt_of_cell? w _ hg
  have n8 := asIsNil ⟨w.heap.size, 0, none⟩ t ((w.alloc (.cells #[.pointer (some t)] 66)).alloc (.cells #[.pointer (some ⟨11, 66, none⟩), .pointer (some ⟨w.heap.size, 0, none⟩), .int .u64 150] 87)) (by simp)
  have hg2 : ((w.alloc (.cells #[.pointer (some t)] 66)).alloc (.cells #[.pointer (some ⟨11, 66, none⟩), .pointer (some ⟨w.heap.size, 0, none⟩), .int .u64 150] 87)).cell? ⟨10, 0, none⟩ = some (.iface 99 (.agg #[.pointer (some ⟨11, 27, none⟩)])) := by
    rw [World.cell?_alloc_lt _ _ ⟨10, 0, none⟩ (by simp; omega), World.cell?_alloc_lt _ _ ⟨10, 0, none⟩ hlt]; exact hg
  go_enter Tryd.func24, Tryd.ntmps24
  go_wp2
  refine wp_loop_rounds 1 ?_
  rw [rounds_succ]
  go_wp2
  go_ret
  refine ⟨rfl, ?_⟩
  first
    | exact newer (newer (newer (newer (Below.refl _ _))))
    | exact newer (newer (newer (Below.refl _ _)))
    | exact newer (newer (Below.refl _ _))
end Go.Proofs.YtgckgkllpkkpeaaDoor
