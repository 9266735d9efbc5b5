/-
  errors.As of a *api.Fault at a *api.Fault: it is set, walked.
  plain.Code of no error, and of a fault; the law's told.
  How a law tells an error's code and place.
-/
import Derived.Test.YtmhebjeefdanmaaGreatDoorMEA
import Derived.Test.YtmhebjeefdanmaaGreatDoorMH
import Derived.BigRegion
import Derived.BigQuiet
import Derived.Deep.QuietTactic
namespace Go.Proofs.YtmhebjeefdanmaaGreatDoor
open Go.RowKit Go.Extern.Stop Go.Stop Go.Extern

theorem faTypeOf (v : Value) (w : World) : (callFunc 171 #[.iface 95 v]).run Tryz.prog w = .ok (.value (.iface 218 (.agg #[.pointer (some ⟨17, 95, none⟩)]))) w := by
  rw [@run_callFunc_extern Tryz.prog 171 _ Extern.ReflectliteType.typeOf Tryz.func171 (by kernel_rfl) (by kernel_rfl) (by kernel_rfl) (by kernel_rfl)]
  rw [show (Extern.ReflectliteType.typeOf #[.iface 95 v]).run Tryz.prog w = .ok (.iface 218 (.agg #[.pointer (some ⟨17, 95, none⟩)])) w by kernel_rfl]
  rfl
theorem faAssignable (w : World) : (callFunc 215 #[.agg #[.pointer (some ⟨17, 95, none⟩)], .iface 218 (.agg #[.pointer (some ⟨17, 95, none⟩)])]).run Tryz.prog w = .ok (.value (.bool true)) w := by
  rw [@run_callFunc_extern Tryz.prog 215 _ (ReflectliteType.relation "AssignableTo" ReflectliteType.assignableTo) Tryz.func215 (by kernel_rfl) (by kernel_rfl) (by kernel_rfl) (by kernel_rfl)]
  rw [show (ReflectliteType.relation "AssignableTo" ReflectliteType.assignableTo #[.agg #[.pointer (some ⟨17, 95, none⟩)], .iface 218 (.agg #[.pointer (some ⟨17, 95, none⟩)])]).run Tryz.prog w = .ok (.bool true) w by kernel_rfl]
  rfl
theorem faValueOf (e : Addr) (w : World) : (callFunc 173 #[.iface 95 (.pointer (some e))]).run Tryz.prog w
    = .ok (.value (.agg #[.pointer (some ⟨17, 95, none⟩), .pointer (some ⟨w.heap.size, 0, none⟩), .int .u64 150])) (w.alloc (.cells #[.pointer (some e)] 95)) := by
  rw [@run_callFunc_extern Tryz.prog 173 _ (fun args => ReflectliteValue.unpack (args.getD 0 (.tuple #[]))) Tryz.func173 (by kernel_rfl) (by kernel_rfl) (by kernel_rfl) (by kernel_rfl)]
  rw [show (ReflectliteValue.unpack ((#[.iface 95 (.pointer (some e))] : Array Value).getD 0 (.tuple #[]))).run Tryz.prog w = .ok (.agg #[.pointer (some ⟨17, 95, none⟩), .pointer (some ⟨w.heap.size, 0, none⟩), .int .u64 150]) (w.alloc (.cells #[.pointer (some e)] 95)) by kernel_rfl]
  rfl
theorem faElemOf (w : World) : (Rtype.elem? 172).run Tryz.prog w = .ok (some 95) w := by kernel_rfl
theorem faMk (p : Addr) (w : World) : (ReflectliteValue.mk 95 p ReflectliteValue.flagAddr).run Tryz.prog w = .ok (.agg #[.pointer (some ⟨17, 95, none⟩), .pointer (some p), .int .u64 406]) w := by kernel_rfl
theorem faElemV (a p : Addr) (W : World) (ha : W.cell? a = some (.pointer (some p))) :
    (callFunc 187 #[.agg #[.pointer (some ⟨17, 172, none⟩), .pointer (some a), .int .u64 150]]).run Tryz.prog W
      = .ok (.value (.agg #[.pointer (some ⟨17, 95, none⟩), .pointer (some p), .int .u64 406])) W := by
  rw [@run_callFunc_extern Tryz.prog 187 _ (ReflectliteValue.method (ReflectliteValue.valueError "reflectlite.Value.Elem" 0) ReflectliteValue.elem) Tryz.func187 (by kernel_rfl) (by kernel_rfl) (by kernel_rfl) (by kernel_rfl)]
  rw [rlm]
  simp only [Sem.run_bind, asParts2, Result.andThen]
  simp [ReflectliteValue.elem, loadVar, isAgg, underlying, Tryz.underlying172, ha, Result.andThen, faElemOf, faMk]
theorem rls (v x : Value) : ReflectliteValue.set #[v, x] = (do
    let (some (dst, a, fl), some (src, b, _)) := (← ReflectliteValue.parts v, ← ReflectliteValue.parts x)
      | unsupported (.noEntry "extern/(internal/reflectlite.Value).Set.zeroValue")
    if fl / ReflectliteValue.flagAddr % 2 == 0 then unsupported (.noEntry "extern/(internal/reflectlite.Value).Set.unaddressable")
    let val ← loadVar src b
    if ← Rtype.directlyAssignable dst src then storeVar dst a val
    else if ← Rtype.implements dst src then
      if (← Rtype.kind src) == 20 then
        match val with
        | .nilIface => unsupported (.noEntry "extern/reflectlite: a nil value of one interface type handed on as a value of another")
        | _ => storeVar dst a val
      else storeVar dst a (.iface src val)
    else panicString ("reflectlite.Set: value of type " ++ (← Rtype.spelt src) ++ " is not assignable to type " ++ (← Rtype.spelt dst))
    pure (.tuple #[])) := rfl
theorem faParts1a (a : Addr) (w : World) : (ReflectliteValue.parts (.agg #[.pointer (some ⟨17, 95, none⟩), .pointer (some a), .int .u64 406])).run Tryz.prog w = .ok (some (95, a, 406)) w := by kernel_rfl
theorem faParts1 (a : Addr) (w : World) : (ReflectliteValue.parts (.agg #[.pointer (some ⟨17, 95, none⟩), .pointer (some a), .int .u64 150])).run Tryz.prog w = .ok (some (95, a, 150)) w := by kernel_rfl
theorem faDirect (w : World) : (Rtype.directlyAssignable 95 95).run Tryz.prog w = .ok true w := by kernel_rfl
theorem faSet (ta b e : Addr) (old : Value) (W : World) (hb : W.cell? b = some (.pointer (some e))) (ht : W.cell? ta = some old) (hf : W.frozen? ta = false) :
    (callFunc 188 #[.agg #[.pointer (some ⟨17, 95, none⟩), .pointer (some ta), .int .u64 406], .agg #[.pointer (some ⟨17, 95, none⟩), .pointer (some b), .int .u64 150]]).run Tryz.prog W
      = .ok (.value (.tuple #[])) (W.setCell ta (.pointer (some e))) := by
  rw [@run_callFunc_extern Tryz.prog 188 _ ReflectliteValue.set Tryz.func188 (by kernel_rfl) (by kernel_rfl) (by kernel_rfl) (by kernel_rfl)]
  rw [rls]
  simp only [Sem.run_bind, faParts1a, faParts1, Result.andThen]
  simp [ReflectliteValue.flagAddr, loadVar, isAgg, underlying, Tryz.underlying95, hb, Result.andThen, faDirect, storeVar, Value.cells, storeCells, Addr.add]
  rw [run_store Tryz.prog W ta _ _ (by rfl)]
  simp [ht, hf]

set_option maxRecDepth 8000 in
set_option maxHeartbeats 4000000 in
/-- errors.As of a fault at a *api.Fault: true; the variable is set. -/
theorem as_hit (e : Addr) (t : Nat) (old : Value) (w : World) (hg : w.cell? ⟨11, 0, none⟩ = some (.iface 218 (.agg #[.pointer (some ⟨17, 33, none⟩)]))) (ht0 : w.cell? ⟨t, 0, none⟩ = some old) (hf0 : w.frozen? ⟨t, 0, none⟩ = false) :
    Calls Tryz.prog 147 #[.iface 95 (.pointer (some e)), .iface 172 (.pointer (some ⟨t, 0, none⟩))] w fun ev w' => ev = .returned (.bool true) ∧ w' = ((((w.alloc (.cells #[.pointer (some ⟨t, 0, none⟩)] 172)).alloc (.cells #[.pointer (some ⟨17, 172, none⟩), .pointer (some ⟨w.heap.size, 0, none⟩), .int .u64 150] 203)).alloc (.cells #[.pointer (some ⟨17, 172, none⟩), .pointer (some ⟨w.heap.size, 0, none⟩), .int .u64 150] 203)).alloc (.cells #[.pointer (some e)] 95)).setCell ⟨t, 0, none⟩ (.pointer (some e)) := by
  have f0 := faTypeOf
  have f4 := asValueOf
  have f5 := asType
  have f6 := asMethodKind
  have f7 := asKind2
  have f8 := asKind1
  have f9 := asMethodElem
  have f10 := asMethodImplements
  have f11 := asMethodAssignableTo
  have f12 := asElem
  have f13 := asImplements
  have f14 := faAssignable
  have f15 := faValueOf
  have hlt : 11 < w.heap.size := World.block_lt_of_cell? w _ hg
  have n8 := asIsNil ⟨w.heap.size, 0, none⟩ ⟨t, 0, none⟩ ((w.alloc (.cells #[.pointer (some ⟨t, 0, none⟩)] 172)).alloc (.cells #[.pointer (some ⟨17, 172, none⟩), .pointer (some ⟨w.heap.size, 0, none⟩), .int .u64 150] 203)) (by simp)
  have hg2 : ((w.alloc (.cells #[.pointer (some ⟨t, 0, none⟩)] 172)).alloc (.cells #[.pointer (some ⟨17, 172, none⟩), .pointer (some ⟨w.heap.size, 0, none⟩), .int .u64 150] 203)).cell? ⟨11, 0, none⟩ = some (.iface 218 (.agg #[.pointer (some ⟨17, 33, none⟩)])) := by
    rw [World.cell?_alloc_lt _ _ ⟨11, 0, none⟩ (by simp; omega), World.cell?_alloc_lt _ _ ⟨11, 0, none⟩ hlt]; exact hg
  have htl : t < w.heap.size := World.block_lt_of_cell? w _ ht0
  have el := faElemV ⟨w.heap.size, 0, none⟩ ⟨t, 0, none⟩ (((w.alloc (.cells #[.pointer (some ⟨t, 0, none⟩)] 172)).alloc (.cells #[.pointer (some ⟨17, 172, none⟩), .pointer (some ⟨w.heap.size, 0, none⟩), .int .u64 150] 203)).alloc (.cells #[.pointer (some ⟨17, 172, none⟩), .pointer (some ⟨w.heap.size, 0, none⟩), .int .u64 150] 203)) (by rw [World.cell?_alloc_lt _ _ ⟨w.heap.size, 0, none⟩ (by simp; omega)]; simp)
  have st := faSet ⟨t, 0, none⟩ ⟨w.heap.size + 1 + 1 + 1, 0, none⟩ e old ((((w.alloc (.cells #[.pointer (some ⟨t, 0, none⟩)] 172)).alloc (.cells #[.pointer (some ⟨17, 172, none⟩), .pointer (some ⟨w.heap.size, 0, none⟩), .int .u64 150] 203)).alloc (.cells #[.pointer (some ⟨17, 172, none⟩), .pointer (some ⟨w.heap.size, 0, none⟩), .int .u64 150] 203)).alloc (.cells #[.pointer (some e)] 95))
    (by rw [World.cell?_alloc_at _ _ _ _ (by simp)]; rfl)
    (by rw [World.cell?_alloc_lt _ _ ⟨t, 0, none⟩ (by simp; omega), World.cell?_alloc_lt _ _ ⟨t, 0, none⟩ (by simp; omega), World.cell?_alloc_lt _ _ ⟨t, 0, none⟩ (by simp; omega), World.cell?_alloc_lt _ _ ⟨t, 0, none⟩ htl]; exact ht0)
    (by rw [World.frozen?_alloc_old _ _ ⟨t, 0, none⟩ (by simp; omega), World.frozen?_alloc_old _ _ ⟨t, 0, none⟩ (by simp; omega), World.frozen?_alloc_old _ _ ⟨t, 0, none⟩ (by simp; omega), World.frozen?_alloc_old _ _ ⟨t, 0, none⟩ (Nat.ne_of_lt htl)]; exact hf0)
  go_enter Tryz.func147, Tryz.ntmps147
  go_wp2
  refine wp_loop_rounds 1 ?_
  rw [rounds_succ]
  go_wp2
  go_ret
  exact ⟨rfl, rfl⟩
end Go.Proofs.YtmhebjeefdanmaaGreatDoor
namespace Go.Proofs.YtmhebjeefdanmaaGreatDoor
open Go.RowKit

theorem as_hit2 (e : Addr) (t : Nat) (old : Value) (w : World) (hg : w.cell? ⟨11, 0, none⟩ = some (.iface 218 (.agg #[.pointer (some ⟨17, 33, none⟩)]))) (ht0 : w.cell? ⟨t, 0, none⟩ = some old) (hf0 : w.frozen? ⟨t, 0, none⟩ = false) :
    Calls Tryz.prog 147 #[.iface 95 (.pointer (some e)), .iface 172 (.pointer (some ⟨t, 0, none⟩))] w fun ev w' => ev = .returned (.bool true) ∧ w'.cell? ⟨t, 0, none⟩ = some (.pointer (some e)) ∧ w.grownBy w' (some t) := by
  refine (as_hit e t old w hg ht0 hf0).mono ?_
  rintro ev w' ⟨rfl, rfl⟩
  obtain ⟨X, hX, eX⟩ : ∃ X, Below w.heap.size w X ∧ X = (((w.alloc (.cells #[.pointer (some ⟨t, 0, none⟩)] 172)).alloc (.cells #[.pointer (some ⟨17, 172, none⟩), .pointer (some ⟨w.heap.size, 0, none⟩), .int .u64 150] 203)).alloc (.cells #[.pointer (some ⟨17, 172, none⟩), .pointer (some ⟨w.heap.size, 0, none⟩), .int .u64 150] 203)).alloc (.cells #[.pointer (some e)] 95) := ⟨_, newer (newer (newer (newer (Below.refl _ _)))), rfl⟩
  rw [← eX]
  refine ⟨rfl, World.cell?_setCell_same _ _ _ (cell_older hX ht0), hX.os, hX.tape, hX.output, by have := hX.size; simpa [World.setCell] using this, fun k hk hne => ?_⟩
  rw [Below.heap_setCell _ _ _ _ (fun e => hne (by rw [e]))]
  exact hX.block k hk

set_option maxHeartbeats 1000000 in
theorem code_nil (w : World) : Calls Tryz.prog 105 #[.nilIface] w fun e w' => e = .returned (.tuple #[.int .i64 0, .int .i64 (-1)]) ∧ w' = w := by
  go_enter Tryz.func105, Tryz.ntmps105
  go_wp2
  go_ret2
  exact ⟨rfl, rfl⟩

set_option maxRecDepth 8000 in
set_option maxHeartbeats 4000000 in
theorem code_fault (A : Nat → Addr) (w : World) (k pb : Nat) (pl : Int) (hk : k < 10) (hS : Sents w A) (hp0 : w.cell? ⟨pb, 0, none⟩ = some (.int .i64 pl)) (hp1 : w.cell? ⟨pb, 1, none⟩ = some (.iface 234 (.pointer (some (A k))))) :
    Calls Tryz.prog 105 #[.iface 95 (.pointer (some ⟨pb, 0, none⟩))] w fun e w' => e = .returned (.tuple #[.int .i64 ((k : Int) + 1), .int .i64 pl]) ∧ Below w.heap.size w w' := by
  have h0 := hS.h0
  have h1 := hS.h1
  have h2 := hS.h2
  have h3 := hS.h3
  have h4 := hS.h4
  have h5 := hS.h5
  have h6 := hS.h6
  have h7 := hS.h7
  have h8 := hS.h8
  have h9 := hS.h9
  have HC := hide2 (ten_cell A w 33)
  have HB := hide2 (newer (o := .cells (tenOf A) 33) (Below.refl w.heap.size w))
  have HS := hide2 (hS.later HB.out)
  have P0 := hide2 (cell_older HB.out hp0)
  have P1 := hide2 (cell_older HB.out hp1)
  clear hp0 hp1
  unfold tenOf at HC HB HS P0 P1
  go_enter Tryz.func105, Tryz.ntmps105
  go_wp2_with fail
  clear h0 h1 h2 h3 h4 h5 h6 h7 h8 h9
  obtain ⟨w0, hw0⟩ : ∃ w0, w0 = w.alloc (.cells #[.iface 234 (.pointer (some (A 0))), .iface 234 (.pointer (some (A 1))), .iface 234 (.pointer (some (A 2))), .iface 234 (.pointer (some (A 3))), .iface 234 (.pointer (some (A 4))), .iface 234 (.pointer (some (A 5))), .iface 234 (.pointer (some (A 6))), .iface 234 (.pointer (some (A 7))), .iface 234 (.pointer (some (A 8))), .iface 234 (.pointer (some (A 9)))] 33) := ⟨_, rfl⟩
  rw [← hw0] at HC HB HS P0 P1
  rw [← hw0]
  clear hw0
  go_loop [4, 22] (fun n i => ∃ j : Nat, j ≤ 10 ∧ i = .int .i64 j ∧ n = .int .i64 (if k < j then (k : Int) + 1 else 0)) (fun _ i => 10 - (intOf i).toNat)
  case atStart => exact ⟨0, by omega, rfl, by simp⟩
  case round =>
    obtain ⟨j, hj, rfl, rfl⟩ := hrel
    by_cases hlt : j < 10
    · have hc := HC.out j hlt
      have hji : (j : Int) < 10 := by omega
      by_cases hjk : j = k
      · subst hjk
        have hn : (if j < j then (j : Int) + 1 else 0) = 0 := by simp
        rw [hn]
        go_wp2_with fail
        go_fit (is_fault_same pb (A j) _ P1.out)
        rintro e w1 ⟨rfl, rfl⟩
        go_wp2
        go_round
        case rel => exact ⟨j + 1, by omega, by go_num, by simp⟩
        case measure => simp [intOf]; omega
      · obtain ⟨c1, t1, e1⟩ := HS.out.rows k hk
        obtain ⟨c2, t2, e2⟩ := HS.out.rows j hlt
        have HNE := hide2 (HS.out.apart k j hk hlt (fun e => hjk e.symm))
        have E1 := hide2 e1
        have E2 := hide2 e2
        have HJK := hide2 hjk
        obtain ⟨v, hv⟩ : ∃ v : Int, (if k < j then (k : Int) + 1 else 0) = v := ⟨_, rfl⟩
        rw [hv]
        have HV := hide2 hv
        clear e1 e2 hv hjk
        go_wp2_with fail
        go_fit (is_fault_other pb (A j) (A k) c1 c2 t1 t2 _ P1.out HNE.out E1.out E2.out)
        rintro e w1 ⟨rfl, rfl⟩
        go_wp2
        go_round
        case rel => exact ⟨j + 1, by omega, by go_num, by
          rw [← HV.out]
          have := HJK.out
          by_cases h : k < j
          · rw [if_pos h, if_pos (by omega)]
          · rw [if_neg h, if_neg (by omega)]⟩
        case measure => simp [intOf]; omega
    · obtain rfl : j = 10 := by omega
      rw [if_pos hk]
      have hki : ((k : Int) + 1 == 0) = false := by simp; omega
      have hkb : (k : Int) < 10 := by omega
      have hnw := newer (o := .cells #[.pointer none] 95) (Below.refl w0.heap.size w0)
      have hHW := hide2 hnw
      clear hnw
      go_wp2_with fail
      go_fit (as_hit2 ⟨pb, 0, none⟩ w0.heap.size (.pointer none) _ (cell_older hHW.out HS.out.handle) (by simp) (by simp))
      rintro e w1 ⟨rfl, hf, hgr⟩
      have hlt0 : pb < w0.heap.size := World.block_lt_of_cell? w0 _ P0.out
      have hp : w1.cell? ⟨pb, 0, none⟩ = some (.int .i64 pl) := by
        rw [World.cell?_of_block (w := w0.alloc (.cells #[.pointer none] 95)) (a := ⟨pb, 0, none⟩) (hgr.block pb (by simp; omega) (fun e => by have := Option.some.inj e; omega))]
        exact cell_older hHW.out P0.out
      have hB : Below w.heap.size w w1 := by
        have hw := HB.out
        have hwl : w.heap.size ≤ w0.heap.size := hw.size
        exact (newer hw).grown hgr (by simp; omega) (fun k e => by have := Option.some.inj e; omega)
      clear hgr
      go_wp2
      go_region
      all_goals go_wp2
      all_goals go_ret2
      all_goals exact ⟨rfl, (by first | exact hB.drew | exact hB)⟩
end Go.Proofs.YtmhebjeefdanmaaGreatDoor
namespace Go.Proofs.YtmhebjeefdanmaaGreatDoor
open Go.RowKit

theorem read_bad {d : ByteArray} {k : Nat} {text : Bool} (hg : Good d) (hw : Wrong d k text) : False := by
  obtain ⟨g1, g2, g3⟩ := hg
  rcases hw with ⟨h, _, _⟩ | ⟨h, h3, _, ⟨_, h5⟩ | ⟨_, h5, _⟩⟩
  · omega
  · exact h5 (g3 k h)
  · omega
/-- A text has one first wrong place. -/
theorem wrong_one_place {d : ByteArray} {k k' : Nat} {text text' : Bool} (h : Wrong d k text) (h' : Wrong d k' text') : k = k' ∧ text = text' := by
  rcases h with ⟨a1, rfl, rfl⟩ | ⟨a1, a2, a3, a4⟩
  · rcases h' with ⟨_, rfl, rfl⟩ | ⟨b1, _⟩
    · exact ⟨rfl, rfl⟩
    · omega
  · rcases h' with ⟨b1, _⟩ | ⟨b1, b2, b3, b4⟩
    · omega
    · rcases Nat.lt_trichotomy k k' with hlt | rfl | hlt
      · exfalso
        have hd := b3 k a1 hlt
        rcases a4 with ⟨_, h⟩ | ⟨_, h, _⟩
        · exact h hd
        · omega
      · refine ⟨rfl, ?_⟩
        rcases a4 with ⟨rfl, h⟩ | ⟨rfl, _, h⟩
        · rcases b4 with ⟨rfl, _⟩ | ⟨_, _, h2⟩
          · rfl
          · exact absurd h2 h
        · rcases b4 with ⟨_, h2⟩ | ⟨rfl, _⟩
          · exact absurd h h2
          · rfl
      · exfalso
        have hd := a3 k' b1 hlt
        rcases b4 with ⟨_, h⟩ | ⟨_, h, _⟩
        · exact h hd
        · omega

set_option maxHeartbeats 1000000 in
theorem told_nil (pl : Int) (w : World) :
    Calls Tryz.prog 32 #[.nilIface, .agg #[.int .i64 0, .int .i64 pl]] w fun e w' => e = .returned (.bool true) ∧ Below w.heap.size w w' := by
  have hk := below_new w (.cells #[.int .i64 0, .int .i64 pl] 26)
  go_enter Tryz.func32, Tryz.ntmps32
  go_wp2_with fail
  go_fit (code_nil _)
  rintro e w1 ⟨rfl, rfl⟩
  go_wp2
  go_ret
  exact ⟨rfl, hk⟩
set_option maxHeartbeats 1000000 in
theorem told_fault (A : Nat → Addr) (w : World) (k pb : Nat) (pl : Int) (hk : k < 10) (hS : Sents w A) (hp0 : w.cell? ⟨pb, 0, none⟩ = some (.int .i64 pl)) (hp1 : w.cell? ⟨pb, 1, none⟩ = some (.iface 234 (.pointer (some (A k))))) :
    Calls Tryz.prog 32 #[.iface 95 (.pointer (some ⟨pb, 0, none⟩)), .agg #[.int .i64 ((k : Int) + 1), .int .i64 pl]] w fun e w' => e = .returned (.bool true) ∧ Below w.heap.size w w' := by
  have hn := below_new w (.cells #[.int .i64 ((k : Int) + 1), .int .i64 pl] 26)
  have c0 : (w.alloc (.cells #[.int .i64 ((k : Int) + 1), .int .i64 pl] 26)).cell? ⟨w.heap.size, 0, none⟩ = some (.int .i64 ((k : Int) + 1)) := by rw [new_cell rfl]; rfl
  have c1 : (w.alloc (.cells #[.int .i64 ((k : Int) + 1), .int .i64 pl] 26)).cell? ⟨w.heap.size, 1, none⟩ = some (.int .i64 pl) := by rw [new_cell rfl]; rfl
  have hki : ((k : Int) + 1 == 0) = false := by simp; omega
  have C0 := hide c0
  have C1 := hide c1
  have HN := hide hn
  have P0 := hide hp0
  have P1 := hide hp1
  clear c0 c1 hn hp0 hp1
  go_enter Tryz.func32, Tryz.ntmps32
  go_wp2_with fail
  go_fit (code_fault A _ k pb pl hk (hS.later (unhide HN)) (cell_keep (unhide HN) (unhide P0)) (cell_keep (unhide HN) (unhide P1)))
  rintro e w1 ⟨rfl, hb1⟩
  have d0 := cell_keep hb1 (unhide C0)
  have d1 := cell_keep hb1 (unhide C1)
  have hB := below_keep hb1 (unhide HN)
  clear hb1
  go_wp2
  go_ret
  exact ⟨rfl, hB⟩
end Go.Proofs.YtmhebjeefdanmaaGreatDoor
