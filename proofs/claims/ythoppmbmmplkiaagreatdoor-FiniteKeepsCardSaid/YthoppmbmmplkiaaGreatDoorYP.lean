/-
  A puzzle that comes in.
-/
import Derived.Test.YthoppmbmmplkiaaGreatDoorYO
import Derived.Test.YthoppmbmmplkiaaGreatDoorYD
namespace Go.Proofs.YthoppmbmmplkiaaGreatDoor
open Go.RowKit Go.ChangeShapes Go.WideShapes Go.Deep

instance : Inhabited Cn := ⟨⟨0, [], [], [], 0, []⟩⟩
theorem cells_con : Tryz.prog.cellsOf 46 = 6 := by kernel_rfl
theorem cells_cons : Tryz.prog.cellsOf 23 = 1 := by kernel_rfl
theorem cells_tab : Tryz.prog.cellsOf 22 = 1 := by kernel_rfl
theorem cells_puzzle : Tryz.prog.cellsOf 25 = 2 := by kernel_rfl
/-- A struct of six fields of one cell each. -/
theorem trod_six {H : Type} {enc : TypeId × Value → H} {P : Program} {w : World} {t : TypeId} {f0 f1 f2 f3 f4 f5 : Field} {fuel : Nat} {u0 u1 u2 u3 u4 u5 : Value} {x : DataW H × List MemPlace} (ht : P.underlying t = some (.struct #[f0, f1, f2, f3, f4, f5])) (o0 : f0.offset = 0) (o1 : f1.offset = 1) (o2 : f2.offset = 2) (o3 : f3.offset = 3) (o4 : f4.offset = 4) (o5 : f5.offset = 5) (c0 : P.cellsOf f0.type = 1) (c1 : P.cellsOf f1.type = 1) (c2 : P.cellsOf f2.type = 1) (c3 : P.cellsOf f3.type = 1) (c4 : P.cellsOf f4.type = 1) (c5 : P.cellsOf f5.type = 1)
    (h : DataW.trod enc P w 0 (fun _ => true) true fuel t [u0, u1, u2, u3, u4, u5] = some x) : ∃ y0 y1 y2 y3 y4 y5 n, DataW.trod enc P w 0 (fun _ => true) true n f0.type [u0] = some y0 ∧ DataW.trod enc P w 0 (fun _ => true) true n f1.type [u1] = some y1 ∧ DataW.trod enc P w 0 (fun _ => true) true n f2.type [u2] = some y2 ∧ DataW.trod enc P w 0 (fun _ => true) true n f3.type [u3] = some y3 ∧ DataW.trod enc P w 0 (fun _ => true) true n f4.type [u4] = some y4 ∧ DataW.trod enc P w 0 (fun _ => true) true n f5.type [u5] = some y5 := by
  obtain ⟨xs, n, _, _, _, hxl, hf⟩ := DataW.trod_struct ht h
  match xs, hxl with
  | [y0, y1, y2, y3, y4, y5], _ =>
    have t0 := hf 0 f0 rfl
    have t1 := hf 1 f1 rfl
    have t2 := hf 2 f2 rfl
    have t3 := hf 3 f3 rfl
    have t4 := hf 4 f4 rfl
    have t5 := hf 5 f5 rfl
    simp only [o0, c0, o1, c1, o2, c2, o3, c3, o4, c4, o5, c5, List.drop, List.take, List.getElem?_cons_zero, List.getElem?_cons_succ] at t0 t1 t2 t3 t4 t5
    exact ⟨y0, y1, y2, y3, y4, y5, n, t0, t1, t2, t3, t4, t5⟩
/-- A constraint that comes in. -/
theorem open_con {H : Type} {enc : TypeId × Value → H} {w : World} {n : Nat} {cs : List Value} {y : DataW H × List MemPlace} (hl : cs.length = 6) (h : DataW.trod enc Tryz.prog w 0 (fun _ => true) true n 46 cs = some y) : ∃ c, CnE w cs c := by
  match cs, hl with
  | [u0, u1, u2, u3, u4, u5], _ =>
    obtain ⟨y0, y1, y2, y3, y4, y5, n, t0, t1, t2, t3, t4, t5⟩ := trod_six Tryz.underlying46 rfl rfl rfl rfl rfl rfl cells_int cells_ints cells_ints cells_ints cells_int cells_tab h
    obtain ⟨z, hz, _, wz⟩ := DataW.trod_int Tryz.underlying3 t0
    obtain rfl : u0 = .int .i64 z := by simpa using hz
    obtain ⟨z', hz', _, wz'⟩ := DataW.trod_int Tryz.underlying3 t4
    obtain rfl : u4 = .int .i64 z' := by simpa using hz'
    obtain ⟨l1, r1⟩ := open_intsE Tryz.underlying26 Tryz.underlying3 cells_int t1
    obtain ⟨l2, r2⟩ := open_intsE Tryz.underlying26 Tryz.underlying3 cells_int t2
    obtain ⟨l3, r3⟩ := open_intsE Tryz.underlying26 Tryz.underlying3 cells_int t3
    obtain ⟨l4, r4⟩ := open_tabE Tryz.underlying22 Tryz.underlying26 Tryz.underlying3 cells_ints cells_int t5
    obtain ⟨a1, c1, rfl⟩ := r1.shape
    obtain ⟨a2, c2, rfl⟩ := r2.shape
    obtain ⟨a3, c3, rfl⟩ := r3.shape
    obtain ⟨a4, c4, rfl⟩ := r4.shape
    exact ⟨⟨z, l1, l2, l3, z', l4⟩, a1, c1, a2, c2, a3, c3, a4, c4, rfl, r1, r2, r3, r4, wf_int wz, wf_int wz'⟩
set_option maxRecDepth 100000 in
/-- A puzzle that comes in. -/
theorem open_puzzle {H : Type} {enc : TypeId × Value → H} {w : World} {v : Value} {d : DataW H} {p : List MemPlace} {r : Reach} {b0 : Nat} (hval : Value.okWide Tryz.prog w r b0 25 v) (h : DataW.Trod enc Tryz.prog w 0 (fun _ => true) true 25 v d p) : ∃ q, PzV w v q := by
  obtain ⟨u0, u1, n, y0, y1, rfl, t0, t1⟩ := open_pair Tryz.underlying25 cells_puzzle rfl rfl cells_tab cells_cons hval h
  obtain ⟨l1, r1⟩ := open_tabE Tryz.underlying22 Tryz.underlying26 Tryz.underlying3 cells_ints cells_int t0
  obtain ⟨l2, r2⟩ := open_rowsE (E := CnE) Tryz.underlying23 cells_con (by decide) (fun _ _ _ hl h => open_con hl h) t1
  obtain ⟨a1, c1, rfl⟩ := r1.shape
  obtain ⟨a2, c2, rfl⟩ := r2.shape
  exact ⟨⟨l1, l2⟩, a1, c1, a2, c2, rfl, r1, r2⟩
end Go.Proofs.YthoppmbmmplkiaaGreatDoor
