/-
  A plan that comes in.
-/
import Derived.Test.YtgckgkllpkkpeaaDoorYO
import Derived.Test.YtgckgkllpkkpeaaDoorUA
namespace Go.Proofs.YtgckgkllpkkpeaaDoor
open Go.RowKit Go.ChangeShapes Go.WideShapes Go.Deep

instance : Inhabited Jb := ⟨⟨0, [], []⟩⟩
theorem cells_job : Tryd.prog.cellsOf 50 = 3 := by kernel_rfl
theorem cells_jobs : Tryd.prog.cellsOf 22 = 1 := by kernel_rfl
theorem cells_plan : Tryd.prog.cellsOf 25 = 2 := by kernel_rfl
/-- A job that comes in. -/
theorem open_job {H : Type} {enc : TypeId × Value → H} {w : World} {n : Nat} {cs : List Value} {y : DataW H × List MemPlace} (hl : cs.length = 3) (h : DataW.trod enc Tryd.prog w 0 (fun _ => true) true n 50 cs = some y) : ∃ j, JbE w cs j := by
  match cs, hl with
  | [u0, u1, u2], _ =>
    obtain ⟨y0, y1, y2, n, _, _, t0, t1, t2⟩ := trod_struct3 Tryd.underlying50 h
    simp only [cells_int, cells_ints, List.drop, List.take] at t0 t1 t2
    obtain ⟨z, hz, _, wz⟩ := DataW.trod_int Tryd.underlying3 t0
    obtain rfl : u0 = .int .i64 z := by simpa using hz
    obtain ⟨l1, r1⟩ := open_intsE Tryd.underlying23 Tryd.underlying3 cells_int t1
    obtain ⟨l2, r2⟩ := open_intsE Tryd.underlying23 Tryd.underlying3 cells_int t2
    obtain ⟨a1, c1, rfl⟩ := r1.shape
    obtain ⟨a2, c2, rfl⟩ := r2.shape
    exact ⟨⟨z, l1, l2⟩, a1, c1, a2, c2, rfl, r1, r2, wf_int wz⟩
set_option maxRecDepth 4000 in
/-- A plan that comes in. -/
theorem open_plan {H : Type} {enc : TypeId × Value → H} {w : World} {v : Value} {d : DataW H} {p : List MemPlace} {r : Reach} {b0 : Nat} (hval : Value.okWide Tryd.prog w r b0 25 v) (h : DataW.Trod enc Tryd.prog w 0 (fun _ => true) true 25 v d p) : ∃ q, PlV w v q := by
  obtain ⟨u0, u1, n, y0, y1, rfl, t0, t1⟩ := open_pair Tryd.underlying25 cells_plan rfl rfl cells_jobs cells_ints hval h
  obtain ⟨l1, r1⟩ := open_rowsE (E := JbE) Tryd.underlying22 cells_job (by decide) (fun _ _ _ hl h => open_job hl h) t0
  obtain ⟨l2, r2⟩ := open_intsE Tryd.underlying23 Tryd.underlying3 cells_int t1
  obtain ⟨a1, c1, rfl⟩ := r1.shape
  obtain ⟨a2, c2, rfl⟩ := r2.shape
  exact ⟨⟨l1, l2⟩, a1, c1, a2, c2, rfl, r1, r2⟩
end Go.Proofs.YtgckgkllpkkpeaaDoor
