/-
  Four cells of a box.
  The mathematics of the nearest decimal.
-/
import Derived.Test.YtpecanpbkbanhaaGreatDoorMQC
namespace Go.Proofs.YtpecanpbkbanhaaGreatDoor
open Go.RowKit
theorem c4_keep {w1 w2 : World} {b : Nat} {v0 v1 v2 v3 : Value} (hb : Below w1.heap.size w1 w2) (h : w1.cell? ⟨b, 0, none⟩ = some v0 ∧ w1.cell? ⟨b, 1, none⟩ = some v1 ∧ w1.cell? ⟨b, 2, none⟩ = some v2 ∧ w1.cell? ⟨b, 3, none⟩ = some v3) : w2.cell? ⟨b, 0, none⟩ = some v0 ∧ w2.cell? ⟨b, 1, none⟩ = some v1 ∧ w2.cell? ⟨b, 2, none⟩ = some v2 ∧ w2.cell? ⟨b, 3, none⟩ = some v3 :=
  ⟨cell_keep hb h.1, cell_keep hb h.2.1, cell_keep hb h.2.2.1, cell_keep hb h.2.2.2⟩
theorem c4_new {w : World} (v0 v1 v2 v3 : Value) (t : TypeId) : let w1 := w.alloc (.cells #[v0, v1, v2, v3] t); w1.cell? ⟨w.heap.size, 0, none⟩ = some v0 ∧ w1.cell? ⟨w.heap.size, 1, none⟩ = some v1 ∧ w1.cell? ⟨w.heap.size, 2, none⟩ = some v2 ∧ w1.cell? ⟨w.heap.size, 3, none⟩ = some v3 := by
  intro w1
  refine ⟨?_, ?_, ?_, ?_⟩ <;> (show (World.alloc _ _).cell? _ = _; rw [new_cell rfl]; rfl)
end Go.Proofs.YtpecanpbkbanhaaGreatDoor
namespace Go.Proofs.YtpecanpbkbanhaaGreatDoor
open Go.RowKit
theorem rnd_up {n d q r : Int} (h : q * d + r = n) (r0 : 0 ≤ r) (r1 : r < d) : q = n / d ∧ r = n % d := by
  have e : q = n / d := by
    have h1 : n / d = q := by
      rw [← h, Int.add_comm, Int.add_mul_ediv_right _ _ (by omega), Int.ediv_eq_zero_of_lt r0 r1]; omega
    exact h1.symm
  refine ⟨e, ?_⟩
  have h2 := Int.emod_add_mul_ediv n d
  rw [e, Int.mul_comm] at h
  omega
end Go.Proofs.YtpecanpbkbanhaaGreatDoor
