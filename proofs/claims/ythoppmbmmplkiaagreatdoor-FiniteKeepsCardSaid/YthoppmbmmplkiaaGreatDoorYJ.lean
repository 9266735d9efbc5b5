/-
  Puzzles: what Keeps answers.
-/
import Derived.Test.YthoppmbmmplkiaaGreatDoorYI
import Derived.Test.YthoppmbmmplkiaaGreatDoorYR
namespace Go.Proofs.YthoppmbmmplkiaaGreatDoor
open Go.RowKit

/-- What the program's Keeps answers. -/
def KpP (A : Nat → Addr) (p : Pz) (x : List Int) (e : Ending) : Prop :=
  (pvalid p ≠ 0 ∧ e = .returned (.tuple #[.bool false, errV A (pvalid p)])) ∨
  (pvalid p = 0 ∧ x.length ≠ p.vals.length ∧ e = .returned (.tuple #[.bool false, errV A 4])) ∨
  (pvalid p = 0 ∧ x.length = p.vals.length ∧ ∃ b : Value, e = .returned (.tuple #[b, .nilIface]) ∧ ((b = .bool true ∧ keepsP p x) ∨ (b = .bool false ∧ ¬ keepsP p x)))
end Go.Proofs.YthoppmbmmplkiaaGreatDoor
