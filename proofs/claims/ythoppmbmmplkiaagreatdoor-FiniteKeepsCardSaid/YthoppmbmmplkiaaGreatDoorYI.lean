/-
  Puzzles: the law's pieces: the errors' numbers, and whether a puzzle is small.
-/
import Derived.Test.YthoppmbmmplkiaaGreatDoorYQ
import Derived.Test.YthoppmbmmplkiaaGreatDoorEC
namespace Go.Proofs.YthoppmbmmplkiaaGreatDoor
open Go.RowKit

end Go.Proofs.YthoppmbmmplkiaaGreatDoor
