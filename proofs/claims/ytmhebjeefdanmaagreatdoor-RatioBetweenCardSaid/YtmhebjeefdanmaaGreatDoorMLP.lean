/-
  A fraction in a box.
-/
import Derived.Test.YtmhebjeefdanmaaGreatDoorMDA
namespace Go.Proofs.YtmhebjeefdanmaaGreatDoor
open Go.RowKit

/-- A fraction in a box. -/
structure RB (N : Nat) (wr : World) (b : Nat) (x1 : Int) (x2 : Option Addr) (x3 x4 : Nat) (x5 : Int) (x6 : Option Addr) (x7 x8 : Nat) (P D : Int) : Prop where
  c : wr.cell? ⟨b, 0, none⟩ = some (.int .i64 x1) ∧ wr.cell? ⟨b, 1, none⟩ = some (.slice x2 x3 x4) ∧ wr.cell? ⟨b, 2, none⟩ = some (.int .i64 x5) ∧ wr.cell? ⟨b, 3, none⟩ = some (.slice x6 x7 x8)
  r : Rr N wr (.agg #[.int .i64 x1, .slice x2 x3 x4, .int .i64 x5, .slice x6 x7 x8]) P D
theorem RB.keep {N : Nat} {wr w1 : World} {b : Nat} {x1 : Int} {x2 : Option Addr} {x3 x4 : Nat} {x5 : Int} {x6 : Option Addr} {x7 x8 : Nat} {P D : Int} (h : RB N wr b x1 x2 x3 x4 x5 x6 x7 x8 P D) (hb : Below wr.heap.size wr w1) : RB N w1 b x1 x2 x3 x4 x5 x6 x7 x8 P D := ⟨c4_keep hb h.c, h.r.later hb⟩
theorem RB.drew {N : Nat} {wr : World} {b : Nat} {x1 : Int} {x2 : Option Addr} {x3 x4 : Nat} {x5 : Int} {x6 : Option Addr} {x7 x8 : Nat} {P D : Int} (h : RB N wr b x1 x2 x3 x4 x5 x6 x7 x8 P D) : RB N wr.drew b x1 x2 x3 x4 x5 x6 x7 x8 P D := ⟨h.c, h.r⟩
theorem RB.new {N : Nat} {w : World} {x1 : Int} {x2 : Option Addr} {x3 x4 : Nat} {x5 : Int} {x6 : Option Addr} {x7 x8 : Nat} {P D : Int} (h : Rr N w (.agg #[.int .i64 x1, .slice x2 x3 x4, .int .i64 x5, .slice x6 x7 x8]) P D) : RB N (w.alloc (.cells #[.int .i64 x1, .slice x2 x3 x4, .int .i64 x5, .slice x6 x7 x8] 52)) w.heap.size x1 x2 x3 x4 x5 x6 x7 x8 P D := ⟨c4_new _ _ _ _ _, h.later (below_new _ _)⟩
end Go.Proofs.YtmhebjeefdanmaaGreatDoor
