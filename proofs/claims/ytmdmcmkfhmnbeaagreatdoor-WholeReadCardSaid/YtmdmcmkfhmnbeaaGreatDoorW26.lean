/-
  Walks over package whole: a number in its box.
-/
import Derived.Test.YtmdmcmkfhmnbeaaGreatDoorW24
namespace Go.Proofs.YtmdmcmkfhmnbeaaGreatDoor
open Go.RowKit

/-- A number in its box. -/
structure Vr (w : World) (b : Nat) (u : Int) (a : Option Addr) (n c N : Nat) (z : Int) : Prop where
  c0 : w.cell? ⟨b, 0, none⟩ = some (.int .i64 u)
  c1 : w.cell? ⟨b, 1, none⟩ = some (.slice a n c)
  box : Box w b
  zr : Zr N w (.agg #[.int .i64 u, .slice a n c]) z
theorem Vr.frozen {w : World} {b : Nat} {u : Int} {a : Option Addr} {n c N : Nat} {z : Int} (h : Vr w b u a n c N z) : ∀ k, w.frozen? ⟨b, k, none⟩ = false := h.box.cells.2.2
theorem Vr.lt {w : World} {b : Nat} {u : Int} {a : Option Addr} {n c N : Nat} {z : Int} (h : Vr w b u a n c N z) : b < w.heap.size := World.block_lt_of_cell? w _ h.c0
theorem Vr.keep {w w1 : World} {b : Nat} {u : Int} {a : Option Addr} {n c N : Nat} {z : Int} (h : Vr w b u a n c N z) (hb : Below w.heap.size w w1) : Vr w1 b u a n c N z :=
  ⟨cell_keep hb h.c0, cell_keep hb h.c1, h.box.later hb, h.zr.later hb⟩
theorem below_new (w : World) (o : Obj) : Below w.heap.size w (w.alloc o) := (Below.refl _ _).alloc (Nat.le_refl _) _
theorem Vr.new {w : World} {u : Int} {a : Option Addr} {n c N : Nat} {z : Int} (h : Zr N w (.agg #[.int .i64 u, .slice a n c]) z) : Vr (w.alloc (.cells #[.int .i64 u, .slice a n c] 24)) w.heap.size u a n c N z :=
  ⟨by rw [new_cell rfl]; rfl, by rw [new_cell rfl]; rfl, ⟨_, _, _, _, heap_alloc_new w _⟩, h.later (below_new w _)⟩
theorem Vr.store {w : World} {b : Nat} {u u' : Int} {a a' : Option Addr} {n c N n' c' M : Nat} {z z' : Int} (h : Vr w b u a n c N z) (hz : Zr M w (.agg #[.int .i64 u', .slice a' n' c']) z') : Vr ((w.setCell ⟨b, 0, none⟩ (.int .i64 u')).setCell ⟨b, 1, none⟩ (.slice a' n' c')) b u' a' n' c' M z' :=
  ⟨(h.box.stored _ _).1, (h.box.stored _ _).2, h.box.stored' _ _ _ _, hz.stored h.box _ _⟩
theorem Vr.other {w : World} {b q : Nat} {u : Int} {a : Option Addr} {n c N : Nat} {z : Int} (h : Vr w b u a n c N z) (hq : Box w q) (hne : b ≠ q) (x : Int) (a' : Option Addr) (n' c' : Nat) : Vr ((w.setCell ⟨q, 0, none⟩ (.int .i64 x)).setCell ⟨q, 1, none⟩ (.slice a' n' c')) b u a n c N z :=
  ⟨by rw [cell?_setCell_ne _ _ _ _ _ _ (by omega), cell?_setCell_ne _ _ _ _ _ _ (by omega)]; exact h.c0, by rw [cell?_setCell_ne _ _ _ _ _ _ (by omega), cell?_setCell_ne _ _ _ _ _ _ (by omega)]; exact h.c1, (h.box.other hne _).other hne _, h.zr.stored hq _ _⟩
theorem Vr.mono {w : World} {b : Nat} {u : Int} {a : Option Addr} {n c N M : Nat} {z : Int} (h : Vr w b u a n c N z) (hM : N ≤ M) : Vr w b u a n c M z := ⟨h.c0, h.c1, h.box, h.zr.mono hM⟩
end Go.Proofs.YtmdmcmkfhmnbeaaGreatDoor
