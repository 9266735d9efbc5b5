/-
  Walks over the document's numbers: rows that grow.
-/
import Derived.Test.YtmdmcmkfhmnbeaaGreatDoorR3
namespace Go.Proofs.YtmdmcmkfhmnbeaaGreatDoor
open Go.RowKit

theorem info_int : (Tryz.prog.info? 3).map (fun i => (i.zero, i.size, i.bytes)) = some (some (.int .i64 0), 1, 8) := by kernel_rfl
/-- What a row of its own is, as a number's places. -/
theorem sl_own {w : World} {base : Nat} {v : Value} {D : List Int} (h : w.ownsRow base 3 1 v D.length (D.map (Value.int .i64))) : Sl w v D := by
  obtain ⟨h0, ⟨rfl, h2⟩ | ⟨g, cap, cur, rfl, h3, h4, h5, h6, h7, h8⟩⟩ := h
  · exact Or.inl ⟨rfl, List.eq_nil_of_length_eq_zero h2⟩
  · refine Or.inr ⟨g, cap, rfl, h5, h6, fun k hk => ?_, cur, h4⟩
    have e : cur[k]? = (cur.toList.take (D.length * 1))[k]? := by
      rw [List.getElem?_take, if_pos (by omega)]; simp
    simp only [World.cell?, h4]
    rw [e, h8]
    simp [nth, hk]

theorem own_shape {w : World} {base : Nat} {v : Value} {n : Nat} {xs : List Value} (h : w.ownsRow base 3 1 v n xs) : ∃ a k c, v = .slice a k c := by
  obtain ⟨_, ⟨rfl, _⟩ | ⟨g, cap, cur, rfl, _⟩⟩ := h
  · exact ⟨_, _, _, rfl⟩
  · exact ⟨_, _, _, rfl⟩
theorem nth_snoc (l : List Int) (x : Int) : nth (l ++ [x]) l.length = x := by simp [nth]
/-- A row of one's own grows by one: what was below it, and a box that is not it, stay. -/
theorem grow_keep {w wr w1 : World} {v : Value} {o : Obj} {n : Nat} {xs : List Value} (hb : Below w.heap.size w wr) (hbx : NBox wr w.heap.size) (hown : wr.ownsRow (w.heap.size + 1) 3 1 v n xs) (hg : (wr.alloc o).grownBy w1 v.ownBlock) : Below w.heap.size w w1 ∧ NBox w1 w.heap.size := by
  have hlt := hown.lt
  have hsz : w.heap.size < wr.heap.size := by
    obtain ⟨⟨x0, g0⟩, _⟩ := hbx.cells
    exact World.block_lt_of_cell? wr _ g0
  refine ⟨((hb.alloc hb.size o).grown hg (by have := hb.size; simp only [World.alloc, Array.size_push]; omega) (fun k hk => by have := (hlt k hk).1; omega)), ?_⟩
  obtain ⟨x, a, n, c, h⟩ := hbx
  refine ⟨x, a, n, c, ?_⟩
  rw [hg.block _ (by simp; omega) (fun e => by have := (hlt _ e.symm).1; omega), Below.heap_alloc _ _ _ hsz]
  exact h
end Go.Proofs.YtmdmcmkfhmnbeaaGreatDoor
