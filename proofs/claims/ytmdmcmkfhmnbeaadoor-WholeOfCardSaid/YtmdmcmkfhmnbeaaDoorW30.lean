/-
  Walks over package whole: Read, told in short.
-/
import Derived.Test.YtmdmcmkfhmnbeaaDoorW28
namespace Go.Proofs.YtmdmcmkfhmnbeaaDoor
open Go.RowKit

theorem digitsOf_near (s : ByteArray) : s.size ≤ (digitsOf s).size + 1 := by
  show s.data.size ≤ (Lib.trimPrefix s.data.toList [45]).toArray.size + 1
  unfold Lib.trimPrefix
  split <;> simp <;> omega
theorem Zr.small {N : Nat} {w : World} {v : Value} {z : Int} (h : Zr N w v z) (h0 : -9223372036854775808 ≤ z) (h1 : z ≤ 9223372036854775807) : v = .agg #[.int .i64 z, .slice none 0 0] := by
  rcases h with ⟨h, _, _⟩ | ⟨s, b, off, cap, l, _, _, _, _, _, _, _, _, _, _, hbig⟩
  · exact h
  · omega
theorem read_two (s : ByteArray) (w : World) (t1 t2 : TypeId) (p1 p2 : Value) (hs : s.size ≤ maxLen) (h1 : w.cell? ⟨0, 0, none⟩ = some (.iface t1 p1)) (h2 : w.cell? ⟨2, 0, none⟩ = some (.iface t2 p2)) :
    Calls Tryd.prog 13 #[.string s] w fun e w' => (∃ u a n c er z, e = .returned (.tuple #[.agg #[.int .i64 u, .slice a n c], er]) ∧ Zr 16 w' (.agg #[.int .i64 u, .slice a n c]) z ∧ ((er = .nilIface ∧ s.size ≤ 301) ∨ ∃ p, er = .iface 74 (.pointer (some p)))) ∧ Below w.heap.size w w' := by
  refine (read_any s w t1 t2 p1 p2 hs h1 h2).mono ?_
  rintro e w' ⟨⟨v, rfl, hg, hZ⟩ | ⟨k, text, b, rfl, _, _, _⟩, hb⟩
  · obtain ⟨u, a, n, c, rfl⟩ := hZ.shape
    exact ⟨⟨u, a, n, c, _, _, rfl, hZ, Or.inl ⟨rfl, by have := digitsOf_near s; have := hg.2.1; omega⟩⟩, hb⟩
  · exact ⟨⟨_, _, _, _, _, 0, rfl, Zr.near 16 (by decide) (by decide), Or.inr ⟨_, rfl⟩⟩, hb⟩
end Go.Proofs.YtmdmcmkfhmnbeaaDoor
