/-
  Walks over package whole: Int64.
  Walks over package whole: Read, told in short.
-/
import Derived.Test.YtachnndaoogpeaaGreatDoorMWH
namespace Go.Proofs.YtachnndaoogpeaaGreatDoor
open Go.RowKit

set_option maxHeartbeats 1000000 in
theorem int64_near (n : Int) (w : World) :
    Calls Tryz.prog 66 #[.agg #[.int .i64 n, .slice none 0 0]] w fun e w' => e = .returned (.tuple #[.int .i64 n, .bool true]) ∧ Below w.heap.size w w' := by
  have hq := eql_none
  go_enter Tryz.func66, Tryz.ntmps66
  go_wp2
  go_ret2
  exact ⟨rfl, below_new w _⟩
set_option maxHeartbeats 1000000 in
theorem int64_far (u : Int) (b off n c : Nat) (w : World) :
    Calls Tryz.prog 66 #[.agg #[.int .i64 u, .slice (some ⟨b, off, none⟩) n c]] w fun e w' => e = .returned (.tuple #[.int .i64 0, .bool false]) ∧ Below w.heap.size w w' := by
  have hq := eql_some b off n c
  go_enter Tryz.func66, Tryz.ntmps66
  go_wp2
  go_ret2
  exact ⟨rfl, below_new w _⟩
/-- Int64: the number, if an int64 holds it. -/
theorem int64_any {N : Nat} {v : Value} {z : Int} (w : World) (hz : Zr N w v z) :
    Calls Tryz.prog 66 #[v] w fun e w' => ((-9223372036854775808 ≤ z ∧ z ≤ 9223372036854775807 ∧ e = .returned (.tuple #[.int .i64 z, .bool true])) ∨ ((z < -9223372036854775808 ∨ 9223372036854775807 < z) ∧ e = .returned (.tuple #[.int .i64 0, .bool false]))) ∧ Below w.heap.size w w' := by
  rcases hz with ⟨rfl, h0, h1⟩ | ⟨s, b, off, cap, l, rfl, _, _, _, _, _, _, _, _, _, hbig⟩
  · exact (int64_near z w).mono fun e w' ⟨h, hb⟩ => ⟨Or.inl ⟨h0, h1, h⟩, hb⟩
  · exact (int64_far _ _ _ _ _ w).mono fun e w' ⟨h, hb⟩ => ⟨Or.inr ⟨hbig, h⟩, hb⟩
end Go.Proofs.YtachnndaoogpeaaGreatDoor
namespace Go.Proofs.YtachnndaoogpeaaGreatDoor
open Go.RowKit

theorem digitsOf_near (s : ByteArray) : s.size ≤ (digitsOf s).size + 1 := by
  show s.data.size ≤ (Lib.trimPrefix s.data.toList [45]).toArray.size + 1
  unfold Lib.trimPrefix
  split <;> simp <;> omega
theorem Zr.small {N : Nat} {w : World} {v : Value} {z : Int} (h : Zr N w v z) (h0 : -9223372036854775808 ≤ z) (h1 : z ≤ 9223372036854775807) : v = .agg #[.int .i64 z, .slice none 0 0] := by
  rcases h with ⟨h, _, _⟩ | ⟨s, b, off, cap, l, _, _, _, _, _, _, _, _, _, _, hbig⟩
  · exact h
  · omega
theorem read_two (s : ByteArray) (w : World) (t1 t2 : TypeId) (p1 p2 : Value) (hs : s.size ≤ maxLen) (h1 : w.cell? ⟨0, 0, none⟩ = some (.iface t1 p1)) (h2 : w.cell? ⟨1, 0, none⟩ = some (.iface t2 p2)) :
    Calls Tryz.prog 11 #[.string s] w fun e w' => (∃ u a n c er z, e = .returned (.tuple #[.agg #[.int .i64 u, .slice a n c], er]) ∧ Zr 16 w' (.agg #[.int .i64 u, .slice a n c]) z ∧ ((er = .nilIface ∧ s.size ≤ 301) ∨ ∃ p, er = .iface 95 (.pointer (some p)))) ∧ Below w.heap.size w w' := by
  refine (read_any s w t1 t2 p1 p2 hs h1 h2).mono ?_
  rintro e w' ⟨⟨v, rfl, hg, hZ⟩ | ⟨k, text, b, rfl, _, _, _⟩, hb⟩
  · obtain ⟨u, a, n, c, rfl⟩ := hZ.shape
    exact ⟨⟨u, a, n, c, _, _, rfl, hZ, Or.inl ⟨rfl, by have := digitsOf_near s; have := hg.2.1; omega⟩⟩, hb⟩
  · exact ⟨⟨_, _, _, _, _, 0, rfl, Zr.near 16 (by decide) (by decide), Or.inr ⟨_, rfl⟩⟩, hb⟩
end Go.Proofs.YtachnndaoogpeaaGreatDoor
