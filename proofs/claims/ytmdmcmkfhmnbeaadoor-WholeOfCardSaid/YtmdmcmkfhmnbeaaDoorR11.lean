/-
  Walks over the numbers of the document: Fits; a number's Int64.
-/
import Derived.Test.YtmdmcmkfhmnbeaaDoorR10
import Derived.Test.YtmdmcmkfhmnbeaaDoorW28
namespace Go.Proofs.YtmdmcmkfhmnbeaaDoor
open Go.RowKit

/-- A number of the document's in its box. -/
structure Nv (w : World) (b : Nat) (x : Bool) (a : Option Addr) (n c N : Nat) (z : Int) : Prop where
  c0 : w.cell? ⟨b, 0, none⟩ = some (.bool x)
  c1 : w.cell? ⟨b, 1, none⟩ = some (.slice a n c)
  nr : Nr N w (.agg #[.bool x, .slice a n c]) z
theorem Nv.lt {w : World} {b : Nat} {x : Bool} {a : Option Addr} {n c N : Nat} {z : Int} (h : Nv w b x a n c N z) : b < w.heap.size := World.block_lt_of_cell? w _ h.c0
theorem Nv.keep {w w1 : World} {b : Nat} {x : Bool} {a : Option Addr} {n c N : Nat} {z : Int} (h : Nv w b x a n c N z) (hb : Below w.heap.size w w1) : Nv w1 b x a n c N z := ⟨cell_keep hb h.c0, cell_keep hb h.c1, h.nr.later hb⟩
theorem Nv.new {w : World} {x : Bool} {a : Option Addr} {n c N : Nat} {z : Int} (h : Nr N w (.agg #[.bool x, .slice a n c]) z) : Nv (w.alloc (.cells #[.bool x, .slice a n c] 36)) w.heap.size x a n c N z :=
  ⟨by rw [new_cell rfl]; rfl, by rw [new_cell rfl]; rfl, h.later (below_new w _)⟩

set_option maxHeartbeats 1000000 in
theorem rfits_any {N : Nat} {v : Value} {z : Int} (w : World) (hz : Nr N w v z) (hN : N ≤ 1000) :
    Calls Tryd.prog 14 #[v] w fun e w' => e = .returned (.bool (decide (-9223372036854775808 ≤ z ∧ z ≤ 9223372036854775807))) ∧ Below w.heap.size w w' := by
  obtain ⟨x, a, n, c, rfl⟩ := hz.shape
  obtain ⟨R, HR⟩ : ∃ R, Hid (decide (-9223372036854775808 ≤ z ∧ z ≤ 9223372036854775807) = R) := ⟨_, rfl⟩
  rw [show decide (-9223372036854775808 ≤ z ∧ z ≤ 9223372036854775807) = R from unhide HR]
  have v0 := Nv.new hz
  have k0 := below_new w (.cells #[.bool x, .slice a n c] 36)
  go_enter Tryd.func14, Tryd.ntmps14
  go_wp2_with fail
  go_fit (rof_any (-9223372036854775808) (by decide) (by decide) _)
  rintro e W1 ⟨⟨u1, rfl, hN1⟩, hb1⟩
  obtain ⟨x1, a1, n1, c1, rfl⟩ := hN1.shape
  have v1 := v0.keep hb1
  have B1 := below_keep hb1 k0
  have n1' := Nv.new hN1
  have k1 := below_new W1 (.cells #[.bool x1, .slice a1 n1 c1] 36)
  clear hb1 k0 v0
  go_wp2_with fail
  go_fit (rof_any 9223372036854775807 (by decide) (by decide) _)
  rintro e W2 ⟨⟨u2, rfl, hN2⟩, hb2⟩
  obtain ⟨x2, a2, n2, c2, rfl⟩ := hN2.shape
  have v2 := (v1.keep k1).keep hb2
  have lo2 := n1'.keep hb2
  have B2 := below_keep hb2 (below_keep k1 B1)
  have n2' := Nv.new hN2
  have k2 := below_new W2 (.cells #[.bool x2, .slice a2 n2 c2] 36)
  clear hb2 k1 v1 B1 n1' hN1
  have p0 := v2.c0
  have p1 := v2.c1
  have pl := v2.lt
  have q0 := lo2.c0
  have q1 := lo2.c1
  have ql := lo2.lt
  go_wp2_with fail
  go_fit (rcmp_any _ (v2.keep k2).nr (lo2.keep k2).nr hN (by omega))
  rintro e W3 ⟨rfl, hb3⟩
  obtain ⟨s1, hs1⟩ : ∃ s, sgn (z - -9223372036854775808) = s := ⟨_, rfl⟩
  rw [hs1]
  have HS1 := hide hs1
  clear hs1
  have v3 := (v2.keep k2).keep hb3
  have hi3 := n2'.keep hb3
  have B3 := below_keep hb3 (below_keep k2 B2)
  clear hb3 k2 v2 lo2 n2' p0 p1 pl q0 q1 ql hN2 B2
  have p0 := v3.c0
  have p1 := v3.c1
  have q0 := hi3.c0
  have q1 := hi3.c1
  go_wp2_with fail
  go_fit (rcmp_any _ v3.nr hi3.nr hN (by omega))
  rintro e W4 ⟨rfl, hb4⟩
  have B4 := below_keep hb4 B3
  have hs1 := unhide HS1
  obtain ⟨s2, hs2⟩ : ∃ s, sgn (z - 9223372036854775807) = s := ⟨_, rfl⟩
  rw [hs2]
  have r1 : 0 ≤ s1 ↔ -9223372036854775808 ≤ z := by
    rcases sgn_val (z - -9223372036854775808) with ⟨a, b, c⟩ | ⟨a, b, c⟩ | ⟨a, b, c⟩ <;> omega
  have r2 : s2 ≤ 0 ↔ z ≤ 9223372036854775807 := by
    rcases sgn_val (z - 9223372036854775807) with ⟨a, b, c⟩ | ⟨a, b, c⟩ | ⟨a, b, c⟩ <;> omega
  have HRR : Hid (R = (decide (0 ≤ s1) && decide (s2 ≤ 0))) := by
    show _ = _
    rw [← unhide HR, Bool.eq_iff_iff]
    simp [r1, r2]
  clear r1 r2 hs1 hs2 p0 p1 q0 q1 hb4
  by_cases t1 : 0 ≤ s1
  · by_cases t2 : s2 ≤ 0
    · go_wp2
      go_ret
      exact ⟨ret_bool (by rw [unhide HRR]; simp [t1, t2]), B4⟩
    · go_wp2
      go_ret
      exact ⟨ret_bool (by rw [unhide HRR]; simp [t1]), B4⟩
  · go_wp2
    go_ret
    exact ⟨ret_bool (by rw [unhide HRR, decide_eq_false (show ¬ 0 ≤ s1 by omega)]; rfl), B4⟩

set_option maxHeartbeats 1000000 in
theorem int64_near (n : Int) (w : World) :
    Calls Tryd.prog 9 #[.agg #[.int .i64 n, .slice none 0 0]] w fun e w' => e = .returned (.tuple #[.int .i64 n, .bool true]) ∧ Below w.heap.size w w' := by
  have hq := eql_none
  go_enter Tryd.func9, Tryd.ntmps9
  go_wp2
  go_ret2
  exact ⟨rfl, below_new w _⟩
set_option maxHeartbeats 1000000 in
theorem int64_far (u : Int) (b off n c : Nat) (w : World) :
    Calls Tryd.prog 9 #[.agg #[.int .i64 u, .slice (some ⟨b, off, none⟩) n c]] w fun e w' => e = .returned (.tuple #[.int .i64 0, .bool false]) ∧ Below w.heap.size w w' := by
  have hq := eql_some b off n c
  go_enter Tryd.func9, Tryd.ntmps9
  go_wp2
  go_ret2
  exact ⟨rfl, below_new w _⟩
/-- Int64: the number, if an int64 holds it. -/
theorem int64_any {N : Nat} {v : Value} {z : Int} (w : World) (hz : Zr N w v z) :
    Calls Tryd.prog 9 #[v] w fun e w' => ((-9223372036854775808 ≤ z ∧ z ≤ 9223372036854775807 ∧ e = .returned (.tuple #[.int .i64 z, .bool true])) ∨ ((z < -9223372036854775808 ∨ 9223372036854775807 < z) ∧ e = .returned (.tuple #[.int .i64 0, .bool false]))) ∧ Below w.heap.size w w' := by
  rcases hz with ⟨rfl, h0, h1⟩ | ⟨s, b, off, cap, l, rfl, _, _, _, _, _, _, _, _, _, hbig⟩
  · exact (int64_near z w).mono fun e w' ⟨h, hb⟩ => ⟨Or.inl ⟨h0, h1, h⟩, hb⟩
  · exact (int64_far _ _ _ _ _ w).mono fun e w' ⟨h, hb⟩ => ⟨Or.inr ⟨hbig, h⟩, hb⟩
end Go.Proofs.YtmdmcmkfhmnbeaaDoor
