/-
  The law WholeSums, walked: for every two texts it answers true.
-/
import Derived.Test.YtmhebjeefdanmaaGreatDoorMHB
import Derived.Test.YtmhebjeefdanmaaGreatDoorMWJ
import Derived.Test.YtmhebjeefdanmaaGreatDoorMGC
import Derived.Test.YtmhebjeefdanmaaGreatDoorMQA
import Derived.Test.YtmhebjeefdanmaaGreatDoorMR21
namespace Go.Proofs.YtmhebjeefdanmaaGreatDoor
open Go.RowKit

/-- What the law has in its boxes: both numbers, the program's and the document's. -/
structure Sm (w : World) (ba bb bx by' : Nat) (x1 : Bool) (a1 : Option Addr) (n1 c1 : Nat) (x2 : Bool) (a2 : Option Addr) (n2 c2 : Nat) (u3 : Int) (a3 : Option Addr) (n3 c3 : Nat) (u4 : Int) (a4 : Option Addr) (n4 c4 : Nat) (z o : Int) (W : World) : Prop where
  B : Below w.heap.size w W
  a : NB W ba x1 a1 n1 c1 75 z
  b : NB W bb x2 a2 n2 c2 75 o
  x : Vr W bx u3 a3 n3 c3 16 z
  y : Vr W by' u4 a4 n4 c4 16 o
theorem Sm.keep {w : World} {ba bb bx by' : Nat} {x1 : Bool} {a1 : Option Addr} {n1 c1 : Nat} {x2 : Bool} {a2 : Option Addr} {n2 c2 : Nat} {u3 : Int} {a3 : Option Addr} {n3 c3 : Nat} {u4 : Int} {a4 : Option Addr} {n4 c4 : Nat} {z o : Int} {W W' : World} (h : Sm w ba bb bx by' x1 a1 n1 c1 x2 a2 n2 c2 u3 a3 n3 c3 u4 a4 n4 c4 z o W) (hb : Below W.heap.size W W') : Sm w ba bb bx by' x1 a1 n1 c1 x2 a2 n2 c2 u3 a3 n3 c3 u4 a4 n4 c4 z o W' :=
  ⟨below_keep hb h.B, h.a.keep hb, h.b.keep hb, h.x.keep hb, h.y.keep hb⟩

theorem keepC2 {Wc w1 w2 : World} {b1 o1 b2 o2 : Nat} {v1 v2 : Value} (hb : Below w1.heap.size w1 w2) (h : Below Wc.heap.size Wc w1 ∧ w1.cell? ⟨b1, o1, none⟩ = some v1 ∧ w1.cell? ⟨b2, o2, none⟩ = some v2) : Below Wc.heap.size Wc w2 ∧ w2.cell? ⟨b1, o1, none⟩ = some v1 ∧ w2.cell? ⟨b2, o2, none⟩ = some v2 :=
  ⟨below_keep hb h.1, cell_keep hb h.2.1, cell_keep hb h.2.2⟩
theorem keepC4 {Wc w1 w2 : World} {b1 o1 b2 o2 b3 o3 b4 o4 : Nat} {v1 v2 v3 v4 : Value} (hb : Below w1.heap.size w1 w2) (h : Below Wc.heap.size Wc w1 ∧ w1.cell? ⟨b1, o1, none⟩ = some v1 ∧ w1.cell? ⟨b2, o2, none⟩ = some v2 ∧ w1.cell? ⟨b3, o3, none⟩ = some v3 ∧ w1.cell? ⟨b4, o4, none⟩ = some v4) : Below Wc.heap.size Wc w2 ∧ w2.cell? ⟨b1, o1, none⟩ = some v1 ∧ w2.cell? ⟨b2, o2, none⟩ = some v2 ∧ w2.cell? ⟨b3, o3, none⟩ = some v3 ∧ w2.cell? ⟨b4, o4, none⟩ = some v4 :=
  ⟨below_keep hb h.1, cell_keep hb h.2.1, cell_keep hb h.2.2.1, cell_keep hb h.2.2.2.1, cell_keep hb h.2.2.2.2⟩
theorem keepC6 {Wc w1 w2 : World} {b1 o1 b2 o2 b3 o3 b4 o4 b5 o5 b6 o6 : Nat} {v1 v2 v3 v4 v5 v6 : Value} (hb : Below w1.heap.size w1 w2) (h : Below Wc.heap.size Wc w1 ∧ w1.cell? ⟨b1, o1, none⟩ = some v1 ∧ w1.cell? ⟨b2, o2, none⟩ = some v2 ∧ w1.cell? ⟨b3, o3, none⟩ = some v3 ∧ w1.cell? ⟨b4, o4, none⟩ = some v4 ∧ w1.cell? ⟨b5, o5, none⟩ = some v5 ∧ w1.cell? ⟨b6, o6, none⟩ = some v6) : Below Wc.heap.size Wc w2 ∧ w2.cell? ⟨b1, o1, none⟩ = some v1 ∧ w2.cell? ⟨b2, o2, none⟩ = some v2 ∧ w2.cell? ⟨b3, o3, none⟩ = some v3 ∧ w2.cell? ⟨b4, o4, none⟩ = some v4 ∧ w2.cell? ⟨b5, o5, none⟩ = some v5 ∧ w2.cell? ⟨b6, o6, none⟩ = some v6 :=
  ⟨below_keep hb h.1, cell_keep hb h.2.1, cell_keep hb h.2.2.1, cell_keep hb h.2.2.2.1, cell_keep hb h.2.2.2.2.1, cell_keep hb h.2.2.2.2.2.1, cell_keep hb h.2.2.2.2.2.2⟩
theorem keepC8 {Wc w1 w2 : World} {b1 o1 b2 o2 b3 o3 b4 o4 b5 o5 b6 o6 b7 o7 b8 o8 : Nat} {v1 v2 v3 v4 v5 v6 v7 v8 : Value} (hb : Below w1.heap.size w1 w2) (h : Below Wc.heap.size Wc w1 ∧ w1.cell? ⟨b1, o1, none⟩ = some v1 ∧ w1.cell? ⟨b2, o2, none⟩ = some v2 ∧ w1.cell? ⟨b3, o3, none⟩ = some v3 ∧ w1.cell? ⟨b4, o4, none⟩ = some v4 ∧ w1.cell? ⟨b5, o5, none⟩ = some v5 ∧ w1.cell? ⟨b6, o6, none⟩ = some v6 ∧ w1.cell? ⟨b7, o7, none⟩ = some v7 ∧ w1.cell? ⟨b8, o8, none⟩ = some v8) : Below Wc.heap.size Wc w2 ∧ w2.cell? ⟨b1, o1, none⟩ = some v1 ∧ w2.cell? ⟨b2, o2, none⟩ = some v2 ∧ w2.cell? ⟨b3, o3, none⟩ = some v3 ∧ w2.cell? ⟨b4, o4, none⟩ = some v4 ∧ w2.cell? ⟨b5, o5, none⟩ = some v5 ∧ w2.cell? ⟨b6, o6, none⟩ = some v6 ∧ w2.cell? ⟨b7, o7, none⟩ = some v7 ∧ w2.cell? ⟨b8, o8, none⟩ = some v8 :=
  ⟨below_keep hb h.1, cell_keep hb h.2.1, cell_keep hb h.2.2.1, cell_keep hb h.2.2.2.1, cell_keep hb h.2.2.2.2.1, cell_keep hb h.2.2.2.2.2.1, cell_keep hb h.2.2.2.2.2.2.1, cell_keep hb h.2.2.2.2.2.2.2.1, cell_keep hb h.2.2.2.2.2.2.2.2⟩
theorem sign_zr {N : Nat} {v : Value} {z : Int} (w : World) (h : Zr N w v z) : Calls Tryz.prog 26 #[v] w fun e w' => e = .returned (.int .i64 (sgn z)) ∧ Below w.heap.size w w' := by
  obtain ⟨near, a, n, c, rfl, hs, _⟩ := h.sgn
  rw [← hs]
  exact sign_any near _ w
theorem euclid_one {q r p m o z : Int} (e1 : q * o + r = z) (r0 : 0 ≤ r) (r1 : r < iabs o) (e2 : z = p * o + m) (m0 : 0 ≤ m) (m1 : m < iabs o) : q = p ∧ r = m := by
  have e : (q - p) * o = m - r := by rw [Int.sub_mul]; omega
  have hq : q = p := by
    by_cases h : q = p
    · exact h
    · exfalso
      have h1 : (iabs o) * 1 ≤ (iabs o) * ((q - p).natAbs : Int) := Int.mul_le_mul_of_nonneg_left (by omega) (by omega)
      have h2 : (((q - p) * o).natAbs : Int) = iabs o * ((q - p).natAbs : Int) := by
        rw [Int.natAbs_mul, Int.natCast_mul, Int.mul_comm]
        congr 1
        unfold iabs; split <;> omega
      rw [e] at h2
      omega
  subst hq
  exact ⟨rfl, by simp at e; omega⟩
theorem nr_zero (w : World) : Nr 0 w (.agg #[.bool false, .slice none 0 0]) 0 := ⟨false, _, [], rfl, Or.inl ⟨rfl, rfl⟩, P4.nil, Or.inl rfl, by simp, fun _ => rfl, by simp [v4]⟩
theorem dm_prog {e : Ending} {w : World} {z o : Int} (h : (o = 0 ∧ e = .returned (.tuple #[.agg #[.int .i64 0, .slice none 0 0], .agg #[.int .i64 0, .slice none 0 0], .bool false])) ∨ (o ≠ 0 ∧ ∃ vq vr q r, e = .returned (.tuple #[vq, vr, .bool true]) ∧ Zr (15 + 3) w vq q ∧ Zr (15 + 3) w vr r ∧ q * o + r = z ∧ 0 ≤ r ∧ r < iabs o)) :
    ∃ uq aq nq cq ur ar nr cr q r, e = .returned (.tuple #[.agg #[.int .i64 uq, .slice aq nq cq], .agg #[.int .i64 ur, .slice ar nr cr], .bool (!decide (o = 0))]) ∧ Zr 18 w (.agg #[.int .i64 uq, .slice aq nq cq]) q ∧ Zr 18 w (.agg #[.int .i64 ur, .slice ar nr cr]) r ∧ ((o = 0 ∧ q = 0 ∧ r = 0) ∨ (o ≠ 0 ∧ q * o + r = z ∧ 0 ≤ r ∧ r < iabs o)) := by
  rcases h with ⟨h, rfl⟩ | ⟨h, vq, vr, q, r, rfl, h1, h2, h3⟩
  · exact ⟨_, _, _, _, _, _, _, _, 0, 0, by simp [h], Zr.near _ (by decide) (by decide), Zr.near _ (by decide) (by decide), Or.inl ⟨h, rfl, rfl⟩⟩
  · obtain ⟨_, _, _, _, rfl⟩ := h1.shape
    obtain ⟨_, _, _, _, rfl⟩ := h2.shape
    exact ⟨_, _, _, _, _, _, _, _, q, r, by simp [h], h1, h2, Or.inr ⟨h, h3⟩⟩
theorem dm_doc {N : Nat} {e : Ending} {w : World} {z o : Int} (h : DivP N z o e w) :
    ∃ xq aq nq cq xr ar nr cr q r, e = .returned (.tuple #[.agg #[.bool xq, .slice aq nq cq], .agg #[.bool xr, .slice ar nr cr], .bool (!decide (o = 0))]) ∧ Nr N w (.agg #[.bool xq, .slice aq nq cq]) q ∧ Nr N w (.agg #[.bool xr, .slice ar nr cr]) r ∧ ((o = 0 ∧ q = 0 ∧ r = 0) ∨ (o ≠ 0 ∧ z = q * o + r ∧ 0 ≤ r ∧ r < iabs o)) := by
  rcases h with ⟨h, rfl⟩ | ⟨h, vq, vr, q, r, rfl, h1, h2, h3⟩
  · exact ⟨_, _, _, _, _, _, _, _, 0, 0, by simp [h], (nr_zero w).mono (Nat.zero_le _), (nr_zero w).mono (Nat.zero_le _), Or.inl ⟨h, rfl, rfl⟩⟩
  · obtain ⟨_, _, _, _, rfl⟩ := h1.shape
    obtain ⟨_, _, _, _, rfl⟩ := h2.shape
    exact ⟨_, _, _, _, _, _, _, _, q, r, by simp [h], h1, h2, Or.inr ⟨h, h3⟩⟩
theorem dm_same {z o q r p m : Int} (h1 : (o = 0 ∧ q = 0 ∧ r = 0) ∨ (o ≠ 0 ∧ q * o + r = z ∧ 0 ≤ r ∧ r < iabs o)) (h2 : (o = 0 ∧ p = 0 ∧ m = 0) ∨ (o ≠ 0 ∧ z = p * o + m ∧ 0 ≤ m ∧ m < iabs o)) : p = q ∧ m = r := by
  rcases h1 with ⟨h, rfl, rfl⟩ | ⟨h, a1, a2, a3⟩
  · rcases h2 with ⟨_, rfl, rfl⟩ | ⟨h', _⟩
    · exact ⟨rfl, rfl⟩
    · exact absurd h h'
  · rcases h2 with ⟨h', _⟩ | ⟨_, b1, b2, b3⟩
    · exact absurd h' h
    · have := euclid_one a1 a2 a3 b1 b2 b3; exact ⟨this.1.symm, this.2.symm⟩
theorem Vr.second {w : World} {o1 : Obj} {u : Int} {a : Option Addr} {n c N : Nat} {z : Int} (h : Zr N w (.agg #[.int .i64 u, .slice a n c]) z) : Vr ((w.alloc o1).alloc (.cells #[.int .i64 u, .slice a n c] 31)) (w.heap.size + 1) u a n c N z := by
  have := Vr.new (h.later (below_new w o1))
  simpa using this
theorem NB.second {w : World} {o1 : Obj} {x : Bool} {a : Option Addr} {n c N : Nat} {z : Int} (h : Nr N w (.agg #[.bool x, .slice a n c]) z) : NB ((w.alloc o1).alloc (.cells #[.bool x, .slice a n c] 24)) (w.heap.size + 1) x a n c N z := by
  have := NB.new (h.later (below_new w o1))
  simpa using this
theorem good_no_wrong {d : ByteArray} {k : Nat} {text : Bool} (hg : Good d) (hw : Wrong d k text) : False := by
  obtain ⟨g1, g2, g3⟩ := hg
  rcases hw with ⟨h, _, _⟩ | ⟨h, h3, _, ⟨_, h5⟩ | ⟨_, h5, _⟩⟩
  · omega
  · exact h5 (g3 k h)
  · omega
set_option maxRecDepth 8000 in
set_option maxHeartbeats 8000000 in
theorem sums_law (s t : ByteArray) (w : World) (t1 t2 : TypeId) (p1 p2 : Value) (hs : s.size ≤ maxLen) (ht : t.size ≤ maxLen) (h1 : w.cell? ⟨0, 0, none⟩ = some (.iface t1 p1)) (h2 : w.cell? ⟨1, 0, none⟩ = some (.iface t2 p2)) (htab : Lib.TabIs Tryz.prog w "internal/strconv.uint64pow10" .u64 Lib.pow10Tab) (hT : Tab64 w) :
    Calls Tryz.prog 3 #[.string s, .string t] w fun e w' => e = .returned (.bool true) ∧ Below w.heap.size w w' := by
  have HS := hide hs
  have HT := hide ht
  have H1 := hide h1
  have H2 := hide h2
  have HTAB := hide htab
  have HT64 := hide hT
  have hss : (s.size : Int) ≤ 9223372036854775807 := by unfold maxLen at hs; omega
  have htt : (t.size : Int) ≤ 9223372036854775807 := by unfold maxLen at ht; omega
  clear hs ht h1 h2 htab hT
  go_enter Tryz.func3, Tryz.ntmps3
  go_wp2_with fail
  go_fit (rread_any s _ (unhide HS))
  rintro e W1 ⟨⟨v1, code1, pl1, rfl, hc1⟩, B1⟩
  obtain ⟨x1, a1, n1, c1, rfl⟩ : ∃ x a n c, v1 = .agg #[.bool x, .slice a n c] := by
    rcases hc1 with ⟨_, _, _, h⟩ | ⟨_, _, _, _, _, h⟩
    · exact h.shape
    · exact ⟨_, _, _, _, h⟩
  have k1 := below_new2 W1 (.cells #[.bool x1, .slice a1 n1 c1] 24) (.cells #[.int .i64 code1, .int .i64 pl1] 26)
  have hf1 : ((W1.alloc (.cells #[.bool x1, .slice a1 n1 c1] 24)).alloc (.cells #[.int .i64 code1, .int .i64 pl1] 26)).cell? ⟨W1.heap.size + 1, 0, none⟩ = some (.int .i64 code1) := by rw [new_cell (by simp)]; rfl
  go_wp2_with fail
  go_fit (rread_any t _ (unhide HT))
  rintro e W2 ⟨⟨v2, code2, pl2, rfl, hc2⟩, B2⟩
  obtain ⟨x2, a2, n2, c2, rfl⟩ : ∃ x a n c, v2 = .agg #[.bool x, .slice a n c] := by
    rcases hc2 with ⟨_, _, _, h⟩ | ⟨_, _, _, _, _, h⟩
    · exact h.shape
    · exact ⟨_, _, _, _, h⟩
  have hf1' := cell_keep B2 hf1
  have l1 : W1.heap.size + 1 < W2.heap.size := World.block_lt_of_cell? W2 _ hf1'
  have BW2 := below_keep B2 (below_keep k1 B1)
  have k2 := below_new2 W2 (.cells #[.bool x2, .slice a2 n2 c2] 24) (.cells #[.int .i64 code2, .int .i64 pl2] 26)
  have hf2 := cell_keep k2 hf1'
  have BW3 := below_keep k2 BW2
  rcases hc1 with ⟨rfl, rfl, hg1, hN1⟩ | ⟨kk, text, hcode, -, -, -⟩
  · rcases hc2 with ⟨rfl, rfl, hg2, hN2⟩ | ⟨kk, text, hcode, -, -, -⟩
    · have hl1 : ¬ (400 : Int) < s.size := by have := digitsOf_near s; have := hg1.2.1; omega
      have hl2 : ¬ (400 : Int) < t.size := by have := digitsOf_near t; have := hg2.2.1; omega
      obtain ⟨z, HZ⟩ : ∃ z, Hid (numOf s = z) := ⟨_, rfl⟩
      obtain ⟨o, HO⟩ : ∃ o, Hid (numOf t = o) := ⟨_, rfl⟩
      rw [show numOf s = z from unhide HZ] at hN1
      rw [show numOf t = o from unhide HO] at hN2
      have HG1 := hide hg1
      have HG2 := hide hg2
      have hA := ((NB.new hN1).keep (below_new _ (.cells #[.int .i64 0, .int .i64 (-1)] 26))).keep B2
      have hA := hA.keep k2
      have hB := (NB.new hN2).keep (below_new _ (.cells #[.int .i64 0, .int .i64 (-1)] 26))
      go_wp2_with fail
      obtain ⟨W3, hW3⟩ : ∃ W3, W3 = (W2.alloc (.cells #[.bool x2, .slice a2 n2 c2] 24)).alloc (.cells #[.int .i64 0, .int .i64 (-1)] 26) := ⟨_, rfl⟩
      rw [← hW3] at hA hB BW3 ⊢
      clear hW3 hf2 hf1' hf1 l1 k2 k1 BW2 B2 B1 hN1 hN2 hg1 hg2
      go_fit (read_any s _ t1 t2 p1 p2 (unhide HS) (cell_keep BW3 (unhide H1)) (cell_keep BW3 (unhide H2)))
      rintro e W4 ⟨⟨v4', rfl, -, hZ4⟩ | ⟨kk, text, bb, rfl, hw, -, -⟩, B4⟩
      · obtain ⟨u3, a3, n3, c3, rfl⟩ := hZ4.shape
        rw [show numOf s = z from unhide HZ] at hZ4
        have hX := Vr.new hZ4
        have k4 := below_new W4 (.cells #[.int .i64 u3, .slice a3 n3 c3] 31)
        have BW4 := below_keep k4 (below_keep B4 BW3)
        have hA := (hA.keep B4).keep k4
        have hB := (hB.keep B4).keep k4
        go_wp2_with fail
        go_fit (read_any t _ t1 t2 p1 p2 (unhide HT) (cell_keep BW4 (unhide H1)) (cell_keep BW4 (unhide H2)))
        rintro e W5 ⟨⟨v5', rfl, -, hZ5⟩ | ⟨kk, text, bb, rfl, hw, -, -⟩, B5⟩
        · obtain ⟨u4, a4, n4, c4, rfl⟩ := hZ5.shape
          rw [show numOf t = o from unhide HO] at hZ5
          have hY := Vr.new hZ5
          have k5 := below_new W5 (.cells #[.int .i64 u4, .slice a4 n4 c4] 31)
          have hS : Sm w W1.heap.size W2.heap.size W4.heap.size W5.heap.size x1 a1 n1 c1 x2 a2 n2 c2 u3 a3 n3 c3 u4 a4 n4 c4 z o (W5.alloc (.cells #[.int .i64 u4, .slice a4 n4 c4] 31)) :=
            ⟨below_keep k5 (below_keep B5 BW4), (hA.keep B5).keep k5, (hB.keep B5).keep k5, (hX.keep B5).keep k5, hY⟩
          clear hA hB hX hY k5 k4 B5 B4 BW3 BW4 hZ4 hZ5
          have e1 := hS.x.c0
          have e2 := hS.x.c1
          have e3 := hS.y.c0
          have e4 := hS.y.c1
          go_wp2_with fail
          obtain ⟨X6, hX6⟩ : ∃ X, X = (W5.alloc (.cells #[.int .i64 u4, .slice a4 n4 c4] 31)) := ⟨_, rfl⟩
          rw [← hX6] at hS ⊢
          clear hX6 e1 e2 e3 e4
          go_fit (add_any (N := 15) _ hS.x.zr hS.y.zr (by omega))
          rintro e W6 ⟨⟨v6, rfl, hZ6⟩, B6⟩
          obtain ⟨u6, a6, n6, c6, rfl⟩ := hZ6.shape
          have hP6 := Vr.new hZ6
          have k6 := below_new W6 (.cells #[.int .i64 u6, .slice a6 n6 c6] 31)
          have hS := (hS.keep B6).keep k6
          clear B6 k6 hZ6
          have e1 := hS.x.c0
          have e2 := hS.x.c1
          have e3 := hS.y.c0
          have e4 := hS.y.c1
          go_wp2_with fail
          obtain ⟨X7, hX7⟩ : ∃ X, X = (W6.alloc (.cells #[.int .i64 u6, .slice a6 n6 c6] 31)) := ⟨_, rfl⟩
          rw [← hX7] at hS hP6 ⊢
          clear hX7 e1 e2 e3 e4
          go_fit (sub_any (N := 15) _ hS.x.zr hS.y.zr (by omega))
          rintro e W7 ⟨⟨v7, rfl, hZ7⟩, B7⟩
          obtain ⟨u7, a7, n7, c7, rfl⟩ := hZ7.shape
          have hP7 := Vr.new hZ7
          have k7 := below_new W7 (.cells #[.int .i64 u7, .slice a7 n7 c7] 31)
          have hS := (hS.keep B7).keep k7
          have hP6 := (hP6.keep B7).keep k7
          clear B7 k7 hZ7
          have e1 := hS.x.c0
          have e2 := hS.x.c1
          have e3 := hS.y.c0
          have e4 := hS.y.c1
          go_wp2_with fail
          obtain ⟨X8, hX8⟩ : ∃ X, X = (W7.alloc (.cells #[.int .i64 u7, .slice a7 n7 c7] 31)) := ⟨_, rfl⟩
          rw [← hX8] at hS hP6 hP7 ⊢
          clear hX8 e1 e2 e3 e4
          go_fit (mul_any (N := 15) _ hS.x.zr hS.y.zr (by omega))
          rintro e W8 ⟨⟨v8, rfl, hZ8⟩, B8⟩
          obtain ⟨u8, a8, n8, c8, rfl⟩ := hZ8.shape
          have hP8 := Vr.new hZ8
          have k8 := below_new W8 (.cells #[.int .i64 u8, .slice a8 n8 c8] 31)
          have hS := (hS.keep B8).keep k8
          have hP6 := (hP6.keep B8).keep k8
          have hP7 := (hP7.keep B8).keep k8
          clear B8 k8 hZ8
          have e1 := hS.x.c0
          have e2 := hS.x.c1
          have e3 := hS.y.c0
          have e4 := hS.y.c1
          go_wp2_with fail
          obtain ⟨X9, hX9⟩ : ∃ X, X = (W8.alloc (.cells #[.int .i64 u8, .slice a8 n8 c8] 31)) := ⟨_, rfl⟩
          rw [← hX9] at hS hP6 hP7 hP8 ⊢
          clear hX9 e1 e2 e3 e4
          go_fit (neg_any (N := 15) _ hS.x.zr)
          rintro e W9 ⟨⟨v9, rfl, hZ9⟩, B9⟩
          obtain ⟨u9, a9, n9, c9, rfl⟩ := hZ9.shape
          have hP9 := Vr.new hZ9
          have k9 := below_new W9 (.cells #[.int .i64 u9, .slice a9 n9 c9] 31)
          have hS := (hS.keep B9).keep k9
          have hP6 := (hP6.keep B9).keep k9
          have hP7 := (hP7.keep B9).keep k9
          have hP8 := (hP8.keep B9).keep k9
          clear B9 k9 hZ9
          have e1 := hS.x.c0
          have e2 := hS.x.c1
          have e3 := hS.y.c0
          have e4 := hS.y.c1
          go_wp2_with fail
          obtain ⟨X10, hX10⟩ : ∃ X, X = (W9.alloc (.cells #[.int .i64 u9, .slice a9 n9 c9] 31)) := ⟨_, rfl⟩
          rw [← hX10] at hS hP6 hP7 hP8 hP9 ⊢
          clear hX10 e1 e2 e3 e4
          go_fit (gcd_any (N := 15) _ hS.x.zr hS.y.zr (by omega) ((unhide HT64).later hS.B))
          rintro e W10 ⟨⟨v10, rfl, hZ10⟩, B10⟩
          obtain ⟨u10, a10, n10, c10, rfl⟩ := hZ10.shape
          have hP10 := Vr.new hZ10
          have k10 := below_new W10 (.cells #[.int .i64 u10, .slice a10 n10 c10] 31)
          have hS := (hS.keep B10).keep k10
          have hP6 := (hP6.keep B10).keep k10
          have hP7 := (hP7.keep B10).keep k10
          have hP8 := (hP8.keep B10).keep k10
          have hP9 := (hP9.keep B10).keep k10
          clear B10 k10 hZ10
          have e1 := hS.x.c0
          have e2 := hS.x.c1
          have e3 := hS.y.c0
          have e4 := hS.y.c1
          go_wp2_with fail
          obtain ⟨Wc, hWc⟩ : ∃ X, X = (W10.alloc (.cells #[.int .i64 u10, .slice a10 n10 c10] 31)) := ⟨_, rfl⟩
          rw [← hWc] at hS hP6 hP7 hP8 hP9 hP10 ⊢
          clear hWc e1 e2 e3 e4
          go_region_held3 (fun w' => Below Wc.heap.size Wc w' ∧ w'.cell? ⟨W6.heap.size, 0, none⟩ = some (.int .i64 u6) ∧ w'.cell? ⟨W6.heap.size, 1, none⟩ = some (.slice a6 n6 c6) ∧ w'.cell? ⟨W1.heap.size, 0, none⟩ = some (.bool x1) ∧ w'.cell? ⟨W1.heap.size, 1, none⟩ = some (.slice a1 n1 c1) ∧ w'.cell? ⟨W2.heap.size, 0, none⟩ = some (.bool x2) ∧ w'.cell? ⟨W2.heap.size, 1, none⟩ = some (.slice a2 n2 c2))
            (first | exact ⟨(Below.refl _ _).drew, hP6.c0, hP6.c1, hS.a.c0, hS.a.c1, hS.b.c0, hS.b.c1⟩ | exact keepC6 (by assumption) (by assumption))
            (first | (go_at_call 17; go_fit (text_any _ (hP6.keep (And.left (by assumption))).zr (by omega) (tab_later (unhide HTAB) (below_keep (And.left (by assumption)) hS.B))); rintro e q2 ⟨rfl, hb_q2⟩) | (go_at_call 19; go_fit (radd_any (N := 75) _ (hS.a.keep (And.left (by assumption))).nr (hS.b.keep (And.left (by assumption))).nr (by omega)); rintro e q3 ⟨⟨y3, rfl, hN3⟩, hb_q3⟩; obtain ⟨x9, a9', n9', c9', rfl⟩ := hN3.shape) | (go_at_call 18; go_fit (rtext_any _ hN3 (by omega)); rintro e q4 ⟨rfl, hb_q4⟩))
          have hbc := below_keep hb_q4 (below_keep hb_q3 (below_keep hb_q2 (Below.refl Wc.heap.size Wc).drew))
          have hS := hS.keep hbc
          have hP7 := hP7.keep hbc
          have hP8 := hP8.keep hbc
          have hP9 := hP9.keep hbc
          have hP10 := hP10.keep hbc
          clear hbc hb_q4 hb_q3 hb_q2 hP6 hN3
          go_wp2_with fail
          go_region_held3 (fun w' => Below q4.heap.size q4 w' ∧ w'.cell? ⟨W7.heap.size, 0, none⟩ = some (.int .i64 u7) ∧ w'.cell? ⟨W7.heap.size, 1, none⟩ = some (.slice a7 n7 c7) ∧ w'.cell? ⟨W1.heap.size, 0, none⟩ = some (.bool x1) ∧ w'.cell? ⟨W1.heap.size, 1, none⟩ = some (.slice a1 n1 c1) ∧ w'.cell? ⟨W2.heap.size, 0, none⟩ = some (.bool x2) ∧ w'.cell? ⟨W2.heap.size, 1, none⟩ = some (.slice a2 n2 c2))
            (first | exact ⟨(Below.refl _ _).drew, hP7.c0, hP7.c1, hS.a.c0, hS.a.c1, hS.b.c0, hS.b.c1⟩ | exact keepC6 (by assumption) (by assumption))
            (first | (go_at_call 17; go_fit (text_any _ (hP7.keep (And.left (by assumption))).zr (by omega) (tab_later (unhide HTAB) (below_keep (And.left (by assumption)) hS.B))); rintro e r2 ⟨rfl, hb_r2⟩) | (go_at_call 20; go_fit (rsub_any (N := 75) _ (hS.a.keep (And.left (by assumption))).nr (hS.b.keep (And.left (by assumption))).nr (by omega)); rintro e r3 ⟨⟨y_r3, rfl, hN_r3⟩, hb_r3⟩; obtain ⟨x_r3, a_r3, n_r3, c_r3, rfl⟩ := hN_r3.shape) | (go_at_call 18; go_fit (rtext_any _ hN_r3 (by omega)); rintro e r4 ⟨rfl, hb_r4⟩))
          have hbc := below_keep hb_r4 (below_keep hb_r3 (below_keep hb_r2 (Below.refl q4.heap.size q4).drew))
          have hS := hS.keep hbc
          have hP8 := hP8.keep hbc
          have hP9 := hP9.keep hbc
          have hP10 := hP10.keep hbc
          clear hbc hb_r2 hb_r3 hb_r4
          go_wp2_with fail
          go_region_held3 (fun w' => Below r4.heap.size r4 w' ∧ w'.cell? ⟨W8.heap.size, 0, none⟩ = some (.int .i64 u8) ∧ w'.cell? ⟨W8.heap.size, 1, none⟩ = some (.slice a8 n8 c8) ∧ w'.cell? ⟨W1.heap.size, 0, none⟩ = some (.bool x1) ∧ w'.cell? ⟨W1.heap.size, 1, none⟩ = some (.slice a1 n1 c1) ∧ w'.cell? ⟨W2.heap.size, 0, none⟩ = some (.bool x2) ∧ w'.cell? ⟨W2.heap.size, 1, none⟩ = some (.slice a2 n2 c2))
            (first | exact ⟨(Below.refl _ _).drew, hP8.c0, hP8.c1, hS.a.c0, hS.a.c1, hS.b.c0, hS.b.c1⟩ | exact keepC6 (by assumption) (by assumption))
            (first | (go_at_call 17; go_fit (text_any _ (hP8.keep (And.left (by assumption))).zr (by omega) (tab_later (unhide HTAB) (below_keep (And.left (by assumption)) hS.B))); rintro e s2 ⟨rfl, hb_s2⟩) | (go_at_call 21; go_fit (rmul_any (N := 75) (M := 75) _ (hS.a.keep (And.left (by assumption))).nr (hS.b.keep (And.left (by assumption))).nr (by omega)); rintro e s3 ⟨⟨y_s3, rfl, hN_s3⟩, hb_s3⟩; obtain ⟨x_s3, a_s3, n_s3, c_s3, rfl⟩ := hN_s3.shape) | (go_at_call 18; go_fit (rtext_any _ hN_s3 (by omega)); rintro e s4 ⟨rfl, hb_s4⟩))
          have hbc := below_keep hb_s4 (below_keep hb_s3 (below_keep hb_s2 (Below.refl r4.heap.size r4).drew))
          have hS := hS.keep hbc
          have hP9 := hP9.keep hbc
          have hP10 := hP10.keep hbc
          clear hbc hb_s2 hb_s3 hb_s4
          go_wp2_with fail
          go_region_held3 (fun w' => Below s4.heap.size s4 w' ∧ w'.cell? ⟨W9.heap.size, 0, none⟩ = some (.int .i64 u9) ∧ w'.cell? ⟨W9.heap.size, 1, none⟩ = some (.slice a9 n9 c9) ∧ w'.cell? ⟨W10.heap.size, 0, none⟩ = some (.int .i64 u10) ∧ w'.cell? ⟨W10.heap.size, 1, none⟩ = some (.slice a10 n10 c10) ∧ w'.cell? ⟨W1.heap.size, 0, none⟩ = some (.bool x1) ∧ w'.cell? ⟨W1.heap.size, 1, none⟩ = some (.slice a1 n1 c1) ∧ w'.cell? ⟨W2.heap.size, 0, none⟩ = some (.bool x2) ∧ w'.cell? ⟨W2.heap.size, 1, none⟩ = some (.slice a2 n2 c2))
            (first | exact ⟨(Below.refl _ _).drew, hP9.c0, hP9.c1, hP10.c0, hP10.c1, hS.a.c0, hS.a.c1, hS.b.c0, hS.b.c1⟩ | exact keepC8 (by assumption) (by assumption))
            (first | (go_at_call 17; go_fit (text_any _ (hP9.keep (And.left (by assumption))).zr (by omega) (tab_later (unhide HTAB) (below_keep (And.left (by assumption)) hS.B))); rintro e t2 ⟨rfl, hb_t2⟩) | (go_at_call 22; go_fit (rneg_any (N := 75) _ (hS.a.keep (And.left (by assumption))).nr); rintro e t3 ⟨⟨y_t3, rfl, hN_t3⟩, hb_t3⟩; obtain ⟨x_t3, a_t3, n_t3, c_t3, rfl⟩ := hN_t3.shape) | (go_at_call 18; go_fit (rtext_any _ hN_t3 (by omega)); rintro e t4 ⟨rfl, hb_t4⟩) | (go_at_call 17; go_fit (text_any _ (hP10.keep (And.left (by assumption))).zr (by omega) (tab_later (unhide HTAB) (below_keep (And.left (by assumption)) hS.B))); rintro e t5 ⟨rfl, hb_t5⟩) | (go_at_call 23; go_fit (rgcd_any (N := 75) _ (hS.a.keep (And.left (by assumption))).nr (hS.b.keep (And.left (by assumption))).nr (by omega)); rintro e t6 ⟨⟨y_t6, rfl, hN_t6⟩, hb_t6⟩; obtain ⟨x_t6, a_t6, n_t6, c_t6, rfl⟩ := hN_t6.shape) | (go_at_call 18; go_fit (rtext_any _ hN_t6 (by omega)); rintro e t7 ⟨rfl, hb_t7⟩))
          have hbc := below_keep hb_t7 (below_keep hb_t6 (below_keep hb_t5 (below_keep hb_t4 (below_keep hb_t3 (below_keep hb_t2 (Below.refl s4.heap.size s4).drew)))))
          have hS := hS.keep hbc
          clear hbc hb_t2 hb_t3 hb_t4 hb_t5 hb_t6 hb_t7
          clear hP9 hP10
          go_wp2_with fail
          go_region_held3 (fun w' => Below t7.heap.size t7 w' ∧ w'.cell? ⟨W4.heap.size, 0, none⟩ = some (.int .i64 u3) ∧ w'.cell? ⟨W4.heap.size, 1, none⟩ = some (.slice a3 n3 c3) ∧ w'.cell? ⟨W5.heap.size, 0, none⟩ = some (.int .i64 u4) ∧ w'.cell? ⟨W5.heap.size, 1, none⟩ = some (.slice a4 n4 c4) ∧ w'.cell? ⟨W1.heap.size, 0, none⟩ = some (.bool x1) ∧ w'.cell? ⟨W1.heap.size, 1, none⟩ = some (.slice a1 n1 c1) ∧ w'.cell? ⟨W2.heap.size, 0, none⟩ = some (.bool x2) ∧ w'.cell? ⟨W2.heap.size, 1, none⟩ = some (.slice a2 n2 c2))
            (first | exact ⟨(Below.refl _ _).drew, hS.x.c0, hS.x.c1, hS.y.c0, hS.y.c1, hS.a.c0, hS.a.c1, hS.b.c0, hS.b.c1⟩ | exact keepC8 (by assumption) (by assumption))
            (first | (go_at_call 24; go_fit (cmp_any (N := 15) _ (hS.x.keep (And.left (by assumption))).zr (hS.y.keep (And.left (by assumption))).zr (by omega)); rintro e v2 ⟨rfl, hb_v2⟩) | (go_at_call 25; go_fit (rcmp_any (N := 75) (M := 75) _ (hS.a.keep (And.left (by assumption))).nr (hS.b.keep (And.left (by assumption))).nr (by omega) (by omega)); rintro e v3 ⟨rfl, hb_v3⟩) | (go_at_call 26; go_fit (sign_zr _ (hS.x.keep (And.left (by assumption))).zr); rintro e v4 ⟨rfl, hb_v4⟩) | (go_at_call 27; go_fit (rsign_any _ (hS.a.keep (And.left (by assumption))).nr); rintro e v5 ⟨rfl, hb_v5⟩))
          have hbc := below_keep hb_v5 (below_keep hb_v4 (below_keep hb_v3 (below_keep hb_v2 (Below.refl t7.heap.size t7).drew)))
          have hS := hS.keep hbc
          clear hbc hb_v2 hb_v3 hb_v4 hb_v5
          have e1 := hS.x.c0
          have e2 := hS.x.c1
          have e3 := hS.y.c0
          have e4 := hS.y.c1
          go_wp2_with fail
          go_fit (divMod_any (N := 15) _ hS.x.zr hS.y.zr (by omega))
          rintro e D1 ⟨hd1, B6⟩
          have hS := hS.keep B6
          clear e1 e2 e3 e4
          obtain ⟨uq, aq, nq, cq, ur, ar, nr, cr, q, r, rfl, hZq, hZr, hqr⟩ := dm_prog hd1
          clear hd1
          have hQ := (Vr.new hZq).keep (below_new _ (.cells #[.int .i64 ur, .slice ar nr cr] 31))
          have hR := Vr.second (o1 := .cells #[.int .i64 uq, .slice aq nq cq] 31) hZr
          have hS := hS.keep (below_new2 D1 (.cells #[.int .i64 uq, .slice aq nq cq] 31) (.cells #[.int .i64 ur, .slice ar nr cr] 31))
          have HQR := hide hqr
          clear hqr hZq hZr B6
          have e1 := hS.a.c0
          have e2 := hS.a.c1
          have e3 := hS.b.c0
          have e4 := hS.b.c1
          go_wp2_with fail
          obtain ⟨D2, hD2⟩ : ∃ D2, D2 = (D1.alloc (.cells #[.int .i64 uq, .slice aq nq cq] 31)).alloc (.cells #[.int .i64 ur, .slice ar nr cr] 31) := ⟨_, rfl⟩
          rw [← hD2] at hS hQ hR ⊢
          clear hD2 e1 e2 e3 e4
          go_fit (rdivMod_any (N := 75) _ hS.a.nr hS.b.nr (by omega))
          rintro e D3 ⟨hd3, B7⟩
          obtain ⟨xp, ap, np, cp, xm, am, nm, cm, p, m, rfl, hNp, hNm, hpm⟩ := dm_doc hd3
          obtain ⟨rfl, rfl⟩ := dm_same (unhide HQR) hpm
          have hQ := (hQ.keep B7).keep (below_new2 D3 (.cells #[.bool xp, .slice ap np cp] 24) (.cells #[.bool xm, .slice am nm cm] 24))
          have hR := (hR.keep B7).keep (below_new2 D3 (.cells #[.bool xp, .slice ap np cp] 24) (.cells #[.bool xm, .slice am nm cm] 24))
          have hS := (hS.keep B7).keep (below_new2 D3 (.cells #[.bool xp, .slice ap np cp] 24) (.cells #[.bool xm, .slice am nm cm] 24))
          have hU := (NB.new hNp).keep (below_new _ (.cells #[.bool xm, .slice am nm cm] 24))
          have hV := NB.second (o1 := .cells #[.bool xp, .slice ap np cp] 24) hNm
          clear hpm hd3 hNp hNm B7 HQR
          go_wp2_with fail
          obtain ⟨D4, hD4⟩ : ∃ D4, D4 = (D3.alloc (.cells #[.bool xp, .slice ap np cp] 24)).alloc (.cells #[.bool xm, .slice am nm cm] 24) := ⟨_, rfl⟩
          rw [← hD4] at hS hQ hR hU hV ⊢
          clear hD4
          go_region_held3 (fun w' => Below D4.heap.size D4 w' ∧ w'.cell? ⟨D1.heap.size, 0, none⟩ = some (.int .i64 uq) ∧ w'.cell? ⟨D1.heap.size, 1, none⟩ = some (.slice aq nq cq) ∧ w'.cell? ⟨D1.heap.size + 1, 0, none⟩ = some (.int .i64 ur) ∧ w'.cell? ⟨D1.heap.size + 1, 1, none⟩ = some (.slice ar nr cr) ∧ w'.cell? ⟨D3.heap.size, 0, none⟩ = some (.bool xp) ∧ w'.cell? ⟨D3.heap.size, 1, none⟩ = some (.slice ap np cp) ∧ w'.cell? ⟨D3.heap.size + 1, 0, none⟩ = some (.bool xm) ∧ w'.cell? ⟨D3.heap.size + 1, 1, none⟩ = some (.slice am nm cm))
            (first | exact ⟨(Below.refl _ _).drew, hQ.c0, hQ.c1, hR.c0, hR.c1, hU.c0, hU.c1, hV.c0, hV.c1⟩ | exact keepC8 (by assumption) (by assumption))
            (first | (go_at_call 17; go_fit (text_any _ (hQ.keep (And.left (by assumption))).zr (by omega) (tab_later (unhide HTAB) (below_keep (And.left (by assumption)) hS.B))); rintro e j1 ⟨rfl, hb_j1⟩) | (go_at_call 18; go_fit (rtext_any _ (hU.keep (And.left (by assumption))).nr (by omega)); rintro e j2 ⟨rfl, hb_j2⟩) | (go_at_call 17; go_fit (text_any _ (hR.keep (And.left (by assumption))).zr (by omega) (tab_later (unhide HTAB) (below_keep (And.left (by assumption)) hS.B))); rintro e j3 ⟨rfl, hb_j3⟩) | (go_at_call 18; go_fit (rtext_any _ (hV.keep (And.left (by assumption))).nr (by omega)); rintro e j4 ⟨rfl, hb_j4⟩))
          have hbl := below_keep hb_j4 (below_keep hb_j3 (below_keep hb_j2 (below_keep hb_j1 (Below.refl D4.heap.size D4).drew)))
          have hfin := below_keep hbl hS.B
          go_wp2
          go_ret
          exact ⟨rfl, hfin⟩
        · exact absurd hw (fun h => good_no_wrong (unhide HG2) h)
      · exact absurd hw (fun h => good_no_wrong (unhide HG1) h)
    · have hcp : 0 < code2 := by rw [hcode]; split <;> decide
      clear hcode hg1 hN1
      by_cases hl1 : (400 : Int) < s.size
      · go_wp2
        go_ret
        exact ⟨rfl, BW3⟩
      · by_cases hl2 : (400 : Int) < t.size
        · go_wp2
          go_ret
          exact ⟨rfl, BW3⟩
        · go_wp2
          go_ret
          exact ⟨rfl, BW3⟩
  · have hcp : 0 < code1 := by rw [hcode]; split <;> decide
    clear hcode hc2
    by_cases hl1 : (400 : Int) < s.size
    · go_wp2
      go_ret
      exact ⟨rfl, BW3⟩
    · by_cases hl2 : (400 : Int) < t.size
      · go_wp2
        go_ret
        exact ⟨rfl, BW3⟩
      · go_wp2
        go_ret
        exact ⟨rfl, BW3⟩
end Go.Proofs.YtmhebjeefdanmaaGreatDoor
