/-
  Walks over package ratio: isOne, part, lowest.
  Walks over package ratio: part.
  Package ratio: what a fraction is in memory; lowest, Int, Num, Den, IsWhole, Sign, Text.
-/
import Derived.Test.YtachnndaoogpeaaGreatDoorMWK
import Derived.Test.YtachnndaoogpeaaGreatDoorMW29
import Derived.Test.YtachnndaoogpeaaGreatDoorMGC
import Derived.Test.YtachnndaoogpeaaGreatDoorMRF
import Derived.Test.YtachnndaoogpeaaGreatDoorML4
namespace Go.Proofs.YtachnndaoogpeaaGreatDoor
open Go.RowKit

/-- A number that came in, in its box. -/
def B1 (w : World) (x : Int) (a : Option Addr) (n c : Nat) (w' : World) : Prop := Below w.heap.size w w' ∧ w'.cell? ⟨w.heap.size, 0, none⟩ = some (.int .i64 x) ∧ w'.cell? ⟨w.heap.size, 1, none⟩ = some (.slice a n c)
theorem B1.keep {w w1 w2 : World} {x : Int} {a : Option Addr} {n c : Nat} (hb : Below w1.heap.size w1 w2) (h : Below w.heap.size w w1 ∧ w1.cell? ⟨w.heap.size, 0, none⟩ = some (.int .i64 x) ∧ w1.cell? ⟨w.heap.size, 1, none⟩ = some (.slice a n c)) : Below w.heap.size w w2 ∧ w2.cell? ⟨w.heap.size, 0, none⟩ = some (.int .i64 x) ∧ w2.cell? ⟨w.heap.size, 1, none⟩ = some (.slice a n c) :=
  ⟨below_keep hb h.1, cell_keep hb h.2.1, cell_keep hb h.2.2⟩
theorem sgn_eq_zero {z : Int} : (sgn z == 0) = decide (z = 0) := by
  rcases sgn_val z with ⟨a, b, c⟩ | ⟨a, b, c⟩ | ⟨a, b, c⟩ <;> rw [b] <;> simp <;> omega
set_option maxHeartbeats 1000000 in
/-- isOne. -/
theorem isOne_any {N : Nat} {v : Value} {z : Int} (w : World) (hz : Zr (N + 1) w v z) (hN : N ≤ 800000) :
    Calls Tryz.prog 148 #[v] w fun e w' => e = .returned (.bool (decide (z = 1))) ∧ Below w.heap.size w w' := by
  obtain ⟨x, a, n, c, rfl⟩ := hz.shape
  have k1 := below_new w (.cells #[.int .i64 x, .slice a n c] 31)
  have HZ := hide hz
  clear hz
  go_enter Tryz.func148, Tryz.ntmps148
  go_wp2_with fail
  obtain ⟨W1, hW1⟩ : ∃ W1, W1 = w.alloc (.cells #[.int .i64 x, .slice a n c] 31) := ⟨_, rfl⟩
  have hc0 : W1.cell? ⟨w.heap.size, 0, none⟩ = some (.int .i64 x) := by rw [hW1, new_cell rfl]; rfl
  have hc1 : W1.cell? ⟨w.heap.size, 1, none⟩ = some (.slice a n c) := by rw [hW1, new_cell rfl]; rfl
  rw [← hW1] at k1 ⊢
  clear hW1
  go_region_held3 (fun w' => Below w.heap.size w w' ∧ w'.cell? ⟨w.heap.size, 0, none⟩ = some (.int .i64 x) ∧ w'.cell? ⟨w.heap.size, 1, none⟩ = some (.slice a n c))
    (first | exact ⟨k1.drew, hc0, hc1⟩ | exact B1.keep (by assumption) (by assumption))
    (first | (go_at_call 74; go_fit (of_any 1 _); rintro e w2 ⟨rfl, hb2⟩) | (go_at_call 24; go_fit (cmp_any (N := N) (z := z) (o := 1) _ ((unhide HZ).later (And.left (by assumption))) (Zr.near _ (by decide) (by decide)) hN); rintro e w3 ⟨rfl, hb3⟩))
  go_wp2
  go_ret
  refine ⟨ret_bool ?_, below_keep hb3 (below_keep hb2 k1.drew)⟩
  rw [sgn_eq_zero]
  congr 1
  exact propext ⟨fun h => by omega, fun h => by omega⟩
end Go.Proofs.YtachnndaoogpeaaGreatDoor
namespace Go.Proofs.YtachnndaoogpeaaGreatDoor
open Go.RowKit

/-- The boxes of two arguments and of an answer of package whole. -/
structure Z2 (w : World) (x : Int) (a1 : Option Addr) (n1 c1 : Nat) (y : Int) (a2 : Option Addr) (n2 c2 : Nat) (wr : World) : Prop where
  below : Below w.heap.size w wr
  box : Box wr (w.heap.size + 2)
  c0 : wr.cell? ⟨w.heap.size, 0, none⟩ = some (.int .i64 x)
  c1 : wr.cell? ⟨w.heap.size, 1, none⟩ = some (.slice a1 n1 c1)
  d0 : wr.cell? ⟨w.heap.size + 1, 0, none⟩ = some (.int .i64 y)
  d1 : wr.cell? ⟨w.heap.size + 1, 1, none⟩ = some (.slice a2 n2 c2)
theorem Z2.keep {w wr w1 : World} {x y : Int} {a1 a2 : Option Addr} {n1 c1 n2 c2 : Nat} (h : Z2 w x a1 n1 c1 y a2 n2 c2 wr) (hb : Below wr.heap.size wr w1) : Z2 w x a1 n1 c1 y a2 n2 c2 w1 :=
  ⟨below_keep hb h.below, h.box.later hb, cell_keep hb h.c0, cell_keep hb h.c1, cell_keep hb h.d0, cell_keep hb h.d1⟩
theorem Z2.start (w : World) (x y : Int) (a1 a2 : Option Addr) (n1 c1 n2 c2 : Nat) : Z2 w x a1 n1 c1 y a2 n2 c2 (((w.alloc (.cells #[.int .i64 x, .slice a1 n1 c1] 31)).alloc (.cells #[.int .i64 y, .slice a2 n2 c2] 31)).alloc (.cells #[.int .i64 0, .slice none 0 0] 31)) := by
  have k1 := below_new w (.cells #[.int .i64 x, .slice a1 n1 c1] 31)
  have k2 := below_new (w.alloc (.cells #[.int .i64 x, .slice a1 n1 c1] 31)) (.cells #[.int .i64 y, .slice a2 n2 c2] 31)
  have k3 := below_new ((w.alloc (.cells #[.int .i64 x, .slice a1 n1 c1] 31)).alloc (.cells #[.int .i64 y, .slice a2 n2 c2] 31)) (.cells #[.int .i64 0, .slice none 0 0] 31)
  refine ⟨below_keep k3 (below_keep k2 k1), ?_, cell_keep k3 (cell_keep k2 ?_), cell_keep k3 (cell_keep k2 ?_), cell_keep k3 ?_, cell_keep k3 ?_⟩
  · have := box_new ((w.alloc (.cells #[.int .i64 x, .slice a1 n1 c1] 31)).alloc (.cells #[.int .i64 y, .slice a2 n2 c2] 31))
    simpa using this
  · rw [new_cell rfl]; rfl
  · rw [new_cell rfl]; rfl
  · rw [new_cell (by simp)]; rfl
  · rw [new_cell (by simp)]; rfl
theorem Z2.lt {w wr : World} {x y : Int} {a1 a2 : Option Addr} {n1 c1 n2 c2 : Nat} (h : Z2 w x a1 n1 c1 y a2 n2 c2 wr) : w.heap.size + 2 < wr.heap.size := by
  obtain ⟨x, a, n, c, h⟩ := h.box
  exact (Array.getElem?_eq_some_iff.1 h).1

set_option maxHeartbeats 1000000 in
/-- part: a number by one that divides it. -/
theorem part_any {N : Nat} {v u : Value} {z d q : Int} (w : World) (hz : Zr (N + 1) w v z) (hd : Zr (N + 1) w u d) (d0 : 0 < d) (he : z = q * d) (hN : N ≤ 700000) :
    Calls Tryz.prog 107 #[v, u] w fun e w' => (∃ v, e = .returned v ∧ Zr (N + 3) w' v q) ∧ Below w.heap.size w w' := by
  obtain ⟨x, a1, n1, c1, rfl⟩ := hz.shape
  obtain ⟨y, a2, n2, c2, rfl⟩ := hd.shape
  have hst := Z2.start w x y a1 a2 n1 c1 n2 c2
  have HE := hide he
  clear he
  go_enter Tryz.func107, Tryz.ntmps107
  go_wp2_with fail
  obtain ⟨W0, hW0⟩ : ∃ W0, W0 = ((w.alloc (.cells #[.int .i64 x, .slice a1 n1 c1] 31)).alloc (.cells #[.int .i64 y, .slice a2 n2 c2] 31)).alloc (.cells #[.int .i64 0, .slice none 0 0] 31) := ⟨_, rfl⟩
  rw [← hW0] at hst ⊢
  clear hW0
  go_fit (isOne_any (N := N) _ (hd.later hst.below) (by omega))
  rintro e W1 ⟨rfl, hb1⟩
  have hst := hst.keep hb1
  clear hb1
  have e1 := hst.c0
  have e2 := hst.c1
  have e3 := hst.d0
  have e4 := hst.d1
  by_cases h1 : d = 1
  · subst h1
    obtain ⟨⟨x0, g0⟩, ⟨a0, n0, c0, g1⟩, gf⟩ := hst.box.cells
    have hlt := hst.lt
    go_wp2
    obtain ⟨st0, st1⟩ := hst.box.stored (.int .i64 x) (.slice a1 n1 c1)
    exact bodyPost_ret (v := .agg #[.int .i64 x, .slice a1 n1 c1]) (by simp [results, Tryz.results107, go_sem, st0, st1]) rfl ⟨⟨_, rfl, (((hz.later hst.below).stored hst.box _ _).mono (by omega)).eq (by have := unhide HE; omega)⟩, below_stored hst.below (by omega) _ _⟩
  · go_wp2_with fail
    go_fit (divMod_any (N := N) _ (hz.later hst.below) (hd.later hst.below) hN)
    rintro e W2 ⟨hd2, hb2⟩
    have hst := hst.keep hb2
    clear hb2 e1 e2 e3 e4
    rcases hd2 with ⟨h, _⟩ | ⟨_, vq, vr, q', r', rfl, hq, hr, e5, r0, r1⟩
    · omega
    · have hqq : q' = q := by
        have hh := unhide HE
        have e : (q' - q) * d = -r' := by rw [Int.sub_mul]; omega
        have hab : iabs d = d := by unfold iabs; rw [if_neg (by omega)]
        rw [hab] at r1
        by_cases g : q' = q
        · exact g
        · exfalso
          rcases Int.lt_or_gt_of_ne g with g | g
          · have : (q' - q) * d ≤ (-1) * d := Int.mul_le_mul_of_nonneg_right (by omega) (by omega)
            omega
          · have : 1 * d ≤ (q' - q) * d := Int.mul_le_mul_of_nonneg_right (by omega) (by omega)
            omega
      subst hqq
      obtain ⟨u3, a3, n3, c3, rfl⟩ := hq.shape
      obtain ⟨u4, a4, n4, c4, rfl⟩ := hr.shape
      have k := below_new2 W2 (.cells #[.int .i64 u3, .slice a3 n3 c3] 31) (.cells #[.int .i64 u4, .slice a4 n4 c4] 31)
      have hst := hst.keep k
      have hq := hq.later k
      have f0 := cell_keep (below_new _ (.cells #[.int .i64 u4, .slice a4 n4 c4] 31)) (show (W2.alloc (.cells #[.int .i64 u3, .slice a3 n3 c3] 31)).cell? ⟨W2.heap.size, 0, none⟩ = some (.int .i64 u3) by rw [new_cell rfl]; rfl)
      have f1 := cell_keep (below_new _ (.cells #[.int .i64 u4, .slice a4 n4 c4] 31)) (show (W2.alloc (.cells #[.int .i64 u3, .slice a3 n3 c3] 31)).cell? ⟨W2.heap.size, 1, none⟩ = some (.slice a3 n3 c3) by rw [new_cell rfl]; rfl)
      obtain ⟨⟨x0, g0⟩, ⟨a0, n0, c0, g1⟩, gf⟩ := hst.box.cells
      have hlt := hst.lt
      clear k
      go_wp2
      obtain ⟨st0, st1⟩ := hst.box.stored (.int .i64 u3) (.slice a3 n3 c3)
      exact bodyPost_ret (v := .agg #[.int .i64 u3, .slice a3 n3 c3]) (by simp [results, Tryz.results107, go_sem, st0, st1]) rfl ⟨⟨_, rfl, hq.stored hst.box _ _⟩, below_stored hst.below (by omega) _ _⟩
end Go.Proofs.YtachnndaoogpeaaGreatDoor
namespace Go.Proofs.YtachnndaoogpeaaGreatDoor
open Go.RowKit

/-- WHAT A FRACTION IS IN MEMORY: numerator p and denominator d, in lowest terms, d above 0; a whole number has 0 in the second place. -/
def Rr (N : Nat) (w : World) (v : Value) (p d : Int) : Prop := ∃ x a n c y b m k e, v = .agg #[.int .i64 x, .slice a n c, .int .i64 y, .slice b m k] ∧ Zr N w (.agg #[.int .i64 x, .slice a n c]) p ∧ Zr N w (.agg #[.int .i64 y, .slice b m k]) e ∧ 0 < d ∧ Int.gcd p d = 1 ∧ ((d = 1 ∧ e = 0) ∨ (1 < d ∧ e = d))
theorem Rr.later {N : Nat} {w w' : World} {v : Value} {p d : Int} (h : Rr N w v p d) (hb : Below w.heap.size w w') : Rr N w' v p d := by
  obtain ⟨x, a, n, c, y, b, m, k, e, h1, h2, h3, h4⟩ := h
  exact ⟨x, a, n, c, y, b, m, k, e, h1, h2.later hb, h3.later hb, h4⟩
theorem Rr.mono {N M : Nat} {w : World} {v : Value} {p d : Int} (h : Rr N w v p d) (hM : N ≤ M) : Rr M w v p d := by
  obtain ⟨x, a, n, c, y, b, m, k, e, h1, h2, h3, h4⟩ := h
  exact ⟨x, a, n, c, y, b, m, k, e, h1, h2.mono hM, h3.mono hM, h4⟩
theorem Rr.shape {N : Nat} {w : World} {v : Value} {p d : Int} (h : Rr N w v p d) : ∃ x a n c y b m k, v = .agg #[.int .i64 x, .slice a n c, .int .i64 y, .slice b m k] := by
  obtain ⟨x, a, n, c, y, b, m, k, e, h1, _⟩ := h
  exact ⟨_, _, _, _, _, _, _, _, h1⟩

/-- A box of a fraction: four cells of its own, not frozen. -/
def RBox (w : World) (r : Nat) : Prop := ∃ x a n c y b m k, w.heap[r]? = some (.cells #[.int .i64 x, .slice a n c, .int .i64 y, .slice b m k] 52 (0, 0))
theorem rbox_new (w : World) (x : Int) (a : Option Addr) (n c : Nat) (y : Int) (b : Option Addr) (m k : Nat) : RBox (w.alloc (.cells #[.int .i64 x, .slice a n c, .int .i64 y, .slice b m k] 52)) w.heap.size := ⟨_, _, _, _, _, _, _, _, heap_alloc_new w _⟩
theorem RBox.later {w w' : World} {r : Nat} (h : RBox w r) (hb : Below w.heap.size w w') : RBox w' r := by
  obtain ⟨x, a, n, c, y, b, m, k, h⟩ := h
  exact ⟨x, a, n, c, y, b, m, k, by rw [hb.block r (Array.getElem?_eq_some_iff.1 h).1]; exact h⟩
theorem RBox.cells {w : World} {r : Nat} (h : RBox w r) : (∃ x, w.cell? ⟨r, 0, none⟩ = some (.int .i64 x)) ∧ (∃ a n c, w.cell? ⟨r, 1, none⟩ = some (.slice a n c)) ∧ (∃ x, w.cell? ⟨r, 2, none⟩ = some (.int .i64 x)) ∧ (∃ a n c, w.cell? ⟨r, 3, none⟩ = some (.slice a n c)) ∧ (∀ o, w.frozen? ⟨r, o, none⟩ = false) := by
  obtain ⟨x, a, n, c, y, b, m, k, h⟩ := h
  exact ⟨⟨x, by simp [World.cell?, h]⟩, ⟨a, n, c, by simp [World.cell?, h]⟩, ⟨y, by simp [World.cell?, h]⟩, ⟨b, m, k, by simp [World.cell?, h]⟩, fun o => by simp [World.frozen?, h]⟩
theorem RBox.lt {w : World} {r : Nat} (h : RBox w r) : r < w.heap.size := by
  obtain ⟨x, a, n, c, y, b, m, k, h⟩ := h
  exact (Array.getElem?_eq_some_iff.1 h).1
theorem Row.notR {w : World} {b off r : Nat} {l : List Int} (hr : Row w b off l) (hl : l ≠ []) (h : RBox w r) : b ≠ r := by
  intro e
  subst e
  obtain ⟨x, a, n, c, y, b', m, k, h⟩ := h
  have := hr 0 (List.length_pos_iff.2 hl)
  simp only [World.cell?, h] at this
  match off, this with
  | 0, this => simp at this
  | 1, this => simp at this
  | 2, this => simp at this
  | 3, this => simp at this
  | k + 4, this => simp at this
theorem Zr.rstored {N : Nat} {w : World} {v : Value} {z : Int} {r : Nat} (h : Zr N w v z) (hb : RBox w r) (u0 u1 u2 u3 : Value) : Zr N ((((w.setCell ⟨r, 0, none⟩ u0).setCell ⟨r, 1, none⟩ u1).setCell ⟨r, 2, none⟩ u2).setCell ⟨r, 3, none⟩ u3) v z := by
  rcases h with h | ⟨s, b, off, cap, l, h1, h2, h3, h4, h5, h6, h7, h8, h9, h10, h11⟩
  · exact Or.inl h
  · have hne := h10.notR h5 hb
    refine Or.inr ⟨s, b, off, cap, l, h1, h2, h3, h4, h5, h6, h7, h8, h9, fun k hk => ?_, h11⟩
    rw [cell?_setCell_ne _ _ _ _ _ _ (by omega), cell?_setCell_ne _ _ _ _ _ _ (by omega), cell?_setCell_ne _ _ _ _ _ _ (by omega), cell?_setCell_ne _ _ _ _ _ _ (by omega)]
    exact h10 k hk
theorem RBox.stored {w : World} {r : Nat} (h : RBox w r) (u0 u1 u2 u3 : Value) : ((((w.setCell ⟨r, 0, none⟩ u0).setCell ⟨r, 1, none⟩ u1).setCell ⟨r, 2, none⟩ u2).setCell ⟨r, 3, none⟩ u3).cell? ⟨r, 0, none⟩ = some u0 ∧ ((((w.setCell ⟨r, 0, none⟩ u0).setCell ⟨r, 1, none⟩ u1).setCell ⟨r, 2, none⟩ u2).setCell ⟨r, 3, none⟩ u3).cell? ⟨r, 1, none⟩ = some u1 ∧ ((((w.setCell ⟨r, 0, none⟩ u0).setCell ⟨r, 1, none⟩ u1).setCell ⟨r, 2, none⟩ u2).setCell ⟨r, 3, none⟩ u3).cell? ⟨r, 2, none⟩ = some u2 ∧ ((((w.setCell ⟨r, 0, none⟩ u0).setCell ⟨r, 1, none⟩ u1).setCell ⟨r, 2, none⟩ u2).setCell ⟨r, 3, none⟩ u3).cell? ⟨r, 3, none⟩ = some u3 := by
  obtain ⟨⟨x, c0⟩, ⟨a, n, c, c1⟩, ⟨y, c2⟩, ⟨b, m, k, c3⟩, _⟩ := h.cells
  refine ⟨?_, ?_, ?_, ?_⟩
  · rw [cell?_setCell_ne _ _ _ _ _ _ (by omega), cell?_setCell_ne _ _ _ _ _ _ (by omega), cell?_setCell_ne _ _ _ _ _ _ (by omega)]; exact cell?_setCell_eq c0
  · rw [cell?_setCell_ne _ _ _ _ _ _ (by omega), cell?_setCell_ne _ _ _ _ _ _ (by omega)]
    exact cell?_setCell_eq (u := .slice a n c) (by rw [cell?_setCell_ne _ _ _ _ _ _ (by omega)]; exact c1)
  · rw [cell?_setCell_ne _ _ _ _ _ _ (by omega)]
    exact cell?_setCell_eq (u := .int .i64 y) (by rw [cell?_setCell_ne _ _ _ _ _ _ (by omega), cell?_setCell_ne _ _ _ _ _ _ (by omega)]; exact c2)
  · exact cell?_setCell_eq (u := .slice b m k) (by rw [cell?_setCell_ne _ _ _ _ _ _ (by omega), cell?_setCell_ne _ _ _ _ _ _ (by omega), cell?_setCell_ne _ _ _ _ _ _ (by omega)]; exact c3)
theorem below_rstored {B : Nat} {a w : World} {r : Nat} (h : Below B a w) (hr : B ≤ r) (u0 u1 u2 u3 : Value) : Below B a ((((w.setCell ⟨r, 0, none⟩ u0).setCell ⟨r, 1, none⟩ u1).setCell ⟨r, 2, none⟩ u2).setCell ⟨r, 3, none⟩ u3) := (((h.setCell (p := ⟨r, 0, none⟩) hr u0).setCell (p := ⟨r, 1, none⟩) hr u1).setCell (p := ⟨r, 2, none⟩) hr u2).setCell (p := ⟨r, 3, none⟩) hr u3
theorem Rr.rstored {N : Nat} {w : World} {v : Value} {p d : Int} {r : Nat} (h : Rr N w v p d) (hb : RBox w r) (u0 u1 u2 u3 : Value) : Rr N ((((w.setCell ⟨r, 0, none⟩ u0).setCell ⟨r, 1, none⟩ u1).setCell ⟨r, 2, none⟩ u2).setCell ⟨r, 3, none⟩ u3) v p d := by
  obtain ⟨x, a, n, c, y, b, m, k, e, h1, h2, h3, h4⟩ := h
  exact ⟨x, a, n, c, y, b, m, k, e, h1, h2.rstored hb _ _ _ _, h3.rstored hb _ _ _ _, h4⟩
set_option maxHeartbeats 1000000 in
/-- lowest: of two that have nothing in common. -/
theorem lowest_any {N : Nat} {v u : Value} {p d : Int} (w : World) (hp : Zr (N + 1) w v p) (hd : Zr (N + 1) w u d) (d0 : 0 < d) (hg : Int.gcd p d = 1) (hN : N ≤ 700000) :
    Calls Tryz.prog 108 #[v, u] w fun e w' => (∃ v, e = .returned v ∧ Rr (N + 1) w' v p d) ∧ Below w.heap.size w w' := by
  obtain ⟨x, a1, n1, c1, rfl⟩ := hp.shape
  obtain ⟨y, a2, n2, c2, rfl⟩ := hd.shape
  go_enter Tryz.func108, Tryz.ntmps108
  go_wp2_with fail
  obtain ⟨W0, hW0⟩ : ∃ W0, W0 = ((w.alloc (.cells #[.int .i64 x, .slice a1 n1 c1] 31)).alloc (.cells #[.int .i64 y, .slice a2 n2 c2] 31)).alloc (.cells #[.int .i64 0, .slice none 0 0, .int .i64 0, .slice none 0 0] 52) := ⟨_, rfl⟩
  have k1 := below_new w (.cells #[.int .i64 x, .slice a1 n1 c1] 31)
  have k2 := below_new (w.alloc (.cells #[.int .i64 x, .slice a1 n1 c1] 31)) (.cells #[.int .i64 y, .slice a2 n2 c2] 31)
  have k3 := below_new ((w.alloc (.cells #[.int .i64 x, .slice a1 n1 c1] 31)).alloc (.cells #[.int .i64 y, .slice a2 n2 c2] 31)) (.cells #[.int .i64 0, .slice none 0 0, .int .i64 0, .slice none 0 0] 52)
  have hB := below_keep k3 (below_keep k2 k1)
  have hbx : RBox W0 (w.heap.size + 2) := by
    rw [hW0]
    have := rbox_new ((w.alloc (.cells #[.int .i64 x, .slice a1 n1 c1] 31)).alloc (.cells #[.int .i64 y, .slice a2 n2 c2] 31)) 0 none 0 0 0 none 0 0
    simpa using this
  have e1 : W0.cell? ⟨w.heap.size, 0, none⟩ = some (.int .i64 x) := by rw [hW0]; exact cell_keep k3 (cell_keep k2 (by rw [new_cell rfl]; rfl))
  have e2 : W0.cell? ⟨w.heap.size, 1, none⟩ = some (.slice a1 n1 c1) := by rw [hW0]; exact cell_keep k3 (cell_keep k2 (by rw [new_cell rfl]; rfl))
  have e3 : W0.cell? ⟨w.heap.size + 1, 0, none⟩ = some (.int .i64 y) := by rw [hW0]; exact cell_keep k3 (by rw [new_cell (by simp)]; rfl)
  have e4 : W0.cell? ⟨w.heap.size + 1, 1, none⟩ = some (.slice a2 n2 c2) := by rw [hW0]; exact cell_keep k3 (by rw [new_cell (by simp)]; rfl)
  rw [← hW0] at hB ⊢
  clear hW0 k1 k2 k3
  go_fit (isOne_any (N := N) _ (hd.later hB) (by omega))
  rintro e W1 ⟨rfl, hb1⟩
  have hB := below_keep hb1 hB
  have hbx := hbx.later hb1
  have e1 := cell_keep hb1 e1
  have e2 := cell_keep hb1 e2
  have e3 := cell_keep hb1 e3
  have e4 := cell_keep hb1 e4
  clear hb1
  obtain ⟨⟨x0, g0⟩, ⟨y0, y1, y2, g1⟩, ⟨x3, g2⟩, ⟨z0, z1, z2, g3⟩, gf⟩ := hbx.cells
  have hlt := hbx.lt
  by_cases h1 : d = 1
  · subst h1
    go_wp2
    obtain ⟨st0, st1, st2, st3⟩ := hbx.stored (.int .i64 x) (.slice a1 n1 c1) (.int .i64 0) (.slice none 0 0)
    exact bodyPost_ret (v := .agg #[.int .i64 x, .slice a1 n1 c1, .int .i64 0, .slice none 0 0]) (by simp [results, Tryz.results108, go_sem, st0, st1, st2, st3]) rfl ⟨⟨_, rfl, _, _, _, _, _, _, _, _, 0, rfl, (hp.later hB).rstored hbx _ _ _ _, Zr.near _ (by decide) (by decide), by decide, hg, Or.inl ⟨rfl, rfl⟩⟩, below_rstored hB (by omega) _ _ _ _⟩
  · go_wp2
    obtain ⟨st0, st1, st2, st3⟩ := hbx.stored (.int .i64 x) (.slice a1 n1 c1) (.int .i64 y) (.slice a2 n2 c2)
    exact bodyPost_ret (v := .agg #[.int .i64 x, .slice a1 n1 c1, .int .i64 y, .slice a2 n2 c2]) (by simp [results, Tryz.results108, go_sem, st0, st1, st2, st3]) rfl ⟨⟨_, rfl, _, _, _, _, _, _, _, _, d, rfl, (hp.later hB).rstored hbx _ _ _ _, (hd.later hB).rstored hbx _ _ _ _, d0, hg, Or.inr ⟨by omega, rfl⟩⟩, below_rstored hB (by omega) _ _ _ _⟩
end Go.Proofs.YtachnndaoogpeaaGreatDoor
