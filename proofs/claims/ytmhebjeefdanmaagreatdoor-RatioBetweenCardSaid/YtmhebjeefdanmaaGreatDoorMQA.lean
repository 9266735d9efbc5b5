/-
  Walks over package whole: DivMod of any two numbers; Read, told in short.
  Walks over package ratio: isOne, part, lowest.
  Walks over package ratio: part.
-/
import Derived.Test.YtmhebjeefdanmaaGreatDoorMH
import Derived.Test.YtmhebjeefdanmaaGreatDoorMHB
import Derived.Test.YtmhebjeefdanmaaGreatDoorMW22p
import Derived.Test.YtmhebjeefdanmaaGreatDoorMW22n
import Derived.Test.YtmhebjeefdanmaaGreatDoorMGC
import Derived.Test.YtmhebjeefdanmaaGreatDoorMRE
namespace Go.Proofs.YtmhebjeefdanmaaGreatDoor
open Go.RowKit

theorem divMod_any {N : Nat} {v u : Value} {z o : Int} (w : World) (hz : Zr (N + 1) w v z) (ho : Zr (N + 1) w u o) (hlim : N ≤ 700000) :
    Calls Tryz.prog 28 #[v, u] w fun e w' => ((o = 0 ∧ e = .returned (.tuple #[.agg #[.int .i64 0, .slice none 0 0], .agg #[.int .i64 0, .slice none 0 0], .bool false])) ∨ (o ≠ 0 ∧ ∃ vq vr q r, e = .returned (.tuple #[vq, vr, .bool true]) ∧ Zr (N + 3) w' vq q ∧ Zr (N + 3) w' vr r ∧ q * o + r = z ∧ 0 ≤ r ∧ r < iabs o)) ∧ Below w.heap.size w w' := by
  obtain ⟨x, a1, n1, c1, rfl⟩ := hz.shape
  obtain ⟨y, a2, n2, c2, hu, hsg, _⟩ := ho.sgn
  subst hu
  rcases Int.lt_trichotomy o 0 with h | h | h
  · exact (divMod_neg x y a1 a2 n1 c1 n2 c2 z o w hz ho h hlim).mono fun e w' ⟨h1, h2⟩ => ⟨Or.inr ⟨by omega, h1⟩, h2⟩
  · exact (divMod_zero x y a1 a2 n1 c1 n2 c2 w (by rw [hsg, h]; rfl)).mono fun e w' ⟨h1, h2⟩ => ⟨Or.inl ⟨h, h1⟩, h2⟩
  · exact (divMod_pos x y a1 a2 n1 c1 n2 c2 z o w hz ho h hlim).mono fun e w' ⟨h1, h2⟩ => ⟨Or.inr ⟨by omega, h1⟩, h2⟩
end Go.Proofs.YtmhebjeefdanmaaGreatDoor
namespace Go.Proofs.YtmhebjeefdanmaaGreatDoor
open Go.RowKit

/-- A number that came in, in its box. -/
def B1 (w : World) (x : Int) (a : Option Addr) (n c : Nat) (w' : World) : Prop := Below w.heap.size w w' ∧ w'.cell? ⟨w.heap.size, 0, none⟩ = some (.int .i64 x) ∧ w'.cell? ⟨w.heap.size, 1, none⟩ = some (.slice a n c)
theorem B1.keep {w w1 w2 : World} {x : Int} {a : Option Addr} {n c : Nat} (hb : Below w1.heap.size w1 w2) (h : Below w.heap.size w w1 ∧ w1.cell? ⟨w.heap.size, 0, none⟩ = some (.int .i64 x) ∧ w1.cell? ⟨w.heap.size, 1, none⟩ = some (.slice a n c)) : Below w.heap.size w w2 ∧ w2.cell? ⟨w.heap.size, 0, none⟩ = some (.int .i64 x) ∧ w2.cell? ⟨w.heap.size, 1, none⟩ = some (.slice a n c) :=
  ⟨below_keep hb h.1, cell_keep hb h.2.1, cell_keep hb h.2.2⟩
theorem sgn_eq_zero {z : Int} : (sgn z == 0) = decide (z = 0) := by
  rcases sgn_val z with ⟨a, b, c⟩ | ⟨a, b, c⟩ | ⟨a, b, c⟩ <;> rw [b] <;> simp <;> omega
set_option maxHeartbeats 1000000 in
/-- isOne. -/
theorem isOne_any {N : Nat} {v : Value} {z : Int} (w : World) (hz : Zr (N + 1) w v z) (hN : N ≤ 800000) :
    Calls Tryz.prog 148 #[v] w fun e w' => e = .returned (.bool (decide (z = 1))) ∧ Below w.heap.size w w' := by
  obtain ⟨x, a, n, c, rfl⟩ := hz.shape
  have k1 := below_new w (.cells #[.int .i64 x, .slice a n c] 31)
  have HZ := hide hz
  clear hz
  go_enter Tryz.func148, Tryz.ntmps148
  go_wp2_with fail
  obtain ⟨W1, hW1⟩ : ∃ W1, W1 = w.alloc (.cells #[.int .i64 x, .slice a n c] 31) := ⟨_, rfl⟩
  have hc0 : W1.cell? ⟨w.heap.size, 0, none⟩ = some (.int .i64 x) := by rw [hW1, new_cell rfl]; rfl
  have hc1 : W1.cell? ⟨w.heap.size, 1, none⟩ = some (.slice a n c) := by rw [hW1, new_cell rfl]; rfl
  rw [← hW1] at k1 ⊢
  clear hW1
  go_region_held3 (fun w' => Below w.heap.size w w' ∧ w'.cell? ⟨w.heap.size, 0, none⟩ = some (.int .i64 x) ∧ w'.cell? ⟨w.heap.size, 1, none⟩ = some (.slice a n c))
    (first | exact ⟨k1.drew, hc0, hc1⟩ | exact B1.keep (by assumption) (by assumption))
    (first | (go_at_call 74; go_fit (of_any 1 _); rintro e w2 ⟨rfl, hb2⟩) | (go_at_call 24; go_fit (cmp_any (N := N) (z := z) (o := 1) _ ((unhide HZ).later (And.left (by assumption))) (Zr.near _ (by decide) (by decide)) hN); rintro e w3 ⟨rfl, hb3⟩))
  go_wp2
  go_ret
  refine ⟨ret_bool ?_, below_keep hb3 (below_keep hb2 k1.drew)⟩
  rw [sgn_eq_zero]
  congr 1
  exact propext ⟨fun h => by omega, fun h => by omega⟩
end Go.Proofs.YtmhebjeefdanmaaGreatDoor
namespace Go.Proofs.YtmhebjeefdanmaaGreatDoor
open Go.RowKit

/-- The boxes of two arguments and of an answer of package whole. -/
structure Z2 (w : World) (x : Int) (a1 : Option Addr) (n1 c1 : Nat) (y : Int) (a2 : Option Addr) (n2 c2 : Nat) (wr : World) : Prop where
  below : Below w.heap.size w wr
  box : Box wr (w.heap.size + 2)
  c0 : wr.cell? ⟨w.heap.size, 0, none⟩ = some (.int .i64 x)
  c1 : wr.cell? ⟨w.heap.size, 1, none⟩ = some (.slice a1 n1 c1)
  d0 : wr.cell? ⟨w.heap.size + 1, 0, none⟩ = some (.int .i64 y)
  d1 : wr.cell? ⟨w.heap.size + 1, 1, none⟩ = some (.slice a2 n2 c2)
theorem Z2.keep {w wr w1 : World} {x y : Int} {a1 a2 : Option Addr} {n1 c1 n2 c2 : Nat} (h : Z2 w x a1 n1 c1 y a2 n2 c2 wr) (hb : Below wr.heap.size wr w1) : Z2 w x a1 n1 c1 y a2 n2 c2 w1 :=
  ⟨below_keep hb h.below, h.box.later hb, cell_keep hb h.c0, cell_keep hb h.c1, cell_keep hb h.d0, cell_keep hb h.d1⟩
theorem Z2.start (w : World) (x y : Int) (a1 a2 : Option Addr) (n1 c1 n2 c2 : Nat) : Z2 w x a1 n1 c1 y a2 n2 c2 (((w.alloc (.cells #[.int .i64 x, .slice a1 n1 c1] 31)).alloc (.cells #[.int .i64 y, .slice a2 n2 c2] 31)).alloc (.cells #[.int .i64 0, .slice none 0 0] 31)) := by
  have k1 := below_new w (.cells #[.int .i64 x, .slice a1 n1 c1] 31)
  have k2 := below_new (w.alloc (.cells #[.int .i64 x, .slice a1 n1 c1] 31)) (.cells #[.int .i64 y, .slice a2 n2 c2] 31)
  have k3 := below_new ((w.alloc (.cells #[.int .i64 x, .slice a1 n1 c1] 31)).alloc (.cells #[.int .i64 y, .slice a2 n2 c2] 31)) (.cells #[.int .i64 0, .slice none 0 0] 31)
  refine ⟨below_keep k3 (below_keep k2 k1), ?_, cell_keep k3 (cell_keep k2 ?_), cell_keep k3 (cell_keep k2 ?_), cell_keep k3 ?_, cell_keep k3 ?_⟩
  · have := box_new ((w.alloc (.cells #[.int .i64 x, .slice a1 n1 c1] 31)).alloc (.cells #[.int .i64 y, .slice a2 n2 c2] 31))
    simpa using this
  · rw [new_cell rfl]; rfl
  · rw [new_cell rfl]; rfl
  · rw [new_cell (by simp)]; rfl
  · rw [new_cell (by simp)]; rfl
theorem Z2.lt {w wr : World} {x y : Int} {a1 a2 : Option Addr} {n1 c1 n2 c2 : Nat} (h : Z2 w x a1 n1 c1 y a2 n2 c2 wr) : w.heap.size + 2 < wr.heap.size := by
  obtain ⟨x, a, n, c, h⟩ := h.box
  exact (Array.getElem?_eq_some_iff.1 h).1

set_option maxHeartbeats 1000000 in
/-- part: a number by one that divides it. -/
theorem part_any {N : Nat} {v u : Value} {z d q : Int} (w : World) (hz : Zr (N + 1) w v z) (hd : Zr (N + 1) w u d) (d0 : 0 < d) (he : z = q * d) (hN : N ≤ 700000) :
    Calls Tryz.prog 107 #[v, u] w fun e w' => (∃ v, e = .returned v ∧ Zr (N + 3) w' v q) ∧ Below w.heap.size w w' := by
  obtain ⟨x, a1, n1, c1, rfl⟩ := hz.shape
  obtain ⟨y, a2, n2, c2, rfl⟩ := hd.shape
  have hst := Z2.start w x y a1 a2 n1 c1 n2 c2
  have HE := hide he
  clear he
  go_enter Tryz.func107, Tryz.ntmps107
  go_wp2_with fail
  obtain ⟨W0, hW0⟩ : ∃ W0, W0 = ((w.alloc (.cells #[.int .i64 x, .slice a1 n1 c1] 31)).alloc (.cells #[.int .i64 y, .slice a2 n2 c2] 31)).alloc (.cells #[.int .i64 0, .slice none 0 0] 31) := ⟨_, rfl⟩
  rw [← hW0] at hst ⊢
  clear hW0
  go_fit (isOne_any (N := N) _ (hd.later hst.below) (by omega))
  rintro e W1 ⟨rfl, hb1⟩
  have hst := hst.keep hb1
  clear hb1
  have e1 := hst.c0
  have e2 := hst.c1
  have e3 := hst.d0
  have e4 := hst.d1
  by_cases h1 : d = 1
  · subst h1
    obtain ⟨⟨x0, g0⟩, ⟨a0, n0, c0, g1⟩, gf⟩ := hst.box.cells
    have hlt := hst.lt
    go_wp2
    obtain ⟨st0, st1⟩ := hst.box.stored (.int .i64 x) (.slice a1 n1 c1)
    exact bodyPost_ret (v := .agg #[.int .i64 x, .slice a1 n1 c1]) (by simp [results, Tryz.results107, go_sem, st0, st1]) rfl ⟨⟨_, rfl, (((hz.later hst.below).stored hst.box _ _).mono (by omega)).eq (by have := unhide HE; omega)⟩, below_stored hst.below (by omega) _ _⟩
  · go_wp2_with fail
    go_fit (divMod_any (N := N) _ (hz.later hst.below) (hd.later hst.below) hN)
    rintro e W2 ⟨hd2, hb2⟩
    have hst := hst.keep hb2
    clear hb2 e1 e2 e3 e4
    rcases hd2 with ⟨h, _⟩ | ⟨_, vq, vr, q', r', rfl, hq, hr, e5, r0, r1⟩
    · omega
    · have hqq : q' = q := by
        have hh := unhide HE
        have e : (q' - q) * d = -r' := by rw [Int.sub_mul]; omega
        have hab : iabs d = d := by unfold iabs; rw [if_neg (by omega)]
        rw [hab] at r1
        by_cases g : q' = q
        · exact g
        · exfalso
          rcases Int.lt_or_gt_of_ne g with g | g
          · have : (q' - q) * d ≤ (-1) * d := Int.mul_le_mul_of_nonneg_right (by omega) (by omega)
            omega
          · have : 1 * d ≤ (q' - q) * d := Int.mul_le_mul_of_nonneg_right (by omega) (by omega)
            omega
      subst hqq
      obtain ⟨u3, a3, n3, c3, rfl⟩ := hq.shape
      obtain ⟨u4, a4, n4, c4, rfl⟩ := hr.shape
      have k := below_new2 W2 (.cells #[.int .i64 u3, .slice a3 n3 c3] 31) (.cells #[.int .i64 u4, .slice a4 n4 c4] 31)
      have hst := hst.keep k
      have hq := hq.later k
      have f0 := cell_keep (below_new _ (.cells #[.int .i64 u4, .slice a4 n4 c4] 31)) (show (W2.alloc (.cells #[.int .i64 u3, .slice a3 n3 c3] 31)).cell? ⟨W2.heap.size, 0, none⟩ = some (.int .i64 u3) by rw [new_cell rfl]; rfl)
      have f1 := cell_keep (below_new _ (.cells #[.int .i64 u4, .slice a4 n4 c4] 31)) (show (W2.alloc (.cells #[.int .i64 u3, .slice a3 n3 c3] 31)).cell? ⟨W2.heap.size, 1, none⟩ = some (.slice a3 n3 c3) by rw [new_cell rfl]; rfl)
      obtain ⟨⟨x0, g0⟩, ⟨a0, n0, c0, g1⟩, gf⟩ := hst.box.cells
      have hlt := hst.lt
      clear k
      go_wp2
      obtain ⟨st0, st1⟩ := hst.box.stored (.int .i64 u3) (.slice a3 n3 c3)
      exact bodyPost_ret (v := .agg #[.int .i64 u3, .slice a3 n3 c3]) (by simp [results, Tryz.results107, go_sem, st0, st1]) rfl ⟨⟨_, rfl, hq.stored hst.box _ _⟩, below_stored hst.below (by omega) _ _⟩
end Go.Proofs.YtmhebjeefdanmaaGreatDoor
