/-
  Walks over package ratio: Sign, Num, Den, Neg, times.
  Walks over package ratio: times, Cmp.
  Walks over package ratio: Floor, Ceil.
  Walks over package ratio: Mul.
-/
import Derived.Test.YtpecanpbkbanhaaGreatDoorMQC
namespace Go.Proofs.YtpecanpbkbanhaaGreatDoor
open Go.RowKit
set_option maxHeartbeats 1000000 in
/-- Sign. -/
theorem qsign_any {N : Nat} {v : Value} {p d : Int} (w : World) (h : Rr N w v p d) :
    Calls Tryz.prog 50 #[v] w fun e w' => e = .returned (.int .i64 (sgn p)) ∧ Below w.heap.size w w' := by
  obtain ⟨x, a, n, c, y, b, m, k, e, rfl, h2, h3, d0, hg, hd⟩ := h
  have hst := R1.start w x y a b n c m k
  go_enter Tryz.func50, Tryz.ntmps50
  go_wp2_with fail
  go_fit (sign_zr _ (h2.later hst.below))
  rintro e W1 ⟨rfl, hb1⟩
  have hB := below_keep hb1 hst.below
  go_wp2
  go_ret
  exact ⟨rfl, hB⟩
/-- The box of a fraction that came in, and of a number that is answered. -/
structure RZ (w : World) (x : Int) (a : Option Addr) (n c : Nat) (y : Int) (b : Option Addr) (m k : Nat) (wr : World) : Prop where
  below : Below w.heap.size w wr
  box : Box wr (w.heap.size + 1)
  c0 : wr.cell? ⟨w.heap.size, 0, none⟩ = some (.int .i64 x)
  c1 : wr.cell? ⟨w.heap.size, 1, none⟩ = some (.slice a n c)
  c2 : wr.cell? ⟨w.heap.size, 2, none⟩ = some (.int .i64 y)
  c3 : wr.cell? ⟨w.heap.size, 3, none⟩ = some (.slice b m k)
theorem RZ.keep {w wr w1 : World} {x y : Int} {a b : Option Addr} {n c m k : Nat} (h : RZ w x a n c y b m k wr) (hb : Below wr.heap.size wr w1) : RZ w x a n c y b m k w1 :=
  ⟨below_keep hb h.below, h.box.later hb, cell_keep hb h.c0, cell_keep hb h.c1, cell_keep hb h.c2, cell_keep hb h.c3⟩
theorem RZ.start (w : World) (x y : Int) (a b : Option Addr) (n c m k : Nat) : RZ w x a n c y b m k ((w.alloc (.cells #[.int .i64 x, .slice a n c, .int .i64 y, .slice b m k] 52)).alloc (.cells #[.int .i64 0, .slice none 0 0] 31)) := by
  have h := R1.start w x y a b n c m k
  have k1 := below_new (w.alloc (.cells #[.int .i64 x, .slice a n c, .int .i64 y, .slice b m k] 52)) (.cells #[.int .i64 0, .slice none 0 0] 31)
  refine ⟨below_keep k1 h.below, ?_, cell_keep k1 h.c0, cell_keep k1 h.c1, cell_keep k1 h.c2, cell_keep k1 h.c3⟩
  have := box_new (w.alloc (.cells #[.int .i64 x, .slice a n c, .int .i64 y, .slice b m k] 52))
  simpa using this
theorem RZ.lt {w wr : World} {x y : Int} {a b : Option Addr} {n c m k : Nat} (h : RZ w x a n c y b m k wr) : w.heap.size + 1 < wr.heap.size := by
  obtain ⟨x, a, n, c, h⟩ := h.box
  exact (Array.getElem?_eq_some_iff.1 h).1
set_option maxHeartbeats 1000000 in
/-- Den. -/
theorem den_any {N : Nat} {v : Value} {p d : Int} (w : World) (h : Rr N w v p d) :
    Calls Tryz.prog 38 #[v] w fun e w' => (∃ v, e = .returned v ∧ Zr N w' v d) ∧ Below w.heap.size w w' := by
  have h' := h
  obtain ⟨x, a, n, c, y, b, m, k, e, rfl, h2, h3, d0, hg, hd⟩ := h
  have hst := RZ.start w x y a b n c m k
  go_enter Tryz.func38, Tryz.ntmps38
  go_wp2_with fail
  obtain ⟨W0, hW0⟩ : ∃ W0, W0 = (w.alloc (.cells #[.int .i64 x, .slice a n c, .int .i64 y, .slice b m k] 52)).alloc (.cells #[.int .i64 0, .slice none 0 0] 31) := ⟨_, rfl⟩
  rw [← hW0] at hst ⊢
  clear hW0
  go_fit (isWhole_any _ (h'.later hst.below))
  rintro e W1 ⟨rfl, hb1⟩
  have hst := hst.keep hb1
  clear hb1 h'
  by_cases h1 : d = 1
  · subst h1
    go_wp2_with fail
    go_fit (of_any 1 _)
    rintro e W2 ⟨rfl, hb2⟩
    have hst := hst.keep hb2
    obtain ⟨⟨x0, g0⟩, ⟨a0, n0, c0, g1⟩, gf⟩ := hst.box.cells
    have hlt := hst.lt
    clear hb2
    go_wp2
    obtain ⟨st0, st1⟩ := hst.box.stored (.int .i64 1) (.slice none 0 0)
    exact bodyPost_ret (v := .agg #[.int .i64 1, .slice none 0 0]) (by simp [results, Tryz.results38, go_sem, st0, st1]) rfl ⟨⟨_, rfl, Zr.near _ (by decide) (by decide)⟩, below_stored hst.below (by omega) _ _⟩
  · have he : e = d := by omega
    subst he
    have e3 := hst.c2
    have e4 := hst.c3
    obtain ⟨⟨x0, g0⟩, ⟨a0, n0, c0, g1⟩, gf⟩ := hst.box.cells
    have hlt := hst.lt
    go_wp2
    obtain ⟨st0, st1⟩ := hst.box.stored (.int .i64 y) (.slice b m k)
    exact bodyPost_ret (v := .agg #[.int .i64 y, .slice b m k]) (by simp [results, Tryz.results38, go_sem, st0, st1]) rfl ⟨⟨_, rfl, (h3.later hst.below).stored hst.box _ _⟩, below_stored hst.below (by omega) _ _⟩
/-- The boxes of a fraction that came in and of one that is answered. -/
structure RR (w : World) (x : Int) (a : Option Addr) (n c : Nat) (y : Int) (b : Option Addr) (m k : Nat) (wr : World) : Prop where
  below : Below w.heap.size w wr
  box : RBox wr (w.heap.size + 1)
  c0 : wr.cell? ⟨w.heap.size, 0, none⟩ = some (.int .i64 x)
  c1 : wr.cell? ⟨w.heap.size, 1, none⟩ = some (.slice a n c)
  c2 : wr.cell? ⟨w.heap.size, 2, none⟩ = some (.int .i64 y)
  c3 : wr.cell? ⟨w.heap.size, 3, none⟩ = some (.slice b m k)
theorem RR.keep {w wr w1 : World} {x y : Int} {a b : Option Addr} {n c m k : Nat} (h : RR w x a n c y b m k wr) (hb : Below wr.heap.size wr w1) : RR w x a n c y b m k w1 :=
  ⟨below_keep hb h.below, h.box.later hb, cell_keep hb h.c0, cell_keep hb h.c1, cell_keep hb h.c2, cell_keep hb h.c3⟩
theorem RR.start (w : World) (x y : Int) (a b : Option Addr) (n c m k : Nat) : RR w x a n c y b m k ((w.alloc (.cells #[.int .i64 x, .slice a n c, .int .i64 y, .slice b m k] 52)).alloc (.cells #[.int .i64 0, .slice none 0 0, .int .i64 0, .slice none 0 0] 52)) := by
  have h := R1.start w x y a b n c m k
  have k1 := below_new (w.alloc (.cells #[.int .i64 x, .slice a n c, .int .i64 y, .slice b m k] 52)) (.cells #[.int .i64 0, .slice none 0 0, .int .i64 0, .slice none 0 0] 52)
  refine ⟨below_keep k1 h.below, ?_, cell_keep k1 h.c0, cell_keep k1 h.c1, cell_keep k1 h.c2, cell_keep k1 h.c3⟩
  have := rbox_new (w.alloc (.cells #[.int .i64 x, .slice a n c, .int .i64 y, .slice b m k] 52)) 0 none 0 0 0 none 0 0
  simpa using this
theorem keepR4 {w w1 w2 : World} {r b : Nat} {v0 v1 v2 v3 : Value} (hb : Below w1.heap.size w1 w2) (h : Below w.heap.size w w1 ∧ RBox w1 r ∧ w1.cell? ⟨b, 0, none⟩ = some v0 ∧ w1.cell? ⟨b, 1, none⟩ = some v1 ∧ w1.cell? ⟨b, 2, none⟩ = some v2 ∧ w1.cell? ⟨b, 3, none⟩ = some v3) : Below w.heap.size w w2 ∧ RBox w2 r ∧ w2.cell? ⟨b, 0, none⟩ = some v0 ∧ w2.cell? ⟨b, 1, none⟩ = some v1 ∧ w2.cell? ⟨b, 2, none⟩ = some v2 ∧ w2.cell? ⟨b, 3, none⟩ = some v3 :=
  ⟨below_keep hb h.1, h.2.1.later hb, cell_keep hb h.2.2.1, cell_keep hb h.2.2.2.1, cell_keep hb h.2.2.2.2.1, cell_keep hb h.2.2.2.2.2⟩
theorem storeR4 {w w1 : World} {r b : Nat} {v0 v1 v2 v3 : Value} {x y : Int} {a1 a2 : Option Addr} {n c m k : Nat} (h : Below w.heap.size w w1 ∧ RBox w1 r ∧ w1.cell? ⟨b, 0, none⟩ = some v0 ∧ w1.cell? ⟨b, 1, none⟩ = some v1 ∧ w1.cell? ⟨b, 2, none⟩ = some v2 ∧ w1.cell? ⟨b, 3, none⟩ = some v3) (hr : w.heap.size ≤ r) (hb : b ≠ r) :
    let w2 := (((w1.setCell ⟨r, 0, none⟩ (.int .i64 x)).setCell ⟨r, 1, none⟩ (.slice a1 n c)).setCell ⟨r, 2, none⟩ (.int .i64 y)).setCell ⟨r, 3, none⟩ (.slice a2 m k)
    Below w.heap.size w w2 ∧ RBox w2 r ∧ w2.cell? ⟨b, 0, none⟩ = some v0 ∧ w2.cell? ⟨b, 1, none⟩ = some v1 ∧ w2.cell? ⟨b, 2, none⟩ = some v2 ∧ w2.cell? ⟨b, 3, none⟩ = some v3 := by
  intro w2
  obtain ⟨k1, k2, k3, k4, k5, k6⟩ := h
  have hc : ∀ o v, w1.cell? ⟨b, o, none⟩ = some v → w2.cell? ⟨b, o, none⟩ = some v := fun o v hv => by
    show (World.setCell _ _ _).cell? _ = _
    rw [cell?_setCell_ne _ _ _ _ _ _ (by omega), cell?_setCell_ne _ _ _ _ _ _ (by omega), cell?_setCell_ne _ _ _ _ _ _ (by omega), cell?_setCell_ne _ _ _ _ _ _ (by omega)]
    exact hv
  exact ⟨below_rstored k1 hr _ _ _ _, k2.stored' _ _ _ _ _ _ _ _, hc _ _ k3, hc _ _ k4, hc _ _ k5, hc _ _ k6⟩
set_option maxHeartbeats 2000000 in
/-- Neg. -/
theorem qneg_any {N : Nat} {v : Value} {p d : Int} (w : World) (h : Rr (N + 1) w v p d) :
    Calls Tryz.prog 43 #[v] w fun e w' => (∃ v, e = .returned v ∧ Rr (N + 1) w' v (-p) d) ∧ Below w.heap.size w w' := by
  obtain ⟨x, a, n, c, y, b, m, k, e, rfl, h2, h3, d0, hg, hd⟩ := h
  have hst := RR.start w x y a b n c m k
  have hg' : Int.gcd (-p) d = 1 := by rw [Int.neg_gcd]; exact hg
  have HD := hide hd
  clear hd hg
  go_enter Tryz.func43, Tryz.ntmps43
  go_wp2_with fail
  obtain ⟨W0, hW0⟩ : ∃ W0, W0 = (w.alloc (.cells #[.int .i64 x, .slice a n c, .int .i64 y, .slice b m k] 52)).alloc (.cells #[.int .i64 0, .slice none 0 0, .int .i64 0, .slice none 0 0] 52) := ⟨_, rfl⟩
  rw [← hW0] at hst ⊢
  clear hW0
  have hB := hst.below
  have hr := hst.box
  have e0 := hst.c0
  have e1 := hst.c1
  have e2 := hst.c2
  have e3 := hst.c3
  go_region_held3 (fun w' => Below w.heap.size w w' ∧ RBox w' (w.heap.size + 1) ∧ w'.cell? ⟨w.heap.size, 0, none⟩ = some (.int .i64 x) ∧ w'.cell? ⟨w.heap.size, 1, none⟩ = some (.slice a n c) ∧ w'.cell? ⟨w.heap.size, 2, none⟩ = some (.int .i64 y) ∧ w'.cell? ⟨w.heap.size, 3, none⟩ = some (.slice b m k))
    (first | exact ⟨hB.drew, hr, e0, e1, e2, e3⟩ | exact keepR4 (by assumption) (by assumption) | exact storeR4 (by assumption) (by omega) (by omega))
    (first | (go_at_call 18; go_fit (neg_any (N := N) _ (h2.later (And.left (by assumption)))); rintro e q1 ⟨⟨v1, rfl, hN1⟩, hb1⟩; obtain ⟨x1, a1, n1, c1, rfl⟩ := hN1.shape; have hbx := hr.later (w := W0.drew) hb1; obtain ⟨⟨f0, g0⟩, ⟨f1, f2, f3, g1⟩, ⟨f4, g2⟩, ⟨f5, f6, f7, g3⟩, gf⟩ := hbx.cells; have hlt := hbx.lt))
  have hbx := hr.later (w := W0.drew) hb1
  have hB1 := below_keep hb1 hB.drew
  clear hst
  go_wp2
  obtain ⟨st0, st1, st2, st3⟩ := hbx.stored (.int .i64 x1) (.slice a1 n1 c1) (.int .i64 y) (.slice b m k)
  exact bodyPost_ret (v := .agg #[.int .i64 x1, .slice a1 n1 c1, .int .i64 y, .slice b m k]) (by simp [results, Tryz.results43, go_sem, st0, st1, st2, st3]) rfl ⟨⟨_, rfl, _, _, _, _, _, _, _, _, e, rfl, hN1.rstored hbx _ _ _ _, (h3.later hB1).rstored hbx _ _ _ _, d0, hg', unhide HD⟩, below_rstored hB1 (by omega) _ _ _ _⟩
end Go.Proofs.YtpecanpbkbanhaaGreatDoor
namespace Go.Proofs.YtpecanpbkbanhaaGreatDoor
open Go.RowKit
/-- The boxes of a fraction and a number that came in, and of a number that is answered. -/
structure RZZ (w : World) (x : Int) (a : Option Addr) (n c : Nat) (y : Int) (b : Option Addr) (m k : Nat) (u : Int) (a' : Option Addr) (n' c' : Nat) (wr : World) : Prop where
  below : Below w.heap.size w wr
  box : Box wr (w.heap.size + 2)
  c0 : wr.cell? ⟨w.heap.size, 0, none⟩ = some (.int .i64 x)
  c1 : wr.cell? ⟨w.heap.size, 1, none⟩ = some (.slice a n c)
  c2 : wr.cell? ⟨w.heap.size, 2, none⟩ = some (.int .i64 y)
  c3 : wr.cell? ⟨w.heap.size, 3, none⟩ = some (.slice b m k)
  d0 : wr.cell? ⟨w.heap.size + 1, 0, none⟩ = some (.int .i64 u)
  d1 : wr.cell? ⟨w.heap.size + 1, 1, none⟩ = some (.slice a' n' c')
theorem RZZ.keep {w wr w1 : World} {x y u : Int} {a b a' : Option Addr} {n c m k n' c' : Nat} (h : RZZ w x a n c y b m k u a' n' c' wr) (hb : Below wr.heap.size wr w1) : RZZ w x a n c y b m k u a' n' c' w1 :=
  ⟨below_keep hb h.below, h.box.later hb, cell_keep hb h.c0, cell_keep hb h.c1, cell_keep hb h.c2, cell_keep hb h.c3, cell_keep hb h.d0, cell_keep hb h.d1⟩
theorem RZZ.start (w : World) (x y u : Int) (a b a' : Option Addr) (n c m k n' c' : Nat) : RZZ w x a n c y b m k u a' n' c' (((w.alloc (.cells #[.int .i64 x, .slice a n c, .int .i64 y, .slice b m k] 52)).alloc (.cells #[.int .i64 u, .slice a' n' c'] 31)).alloc (.cells #[.int .i64 0, .slice none 0 0] 31)) := by
  have h := R1.start w x y a b n c m k
  have k1 := below_new2 (w.alloc (.cells #[.int .i64 x, .slice a n c, .int .i64 y, .slice b m k] 52)) (.cells #[.int .i64 u, .slice a' n' c'] 31) (.cells #[.int .i64 0, .slice none 0 0] 31)
  have k2 := below_new ((w.alloc (.cells #[.int .i64 x, .slice a n c, .int .i64 y, .slice b m k] 52)).alloc (.cells #[.int .i64 u, .slice a' n' c'] 31)) (.cells #[.int .i64 0, .slice none 0 0] 31)
  refine ⟨below_keep k1 h.below, ?_, cell_keep k1 h.c0, cell_keep k1 h.c1, cell_keep k1 h.c2, cell_keep k1 h.c3, cell_keep k2 ?_, cell_keep k2 ?_⟩
  · have := box_new ((w.alloc (.cells #[.int .i64 x, .slice a n c, .int .i64 y, .slice b m k] 52)).alloc (.cells #[.int .i64 u, .slice a' n' c'] 31))
    simpa using this
  · rw [new_cell (by simp)]; rfl
  · rw [new_cell (by simp)]; rfl
theorem RZZ.lt {w wr : World} {x y u : Int} {a b a' : Option Addr} {n c m k n' c' : Nat} (h : RZZ w x a n c y b m k u a' n' c' wr) : w.heap.size + 2 < wr.heap.size := by
  obtain ⟨x, a, n, c, h⟩ := h.box
  exact (Array.getElem?_eq_some_iff.1 h).1
set_option maxHeartbeats 2000000 in
/-- times. -/
theorem qtimes_any {N : Nat} {v u : Value} {p d e' D : Int} (w : World) (h : Rr (N + 1) w v p d) (hu : Zr (N + 1) w u e') (hD : (D = 1 ∧ e' = 0) ∨ (1 < D ∧ e' = D)) (hN : N ≤ 400000) :
    Calls Tryz.prog 133 #[v, u] w fun e w' => (∃ v, e = .returned v ∧ Zr (N + 1 + (N + 1)) w' v (p * D)) ∧ Below w.heap.size w w' := by
  obtain ⟨x, a, n, c, y, b, m, k, e, rfl, h2, h3, d0, hg, hd⟩ := h
  obtain ⟨u', a', n', c', rfl⟩ := hu.shape
  have hst := RZZ.start w x y u' a b a' n c m k n' c'
  go_enter Tryz.func133, Tryz.ntmps133
  go_wp2_with fail
  obtain ⟨W0, hW0⟩ : ∃ W0, W0 = ((w.alloc (.cells #[.int .i64 x, .slice a n c, .int .i64 y, .slice b m k] 52)).alloc (.cells #[.int .i64 u', .slice a' n' c'] 31)).alloc (.cells #[.int .i64 0, .slice none 0 0] 31) := ⟨_, rfl⟩
  rw [← hW0] at hst ⊢
  clear hW0
  go_fit (sign_zr _ (hu.later hst.below))
  rintro e W1 ⟨rfl, hb1⟩
  have hst := hst.keep hb1
  clear hb1
  have e0 := hst.c0
  have e1 := hst.c1
  have e2 := hst.d0
  have e3 := hst.d1
  rcases hD with ⟨rfl, he⟩ | ⟨hD, he⟩
  · rw [sgn_zero he]
    obtain ⟨⟨x0, g0⟩, ⟨a0, n0, c0, g1⟩, gf⟩ := hst.box.cells
    have hlt := hst.lt
    go_wp2
    obtain ⟨st0, st1⟩ := hst.box.stored (.int .i64 x) (.slice a n c)
    exact bodyPost_ret (v := .agg #[.int .i64 x, .slice a n c]) (by simp [results, Tryz.results133, go_sem, st0, st1]) rfl ⟨⟨_, rfl, (((h2.later hst.below).stored hst.box _ _).mono (by omega)).eq (by omega)⟩, below_stored hst.below (by omega) _ _⟩
  · subst he
    rw [sgn_pos (show 0 < e' by omega)]
    go_wp2_with fail
    go_fit (mul_any (N := N) _ (h2.later hst.below) (hu.later hst.below) hN)
    rintro e W2 ⟨⟨v2, rfl, hZ2⟩, hb2⟩
    obtain ⟨x2, a2, n2, c2, rfl⟩ := hZ2.shape
    have hst := hst.keep hb2
    obtain ⟨⟨x0, g0⟩, ⟨a0, n0, c0, g1⟩, gf⟩ := hst.box.cells
    have hlt := hst.lt
    clear hb2 e0 e1 e2 e3
    go_wp2
    obtain ⟨st0, st1⟩ := hst.box.stored (.int .i64 x2) (.slice a2 n2 c2)
    exact bodyPost_ret (v := .agg #[.int .i64 x2, .slice a2 n2 c2]) (by simp [results, Tryz.results133, go_sem, st0, st1]) rfl ⟨⟨_, rfl, hZ2.stored hst.box _ _⟩, below_stored hst.below (by omega) _ _⟩
theorem cmp_signs {p d p' d' : Int} (d0 : 0 < d) (d0' : 0 < d') (h : sgn p ≠ sgn p') : sgn (sgn p - sgn p') = sgn (p * d' - p' * d) := by
  have key : ∀ {p d : Int}, 0 < d → (p < 0 → p * d < 0) ∧ (p = 0 → p * d = 0) ∧ (0 < p → 0 < p * d) := fun {p d} hd => ⟨fun h => Int.mul_neg_of_neg_of_pos h hd, fun h => by rw [h, Int.zero_mul], fun h => Int.mul_pos h hd⟩
  obtain ⟨k1, k2, k3⟩ := key (p := p) d0'
  obtain ⟨k4, k5, k6⟩ := key (p := p') d0
  rcases sgn_val p with ⟨a, b, c⟩ | ⟨a, b, c⟩ | ⟨a, b, c⟩ <;> rcases sgn_val p' with ⟨a', b', c'⟩ | ⟨a', b', c'⟩ | ⟨a', b', c'⟩ <;> rw [b, b'] at h ⊢
  · exact absurd rfl h
  · have := k1 a; have := k5 a'; rw [sgn_neg (by omega), sgn_neg (by omega)]
  · have := k1 a; have := k6 a'; rw [sgn_neg (by omega), sgn_neg (by omega)]
  · have := k2 a; have := k4 a'; rw [sgn_pos (by omega), sgn_pos (by omega)]
  · exact absurd rfl h
  · have := k2 a; have := k6 a'; rw [sgn_neg (by omega), sgn_neg (by omega)]
  · have := k3 a; have := k4 a'; rw [sgn_pos (by omega), sgn_pos (by omega)]
  · have := k3 a; have := k5 a'; rw [sgn_pos (by omega), sgn_pos (by omega)]
  · exact absurd rfl h
theorem two_R (w : World) (x y x' y' : Int) (a b a' b' : Option Addr) (n c m k n' c' m' k' : Nat) :
    let W := (w.alloc (.cells #[.int .i64 x, .slice a n c, .int .i64 y, .slice b m k] 52)).alloc (.cells #[.int .i64 x', .slice a' n' c', .int .i64 y', .slice b' m' k'] 52)
    Below w.heap.size w W ∧ W.cell? ⟨w.heap.size, 0, none⟩ = some (.int .i64 x) ∧ W.cell? ⟨w.heap.size, 1, none⟩ = some (.slice a n c) ∧ W.cell? ⟨w.heap.size, 2, none⟩ = some (.int .i64 y) ∧ W.cell? ⟨w.heap.size, 3, none⟩ = some (.slice b m k) ∧ W.cell? ⟨w.heap.size + 1, 0, none⟩ = some (.int .i64 x') ∧ W.cell? ⟨w.heap.size + 1, 1, none⟩ = some (.slice a' n' c') ∧ W.cell? ⟨w.heap.size + 1, 2, none⟩ = some (.int .i64 y') ∧ W.cell? ⟨w.heap.size + 1, 3, none⟩ = some (.slice b' m' k') := by
  intro W
  have h := R1.start w x y a b n c m k
  have k1 := below_new (w.alloc (.cells #[.int .i64 x, .slice a n c, .int .i64 y, .slice b m k] 52)) (.cells #[.int .i64 x', .slice a' n' c', .int .i64 y', .slice b' m' k'] 52)
  refine ⟨below_keep k1 h.below, cell_keep k1 h.c0, cell_keep k1 h.c1, cell_keep k1 h.c2, cell_keep k1 h.c3, ?_, ?_, ?_, ?_⟩ <;> (show (World.alloc _ _).cell? _ = _; rw [new_cell (by simp)]; rfl)
theorem keepW8 {w w1 w2 : World} {b1 b2 : Nat} {v0 v1 v2 v3 u0 u1 u2 u3 : Value} (hb : Below w1.heap.size w1 w2) (h : Below w.heap.size w w1 ∧ w1.cell? ⟨b1, 0, none⟩ = some v0 ∧ w1.cell? ⟨b1, 1, none⟩ = some v1 ∧ w1.cell? ⟨b1, 2, none⟩ = some v2 ∧ w1.cell? ⟨b1, 3, none⟩ = some v3 ∧ w1.cell? ⟨b2, 0, none⟩ = some u0 ∧ w1.cell? ⟨b2, 1, none⟩ = some u1 ∧ w1.cell? ⟨b2, 2, none⟩ = some u2 ∧ w1.cell? ⟨b2, 3, none⟩ = some u3) :
    Below w.heap.size w w2 ∧ w2.cell? ⟨b1, 0, none⟩ = some v0 ∧ w2.cell? ⟨b1, 1, none⟩ = some v1 ∧ w2.cell? ⟨b1, 2, none⟩ = some v2 ∧ w2.cell? ⟨b1, 3, none⟩ = some v3 ∧ w2.cell? ⟨b2, 0, none⟩ = some u0 ∧ w2.cell? ⟨b2, 1, none⟩ = some u1 ∧ w2.cell? ⟨b2, 2, none⟩ = some u2 ∧ w2.cell? ⟨b2, 3, none⟩ = some u3 :=
  ⟨below_keep hb h.1, cell_keep hb h.2.1, cell_keep hb h.2.2.1, cell_keep hb h.2.2.2.1, cell_keep hb h.2.2.2.2.1, cell_keep hb h.2.2.2.2.2.1, cell_keep hb h.2.2.2.2.2.2.1, cell_keep hb h.2.2.2.2.2.2.2.1, cell_keep hb h.2.2.2.2.2.2.2.2⟩
set_option maxHeartbeats 4000000 in
set_option maxRecDepth 8000 in
/-- Cmp. -/
theorem qcmp_any {N : Nat} {v v' : Value} {p d p' d' : Int} (w : World) (h : Rr (N + 1) w v p d) (h' : Rr (N + 1) w v' p' d') (hN : N ≤ 100000) :
    Calls Tryz.prog 48 #[v, v'] w fun e w' => e = .returned (.int .i64 (sgn (p * d' - p' * d))) ∧ Below w.heap.size w w' := by
  have h0 := h
  have h0' := h'
  obtain ⟨x, a, n, c, y, b, m, k, e, rfl, h2, h3, d0, hg, hd⟩ := h
  obtain ⟨x', a', n', c', y', b', m', k', e', rfl, h2', h3', d0', hg', hd'⟩ := h'
  obtain ⟨hB, e0, e1, e2, e3, f0, f1, f2, f3⟩ := two_R w x y x' y' a b a' b' n c m k n' c' m' k'
  have hs : -1 ≤ sgn p ∧ sgn p ≤ 1 := by rcases sgn_val p with ⟨a, b, c⟩ | ⟨a, b, c⟩ | ⟨a, b, c⟩ <;> omega
  have hs' : -1 ≤ sgn p' ∧ sgn p' ≤ 1 := by rcases sgn_val p' with ⟨a, b, c⟩ | ⟨a, b, c⟩ | ⟨a, b, c⟩ <;> omega
  go_enter Tryz.func48, Tryz.ntmps48
  go_wp2_with fail
  obtain ⟨W0, hW0⟩ : ∃ W0, W0 = (w.alloc (.cells #[.int .i64 x, .slice a n c, .int .i64 y, .slice b m k] 52)).alloc (.cells #[.int .i64 x', .slice a' n' c', .int .i64 y', .slice b' m' k'] 52) := ⟨_, rfl⟩
  rw [← hW0] at hB e0 e1 e2 e3 f0 f1 f2 f3 ⊢
  clear hW0
  have tok1 : True := trivial
  go_region_held3 (fun w' => Below w.heap.size w w' ∧ w'.cell? ⟨w.heap.size, 0, none⟩ = some (.int .i64 x) ∧ w'.cell? ⟨w.heap.size, 1, none⟩ = some (.slice a n c) ∧ w'.cell? ⟨w.heap.size, 2, none⟩ = some (.int .i64 y) ∧ w'.cell? ⟨w.heap.size, 3, none⟩ = some (.slice b m k) ∧ w'.cell? ⟨w.heap.size + 1, 0, none⟩ = some (.int .i64 x') ∧ w'.cell? ⟨w.heap.size + 1, 1, none⟩ = some (.slice a' n' c') ∧ w'.cell? ⟨w.heap.size + 1, 2, none⟩ = some (.int .i64 y') ∧ w'.cell? ⟨w.heap.size + 1, 3, none⟩ = some (.slice b' m' k'))
    (first | exact ⟨hB.drew, e0, e1, e2, e3, f0, f1, f2, f3⟩ | exact keepW8 (by assumption) (by assumption))
    (first | (go_at_call 50; have _t := tok1; go_fit (qsign_any _ (h0.later (And.left (by assumption)))); rintro e q1 ⟨rfl, hb1⟩; clear tok1) | (go_at_call 50; go_fit (qsign_any _ (h0'.later (And.left (by assumption)))); rintro e q2 ⟨rfl, hb2⟩))
  have hS2 : Below w.heap.size w q2 ∧ q2.cell? ⟨w.heap.size, 0, none⟩ = some (.int .i64 x) ∧ q2.cell? ⟨w.heap.size, 1, none⟩ = some (.slice a n c) ∧ q2.cell? ⟨w.heap.size, 2, none⟩ = some (.int .i64 y) ∧ q2.cell? ⟨w.heap.size, 3, none⟩ = some (.slice b m k) ∧ q2.cell? ⟨w.heap.size + 1, 0, none⟩ = some (.int .i64 x') ∧ q2.cell? ⟨w.heap.size + 1, 1, none⟩ = some (.slice a' n' c') ∧ q2.cell? ⟨w.heap.size + 1, 2, none⟩ = some (.int .i64 y') ∧ q2.cell? ⟨w.heap.size + 1, 3, none⟩ = some (.slice b' m' k') := keepW8 hb2 (keepW8 hb1 ⟨hB.drew, e0, e1, e2, e3, f0, f1, f2, f3⟩)
  clear hB e0 e1 e2 e3 f0 f1 f2 f3 hb1 hb2
  obtain ⟨hB, e0, e1, e2, e3, f0, f1, f2, f3⟩ := hS2
  by_cases hsg : sgn p = sgn p'
  · have hsn : (sgn p != sgn p') = false := by simpa using hsg
    have HD := hide hd
    have HD' := hide hd'
    have tok2 : True := trivial
    clear hd hd' hsg
    go_wp2_with fail
    go_region_held3 (fun w' => Below w.heap.size w w' ∧ w'.cell? ⟨w.heap.size, 0, none⟩ = some (.int .i64 x) ∧ w'.cell? ⟨w.heap.size, 1, none⟩ = some (.slice a n c) ∧ w'.cell? ⟨w.heap.size, 2, none⟩ = some (.int .i64 y) ∧ w'.cell? ⟨w.heap.size, 3, none⟩ = some (.slice b m k) ∧ w'.cell? ⟨w.heap.size + 1, 0, none⟩ = some (.int .i64 x') ∧ w'.cell? ⟨w.heap.size + 1, 1, none⟩ = some (.slice a' n' c') ∧ w'.cell? ⟨w.heap.size + 1, 2, none⟩ = some (.int .i64 y') ∧ w'.cell? ⟨w.heap.size + 1, 3, none⟩ = some (.slice b' m' k'))
      (first | exact ⟨hB.drew, e0, e1, e2, e3, f0, f1, f2, f3⟩ | exact keepW8 (by assumption) (by assumption))
      (first | (go_at_call 133; have _t := tok2; go_fit (qtimes_any (N := N) (D := d') _ (h0.later (And.left (by assumption))) (h3'.later (And.left (by assumption))) (unhide HD') (by omega)); rintro e q3 ⟨⟨v3, rfl, hZ3⟩, hb3⟩; clear tok2; obtain ⟨j1, j2, j3, j4, rfl⟩ := hZ3.shape) | (go_at_call 133; go_fit (qtimes_any (N := N) (D := d) _ (h0'.later (And.left (by assumption))) (h3.later (And.left (by assumption))) (unhide HD) (by omega)); rintro e q4 ⟨⟨v4, rfl, hZ4⟩, hb4⟩; obtain ⟨l1, l2, l3, l4, rfl⟩ := hZ4.shape) | (go_at_call 27; go_fit (cmp_any (N := N + 1 + N) _ (hZ3.later hb4) hZ4 (by omega)); rintro e q5 ⟨rfl, hb5⟩))
    have hBf := below_keep hb5 (below_keep hb4 (below_keep hb3 hB.drew))
    go_wp2
    go_ret
    exact ⟨rfl, hBf⟩
  · have hsn : (sgn p != sgn p') = true := by simpa using hsg
    have HCS := hide (cmp_signs d0 d0' hsg)
    have tok2 : True := trivial
    go_wp2_with fail
    go_region_held3 (fun w' => Below w.heap.size w w' ∧ w'.cell? ⟨w.heap.size, 0, none⟩ = some (.int .i64 x) ∧ w'.cell? ⟨w.heap.size, 1, none⟩ = some (.slice a n c) ∧ w'.cell? ⟨w.heap.size, 2, none⟩ = some (.int .i64 y) ∧ w'.cell? ⟨w.heap.size, 3, none⟩ = some (.slice b m k) ∧ w'.cell? ⟨w.heap.size + 1, 0, none⟩ = some (.int .i64 x') ∧ w'.cell? ⟨w.heap.size + 1, 1, none⟩ = some (.slice a' n' c') ∧ w'.cell? ⟨w.heap.size + 1, 2, none⟩ = some (.int .i64 y') ∧ w'.cell? ⟨w.heap.size + 1, 3, none⟩ = some (.slice b' m' k'))
      (first | exact ⟨hB.drew, e0, e1, e2, e3, f0, f1, f2, f3⟩ | exact keepW8 (by assumption) (by assumption) | assumption)
      (first | (go_at_call 50; have _t := tok2; go_fit (qsign_any _ (h0.later (And.left (by assumption)))); rintro e q3 ⟨rfl, hb3⟩; clear tok2) | (go_at_call 50; go_fit (qsign_any _ (h0'.later (And.left (by assumption)))); rintro e q4 ⟨rfl, hb4⟩) | (go_at_call 126; go_fit (cmp_int _ _ _); rintro e q5 ⟨rfl, rfl⟩))
    have hBf := below_keep hb4 (below_keep hb3 hB.drew)
    go_wp2
    go_ret
    exact ⟨ret_int (unhide HCS), hBf⟩
end Go.Proofs.YtpecanpbkbanhaaGreatDoor
namespace Go.Proofs.YtpecanpbkbanhaaGreatDoor
open Go.RowKit
theorem floor_is {p d q r : Int} (h : q * d + r = p) (r0 : 0 ≤ r) (r1 : r < d) : q = p / d := by
  have h1 : p / d = q := by
    rw [← h, Int.add_comm, Int.add_mul_ediv_right _ _ (by omega), Int.ediv_eq_zero_of_lt r0 r1]; omega
  exact h1.symm
end Go.Proofs.YtpecanpbkbanhaaGreatDoor
namespace Go.Proofs.YtpecanpbkbanhaaGreatDoor
open Go.RowKit
/-- Two fractions that came in, and the box of one that is answered. -/
def W10 (w : World) (x : Int) (a : Option Addr) (n c : Nat) (y : Int) (b : Option Addr) (m k : Nat) (x' : Int) (a' : Option Addr) (n' c' : Nat) (y' : Int) (b' : Option Addr) (m' k' : Nat) (w1 : World) : Prop :=
  Below w.heap.size w w1 ∧ RBox w1 (w.heap.size + 2) ∧ w1.cell? ⟨w.heap.size, 0, none⟩ = some (.int .i64 x) ∧ w1.cell? ⟨w.heap.size, 1, none⟩ = some (.slice a n c) ∧ w1.cell? ⟨w.heap.size, 2, none⟩ = some (.int .i64 y) ∧ w1.cell? ⟨w.heap.size, 3, none⟩ = some (.slice b m k) ∧ w1.cell? ⟨w.heap.size + 1, 0, none⟩ = some (.int .i64 x') ∧ w1.cell? ⟨w.heap.size + 1, 1, none⟩ = some (.slice a' n' c') ∧ w1.cell? ⟨w.heap.size + 1, 2, none⟩ = some (.int .i64 y') ∧ w1.cell? ⟨w.heap.size + 1, 3, none⟩ = some (.slice b' m' k')
theorem W10.keep {w w1 w2 : World} {x y x' y' : Int} {a b a' b' : Option Addr} {n c m k n' c' m' k' : Nat} (hb : Below w1.heap.size w1 w2) (h : W10 w x a n c y b m k x' a' n' c' y' b' m' k' w1) : W10 w x a n c y b m k x' a' n' c' y' b' m' k' w2 := by
  obtain ⟨h0, h1, h2, h3, h4, h5, h6, h7, h8, h9⟩ := h
  exact ⟨below_keep hb h0, h1.later hb, cell_keep hb h2, cell_keep hb h3, cell_keep hb h4, cell_keep hb h5, cell_keep hb h6, cell_keep hb h7, cell_keep hb h8, cell_keep hb h9⟩
theorem W10.start (w : World) (x y x' y' : Int) (a b a' b' : Option Addr) (n c m k n' c' m' k' : Nat) :
    W10 w x a n c y b m k x' a' n' c' y' b' m' k' (((w.alloc (.cells #[.int .i64 x, .slice a n c, .int .i64 y, .slice b m k] 52)).alloc (.cells #[.int .i64 x', .slice a' n' c', .int .i64 y', .slice b' m' k'] 52)).alloc (.cells #[.int .i64 0, .slice none 0 0, .int .i64 0, .slice none 0 0] 52)) := by
  obtain ⟨hB, e0, e1, e2, e3, f0, f1, f2, f3⟩ := two_R w x y x' y' a b a' b' n c m k n' c' m' k'
  have k1 := below_new ((w.alloc (.cells #[.int .i64 x, .slice a n c, .int .i64 y, .slice b m k] 52)).alloc (.cells #[.int .i64 x', .slice a' n' c', .int .i64 y', .slice b' m' k'] 52)) (.cells #[.int .i64 0, .slice none 0 0, .int .i64 0, .slice none 0 0] 52)
  refine ⟨below_keep k1 hB, ?_, cell_keep k1 e0, cell_keep k1 e1, cell_keep k1 e2, cell_keep k1 e3, cell_keep k1 f0, cell_keep k1 f1, cell_keep k1 f2, cell_keep k1 f3⟩
  have := rbox_new ((w.alloc (.cells #[.int .i64 x, .slice a n c, .int .i64 y, .slice b m k] 52)).alloc (.cells #[.int .i64 x', .slice a' n' c', .int .i64 y', .slice b' m' k'] 52)) 0 none 0 0 0 none 0 0
  simpa using this
theorem W10.drew {w w1 : World} {x y x' y' : Int} {a b a' b' : Option Addr} {n c m k n' c' m' k' : Nat} (h : W10 w x a n c y b m k x' a' n' c' y' b' m' k' w1) : W10 w x a n c y b m k x' a' n' c' y' b' m' k' w1.drew := ⟨h.1.drew, h.2⟩
theorem W10.lt {w w1 : World} {x y x' y' : Int} {a b a' b' : Option Addr} {n c m k n' c' m' k' : Nat} (h : W10 w x a n c y b m k x' a' n' c' y' b' m' k' w1) : w.heap.size + 2 < w1.heap.size := h.2.1.lt
theorem W10.store {w w1 : World} {x y x' y' : Int} {a b a' b' : Option Addr} {n c m k n' c' m' k' : Nat} (h : W10 w x a n c y b m k x' a' n' c' y' b' m' k' w1) {q : Nat} (hq : w.heap.size + 2 < q) (u u' : Value) : W10 w x a n c y b m k x' a' n' c' y' b' m' k' ((w1.setCell ⟨q, 0, none⟩ u).setCell ⟨q, 1, none⟩ u') := by
  obtain ⟨h0, ⟨r0, r1, r2, r3, r4, r5, r6, r7, hr⟩, h2, h3, h4, h5, h6, h7, h8, h9⟩ := h
  have hc : ∀ b o v, b ≠ q → w1.cell? ⟨b, o, none⟩ = some v → ((w1.setCell ⟨q, 0, none⟩ u).setCell ⟨q, 1, none⟩ u').cell? ⟨b, o, none⟩ = some v := fun b o v hb hv => by
    rw [cell?_setCell_ne _ _ _ _ _ _ (by omega), cell?_setCell_ne _ _ _ _ _ _ (by omega)]; exact hv
  refine ⟨below_stored h0 (by omega) _ _, ⟨r0, r1, r2, r3, r4, r5, r6, r7, ?_⟩, hc _ _ _ (by omega) h2, hc _ _ _ (by omega) h3, hc _ _ _ (by omega) h4, hc _ _ _ (by omega) h5, hc _ _ _ (by omega) h6, hc _ _ _ (by omega) h7, hc _ _ _ (by omega) h8, hc _ _ _ (by omega) h9⟩
  rw [Below.heap_setCell _ _ _ _ (by show w.heap.size + 2 ≠ q; omega), Below.heap_setCell _ _ _ _ (by show w.heap.size + 2 ≠ q; omega)]; exact hr
theorem keepW10 {w w1 w2 : World} {x y x' y' : Int} {a b a' b' : Option Addr} {n c m k n' c' m' k' : Nat} (hb : Below w1.heap.size w1 w2) (h : Below w.heap.size w w1 ∧ RBox w1 (w.heap.size + 2) ∧ w1.cell? ⟨w.heap.size, 0, none⟩ = some (.int .i64 x) ∧ w1.cell? ⟨w.heap.size, 1, none⟩ = some (.slice a n c) ∧ w1.cell? ⟨w.heap.size, 2, none⟩ = some (.int .i64 y) ∧ w1.cell? ⟨w.heap.size, 3, none⟩ = some (.slice b m k) ∧ w1.cell? ⟨w.heap.size + 1, 0, none⟩ = some (.int .i64 x') ∧ w1.cell? ⟨w.heap.size + 1, 1, none⟩ = some (.slice a' n' c') ∧ w1.cell? ⟨w.heap.size + 1, 2, none⟩ = some (.int .i64 y') ∧ w1.cell? ⟨w.heap.size + 1, 3, none⟩ = some (.slice b' m' k')) : Below w.heap.size w w2 ∧ RBox w2 (w.heap.size + 2) ∧ w2.cell? ⟨w.heap.size, 0, none⟩ = some (.int .i64 x) ∧ w2.cell? ⟨w.heap.size, 1, none⟩ = some (.slice a n c) ∧ w2.cell? ⟨w.heap.size, 2, none⟩ = some (.int .i64 y) ∧ w2.cell? ⟨w.heap.size, 3, none⟩ = some (.slice b m k) ∧ w2.cell? ⟨w.heap.size + 1, 0, none⟩ = some (.int .i64 x') ∧ w2.cell? ⟨w.heap.size + 1, 1, none⟩ = some (.slice a' n' c') ∧ w2.cell? ⟨w.heap.size + 1, 2, none⟩ = some (.int .i64 y') ∧ w2.cell? ⟨w.heap.size + 1, 3, none⟩ = some (.slice b' m' k') := W10.keep hb h
end Go.Proofs.YtpecanpbkbanhaaGreatDoor
