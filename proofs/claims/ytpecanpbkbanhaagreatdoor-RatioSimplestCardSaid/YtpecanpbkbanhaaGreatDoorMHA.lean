/-
  Walks over the fractions of the document: Small of 0, Whole, Int.
  The mathematics of the simplest fraction between two.
  A fraction of the document's in its box; numbers of the document's in a row.
-/
import Derived.Test.YtpecanpbkbanhaaGreatDoorMRE
import Derived.Test.YtpecanpbkbanhaaGreatDoorMQB
import Derived.Test.YtpecanpbkbanhaaGreatDoorMTB
import Derived.Test.YtpecanpbkbanhaaGreatDoorMQE
namespace Go.Proofs.YtpecanpbkbanhaaGreatDoor
open Go.RowKit
set_option maxHeartbeats 1000000 in
set_option maxRecDepth 8000 in
/-- Small of 0. -/
theorem rsmall_zero (w : World) :
    Calls Tryz.prog 128 #[.int .i64 0] w fun e w' => (∃ v, e = .returned v ∧ Nr 0 w' v 0) ∧ Below w.heap.size w w' := by
  have hbx := nbox_new w false none 0 0
  have hk0 := below_new w (.cells #[.bool false, .slice none 0 0] 24)
  go_enter Tryz.func128, Tryz.ntmps128
  go_wp2_with fail
  go_loopg [0, 4] 0 (fun k nv dv wr => nv = .int .i64 0 ∧ dv = .slice none 0 0 ∧ Below w.heap.size w wr ∧ NBox wr w.heap.size)
  case atStart => exact ⟨rfl, rfl, hk0, hbx⟩
  case round =>
    obtain ⟨rfl, rfl, hB, hbx1⟩ := hrel
    obtain ⟨⟨x0, g0⟩, ⟨a0, n0, c0, g1⟩, gf⟩ := hbx1.cells
    have hlt : w.heap.size < wr.heap.size := World.block_lt_of_cell? wr _ g0
    go_wp2
    obtain ⟨st0, st1⟩ := hbx1.stored (.bool false) (.slice none 0 0)
    exact bodyPost_ret (v := .agg #[.bool false, .slice none 0 0]) (by simp [results, Tryz.results128, go_sem, st0, st1]) rfl ⟨⟨_, rfl, nr_zero _⟩, below_stored hB (Nat.le_refl _) _ _⟩
theorem kh1 {w w1 w2 : World} {v0 v1 : Value} {b : Nat} (hb : Below w1.heap.size w1 w2) (h : Below w.heap.size w w1 ∧ w1.cell? ⟨b, 0, none⟩ = some v0 ∧ w1.cell? ⟨b, 1, none⟩ = some v1) : Below w.heap.size w w2 ∧ w2.cell? ⟨b, 0, none⟩ = some v0 ∧ w2.cell? ⟨b, 1, none⟩ = some v1 := by
  obtain ⟨h0, h1, h2⟩ := h
  exact ⟨below_keep hb h0, cell_keep hb h1, cell_keep hb h2⟩
theorem kh1_store {w w1 : World} {r b : Nat} {v0 v1 u0 u1 u2 u3 : Value} (h : Below w.heap.size w w1 ∧ w1.cell? ⟨b, 0, none⟩ = some v0 ∧ w1.cell? ⟨b, 1, none⟩ = some v1) (hr : w.heap.size ≤ r) (hb : b ≠ r) :
    let w2 := (((w1.setCell ⟨r, 0, none⟩ u0).setCell ⟨r, 1, none⟩ u1).setCell ⟨r, 2, none⟩ u2).setCell ⟨r, 3, none⟩ u3
    Below w.heap.size w w2 ∧ w2.cell? ⟨b, 0, none⟩ = some v0 ∧ w2.cell? ⟨b, 1, none⟩ = some v1 := by
  intro w2
  obtain ⟨k1, k3, k4⟩ := h
  have hc : ∀ o v, w1.cell? ⟨b, o, none⟩ = some v → w2.cell? ⟨b, o, none⟩ = some v := fun o v hv => by
    show (World.setCell _ _ _).cell? _ = _
    rw [cell?_setCell_ne _ _ _ _ _ _ (by omega), cell?_setCell_ne _ _ _ _ _ _ (by omega), cell?_setCell_ne _ _ _ _ _ _ (by omega), cell?_setCell_ne _ _ _ _ _ _ (by omega)]
    exact hv
  exact ⟨below_rstored k1 hr _ _ _ _, hc _ _ k3, hc _ _ k4⟩
set_option maxHeartbeats 4000000 in
set_option maxRecDepth 4000 in
/-- Whole. -/
theorem rwhole_any {N : Nat} {v : Value} {p : Int} (w : World) (h : Nr N w v p) :
    Calls Tryz.prog 206 #[v] w fun e w' => (∃ v, e = .returned v ∧ Qr (N + 1) w' v p 1) ∧ Below w.heap.size w w' := by
  obtain ⟨x, a, n, c, rfl⟩ := h.shape
  have hA := (NB.new h).keep (below_new _ (.cells #[.bool false, .slice none 0 0, .bool false, .slice none 0 0] 56))
  have hB := below_new2 w (.cells #[.bool x, .slice a n c] 24) (.cells #[.bool false, .slice none 0 0, .bool false, .slice none 0 0] 56)
  have hq := qbox_new (w.alloc (.cells #[.bool x, .slice a n c] 24)) false none 0 0 false none 0 0
  rw [show (w.alloc (.cells #[.bool x, .slice a n c] 24)).heap.size = w.heap.size + 1 by simp] at hq
  go_enter Tryz.func206, Tryz.ntmps206
  go_wp2_with fail
  obtain ⟨W0, hW0⟩ : ∃ W0, W0 = (w.alloc (.cells #[.bool x, .slice a n c] 24)).alloc (.cells #[.bool false, .slice none 0 0, .bool false, .slice none 0 0] 56) := ⟨_, rfl⟩
  rw [← hW0] at hA hB hq ⊢
  clear hW0
  have e0 := hA.c0
  have e1 := hA.c1
  go_wp2_with fail
  go_region_held3 (fun w' => Below w.heap.size w w' ∧ w'.cell? ⟨w.heap.size, 0, none⟩ = some (.bool x) ∧ w'.cell? ⟨w.heap.size, 1, none⟩ = some (.slice a n c))
    (first | exact ⟨hB.drew, e0, e1⟩ | exact unhide S1 | exact kh1_store (unhide S1) (by omega) (by omega))
    (first | (go_at_call 128; go_fit (rsmall_any 1 _ (by decide) (by decide)); rintro e W1 ⟨⟨v1, rfl, hN1⟩, hb1⟩; obtain ⟨u1, a1, n1, c1, rfl⟩ := hN1.shape; have S1 := hide (kh1 hb1 ⟨hB.drew, e0, e1⟩); have hbx := hq.later (w := W0.drew) hb1; obtain ⟨⟨j0, g0⟩, ⟨j1, j2, j3, g1⟩, ⟨j4, g2⟩, ⟨j5, j6, j7, g3⟩, gf⟩ := hbx.cells; have hlt := hbx.lt))
  have hB1 := (unhide S1).1
  have hbx := hq.later (w := W0.drew) hb1
  go_wp2
  obtain ⟨st0, st1, st2, st3⟩ := hbx.stored (.bool x) (.slice a n c) (.bool u1) (.slice a1 n1 c1)
  exact bodyPost_ret (v := .agg #[.bool x, .slice a n c, .bool u1, .slice a1 n1 c1]) (by simp [results, Tryz.results206, go_sem, st0, st1, st2, st3]) rfl ⟨⟨_, rfl, ⟨_, _, _, _, _, _, _, _, rfl, ((h.later hB1).mono (by omega)).qstored hbx _ _ _ _, (hN1.mono (by omega)).qstored hbx _ _ _ _, by decide, by simp⟩⟩, below_rstored hB1 (by omega) _ _ _ _⟩
set_option maxHeartbeats 4000000 in
set_option maxRecDepth 4000 in
/-- Int, of what Small knows. -/
theorem rint_of {N : Nat} {i : Int} (w : World) (hs : ∀ w : World, Calls Tryz.prog 128 #[.int .i64 i] w fun e w' => (∃ v, e = .returned v ∧ Nr N w' v i) ∧ Below w.heap.size w w') :
    Calls Tryz.prog 141 #[.int .i64 i] w fun e w' => (∃ v, e = .returned v ∧ Qr (N + 1) w' v i 1) ∧ Below w.heap.size w w' := by
  have hB := below_new w (.cells #[.bool false, .slice none 0 0, .bool false, .slice none 0 0] 56)
  have hq := qbox_new w false none 0 0 false none 0 0
  go_enter Tryz.func141, Tryz.ntmps141
  go_wp2_with fail
  obtain ⟨W0, hW0⟩ : ∃ W0, W0 = w.alloc (.cells #[.bool false, .slice none 0 0, .bool false, .slice none 0 0] 56) := ⟨_, rfl⟩
  rw [← hW0] at hB hq ⊢
  clear hW0
  go_fit (hs _)
  rintro e W1 ⟨⟨v1, rfl, hN1⟩, hb1⟩
  obtain ⟨u1, a1, n1, c1, rfl⟩ := hN1.shape
  have hB := below_keep hb1 hB
  have hq := hq.later hb1
  clear hb1
  go_wp2_with fail
  go_fit (rsmall_any 1 _ (by decide) (by decide))
  rintro e W2 ⟨⟨v2, rfl, hN2⟩, hb2⟩
  obtain ⟨u2, a2, n2, c2, rfl⟩ := hN2.shape
  have hB := below_keep hb2 hB
  have hbx := hq.later hb2
  have hN1 := hN1.later hb2
  clear hb2
  obtain ⟨⟨j0, g0⟩, ⟨j1, j2, j3, g1⟩, ⟨j4, g2⟩, ⟨j5, j6, j7, g3⟩, gf⟩ := hbx.cells
  have hlt := hbx.lt
  go_wp2
  obtain ⟨st0, st1, st2, st3⟩ := hbx.stored (.bool u1) (.slice a1 n1 c1) (.bool u2) (.slice a2 n2 c2)
  exact bodyPost_ret (v := .agg #[.bool u1, .slice a1 n1 c1, .bool u2, .slice a2 n2 c2]) (by simp [results, Tryz.results141, go_sem, st0, st1, st2, st3]) rfl ⟨⟨_, rfl, ⟨_, _, _, _, _, _, _, _, rfl, (hN1.mono (by omega)).qstored hbx _ _ _ _, (hN2.mono (by omega)).qstored hbx _ _ _ _, by decide, by simp⟩⟩, below_rstored hB (by omega) _ _ _ _⟩
theorem rint_one (w : World) : Calls Tryz.prog 141 #[.int .i64 1] w fun e w' => (∃ v, e = .returned v ∧ Qr 2 w' v 1 1) ∧ Below w.heap.size w w' := rint_of (N := 1) w fun w => rsmall_any 1 w (by decide) (by decide)
theorem rint_zero (w : World) : Calls Tryz.prog 141 #[.int .i64 0] w fun e w' => (∃ v, e = .returned v ∧ Qr 1 w' v 0 1) ∧ Below w.heap.size w w' := rint_of (N := 0) w rsmall_zero
end Go.Proofs.YtpecanpbkbanhaaGreatDoor
namespace Go.Proofs.YtpecanpbkbanhaaGreatDoor
open Go.RowKit
/-- The simplest of all fractions from a/b to c/d, by Euclid's way. -/
def sq : Nat → Int → Int → Int → Int → Int × Int
  | 0, _, _, _, _ => (0, 1)
  | f + 1, a, b, c, d =>
    if a % b = 0 then (a / b, 1)
    else if a / b < c / d then (a / b + 1, 1)
    else ((a / b) * (sq f d (c % d) b (a % b)).1 + (sq f d (c % d) b (a % b)).2, (sq f d (c % d) b (a % b)).1)
theorem sq_below {a b c d : Int} (b0 : 0 < b) (d0 : 0 < d) (h : a * d ≤ c * b) : a / b ≤ c / d := by
  have h1 := Int.emod_add_mul_ediv a b
  have h2 := Int.emod_nonneg a (show b ≠ 0 by omega)
  refine (Int.le_ediv_iff_mul_le d0).2 ?_
  have h3 : b * (a / b) ≤ a := by omega
  have h4 : b * (a / b) * d ≤ a * d := Int.mul_le_mul_of_nonneg_right h3 (by omega)
  have h5 : (a / b * d) * b ≤ c * b := by
    have e : (a / b * d) * b = b * (a / b) * d := by grind
    omega
  exact Int.le_of_mul_le_mul_right h5 b0
theorem sq_next {a b c d : Int} (b0 : 0 < b) (d0 : 0 < d) (h : a * d ≤ c * b) (h1 : a % b ≠ 0) (h2 : ¬ a / b < c / d) :
    a / b = c / d ∧ 0 < a % b ∧ a % b < b ∧ 0 < c % d ∧ c % d < d ∧ d * (a % b) ≤ b * (c % d) := by
  have k1 := sq_below b0 d0 h
  have k2 : a / b = c / d := by omega
  have h3 := Int.emod_add_mul_ediv a b
  have h4 := Int.emod_nonneg a (show b ≠ 0 by omega)
  have h5 := Int.emod_lt_of_pos a b0
  have g3 := Int.emod_add_mul_ediv c d
  have g4 := Int.emod_nonneg c (show d ≠ 0 by omega)
  have g5 := Int.emod_lt_of_pos c d0
  have key : d * (a % b) ≤ b * (c % d) := by
    have e1 : a * d = d * (a % b) + b * d * (a / b) := by grind
    have e2 : c * b = b * (c % d) + b * d * (c / d) := by grind
    rw [e1, e2, k2] at h
    omega
  have pos : 0 < d * (a % b) := Int.mul_pos d0 (by omega)
  refine ⟨k2, by omega, h5, ?_, g5, key⟩
  rcases Int.lt_or_eq_of_le g4 with e | e
  · exact e
  · rw [← e] at key
    omega
theorem sq_r1 {a b k y : Int} (h : 0 + b * k = a) : a * y = k * y * b := by rw [← h]; grind
theorem sq_r2 {a b k r P : Int} (h : a = r + b * k) : a * P = k * P * b + P * r := by rw [h]; grind
theorem sq_r3 {c d k r P Q : Int} (h : c = r + d * k) : c * P - (k * P + Q) * d = P * r - d * Q := by rw [h]; grind
theorem sq_r4 {a b k r x y : Int} (h : a = r + b * k) : (x - k * y) * b - r * y = x * b - a * y := by rw [h]; grind
theorem sq_r5 {c d k r x y : Int} (h : c = r + d * k) : y * r - d * (x - k * y) = c * y - x * d := by rw [h]; grind
theorem sq_r6 {a b k r x y : Int} (h : a = r + b * k) : b * (x - k * y) - y * r = x * b - a * y := by rw [h]; grind
/-- What sq finds lies between both, in lowest terms, and none between has a lesser denominator or numerator. -/
theorem sq_good : ∀ (f : Nat) (a b c d : Int), 0 < a → 0 < b → 0 < d → a * d ≤ c * b → b + d ≤ f →
    0 < (sq f a b c d).1 ∧ 0 < (sq f a b c d).2 ∧ Int.gcd (sq f a b c d).1 (sq f a b c d).2 = 1 ∧ a * (sq f a b c d).2 ≤ (sq f a b c d).1 * b ∧ (sq f a b c d).1 * d ≤ c * (sq f a b c d).2 ∧
    ∀ x y : Int, 0 < y → a * y ≤ x * b → x * d ≤ c * y → (sq f a b c d).2 ≤ y ∧ (sq f a b c d).1 ≤ x
  | 0, a, b, c, d, a0, b0, d0, h, hf => by omega
  | f + 1, a, b, c, d, a0, b0, d0, h, hf => by
    have h3 := Int.emod_add_mul_ediv a b
    have h4 := Int.emod_nonneg a (show b ≠ 0 by omega)
    have h5 := Int.emod_lt_of_pos a b0
    have k1 := sq_below b0 d0 h
    have kd : c / d * d ≤ c := Int.ediv_mul_le c (by omega)
    have kn : 0 ≤ a / b := Int.ediv_nonneg (by omega) (by omega)
    unfold sq
    split
    · rename_i h1
      rw [h1] at h3
      have kp : 0 < a / b := by
        rcases Int.lt_or_eq_of_le kn with e | e
        · exact e
        · rw [← e] at h3
          omega
      have kk : a / b * d ≤ c / d * d := Int.mul_le_mul_of_nonneg_right k1 (by omega)
      refine ⟨kp, Int.one_pos, by simp, by show a * 1 ≤ a / b * b; rw [Int.mul_comm (a / b)]; omega, by show a / b * d ≤ c * 1; omega, fun x y y0 hx hy => ⟨by show (1 : Int) ≤ y; omega, ?_⟩⟩
      have e1 : (a / b * y) * b ≤ x * b := by rw [← sq_r1 h3]; exact hx
      have e2 := Int.le_of_mul_le_mul_right e1 b0
      have e3 : a / b * 1 ≤ a / b * y := Int.mul_le_mul_of_nonneg_left (by omega) kn
      show a / b ≤ x
      omega
    · rename_i h1
      split
      · rename_i h2
        have kk : (a / b + 1) * d ≤ c / d * d := Int.mul_le_mul_of_nonneg_right (by omega) (by omega)
        refine ⟨by show 0 < a / b + 1; omega, Int.one_pos, by simp, by show a * 1 ≤ (a / b + 1) * b; rw [Int.add_mul, Int.mul_comm (a / b)]; omega, by show (a / b + 1) * d ≤ c * 1; omega, fun x y y0 hx hy => ⟨by show (1 : Int) ≤ y; omega, ?_⟩⟩
        show a / b + 1 ≤ x
        have e1 : a * 1 ≤ a * y := Int.mul_le_mul_of_nonneg_left (by omega) (by omega)
        have e2 : (a / b) * b < x * b := by rw [Int.mul_comm (a / b)]; omega
        have := Int.lt_of_mul_lt_mul_right e2 (by omega)
        omega
      · rename_i h2
        obtain ⟨e, r0, r1, s0, s1, hk⟩ := sq_next b0 d0 h h1 h2
        obtain ⟨P0, Q0, hg, lo, hi, hm⟩ := sq_good f d (c % d) b (a % b) d0 s0 r0 hk (by omega)
        generalize hP : (sq f d (c % d) b (a % b)).1 = P at *
        generalize hQ : (sq f d (c % d) b (a % b)).2 = Q at *
        have g3 := Int.emod_add_mul_ediv c d
        have kP : 0 ≤ a / b * P := Int.mul_nonneg kn (by omega)
        refine ⟨by show 0 < a / b * P + Q; omega, P0, ?_, ?_, ?_, fun x y y0 hx hy => ?_⟩
        · show Int.gcd (a / b * P + Q) P = 1
          rw [Int.gcd_comm, Int.gcd_mul_right_add_right]
          exact hg
        · show a * P ≤ (a / b * P + Q) * b
          rw [sq_r2 h3.symm, Int.add_mul, Int.mul_comm Q b]
          omega
        · show (a / b * P + Q) * d ≤ c * P
          have := sq_r3 (P := P) (Q := Q) g3.symm
          rw [e]
          omega
        · have y1 : 0 < x - a / b * y := by
            have e1 : (a % b) * y ≤ (x - a / b * y) * b := by have := sq_r4 (x := x) (y := y) h3.symm; omega
            have e2 : 0 < (a % b) * y := Int.mul_pos r0 y0
            exact Int.pos_of_mul_pos_left (by omega) b0
          obtain ⟨m1, m2⟩ := hm y (x - a / b * y) y1 (by have := sq_r5 (x := x) (y := y) g3.symm; rw [e]; omega) (by have := sq_r6 (x := x) (y := y) h3.symm; omega)
          refine ⟨m2, ?_⟩
          show a / b * P + Q ≤ x
          have e3 : a / b * P ≤ a / b * y := Int.mul_le_mul_of_nonneg_left m2 kn
          omega
theorem sq_whole {f : Nat} {a b c d : Int} (h : a % b = 0) : sq (f + 1) a b c d = (a / b, 1) := by
  unfold sq
  rw [if_pos h]
theorem sq_up {f : Nat} {a b c d : Int} (h : a % b ≠ 0) (h2 : a / b < c / d) : sq (f + 1) a b c d = (a / b + 1, 1) := by
  unfold sq
  rw [if_neg h, if_pos h2]
theorem sq_step {f : Nat} {a b c d : Int} (h : a % b ≠ 0) (h2 : ¬ a / b < c / d) : sq (f + 1) a b c d = ((a / b) * (sq f d (c % d) b (a % b)).1 + (sq f d (c % d) b (a % b)).2, (sq f d (c % d) b (a % b)).1) := by
  rw [sq, if_neg h, if_neg h2]
/-- Numbers, and what stands behind them: a number, and 1 by a number, and .. -/
def blt : List Int → Int × Int → Int × Int
  | [], r => r
  | k :: ks, r => (k * (blt ks r).1 + (blt ks r).2, (blt ks r).1)
theorem blt_snoc (k : Int) (r : Int × Int) : ∀ ks : List Int, blt (ks ++ [k]) r = blt ks (k * r.1 + r.2, r.1)
  | [] => rfl
  | j :: ks => by
    show (j * (blt (ks ++ [k]) r).1 + (blt (ks ++ [k]) r).2, (blt (ks ++ [k]) r).1) = _
    rw [blt_snoc k r ks]
    rfl
theorem blt_pos {r : Int × Int} (h1 : 0 < r.1) (h2 : 0 < r.2) (hg : Int.gcd r.1 r.2 = 1) : ∀ ks : List Int, (∀ k ∈ ks, 0 ≤ k) → 0 < (blt ks r).1 ∧ 0 < (blt ks r).2 ∧ Int.gcd (blt ks r).1 (blt ks r).2 = 1
  | [], _ => ⟨h1, h2, hg⟩
  | k :: ks, h => by
    obtain ⟨a, b, c⟩ := blt_pos h1 h2 hg ks (fun x hx => h x (List.mem_cons_of_mem _ hx))
    have hk := h k List.mem_cons_self
    have := Int.mul_nonneg hk (Int.le_of_lt a)
    refine ⟨by show 0 < k * (blt ks r).1 + (blt ks r).2; omega, a, ?_⟩
    show Int.gcd (k * (blt ks r).1 + (blt ks r).2) (blt ks r).1 = 1
    rw [Int.gcd_comm, Int.gcd_mul_right_add_right]
    exact c
/-- How a chain of numbers stands to the fractions whose parts it holds. -/
structure Chn (a0 b0 c0 d0 n m ln lm a b c d : Int) : Prop where
  n0 : 0 ≤ n
  m0 : 0 ≤ m
  ln0 : 0 ≤ ln
  lm0 : 0 ≤ lm
  det : n * lm - ln * m = 1 ∨ n * lm - ln * m = -1
  same : (n * a + ln * b = a0 ∧ m * a + lm * b = b0 ∧ n * c + ln * d = c0 ∧ m * c + lm * d = d0) ∨ (n * a + ln * b = c0 ∧ m * a + lm * b = d0 ∧ n * c + ln * d = a0 ∧ m * c + lm * d = b0)
theorem Chn.start (a b c d : Int) : Chn a b c d 1 0 0 1 a b c d := ⟨by decide, by decide, by decide, by decide, Or.inl (by decide), Or.inl ⟨by omega, by omega, by omega, by omega⟩⟩
theorem chn_r1 {n ln a b k r : Int} (h : a = r + b * k) : (k * n + ln) * b + n * r = n * a + ln * b := by rw [h]; grind
theorem chn_r2 {n m ln lm k : Int} : (k * n + ln) * m - n * (k * m + lm) = -(n * lm - ln * m) := by grind
theorem Chn.step {a0 b0 c0 d0 n m ln lm a b c d : Int} (h : Chn a0 b0 c0 d0 n m ln lm a b c d) (k0 : 0 ≤ a / b) (hk : a / b = c / d) : Chn a0 b0 c0 d0 (a / b * n + ln) (a / b * m + lm) n m d (c % d) b (a % b) := by
  have h3 := (Int.emod_add_mul_ediv a b).symm
  have g3 := (Int.emod_add_mul_ediv c d).symm
  rw [← hk] at g3
  have e1 := Int.mul_nonneg k0 h.n0
  have e2 := Int.mul_nonneg k0 h.m0
  have := h.ln0
  have := h.lm0
  refine ⟨by omega, by omega, h.n0, h.m0, ?_, ?_⟩
  · have e := chn_r2 (n := n) (m := m) (ln := ln) (lm := lm) (k := a / b)
    rcases h.det with d | d <;> omega
  · rw [chn_r1 h3, chn_r1 h3, chn_r1 g3, chn_r1 g3]
    rcases h.same with ⟨q1, q2, q3, q4⟩ | ⟨q1, q2, q3, q4⟩
    · exact Or.inr ⟨q3, q4, q1, q2⟩
    · exact Or.inl ⟨q3, q4, q1, q2⟩
/-- The numbers of a chain are not above those of its fractions. -/
theorem Chn.small {a0 b0 c0 d0 n m ln lm a b c d M : Int} (h : Chn a0 b0 c0 d0 n m ln lm a b c d) (a1 : 0 < a) (b1 : 0 < b) (ha : a0 ≤ M) (hb : b0 ≤ M) (hc : c0 ≤ M) (hd : d0 ≤ M) : n ≤ M ∧ m ≤ M ∧ ln ≤ M ∧ lm ≤ M ∧ n * (a / b) ≤ M ∧ m * (a / b) ≤ M := by
  obtain ⟨h1, h2, h3, h4, -, hs⟩ := h
  have key : ∀ x y X : Int, 0 ≤ x → 0 ≤ y → x * a + y * b = X → X ≤ M → x ≤ M ∧ y ≤ M ∧ x * (a / b) ≤ M := by
    intro x y X hx hy he hX
    have k1 : x * 1 ≤ x * a := Int.mul_le_mul_of_nonneg_left (by omega) hx
    have k2 : y * 1 ≤ y * b := Int.mul_le_mul_of_nonneg_left (by omega) hy
    have k3 : a / b ≤ a := Int.ediv_le_self _ (by omega)
    have k4 : x * (a / b) ≤ x * a := Int.mul_le_mul_of_nonneg_left k3 hx
    exact ⟨by omega, by omega, by omega⟩
  rcases hs with ⟨q1, q2, _, _⟩ | ⟨q1, q2, _, _⟩
  · obtain ⟨a1, a2, a3⟩ := key _ _ _ h1 h3 q1 ha
    obtain ⟨b1, b2, b3⟩ := key _ _ _ h2 h4 q2 hb
    exact ⟨a1, b1, a2, b2, a3, b3⟩
  · obtain ⟨a1, a2, a3⟩ := key _ _ _ h1 h3 q1 hc
    obtain ⟨b1, b2, b3⟩ := key _ _ _ h2 h4 q2 hd
    exact ⟨a1, b1, a2, b2, a3, b3⟩
/-- The simplest of all fractions from p/d to p'/d'. -/
def simplest (p d p' d' : Int) : Int × Int := if 0 < p then sq (d + d').toNat p d p' d' else if p' < 0 then (-(sq (d' + d).toNat (-p') d' (-p) d).1, (sq (d' + d).toNat (-p') d' (-p) d).2) else (0, 1)
end Go.Proofs.YtpecanpbkbanhaaGreatDoor
namespace Go.Proofs.YtpecanpbkbanhaaGreatDoor
open Go.RowKit
theorem Qr.fit {N M : Nat} {w : World} {v : Value} {p d : Int} (h : Qr N w v p d) (h0 : -10000 ^ M < p) (h1 : p < 10000 ^ M) (h2 : d < 10000 ^ M) : Qr M w v p d := by
  obtain ⟨x, a, n, c, y, b, m, k, e, g1, g2, d0, hg⟩ := h
  have : (0 : Int) < 10000 ^ M := Int.pow_pos (by decide)
  exact ⟨x, a, n, c, y, b, m, k, e, g1.fit h0 h1, g2.fit (by omega) h2, d0, hg⟩
theorem Qr.low {N : Nat} {w : World} {v : Value} {P D p d o z : Int} (h : Qr N w v P D) (ho : o ≠ 0) (e : P * o = z * D) (d0 : 0 < d) (hg : Int.gcd p d = 1) (e' : p * o = z * d) : P = p ∧ D = d := by
  obtain ⟨_, _, _, _, _, _, _, _, _, _, _, D0, hG⟩ := h
  exact lowest_one ho e e' D0 d0 hG hg
theorem Qr.qstored {N : Nat} {w : World} {v : Value} {p d : Int} {r : Nat} (h : Qr N w v p d) (hb : QBox w r) (u0 u1 u2 u3 : Value) : Qr N ((((w.setCell ⟨r, 0, none⟩ u0).setCell ⟨r, 1, none⟩ u1).setCell ⟨r, 2, none⟩ u2).setCell ⟨r, 3, none⟩ u3) v p d := by
  obtain ⟨x, a, n, c, y, b, m, k, e, g1, g2, g3⟩ := h
  exact ⟨x, a, n, c, y, b, m, k, e, g1.qstored hb _ _ _ _, g2.qstored hb _ _ _ _, g3⟩
theorem QBox.after {w : World} {r : Nat} (h : QBox w r) (x y : Bool) (a b : Option Addr) (n c m k : Nat) : QBox ((((w.setCell ⟨r, 0, none⟩ (.bool x)).setCell ⟨r, 1, none⟩ (.slice a n c)).setCell ⟨r, 2, none⟩ (.bool y)).setCell ⟨r, 3, none⟩ (.slice b m k)) r := by
  obtain ⟨x', a', n', c', y', b', m', k', h⟩ := h
  exact ⟨x, a, n, c, y, b, m, k, by simp [World.setCell, Array.getElem?_modify, h]⟩
theorem QBox.aside {w : World} {b q : Nat} (h : QBox w b) (hne : b ≠ q) (u0 u1 u2 u3 : Value) : QBox ((((w.setCell ⟨q, 0, none⟩ u0).setCell ⟨q, 1, none⟩ u1).setCell ⟨q, 2, none⟩ u2).setCell ⟨q, 3, none⟩ u3) b := by
  obtain ⟨x, a, n, c, y, b', m, k, h⟩ := h
  exact ⟨x, a, n, c, y, b', m, k, by rw [Below.heap_setCell _ _ _ _ hne, Below.heap_setCell _ _ _ _ hne, Below.heap_setCell _ _ _ _ hne, Below.heap_setCell _ _ _ _ hne]; exact h⟩
/-- A fraction of the document's in its box. -/
structure QB (w : World) (r : Nat) (x : Bool) (a : Option Addr) (n c : Nat) (y : Bool) (b : Option Addr) (m k : Nat) (N : Nat) (p d : Int) : Prop where
  c0 : w.cell? ⟨r, 0, none⟩ = some (.bool x)
  c1 : w.cell? ⟨r, 1, none⟩ = some (.slice a n c)
  c2 : w.cell? ⟨r, 2, none⟩ = some (.bool y)
  c3 : w.cell? ⟨r, 3, none⟩ = some (.slice b m k)
  box : QBox w r
  qr : Qr N w (.agg #[.bool x, .slice a n c, .bool y, .slice b m k]) p d
theorem QB.keep {w w1 : World} {r : Nat} {x y : Bool} {a b : Option Addr} {n c m k N : Nat} {p d : Int} (h : QB w r x a n c y b m k N p d) (hb : Below w.heap.size w w1) : QB w1 r x a n c y b m k N p d :=
  ⟨cell_keep hb h.c0, cell_keep hb h.c1, cell_keep hb h.c2, cell_keep hb h.c3, h.box.later hb, h.qr.later hb⟩
theorem QB.drew {w : World} {r : Nat} {x y : Bool} {a b : Option Addr} {n c m k N : Nat} {p d : Int} (h : QB w r x a n c y b m k N p d) : QB w.drew r x a n c y b m k N p d := ⟨h.c0, h.c1, h.c2, h.c3, h.box, h.qr⟩
theorem QB.new {w : World} {x y : Bool} {a b : Option Addr} {n c m k N : Nat} {p d : Int} (h : Qr N w (.agg #[.bool x, .slice a n c, .bool y, .slice b m k]) p d) : QB (w.alloc (.cells #[.bool x, .slice a n c, .bool y, .slice b m k] 56)) w.heap.size x a n c y b m k N p d :=
  ⟨by rw [new_cell rfl]; rfl, by rw [new_cell rfl]; rfl, by rw [new_cell rfl]; rfl, by rw [new_cell rfl]; rfl, qbox_new _ _ _ _ _ _ _ _ _, h.later (below_new w _)⟩
theorem QB.put {w : World} {r : Nat} {x y : Bool} {a b : Option Addr} {n c m k N : Nat} {p d : Int} (hr : QBox w r) (h : Qr N w (.agg #[.bool x, .slice a n c, .bool y, .slice b m k]) p d) : QB ((((w.setCell ⟨r, 0, none⟩ (.bool x)).setCell ⟨r, 1, none⟩ (.slice a n c)).setCell ⟨r, 2, none⟩ (.bool y)).setCell ⟨r, 3, none⟩ (.slice b m k)) r x a n c y b m k N p d := by
  obtain ⟨s0, s1, s2, s3⟩ := hr.stored (.bool x) (.slice a n c) (.bool y) (.slice b m k)
  exact ⟨s0, s1, s2, s3, hr.after _ _ _ _ _ _ _ _, h.qstored hr _ _ _ _⟩
theorem QB.beside {w : World} {q r : Nat} {x y : Bool} {a b : Option Addr} {n c m k N : Nat} {p d : Int} (h : QB w r x a n c y b m k N p d) (hq : QBox w q) (hne : r ≠ q) (u0 u1 u2 u3 : Value) : QB ((((w.setCell ⟨q, 0, none⟩ u0).setCell ⟨q, 1, none⟩ u1).setCell ⟨q, 2, none⟩ u2).setCell ⟨q, 3, none⟩ u3) r x a n c y b m k N p d := by
  have hc : ∀ o v, w.cell? ⟨r, o, none⟩ = some v → ((((w.setCell ⟨q, 0, none⟩ u0).setCell ⟨q, 1, none⟩ u1).setCell ⟨q, 2, none⟩ u2).setCell ⟨q, 3, none⟩ u3).cell? ⟨r, o, none⟩ = some v := fun o v hv => by
    rw [cell?_setCell_ne _ _ _ _ _ _ (by omega), cell?_setCell_ne _ _ _ _ _ _ (by omega), cell?_setCell_ne _ _ _ _ _ _ (by omega), cell?_setCell_ne _ _ _ _ _ _ (by omega)]
    exact hv
  exact ⟨hc _ _ h.c0, hc _ _ h.c1, hc _ _ h.c2, hc _ _ h.c3, h.box.aside hne _ _ _ _, h.qr.qstored hq _ _ _ _⟩
/-- Numbers of the document's in a row. -/
def Ps (N : Nat) (w : World) (sl : Value) (L : List Int) : Prop :=
  (sl = .slice none 0 0 ∧ L = []) ∨ ∃ g cap, sl = .slice (some ⟨g, 0, none⟩) L.length cap ∧ L.length ≤ cap ∧ cap ≤ maxLen ∧
    ∀ i, i < L.length → ∃ x a n c, w.cell? ⟨g, i * 2, none⟩ = some (.bool x) ∧ w.cell? ⟨g, i * 2 + 1, none⟩ = some (.slice a n c) ∧ Nr N w (.agg #[.bool x, .slice a n c]) (nth L i)
theorem Ps.later {N : Nat} {w w' : World} {sl : Value} {L : List Int} (h : Ps N w sl L) (hb : Below w.heap.size w w') : Ps N w' sl L := by
  rcases h with h | ⟨g, cap, h1, h2, h3, h4⟩
  · exact Or.inl h
  · refine Or.inr ⟨g, cap, h1, h2, h3, fun i hi => ?_⟩
    obtain ⟨x, a, n, c, k1, k2, k3⟩ := h4 i hi
    exact ⟨x, a, n, c, cell_keep hb k1, cell_keep hb k2, k3.later hb⟩
theorem Ps.len {N : Nat} {w : World} {a : Option Addr} {n c : Nat} {L : List Int} (h : Ps N w (.slice a n c) L) : n = L.length := by
  rcases h with ⟨h, rfl⟩ | ⟨g, cap, h, _⟩
  · simp at h; simp [h.2.1]
  · simp at h; exact h.2.1
theorem Ps.shape {N : Nat} {w : World} {sl : Value} {L : List Int} (h : Ps N w sl L) : ∃ a n c, sl = .slice a n c := by
  rcases h with ⟨h, rfl⟩ | ⟨g, cap, h, _⟩
  · exact ⟨_, _, _, h⟩
  · exact ⟨_, _, _, h⟩
theorem blt_drop {L : List Int} {r : Int × Int} {j : Nat} (hj : j < L.length) : blt (L.drop j) r = (nth L j * (blt (L.drop (j + 1)) r).1 + (blt (L.drop (j + 1)) r).2, (blt (L.drop (j + 1)) r).1) := by
  rw [List.drop_eq_getElem_cons hj]
  simp [blt, nth, hj]
end Go.Proofs.YtpecanpbkbanhaaGreatDoor
