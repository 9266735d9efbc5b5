/-
  The mathematics of the simplest fraction between two.
-/
import Derived.Test.YtmhebjeefdanmaaGreatDoorMQB
namespace Go.Proofs.YtmhebjeefdanmaaGreatDoor
open Go.RowKit

/-- The simplest of all fractions from a/b to c/d, by Euclid's way. -/
def sq : Nat → Int → Int → Int → Int → Int × Int
  | 0, _, _, _, _ => (0, 1)
  | f + 1, a, b, c, d =>
    if a % b = 0 then (a / b, 1)
    else if a / b < c / d then (a / b + 1, 1)
    else ((a / b) * (sq f d (c % d) b (a % b)).1 + (sq f d (c % d) b (a % b)).2, (sq f d (c % d) b (a % b)).1)

theorem sq_below {a b c d : Int} (b0 : 0 < b) (d0 : 0 < d) (h : a * d ≤ c * b) : a / b ≤ c / d := by
  have h1 := Int.emod_add_mul_ediv a b
  have h2 := Int.emod_nonneg a (show b ≠ 0 by omega)
  refine (Int.le_ediv_iff_mul_le d0).2 ?_
  have h3 : b * (a / b) ≤ a := by omega
  have h4 : b * (a / b) * d ≤ a * d := Int.mul_le_mul_of_nonneg_right h3 (by omega)
  have h5 : (a / b * d) * b ≤ c * b := by
    have e : (a / b * d) * b = b * (a / b) * d := by grind
    omega
  exact Int.le_of_mul_le_mul_right h5 b0

theorem sq_next {a b c d : Int} (b0 : 0 < b) (d0 : 0 < d) (h : a * d ≤ c * b) (h1 : a % b ≠ 0) (h2 : ¬ a / b < c / d) :
    a / b = c / d ∧ 0 < a % b ∧ a % b < b ∧ 0 < c % d ∧ c % d < d ∧ d * (a % b) ≤ b * (c % d) := by
  have k1 := sq_below b0 d0 h
  have k2 : a / b = c / d := by omega
  have h3 := Int.emod_add_mul_ediv a b
  have h4 := Int.emod_nonneg a (show b ≠ 0 by omega)
  have h5 := Int.emod_lt_of_pos a b0
  have g3 := Int.emod_add_mul_ediv c d
  have g4 := Int.emod_nonneg c (show d ≠ 0 by omega)
  have g5 := Int.emod_lt_of_pos c d0
  have key : d * (a % b) ≤ b * (c % d) := by
    have e1 : a * d = d * (a % b) + b * d * (a / b) := by grind
    have e2 : c * b = b * (c % d) + b * d * (c / d) := by grind
    rw [e1, e2, k2] at h
    omega
  have pos : 0 < d * (a % b) := Int.mul_pos d0 (by omega)
  refine ⟨k2, by omega, h5, ?_, g5, key⟩
  rcases Int.lt_or_eq_of_le g4 with e | e
  · exact e
  · rw [← e] at key
    omega

theorem sq_r1 {a b k y : Int} (h : 0 + b * k = a) : a * y = k * y * b := by rw [← h]; grind
theorem sq_r2 {a b k r P : Int} (h : a = r + b * k) : a * P = k * P * b + P * r := by rw [h]; grind
theorem sq_r3 {c d k r P Q : Int} (h : c = r + d * k) : c * P - (k * P + Q) * d = P * r - d * Q := by rw [h]; grind
theorem sq_r4 {a b k r x y : Int} (h : a = r + b * k) : (x - k * y) * b - r * y = x * b - a * y := by rw [h]; grind
theorem sq_r5 {c d k r x y : Int} (h : c = r + d * k) : y * r - d * (x - k * y) = c * y - x * d := by rw [h]; grind
theorem sq_r6 {a b k r x y : Int} (h : a = r + b * k) : b * (x - k * y) - y * r = x * b - a * y := by rw [h]; grind
/-- What sq finds lies between both, in lowest terms, and none between has a lesser denominator or numerator. -/
theorem sq_good : ∀ (f : Nat) (a b c d : Int), 0 < a → 0 < b → 0 < d → a * d ≤ c * b → b + d ≤ f →
    0 < (sq f a b c d).1 ∧ 0 < (sq f a b c d).2 ∧ Int.gcd (sq f a b c d).1 (sq f a b c d).2 = 1 ∧ a * (sq f a b c d).2 ≤ (sq f a b c d).1 * b ∧ (sq f a b c d).1 * d ≤ c * (sq f a b c d).2 ∧
    ∀ x y : Int, 0 < y → a * y ≤ x * b → x * d ≤ c * y → (sq f a b c d).2 ≤ y ∧ (sq f a b c d).1 ≤ x
  | 0, a, b, c, d, a0, b0, d0, h, hf => by omega
  | f + 1, a, b, c, d, a0, b0, d0, h, hf => by
    have h3 := Int.emod_add_mul_ediv a b
    have h4 := Int.emod_nonneg a (show b ≠ 0 by omega)
    have h5 := Int.emod_lt_of_pos a b0
    have k1 := sq_below b0 d0 h
    have kd : c / d * d ≤ c := Int.ediv_mul_le c (by omega)
    have kn : 0 ≤ a / b := Int.ediv_nonneg (by omega) (by omega)
    unfold sq
    split
    · rename_i h1
      rw [h1] at h3
      have kp : 0 < a / b := by
        rcases Int.lt_or_eq_of_le kn with e | e
        · exact e
        · rw [← e] at h3
          omega
      have kk : a / b * d ≤ c / d * d := Int.mul_le_mul_of_nonneg_right k1 (by omega)
      refine ⟨kp, Int.one_pos, by simp, by show a * 1 ≤ a / b * b; rw [Int.mul_comm (a / b)]; omega, by show a / b * d ≤ c * 1; omega, fun x y y0 hx hy => ⟨by show (1 : Int) ≤ y; omega, ?_⟩⟩
      have e1 : (a / b * y) * b ≤ x * b := by rw [← sq_r1 h3]; exact hx
      have e2 := Int.le_of_mul_le_mul_right e1 b0
      have e3 : a / b * 1 ≤ a / b * y := Int.mul_le_mul_of_nonneg_left (by omega) kn
      show a / b ≤ x
      omega
    · rename_i h1
      split
      · rename_i h2
        have kk : (a / b + 1) * d ≤ c / d * d := Int.mul_le_mul_of_nonneg_right (by omega) (by omega)
        refine ⟨by show 0 < a / b + 1; omega, Int.one_pos, by simp, by show a * 1 ≤ (a / b + 1) * b; rw [Int.add_mul, Int.mul_comm (a / b)]; omega, by show (a / b + 1) * d ≤ c * 1; omega, fun x y y0 hx hy => ⟨by show (1 : Int) ≤ y; omega, ?_⟩⟩
        show a / b + 1 ≤ x
        have e1 : a * 1 ≤ a * y := Int.mul_le_mul_of_nonneg_left (by omega) (by omega)
        have e2 : (a / b) * b < x * b := by rw [Int.mul_comm (a / b)]; omega
        have := Int.lt_of_mul_lt_mul_right e2 (by omega)
        omega
      · rename_i h2
        obtain ⟨e, r0, r1, s0, s1, hk⟩ := sq_next b0 d0 h h1 h2
        obtain ⟨P0, Q0, hg, lo, hi, hm⟩ := sq_good f d (c % d) b (a % b) d0 s0 r0 hk (by omega)
        generalize hP : (sq f d (c % d) b (a % b)).1 = P at *
        generalize hQ : (sq f d (c % d) b (a % b)).2 = Q at *
        have g3 := Int.emod_add_mul_ediv c d
        have kP : 0 ≤ a / b * P := Int.mul_nonneg kn (by omega)
        refine ⟨by show 0 < a / b * P + Q; omega, P0, ?_, ?_, ?_, fun x y y0 hx hy => ?_⟩
        · show Int.gcd (a / b * P + Q) P = 1
          rw [Int.gcd_comm, Int.gcd_mul_right_add_right]
          exact hg
        · show a * P ≤ (a / b * P + Q) * b
          rw [sq_r2 h3.symm, Int.add_mul, Int.mul_comm Q b]
          omega
        · show (a / b * P + Q) * d ≤ c * P
          have := sq_r3 (P := P) (Q := Q) g3.symm
          rw [e]
          omega
        · have y1 : 0 < x - a / b * y := by
            have e1 : (a % b) * y ≤ (x - a / b * y) * b := by have := sq_r4 (x := x) (y := y) h3.symm; omega
            have e2 : 0 < (a % b) * y := Int.mul_pos r0 y0
            exact Int.pos_of_mul_pos_left (by omega) b0
          obtain ⟨m1, m2⟩ := hm y (x - a / b * y) y1 (by have := sq_r5 (x := x) (y := y) g3.symm; rw [e]; omega) (by have := sq_r6 (x := x) (y := y) h3.symm; omega)
          refine ⟨m2, ?_⟩
          show a / b * P + Q ≤ x
          have e3 : a / b * P ≤ a / b * y := Int.mul_le_mul_of_nonneg_left m2 kn
          omega
theorem sq_whole {f : Nat} {a b c d : Int} (h : a % b = 0) : sq (f + 1) a b c d = (a / b, 1) := by
  unfold sq
  rw [if_pos h]
theorem sq_up {f : Nat} {a b c d : Int} (h : a % b ≠ 0) (h2 : a / b < c / d) : sq (f + 1) a b c d = (a / b + 1, 1) := by
  unfold sq
  rw [if_neg h, if_pos h2]
theorem sq_step {f : Nat} {a b c d : Int} (h : a % b ≠ 0) (h2 : ¬ a / b < c / d) : sq (f + 1) a b c d = ((a / b) * (sq f d (c % d) b (a % b)).1 + (sq f d (c % d) b (a % b)).2, (sq f d (c % d) b (a % b)).1) := by
  rw [sq, if_neg h, if_neg h2]
/-- Numbers, and what stands behind them: a number, and 1 by a number, and .. -/
def blt : List Int → Int × Int → Int × Int
  | [], r => r
  | k :: ks, r => (k * (blt ks r).1 + (blt ks r).2, (blt ks r).1)
theorem blt_snoc (k : Int) (r : Int × Int) : ∀ ks : List Int, blt (ks ++ [k]) r = blt ks (k * r.1 + r.2, r.1)
  | [] => rfl
  | j :: ks => by
    show (j * (blt (ks ++ [k]) r).1 + (blt (ks ++ [k]) r).2, (blt (ks ++ [k]) r).1) = _
    rw [blt_snoc k r ks]
    rfl
theorem blt_pos {r : Int × Int} (h1 : 0 < r.1) (h2 : 0 < r.2) (hg : Int.gcd r.1 r.2 = 1) : ∀ ks : List Int, (∀ k ∈ ks, 0 ≤ k) → 0 < (blt ks r).1 ∧ 0 < (blt ks r).2 ∧ Int.gcd (blt ks r).1 (blt ks r).2 = 1
  | [], _ => ⟨h1, h2, hg⟩
  | k :: ks, h => by
    obtain ⟨a, b, c⟩ := blt_pos h1 h2 hg ks (fun x hx => h x (List.mem_cons_of_mem _ hx))
    have hk := h k List.mem_cons_self
    have := Int.mul_nonneg hk (Int.le_of_lt a)
    refine ⟨by show 0 < k * (blt ks r).1 + (blt ks r).2; omega, a, ?_⟩
    show Int.gcd (k * (blt ks r).1 + (blt ks r).2) (blt ks r).1 = 1
    rw [Int.gcd_comm, Int.gcd_mul_right_add_right]
    exact c
/-- How a chain of numbers stands to the fractions whose parts it holds. -/
structure Chn (a0 b0 c0 d0 n m ln lm a b c d : Int) : Prop where
  n0 : 0 ≤ n
  m0 : 0 ≤ m
  ln0 : 0 ≤ ln
  lm0 : 0 ≤ lm
  det : n * lm - ln * m = 1 ∨ n * lm - ln * m = -1
  same : (n * a + ln * b = a0 ∧ m * a + lm * b = b0 ∧ n * c + ln * d = c0 ∧ m * c + lm * d = d0) ∨ (n * a + ln * b = c0 ∧ m * a + lm * b = d0 ∧ n * c + ln * d = a0 ∧ m * c + lm * d = b0)
theorem Chn.start (a b c d : Int) : Chn a b c d 1 0 0 1 a b c d := ⟨by decide, by decide, by decide, by decide, Or.inl (by decide), Or.inl ⟨by omega, by omega, by omega, by omega⟩⟩
theorem chn_r1 {n ln a b k r : Int} (h : a = r + b * k) : (k * n + ln) * b + n * r = n * a + ln * b := by rw [h]; grind
theorem chn_r2 {n m ln lm k : Int} : (k * n + ln) * m - n * (k * m + lm) = -(n * lm - ln * m) := by grind
theorem Chn.step {a0 b0 c0 d0 n m ln lm a b c d : Int} (h : Chn a0 b0 c0 d0 n m ln lm a b c d) (k0 : 0 ≤ a / b) (hk : a / b = c / d) : Chn a0 b0 c0 d0 (a / b * n + ln) (a / b * m + lm) n m d (c % d) b (a % b) := by
  have h3 := (Int.emod_add_mul_ediv a b).symm
  have g3 := (Int.emod_add_mul_ediv c d).symm
  rw [← hk] at g3
  have e1 := Int.mul_nonneg k0 h.n0
  have e2 := Int.mul_nonneg k0 h.m0
  have := h.ln0
  have := h.lm0
  refine ⟨by omega, by omega, h.n0, h.m0, ?_, ?_⟩
  · have e := chn_r2 (n := n) (m := m) (ln := ln) (lm := lm) (k := a / b)
    rcases h.det with d | d <;> omega
  · rw [chn_r1 h3, chn_r1 h3, chn_r1 g3, chn_r1 g3]
    rcases h.same with ⟨q1, q2, q3, q4⟩ | ⟨q1, q2, q3, q4⟩
    · exact Or.inr ⟨q3, q4, q1, q2⟩
    · exact Or.inl ⟨q3, q4, q1, q2⟩
theorem chn_cop {n m ln lm P Q : Int} (h : n * lm - ln * m = 1 ∨ n * lm - ln * m = -1) (hg : Int.gcd P Q = 1) : Int.gcd (n * P + ln * Q) (m * P + lm * Q) = 1 := by
  have hd : ((Int.gcd (n * P + ln * Q) (m * P + lm * Q) : Nat) : Int) ∣ (Int.gcd P Q : Int) := by
    have h1 := Int.gcd_dvd_left (a := n * P + ln * Q) (b := m * P + lm * Q)
    have h2 := Int.gcd_dvd_right (a := n * P + ln * Q) (b := m * P + lm * Q)
    generalize (Int.gcd (n * P + ln * Q) (m * P + lm * Q) : Int) = g at h1 h2 ⊢
    have e1 : lm * (n * P + ln * Q) - ln * (m * P + lm * Q) = (n * lm - ln * m) * P := by grind
    have e2 : n * (m * P + lm * Q) - m * (n * P + ln * Q) = (n * lm - ln * m) * Q := by grind
    have d1 : g ∣ (n * lm - ln * m) * P := e1 ▸ Int.dvd_sub (Int.dvd_mul_of_dvd_right h1) (Int.dvd_mul_of_dvd_right h2)
    have d2 : g ∣ (n * lm - ln * m) * Q := e2 ▸ Int.dvd_sub (Int.dvd_mul_of_dvd_right h2) (Int.dvd_mul_of_dvd_right h1)
    rcases h with h | h <;> rw [h] at d1 d2
    · rw [Int.one_mul] at d1 d2
      exact Int.dvd_coe_gcd d1 d2
    · rw [Int.neg_one_mul] at d1 d2
      exact Int.dvd_coe_gcd (Int.dvd_neg.1 d1) (Int.dvd_neg.1 d2)
  rw [hg] at hd
  have := Int.natCast_dvd_natCast.1 hd
  exact Nat.dvd_one.1 this
/-- The numbers of a chain are not above those of its fractions. -/
theorem Chn.small {a0 b0 c0 d0 n m ln lm a b c d M : Int} (h : Chn a0 b0 c0 d0 n m ln lm a b c d) (a1 : 0 < a) (b1 : 0 < b) (ha : a0 ≤ M) (hb : b0 ≤ M) (hc : c0 ≤ M) (hd : d0 ≤ M) : n ≤ M ∧ m ≤ M ∧ ln ≤ M ∧ lm ≤ M ∧ n * (a / b) ≤ M ∧ m * (a / b) ≤ M := by
  obtain ⟨h1, h2, h3, h4, -, hs⟩ := h
  have key : ∀ x y X : Int, 0 ≤ x → 0 ≤ y → x * a + y * b = X → X ≤ M → x ≤ M ∧ y ≤ M ∧ x * (a / b) ≤ M := by
    intro x y X hx hy he hX
    have k1 : x * 1 ≤ x * a := Int.mul_le_mul_of_nonneg_left (by omega) hx
    have k2 : y * 1 ≤ y * b := Int.mul_le_mul_of_nonneg_left (by omega) hy
    have k3 : a / b ≤ a := Int.ediv_le_self _ (by omega)
    have k4 : x * (a / b) ≤ x * a := Int.mul_le_mul_of_nonneg_left k3 hx
    exact ⟨by omega, by omega, by omega⟩
  rcases hs with ⟨q1, q2, _, _⟩ | ⟨q1, q2, _, _⟩
  · obtain ⟨a1, a2, a3⟩ := key _ _ _ h1 h3 q1 ha
    obtain ⟨b1, b2, b3⟩ := key _ _ _ h2 h4 q2 hb
    exact ⟨a1, b1, a2, b2, a3, b3⟩
  · obtain ⟨a1, a2, a3⟩ := key _ _ _ h1 h3 q1 hc
    obtain ⟨b1, b2, b3⟩ := key _ _ _ h2 h4 q2 hd
    exact ⟨a1, b1, a2, b2, a3, b3⟩
end Go.Proofs.YtmhebjeefdanmaaGreatDoor
