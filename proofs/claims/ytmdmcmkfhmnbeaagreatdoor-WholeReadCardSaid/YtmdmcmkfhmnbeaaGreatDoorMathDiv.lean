/-
  Plain mathematics of dividing two words by one, by halves of 32 bits (Knuth's step). No program in sight.
-/
namespace Go.Proofs.YtmdmcmkfhmnbeaaGreatDoor
/-- One half step: u stands for what is divided ahead (below y), n for the next half; q is not below the true digit. -/
structure Half (y1 y0 u n q r : Int) : Prop where
  y1lo : 2147483648 ≤ y1
  y1hi : y1 < 4294967296
  y0lo : 0 ≤ y0
  y0hi : y0 < 4294967296
  ulo : 0 ≤ u
  uhi : u < y1 * 4294967296 + y0
  nlo : 0 ≤ n
  nhi : n < 4294967296
  q0 : 0 ≤ q
  qhi : q ≤ 4294967297
  r0 : 0 ≤ r
  rhi : r < 4294967296
  eq : q * y1 + r = u
  top : u * 4294967296 + n < (q + 1) * (y1 * 4294967296 + y0)

theorem half_start {y1 y0 u n : Int} (y1lo : 2147483648 ≤ y1) (y1hi : y1 < 4294967296) (y0lo : 0 ≤ y0) (y0hi : y0 < 4294967296) (ulo : 0 ≤ u) (uhi : u < y1 * 4294967296 + y0)
    (nlo : 0 ≤ n) (nhi : n < 4294967296) : Half y1 y0 u n (u / y1) (u - u / y1 * y1) := by
  have e := Int.mul_ediv_add_emod u y1
  have e' : u / y1 * y1 = y1 * (u / y1) := Int.mul_comm _ _
  have m0 := Int.emod_nonneg u (show y1 ≠ 0 by omega)
  have m1 := Int.emod_lt_of_pos u (show 0 < y1 by omega)
  have q0 : 0 ≤ u / y1 := Int.ediv_nonneg ulo (by omega)
  generalize hq : u / y1 = q at *
  generalize u % y1 = r at *
  have qhi : q ≤ 4294967297 := by
    by_cases h : q ≤ 4294967297
    · exact h
    · have : y1 * 4294967298 ≤ y1 * q := Int.mul_le_mul_of_nonneg_left (by omega) (by omega)
      omega
  have h1 : (q + 1) * (y1 * 4294967296 + y0) = 4294967296 * (y1 * q) + 4294967296 * y1 + (q + 1) * y0 := by grind
  have h2 : 0 ≤ (q + 1) * y0 := Int.mul_nonneg (by omega) y0lo
  exact ⟨y1lo, y1hi, y0lo, y0hi, ulo, uhi, nlo, nhi, q0, qhi, by omega, by omega, by omega, by rw [h1]; omega⟩

/-- The test says: too much; and the rest stays a half. -/
theorem half_next {y1 y0 u n q r : Int} (h : Half y1 y0 u n q r) (ht : 4294967296 ≤ q ∨ 4294967296 * r + n < q * y0) (hr : r + y1 < 4294967296) : Half y1 y0 u n (q - 1) (r + y1) := by
  obtain ⟨a1, a2, a3, a4, a5, a6, a7, a8, a9, a10, a11, a12, a13, a14⟩ := h
  have key : u * 4294967296 + n < q * (y1 * 4294967296 + y0) ∧ 1 ≤ q := by
    have e : q * (y1 * 4294967296 + y0) = 4294967296 * (q * y1) + q * y0 := by grind
    rcases ht with ht | ht
    · have : 4294967296 * (y1 * 4294967296 + y0) ≤ q * (y1 * 4294967296 + y0) := Int.mul_le_mul_of_nonneg_right ht (by omega)
      exact ⟨by omega, by omega⟩
    · refine ⟨by omega, ?_⟩
      by_cases hq : q = 0
      · subst hq; omega
      · omega
  have e2 : (q - 1) * y1 = q * y1 - y1 := by grind
  exact ⟨a1, a2, a3, a4, a5, a6, a7, a8, by omega, by omega, by omega, hr, by omega, by rw [show q - 1 + 1 = q by omega]; exact key.1⟩

/-- The digit, and the rest, as the step leaves them. -/
structure Done (y1 y0 u n q : Int) : Prop where
  q0 : 0 ≤ q
  qhi : q < 4294967296
  lo : q * (y1 * 4294967296 + y0) ≤ u * 4294967296 + n
  hi : u * 4294967296 + n < (q + 1) * (y1 * 4294967296 + y0)

theorem half_done {y1 y0 u n q r : Int} (h : Half y1 y0 u n q r) (h1 : q < 4294967296) (h2 : q * y0 ≤ 4294967296 * r + n) : Done y1 y0 u n q := by
  obtain ⟨a1, a2, a3, a4, a5, a6, a7, a8, a9, a10, a11, a12, a13, a14⟩ := h
  have e : q * (y1 * 4294967296 + y0) = 4294967296 * (q * y1) + q * y0 := by grind
  exact ⟨a9, h1, by omega, a14⟩

/-- The test says: too much; the rest is no half any more: the loop is left. -/
theorem half_break {y1 y0 u n q r : Int} (h : Half y1 y0 u n q r) (ht : 4294967296 ≤ q ∨ 4294967296 * r + n < q * y0) (hr : 4294967296 ≤ r + y1) : Done y1 y0 u n (q - 1) := by
  obtain ⟨a1, a2, a3, a4, a5, a6, a7, a8, a9, a10, a11, a12, a13, a14⟩ := h
  have e : q * (y1 * 4294967296 + y0) = 4294967296 * (q * y1) + q * y0 := by grind
  have key : u * 4294967296 + n < q * (y1 * 4294967296 + y0) ∧ 1 ≤ q := by
    rcases ht with ht | ht
    · have : 4294967296 * (y1 * 4294967296 + y0) ≤ q * (y1 * 4294967296 + y0) := Int.mul_le_mul_of_nonneg_right ht (by omega)
      exact ⟨by omega, by omega⟩
    · refine ⟨by omega, ?_⟩
      by_cases hq : q = 0
      · subst hq; omega
      · omega
  have e2 : (q - 1) * (y1 * 4294967296 + y0) = 4294967296 * (q * y1) - 4294967296 * y1 + (q - 1) * y0 := by grind
  have h3 : (q - 1) * y0 ≤ 4294967296 * y0 := Int.mul_le_mul_of_nonneg_right (by omega) a3
  have lo : (q - 1) * (y1 * 4294967296 + y0) ≤ u * 4294967296 + n := by omega
  refine ⟨by omega, ?_, lo, by rw [show q - 1 + 1 = q by omega]; exact key.1⟩
  by_cases h : q - 1 < 4294967296
  · exact h
  · have : 4294967296 * (y1 * 4294967296 + y0) ≤ (q - 1) * (y1 * 4294967296 + y0) := Int.mul_le_mul_of_nonneg_right (by omega) (by omega)
    omega
theorem Done.rest {y1 y0 u n q : Int} (h : Done y1 y0 u n q) : 0 ≤ u * 4294967296 + n - q * (y1 * 4294967296 + y0) ∧ u * 4294967296 + n - q * (y1 * 4294967296 + y0) < y1 * 4294967296 + y0 := by
  obtain ⟨h1, h2, h3, h4⟩ := h
  rw [Int.add_mul] at h4
  omega
/-- Both halves: the quotient and the rest of two words by one, both shifted by p. -/
theorem halves_div {N y p y1 y0 u n1 n0 q1 q0 t : Int} (hp : 0 < p) (hy : y1 * 4294967296 + y0 = y * p) (hN : (u * 4294967296 + n1) * 4294967296 + n0 = N * p)
    (_h1 : Done y1 y0 u n1 q1) (ht : t = u * 4294967296 + n1 - q1 * (y1 * 4294967296 + y0)) (h0 : Done y1 y0 t n0 q0) :
    q1 * 4294967296 + q0 = N / y ∧ (t * 4294967296 + n0 - q0 * (y1 * 4294967296 + y0)) / p = N % y := by
  obtain ⟨r0, r1⟩ := h0.rest
  rw [hy] at ht r0 r1
  have e : t * 4294967296 + n0 - q0 * (y * p) = p * (N - (q1 * 4294967296 + q0) * y) := by
    subst ht; grind
  rw [hy, e]
  rw [e] at r0 r1
  rw [Int.mul_ediv_cancel_left _ (by omega)]
  generalize hq : q1 * 4294967296 + q0 = q at *
  have g0 : 0 ≤ N - q * y := by
    by_cases g : 0 ≤ N - q * y
    · exact g
    · have : p * (N - q * y) ≤ p * (-1) := Int.mul_le_mul_of_nonneg_left (by omega) (by omega)
      omega
  have g1 : N - q * y < y := by
    by_cases g : N - q * y < y
    · exact g
    · have : p * y ≤ p * (N - q * y) := Int.mul_le_mul_of_nonneg_left (by omega) (by omega)
      rw [Int.mul_comm p y] at this
      omega
  have hy0 : 0 < y := by omega
  have d := Int.mul_ediv_add_emod N y
  have d0 := Int.emod_nonneg N (show y ≠ 0 by omega)
  have d1 := Int.emod_lt_of_pos N hy0
  have : q = N / y := by
    have hk : y * (N / y - q) + (N % y - (N - q * y)) = 0 := by grind
    generalize N / y = a at *
    generalize N % y = b at *
    generalize N - q * y = c at *
    by_cases g : a - q = 0
    · omega
    · by_cases g' : 1 ≤ a - q
      · have : y * 1 ≤ y * (a - q) := Int.mul_le_mul_of_nonneg_left (by omega) (by omega)
        omega
      · have : y * (a - q) ≤ y * (-1) := Int.mul_le_mul_of_nonneg_left (by omega) (by omega)
        omega
  refine ⟨this, ?_⟩
  rw [this, Int.mul_comm] ; omega
/-- The first guess of a digit is not too small. -/
theorem digit_top {wn w1 b1 : Int} {lo by' P d : Int} (hP : 0 < P) (hb1 : 0 < b1) (hd : d = (wn * 18446744073709551616 + w1) / b1) (hlo : lo < P) (hby : P * b1 ≤ by') (d0 : 0 ≤ d) :
    lo + P * (w1 + 18446744073709551616 * wn) < (d + 1) * by' := by
  have e := Int.mul_ediv_add_emod (wn * 18446744073709551616 + w1) b1
  have m1 := Int.emod_lt_of_pos (wn * 18446744073709551616 + w1) hb1
  rw [← hd] at e
  generalize (wn * 18446744073709551616 + w1) % b1 = r at *
  have h1 : (d + 1) * (P * b1) ≤ (d + 1) * by' := Int.mul_le_mul_of_nonneg_left hby (by omega)
  have h2 : P * (w1 + 18446744073709551616 * wn + 1) ≤ P * ((d + 1) * b1) := Int.mul_le_mul_of_nonneg_left (by rw [Int.add_mul, Int.mul_comm d b1]; omega) (by omega)
  have h3 : (d + 1) * (P * b1) = P * ((d + 1) * b1) := by grind
  rw [Int.mul_add] at h2
  omega
end Go.Proofs.YtmdmcmkfhmnbeaaGreatDoor
