/-
  Of no program: greatest divisors, by halves.
-/
import Derived.Test.YtachnndaoogpeaaGreatDoorMMathA
import Derived.Lib.TrailingZeros
namespace Go.Proofs.YtachnndaoogpeaaGreatDoor
theorem odd_cop {a : Nat} (h : a % 2 = 1) (k : Nat) : Nat.Coprime a (2 ^ k) := by
  apply Nat.Coprime.pow_right
  rw [Nat.coprime_comm]
  unfold Nat.Coprime
  rw [Nat.gcd_rec, h]; simp
theorem gcd_strip {a m : Nat} (h : a % 2 = 1) (k : Nat) : Nat.gcd a (2 ^ k * m) = Nat.gcd a m :=
  Nat.Coprime.gcd_mul_left_cancel_right m (odd_cop h k).symm
theorem gcd_twos {a b s t : Nat} (ha : a % 2 = 1) (hb : b % 2 = 1) : Nat.gcd (2 ^ s * a) (2 ^ t * b) = 2 ^ (min s t) * Nat.gcd a b := by
  rcases Nat.le_total s t with h | h
  · obtain ⟨d, rfl⟩ := Nat.exists_eq_add_of_le h
    rw [Nat.pow_add, Nat.mul_assoc, Nat.gcd_mul_left, gcd_strip ha, Nat.min_eq_left h]
  · obtain ⟨d, rfl⟩ := Nat.exists_eq_add_of_le h
    rw [Nat.pow_add, Nat.mul_assoc, Nat.gcd_mul_left, Nat.gcd_comm, gcd_strip hb, Nat.gcd_comm, Nat.min_eq_right h]
theorem twos_unique {s t a b : Nat} (ha : a % 2 = 1) (hb : b % 2 = 1) (h : 2 ^ s * a = 2 ^ t * b) : s = t ∧ a = b := by
  have key : ∀ {s t a b : Nat}, s < t → a % 2 = 1 → 2 ^ s * a = 2 ^ t * b → False := by
    intro s t a b hlt ha h
    obtain ⟨d, rfl⟩ := Nat.exists_eq_add_of_lt hlt
    rw [Nat.add_assoc, Nat.pow_add, Nat.mul_assoc] at h
    have := Nat.eq_of_mul_eq_mul_left (Nat.two_pow_pos s) h
    rw [Nat.pow_succ] at this
    have e : a = 2 * (2 ^ d * b) := by rw [this, Nat.mul_comm (2 ^ d) 2, Nat.mul_assoc]
    omega
  have hst : s = t := by
    rcases Nat.lt_trichotomy s t with g | g | g
    · exact (key g ha h).elim
    · exact g
    · exact (key g hb h.symm).elim
  subst hst
  exact ⟨rfl, Nat.eq_of_mul_eq_mul_left (Nat.two_pow_pos s) h⟩
theorem or_twos {s t a b : Nat} (ha : a % 2 = 1) (hb : b % 2 = 1) : ∃ c, c % 2 = 1 ∧ (2 ^ s * a) ||| (2 ^ t * b) = 2 ^ (min s t) * c := by
  have key : ∀ {s d a b : Nat}, a % 2 = 1 → b % 2 = 1 → ∃ c, c % 2 = 1 ∧ (2 ^ s * a) ||| (2 ^ (s + d) * b) = 2 ^ s * c := by
    intro s d a b ha hb
    refine ⟨a ||| (2 ^ d * b), ?_, ?_⟩
    · have : (a ||| (2 ^ d * b)).testBit 0 = true := by rw [Nat.testBit_or]; simp [Nat.testBit_zero, ha]
      simpa [Nat.testBit_zero] using this
    · rw [Nat.pow_add, Nat.mul_assoc, Nat.mul_comm (2 ^ s), Nat.mul_comm (2 ^ s), Nat.mul_comm (2 ^ s), ← Nat.shiftLeft_eq, ← Nat.shiftLeft_eq, ← Nat.shiftLeft_eq, Nat.shiftLeft_or_distrib]
  rcases Nat.le_total s t with h | h
  · obtain ⟨d, rfl⟩ := Nat.exists_eq_add_of_le h
    rw [Nat.min_eq_left h]; exact key ha hb
  · obtain ⟨d, rfl⟩ := Nat.exists_eq_add_of_le h
    rw [Nat.min_eq_right h]
    obtain ⟨c, h1, h2⟩ := key (s := t) (d := d) hb ha
    exact ⟨c, h1, by rw [Nat.or_comm]; exact h2⟩
theorem gcd_less {a b : Nat} (h : a ≤ b) : Nat.gcd a (b - a) = Nat.gcd a b := by
  obtain ⟨d, rfl⟩ := Nat.exists_eq_add_of_le h
  rw [Nat.add_sub_cancel_left]; simp

theorem odd_nat {n : Nat} (h : (n : Int) % 2 = 1) : n % 2 = 1 := by omega
/-- Of two words or more: how often 2 divides both, and what is odd. -/
theorem igcd_twos {a b : Int} {s t : Nat} (a0 : 0 ≤ a) (b0 : 0 ≤ b) (ha : a % 2 = 1) (hb : b % 2 = 1) : (Int.gcd (2 ^ s * a) (2 ^ t * b) : Int) = 2 ^ (min s t) * (Int.gcd a b : Int) := by
  obtain ⟨n, rfl⟩ := Int.eq_ofNat_of_zero_le a0
  obtain ⟨m, rfl⟩ := Int.eq_ofNat_of_zero_le b0
  have := gcd_twos (s := s) (t := t) (odd_nat ha) (odd_nat hb)
  rw [show ((2 : Int) ^ s * (n : Int)) = ((2 ^ s * n : Nat) : Int) by simp, show ((2 : Int) ^ t * (m : Int)) = ((2 ^ t * m : Nat) : Int) by simp, Int.gcd_natCast_natCast, Int.gcd_natCast_natCast, this]
  simp
theorem igcd_strip {a b : Int} {t : Nat} (a0 : 0 ≤ a) (b0 : 0 ≤ b) (ha : a % 2 = 1) : Int.gcd a (2 ^ t * b) = Int.gcd a b := by
  obtain ⟨n, rfl⟩ := Int.eq_ofNat_of_zero_le a0
  obtain ⟨m, rfl⟩ := Int.eq_ofNat_of_zero_le b0
  rw [show ((2 : Int) ^ t * (m : Int)) = ((2 ^ t * m : Nat) : Int) by simp, Int.gcd_natCast_natCast, Int.gcd_natCast_natCast]
  exact gcd_strip (odd_nat ha) t
theorem igcd_less {a b : Int} (a0 : 0 ≤ a) (h : a ≤ b) : Int.gcd a (b - a) = Int.gcd a b := by
  obtain ⟨n, rfl⟩ := Int.eq_ofNat_of_zero_le a0
  obtain ⟨m, rfl⟩ := Int.eq_ofNat_of_zero_le (Int.le_trans a0 h)
  rw [show ((m : Int) - (n : Int)) = ((m - n : Nat) : Int) by omega, Int.gcd_natCast_natCast, Int.gcd_natCast_natCast]
  exact gcd_less (by omega)
theorem igcd_le {a b : Int} (a0 : 0 < a) : (Int.gcd a b : Int) ≤ a := Int.gcd_le_left b a0
/-- The lowest bit of a word. -/
theorem word_twos {x : Int} (hx : W64 x) (h0 : 0 < x) : ∃ m : Int, 0 ≤ m ∧ m % 2 = 1 ∧ x = 2 ^ (Lib.ctz 64 x.toNat) * m ∧ Lib.ctz 64 x.toNat ≤ 63 := by
  obtain ⟨n, rfl⟩ := Int.eq_ofNat_of_zero_le hx.1
  have hn : n < 2 ^ 64 := by have := hx.2; omega
  have hp : 0 < n := by omega
  obtain ⟨m, hm, hk⟩ := Lib.ctzFrom_spec 64 n hp hn
  have e : Lib.ctz 64 ((n : Int)).toNat = Lib.ctzFrom 64 n := by simp [Lib.ctz]; omega
  rw [e]
  refine ⟨2 * (m : Int) + 1, by omega, by omega, ?_, by omega⟩
  conv => lhs; rw [hm]
  simp
theorem itwos_unique {s t : Nat} {a b : Int} (a0 : 0 ≤ a) (b0 : 0 ≤ b) (ha : a % 2 = 1) (hb : b % 2 = 1) (h : 2 ^ s * a = 2 ^ t * b) : s = t ∧ a = b := by
  obtain ⟨n, rfl⟩ := Int.eq_ofNat_of_zero_le a0
  obtain ⟨m, rfl⟩ := Int.eq_ofNat_of_zero_le b0
  have h' : 2 ^ s * n = 2 ^ t * m := by
    have : ((2 ^ s * n : Nat) : Int) = ((2 ^ t * m : Nat) : Int) := by simpa using h
    exact_mod_cast this
  obtain ⟨e1, e2⟩ := twos_unique (odd_nat ha) (odd_nat hb) h'
  exact ⟨e1, by rw [e2]⟩
end Go.Proofs.YtachnndaoogpeaaGreatDoor
