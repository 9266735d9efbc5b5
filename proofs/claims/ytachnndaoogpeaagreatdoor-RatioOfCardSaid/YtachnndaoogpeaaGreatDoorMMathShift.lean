/-
  Plain mathematics of shifts of one word: what falls out above, what stays; 'or' of two words that share no bit.
-/
import Derived.Test.YtachnndaoogpeaaGreatDoorMW7
import Derived.Laws.Bits64b
import Derived.Lib.ItoaNum
namespace Go.Proofs.YtachnndaoogpeaaGreatDoor

theorem two_split (s : Nat) (h : s ≤ 64) : (2 : Int) ^ s * 2 ^ (64 - s) = 18446744073709551616 := by
  rw [← Int.pow_add, show s + (64 - s) = 64 by omega]; decide
theorem two_pos (s : Nat) : (0 : Int) < 2 ^ s := Int.pow_pos (by decide)
/-- What a shift to the left leaves, and what falls out above. -/
theorem shl_split {x : Int} {s : Nat} (hx : W64 x) (h : s ≤ 64) : (x * 2 ^ s) % 18446744073709551616 = x % 2 ^ (64 - s) * 2 ^ s ∧ (x * 2 ^ s) % 18446744073709551616 + 18446744073709551616 * (x / 2 ^ (64 - s)) = x * 2 ^ s ∧ 0 ≤ x / 2 ^ (64 - s) ∧ x / 2 ^ (64 - s) < 2 ^ s := by
  obtain ⟨x0, x1⟩ := hx
  have e := two_split s h
  have p0 := two_pos s
  have r0 := two_pos (64 - s)
  generalize (2 : Int) ^ s = p at *
  generalize (2 : Int) ^ (64 - s) = r at *
  have d := Int.mul_ediv_add_emod x r
  have d0 := Int.emod_nonneg x (show r ≠ 0 by omega)
  have d1 := Int.emod_lt_of_pos x r0
  have q0 : 0 ≤ x / r := Int.ediv_nonneg x0 (by omega)
  generalize hq : x / r = q at *
  generalize hm : x % r = m at *
  have h1 : x * p = m * p + 18446744073709551616 * q := by rw [← d, ← e]; grind
  have h2 : 0 ≤ m * p := Int.mul_nonneg d0 (by omega)
  have h3 : m * p ≤ (r - 1) * p := Int.mul_le_mul_of_nonneg_right (by omega) (by omega)
  have h4 : (r - 1) * p = 18446744073709551616 - p := by rw [← e]; grind
  have h5 : (x * p) % 18446744073709551616 = m * p := by rw [h1]; omega
  refine ⟨h5, by rw [h5]; omega, q0, ?_⟩
  by_cases g : q < p
  · exact g
  · have : r * p ≤ r * q := Int.mul_le_mul_of_nonneg_left (by omega) (by omega)
    rw [Int.mul_comm r p, e] at this
    omega
/-- 'or' of a multiple of 2^s and of what is below 2^s. -/
theorem or_disjoint {A C M : Int} {s : Nat} (hA : A = M * 2 ^ s) (hM : 0 ≤ M) (hA1 : A < 18446744073709551616) (hC : 0 ≤ C) (hC1 : C < 2 ^ s) (hC2 : C < 18446744073709551616) : bits .or .u64 A C = A + C ∧ bits .or .u64 C A = A + C := by
  obtain ⟨m, rfl⟩ := Int.eq_ofNat_of_zero_le hM
  obtain ⟨c, rfl⟩ := Int.eq_ofNat_of_zero_le hC
  have hA' : A = ((m * 2 ^ s : Nat) : Int) := by rw [hA]; simp
  subst hA'
  have hc : c < 2 ^ s := by
    have : ((2 ^ s : Nat) : Int) = (2 : Int) ^ s := by simp
    omega
  have e : m * 2 ^ s ||| c = m * 2 ^ s + c := by
    have := Nat.shiftLeft_add_eq_or_of_lt hc m
    rw [Nat.shiftLeft_eq] at this
    exact this.symm
  have e' : c ||| m * 2 ^ s = m * 2 ^ s + c := by rw [Nat.or_comm]; exact e
  constructor
  · have h1 := bits_or_u64_nat (m * 2 ^ s) c (by omega) (by omega)
    rw [e] at h1; rw [h1]; simp
  · have h2 := bits_or_u64_nat c (m * 2 ^ s) (by omega) (by omega)
    rw [e'] at h2; rw [h2]; simp
theorem and_low {x : Int} (hx : W64 x) : bits .and .u64 x 4294967295 = x % 4294967296 := by
  obtain ⟨x0, x1⟩ := hx
  obtain ⟨a, rfl⟩ := Int.eq_ofNat_of_zero_le x0
  have h := bits_and_u64_nat a 4294967295 (by omega) (by omega)
  have e : a &&& 4294967295 = a % 4294967296 := Nat.and_two_pow_sub_one_eq_mod a 32
  rw [e] at h
  rw [show ((4294967295 : Nat) : Int) = 4294967295 from rfl] at h
  rw [h]; omega
/-- How far a word can be shifted up. -/
theorem lead {y : Int} (hy : W64 y) (h0 : 0 < y) : ∃ s : Nat, 64 - (Lib.bitLen y.toNat : Int) = s ∧ s ≤ 63 ∧ 9223372036854775808 ≤ y * 2 ^ s ∧ y * 2 ^ s < 18446744073709551616 := by
  obtain ⟨y0, y1⟩ := hy
  obtain ⟨a, rfl⟩ := Int.eq_ofNat_of_zero_le y0
  have b := Lib.bitLenAux_bounds 64 a (by omega) (by omega)
  have ble := Lib.bitLen_le a 64 (by omega) (by omega)
  change 1 ≤ Lib.bitLen a ∧ 2 ^ (Lib.bitLen a - 1) ≤ a ∧ a < 2 ^ Lib.bitLen a at b
  rw [Int.toNat_natCast]
  generalize Lib.bitLen a = k at *
  obtain ⟨b1, b2, b3⟩ := b
  refine ⟨64 - k, by omega, by omega, ?_, ?_⟩
  · have e : 2 ^ (k - 1) * 2 ^ (64 - k) = 2 ^ 63 := by rw [← Nat.pow_add, show k - 1 + (64 - k) = 63 by omega]
    have : 2 ^ (k - 1) * 2 ^ (64 - k) ≤ a * 2 ^ (64 - k) := Nat.mul_le_mul_right _ b2
    rw [e] at this
    have g : ((a * 2 ^ (64 - k) : Nat) : Int) = (a : Int) * 2 ^ (64 - k) := by simp
    rw [← g]; omega
  · have e : 2 ^ k * 2 ^ (64 - k) = 2 ^ 64 := by rw [← Nat.pow_add, show k + (64 - k) = 64 by omega]
    have : a * 2 ^ (64 - k) < 2 ^ k * 2 ^ (64 - k) := Nat.mul_lt_mul_of_pos_right b3 (Nat.pow_pos (by decide))
    rw [e] at this
    have g : ((a * 2 ^ (64 - k) : Nat) : Int) = (a : Int) * 2 ^ (64 - k) := by simp
    rw [← g]; omega
end Go.Proofs.YtachnndaoogpeaaGreatDoor
