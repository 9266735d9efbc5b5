/-
  The digits of a text, as the document reads them.
-/
import Derived.Test.YtmdmcmkfhmnbeaaGreatDoorR7
import Derived.Test.YtmdmcmkfhmnbeaaGreatDoorW25
namespace Go.Proofs.YtmdmcmkfhmnbeaaGreatDoor
open Go.RowKit

/-- Where the digits of a text begin. -/
def atOf (s : ByteArray) : Nat := if minusOf s then 1 else 0
theorem minus_some {s : ByteArray} (hs : 0 < s.size) : minusOf s = ((s[0]'hs).toNat == 45) := by
  obtain ⟨⟨l⟩⟩ := s
  cases l with
  | nil => simp [ByteArray.size] at hs
  | cons c l =>
    show Lib.hasPrefix (c :: l) [45] = (c.toNat == 45)
    simp only [Lib.hasPrefix]
    by_cases h : c = 45
    · subst h; simp
    · have : c.toNat ≠ 45 := fun e => h (UInt8.toNat.inj (by simpa using e))
      rw [show (c.toNat == 45) = false by simpa using this]
      simp only [List.isPrefixOf, Bool.and_true, beq_eq_false_iff_ne]
      exact fun e => h e.symm
theorem minus_none {s : ByteArray} (hs : s.size = 0) : minusOf s = false := by
  obtain ⟨⟨l⟩⟩ := s
  cases l with
  | nil => rfl
  | cons c l => simp [ByteArray.size] at hs
theorem atOf_le (s : ByteArray) : atOf s ≤ s.size := by
  unfold atOf
  by_cases h : s.size = 0
  · rw [minus_none h]; simp
  · split <;> omega
theorem digitsOf_list (s : ByteArray) : (digitsOf s).data.toList = s.data.toList.drop (atOf s) := by
  unfold digitsOf atOf minusOf Lib.trimPrefix
  split <;> simp
theorem digitsOf_len (s : ByteArray) : (digitsOf s).size = s.size - atOf s := by
  rw [Lib.size_eq, digitsOf_list, List.length_drop, Array.length_toList]; rfl
theorem digitsOf_at {s : ByteArray} {j : Nat} (h : j < (digitsOf s).size) (h' : atOf s + j < s.size) : (digitsOf s)[j]'h = s[atOf s + j]'h' := by
  have e := congrArg (fun l => l[j]?) (digitsOf_list s)
  simp only [List.getElem?_drop, Array.getElem?_toList] at e
  have a : (digitsOf s).data[j]? = some ((digitsOf s)[j]'h) := Array.getElem?_eq_getElem h
  have b : s.data[atOf s + j]? = some (s[atOf s + j]'h') := Array.getElem?_eq_getElem h'
  rw [a, b] at e
  exact Option.some.inj e
theorem digAt_iff (s : ByteArray) (j : Nat) : DigAt s (atOf s + j) ↔ ∃ h : j < (digitsOf s).size, 48 ≤ ((digitsOf s)[j]'h).toNat ∧ ((digitsOf s)[j]'h).toNat ≤ 57 := by
  have hl := digitsOf_len s
  have ha := atOf_le s
  constructor
  · rintro ⟨h, h2⟩
    have h3 : j < (digitsOf s).size := by omega
    exact ⟨h3, by rw [digitsOf_at h3 h]; exact h2⟩
  · rintro ⟨h, h2⟩
    have h3 : atOf s + j < s.size := by omega
    exact ⟨h3, by rw [← digitsOf_at h h3]; exact h2⟩
theorem wrong_two {s : ByteArray} {m : Nat} (ht : m = atOf s + 300) (hj : ∀ j, atOf s ≤ j → j < m → DigAt s j) (hd : DigAt s m) : Wrong (digitsOf s) 300 false := by
  subst ht
  obtain ⟨h, h2⟩ := (digAt_iff s 300).1 hd
  refine Or.inr ⟨h, Nat.le_refl _, fun j hlt hj' => ?_, Or.inr ⟨rfl, rfl, h2⟩⟩
  exact ((digAt_iff s j).1 (hj _ (by omega) (by omega))).2
theorem wrong_one {s : ByteArray} {m : Nat} (hm : m ≤ atOf s + 300) (h0 : atOf s ≤ m) (hj : ∀ j, atOf s ≤ j → j < m → DigAt s j) (hn : ¬ DigAt s m) (hlt : m < s.size ∨ m = atOf s) : Wrong (digitsOf s) (m - atOf s) true := by
  have hl := digitsOf_len s
  have ha := atOf_le s
  obtain ⟨k, rfl⟩ : ∃ k, m = atOf s + k := ⟨m - atOf s, by omega⟩
  rw [show atOf s + k - atOf s = k by omega]
  by_cases hk : k < (digitsOf s).size
  · refine Or.inr ⟨hk, by omega, fun j hlt hj' => ((digAt_iff s j).1 (hj _ (by omega) (by omega))).2, Or.inl ⟨rfl, fun h => hn ((digAt_iff s k).2 ⟨hk, h⟩)⟩⟩
  · exact Or.inl ⟨by omega, by omega, rfl⟩
theorem good_all {s : ByteArray} (h1 : atOf s < s.size) (h2 : s.size ≤ atOf s + 300) (hj : ∀ j, atOf s ≤ j → j < s.size → DigAt s j) : Good (digitsOf s) := by
  have hl := digitsOf_len s
  exact ⟨by omega, by omega, fun j h => ((digAt_iff s j).1 (hj _ (by omega) (by omega))).2⟩
theorem digitsOf_extract (s : ByteArray) : (s.extract (atOf s) s.size).data.toList = (digitsOf s).data.toList := by
  rw [Lib.extract_data, digitsOf_list, List.take_of_length_le]
  rw [List.length_drop, Array.length_toList]
  exact Nat.le_refl _
end Go.Proofs.YtmdmcmkfhmnbeaaGreatDoor
