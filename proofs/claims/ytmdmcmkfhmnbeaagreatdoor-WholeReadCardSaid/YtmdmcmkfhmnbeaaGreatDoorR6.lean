/-
  Walks over the numbers of the document: digits.
-/
import Derived.Test.YtmdmcmkfhmnbeaaGreatDoorR5
namespace Go.Proofs.YtmdmcmkfhmnbeaaGreatDoor
open Go.RowKit

set_option maxHeartbeats 1000000 in
theorem digit_any (c : Nat) (w : World) :
    Calls Tryz.prog 64 #[.int .u8 c] w fun e w' => e = .returned (.bool (decide (48 ≤ c ∧ c ≤ 57))) ∧ w' = w := by
  go_enter Tryz.func64, Tryz.ntmps64
  by_cases h0 : (48 : Int) ≤ c
  · by_cases h1 : (c : Int) ≤ 57
    · go_wp2
      go_ret
      exact ⟨ret_bool (by simp; omega), rfl⟩
    · go_wp2
      go_ret
      exact ⟨ret_bool (by simp; omega), rfl⟩
  · go_wp2
    go_ret
    exact ⟨ret_bool (by simp; omega), rfl⟩

/-- A digit's place in a text. -/
def DigAt (s : ByteArray) (j : Nat) : Prop := ∃ h : j < s.size, 48 ≤ (s[j]'h).toNat ∧ (s[j]'h).toNat ≤ 57

set_option maxHeartbeats 1000000 in
theorem digits_any (s : ByteArray) (at' : Nat) (w : World) (hs : s.size ≤ 9223372036854775807) (ha : at' ≤ s.size) :
    Calls Tryz.prog 29 #[.string s, .int .i64 at', .int .i64 300] w fun e w' => (∃ (m : Nat) (code pl : Int), e = .returned (.tuple #[.int .i64 m, .agg #[.int .i64 code, .int .i64 pl]]) ∧ at' ≤ m ∧ m ≤ s.size ∧ m ≤ at' + 300 ∧ (∀ j, at' ≤ j → j < m → DigAt s j) ∧
      ((code = 2 ∧ pl = m ∧ m = at' + 300 ∧ DigAt s m) ∨ (code = 1 ∧ pl = at' ∧ m = at' ∧ ¬ DigAt s m) ∨ (code = 0 ∧ pl = -1 ∧ at' < m ∧ ¬ DigAt s m))) ∧ Below w.heap.size w w' := by
  go_enter Tryz.func29, Tryz.ntmps29
  go_wp2_with fail
  go_loop [8] (fun v => ∃ m : Nat, at' ≤ m ∧ m ≤ s.size ∧ m ≤ at' + 300 ∧ v = .int .i64 m ∧ Hid (∀ j, at' ≤ j → j < m → DigAt s j)) (fun v => s.size - (intOf v).toNat)
  case atStart => exact ⟨at', Nat.le_refl _, ha, by omega, rfl, fun j h1 h2 => by omega⟩
  case round =>
    obtain ⟨m, hm0, hm1, hm2, rfl, HJ⟩ := hrel
    by_cases hlt : m < s.size
    · have hlti : (m : Int) < s.size := by omega
      by_cases hd : 48 ≤ (s[m]'hlt).toNat ∧ (s[m]'hlt).toNat ≤ 57
      · have HDG : Hid (DigAt s m) := ⟨hlt, hd⟩
        have hdec : decide (48 ≤ (s[m]'hlt).toNat ∧ (s[m]'hlt).toNat ≤ 57) = true := by simp only [decide_eq_true_eq]; exact hd
        have HDEC := hide hdec
        clear hd hdec
        by_cases h300 : m = at' + 300
        · have h3 : ((m : Int) - at' == 300) = true := by simp; omega
          have H300 := hide h300
          clear h300
          go_wp2_with fail
          go_fit (digit_any (s[m]'hlt).toNat _)
          rintro e w1 ⟨rfl, rfl⟩
          rw [unhide HDEC]
          go_wp2
          exact bodyPost_ret (v := .tuple #[.int .i64 m, .agg #[.int .i64 2, .int .i64 m]]) (by simp [results, Tryz.results29, go_sem]) rfl ⟨⟨m, 2, _, rfl, hm0, hm1, hm2, unhide HJ, Or.inl ⟨rfl, rfl, unhide H300, unhide HDG⟩⟩, below_new w _⟩
        · have h3 : ((m : Int) - at' == 300) = false := by simp; omega
          have H300 := hide h300
          clear h300
          go_wp2_with fail
          go_fit (digit_any (s[m]'hlt).toNat _)
          rintro e w1 ⟨rfl, rfl⟩
          rw [unhide HDEC]
          go_wp2
          go_round
          case rel =>
            refine ⟨m + 1, by omega, by omega, by have := unhide H300; omega, by go_num, fun j h1 h2 => ?_⟩
            by_cases e : j = m
            · rw [e]; exact unhide HDG
            · exact unhide HJ j h1 (by omega)
          case measure => simp [intOf]; omega
      · have HND : Hid (¬ DigAt s m) := fun ⟨_, h⟩ => hd h
        have hdec : decide (48 ≤ (s[m]'hlt).toNat ∧ (s[m]'hlt).toNat ≤ 57) = false := by simp only [decide_eq_false_iff_not]; exact hd
        have HDEC := hide hdec
        clear hd hdec
        by_cases hq : m = at'
        · have hqi : ((m : Int) == at') = true := by simp [hq]
          have HQ := hide hq
          clear hq
          go_wp2_with fail
          go_fit (digit_any (s[m]'hlt).toNat _)
          rintro e w1 ⟨rfl, rfl⟩
          rw [unhide HDEC]
          go_wp2
          exact bodyPost_ret (v := .tuple #[.int .i64 m, .agg #[.int .i64 1, .int .i64 at']]) (by simp [results, Tryz.results29, go_sem]) rfl ⟨⟨m, 1, _, rfl, hm0, hm1, hm2, unhide HJ, Or.inr (Or.inl ⟨rfl, rfl, unhide HQ, unhide HND⟩)⟩, below_new w _⟩
        · have hqi : ((m : Int) == at') = false := by simp; omega
          have HQ := hide hq
          clear hq
          go_wp2_with fail
          go_fit (digit_any (s[m]'hlt).toNat _)
          rintro e w1 ⟨rfl, rfl⟩
          rw [unhide HDEC]
          go_wp2
          exact bodyPost_ret (v := .tuple #[.int .i64 m, .agg #[.int .i64 0, .int .i64 (-1)]]) (by simp [results, Tryz.results29, go_sem]) rfl ⟨⟨m, 0, _, rfl, hm0, hm1, hm2, unhide HJ, Or.inr (Or.inr ⟨rfl, rfl, by have := unhide HQ; omega, unhide HND⟩)⟩, below_new w _⟩
    · have HND : Hid (¬ DigAt s m) := fun ⟨h, _⟩ => hlt h
      have hlti : ¬ (m : Int) < s.size := by omega
      by_cases hq : m = at'
      · have hqi : ((m : Int) == at') = true := by simp [hq]
        have HQ := hide hq
        clear hq
        go_wp2
        exact bodyPost_ret (v := .tuple #[.int .i64 m, .agg #[.int .i64 1, .int .i64 at']]) (by simp [results, Tryz.results29, go_sem]) rfl ⟨⟨m, 1, _, rfl, hm0, hm1, hm2, unhide HJ, Or.inr (Or.inl ⟨rfl, rfl, unhide HQ, unhide HND⟩)⟩, below_new w _⟩
      · have hqi : ((m : Int) == at') = false := by simp; omega
        have HQ := hide hq
        clear hq
        go_wp2
        exact bodyPost_ret (v := .tuple #[.int .i64 m, .agg #[.int .i64 0, .int .i64 (-1)]]) (by simp [results, Tryz.results29, go_sem]) rfl ⟨⟨m, 0, _, rfl, hm0, hm1, hm2, unhide HJ, Or.inr (Or.inr ⟨rfl, rfl, by have := unhide HQ; omega, unhide HND⟩)⟩, below_new w _⟩
end Go.Proofs.YtmdmcmkfhmnbeaaGreatDoor
