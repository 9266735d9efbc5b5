/-
  Puzzles: what the document's check asks, over lists; numbers in rows.
-/
import Derived.Test.YthoppmbmmplkiaaGreatDoorYM
namespace Go.Proofs.YthoppmbmmplkiaaGreatDoor
open Go.RowKit

/-- A number that is too great. -/
def bigI (n : Int) : Bool := decide (100000000 < n) || decide (n < -100000000)
def anyBigI (l : List Int) : Bool := l.any bigI
set_option maxHeartbeats 1000000 in
/-- big. -/
theorem rbig_any (n : Int) (w : World) : Calls Tryz.prog 15 #[.int .i64 n] w fun e w' => e = .returned (.bool (bigI n)) ∧ w' = w := by
  go_enter Tryz.func15, Tryz.ntmps15
  by_cases h1 : 100000000 < n
  · go_wp2
    go_ret
    exact ⟨by simp [bigI, h1], rfl⟩
  · go_wp2
    go_ret
    refine ⟨?_, rfl⟩
    have h2 : decide (100000000 < n) = false := by simpa using h1
    rw [show bigI n = decide (n < -100000000) by simp only [bigI, h2, Bool.false_or]]
    rfl
set_option maxHeartbeats 4000000 in
set_option maxRecDepth 8000 in
/-- anyBig. -/
theorem ranybig_any {v : Value} {l : List Int} (w : World) (h : Rows 1 JE w v l) : Calls Tryz.prog 25 #[v] w fun e w' => e = .returned (.bool (anyBigI l)) ∧ w' = w := by
  obtain ⟨sa, sc, rfl⟩ := h.shape
  have HR := hide h
  have hsm := h.small
  unfold maxLen at hsm
  clear h
  go_enter Tryz.func25, Tryz.ntmps25
  go_wp2_with fail
  go_loopg [3] l.length (fun gk iv wr => ∃ (i : Nat), i ≤ l.length ∧ gk = l.length - i ∧ iv = .int .i64 (i : Int) ∧ wr = w ∧ Hid (anyBigI (l.take i) = false))
  case atStart => exact ⟨0, by omega, by omega, rfl, rfl, hide rfl⟩
  case round =>
    obtain ⟨i, hi, hgk, rfl, rfl, HN⟩ := hrel
    by_cases hil : i < l.length
    · obtain ⟨s, hs⟩ : ∃ s, l[i]? = some s := ⟨l[i], by simp [hil]⟩
      obtain ⟨b, o, rfl, c0, _⟩ := (unhide HR).int hs
      have hil' : (i : Int) < (l.length : Int) := by omega
      have HS := hide hs
      clear hs
      go_wp2_with fail
      go_fit (rbig_any s _)
      rintro e W1 ⟨rfl, rfl⟩
      cases hb : bigI s
      · go_wp2
        go_roundg (l.length - (i + 1))
        case measure => omega
        case rel => exact ⟨i + 1, by omega, rfl, by go_num, rfl, hide (by rw [take_next (unhide HS)]; simp only [anyBigI, List.any_append, List.any_cons, List.any_nil, hb]; simpa [anyBigI] using unhide HN)⟩
      · go_wp2
        go_ret
        refine ⟨?_, rfl⟩
        rw [show anyBigI l = true from List.any_eq_true.2 ⟨s, List.mem_of_getElem? (unhide HS), hb⟩]
        rfl
    · obtain rfl : i = l.length := by omega
      clear hil hi hgk
      go_wp2
      go_ret
      refine ⟨?_, rfl⟩
      have := unhide HN
      rw [List.take_length] at this
      rw [this]
      rfl
set_option maxHeartbeats 4000000 in
set_option maxRecDepth 8000 in
/-- in. -/
theorem rin_any {v : Value} {l : List Int} {x : Int} (w : World) (h : Rows 1 JE w v l) : Calls Tryz.prog 20 #[v, .int .i64 x] w fun e w' => (∃ b, e = .returned (.bool b) ∧ (b = true ↔ x ∈ l)) ∧ w' = w := by
  obtain ⟨sa, sc, rfl⟩ := h.shape
  have HR := hide h
  have hsm := h.small
  unfold maxLen at hsm
  clear h
  go_enter Tryz.func20, Tryz.ntmps20
  go_wp2_with fail
  go_loopg [5] l.length (fun gk iv wr => ∃ (i : Nat), i ≤ l.length ∧ gk = l.length - i ∧ iv = .int .i64 (i : Int) ∧ wr = w ∧ Hid (x ∉ l.take i))
  case atStart => exact ⟨0, by omega, by omega, rfl, rfl, hide (by simp)⟩
  case round =>
    obtain ⟨i, hi, hgk, rfl, rfl, HN⟩ := hrel
    by_cases hil : i < l.length
    · obtain ⟨s, hs⟩ : ∃ s, l[i]? = some s := ⟨l[i], by simp [hil]⟩
      obtain ⟨b, o, rfl, c0, _⟩ := (unhide HR).int hs
      have hil' : (i : Int) < (l.length : Int) := by omega
      have HS := hide hs
      clear hs
      by_cases hx : s = x
      · subst hx
        go_wp2
        go_ret
        exact ⟨⟨_, rfl, fun _ => List.mem_of_getElem? (unhide HS), fun _ => rfl⟩, rfl⟩
      · go_wp2
        go_roundg (l.length - (i + 1))
        case measure => omega
        case rel => exact ⟨i + 1, by omega, rfl, by go_num, rfl, hide (by rw [take_next (unhide HS)]; simp only [List.mem_append, List.mem_singleton, not_or]; exact ⟨unhide HN, fun h => hx h.symm⟩)⟩
    · obtain rfl : i = l.length := by omega
      clear hil hi hgk
      go_wp2
      go_ret
      have := unhide HN
      rw [List.take_length] at this
      exact ⟨⟨_, rfl, (fun h => by cases h), fun h => absurd h this⟩, rfl⟩
end Go.Proofs.YthoppmbmmplkiaaGreatDoor
