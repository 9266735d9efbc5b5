/-
  Jobs: one behind the other, all can be done: so there is a least span.
-/
import Derived.Test.YtgckgkllpkkpeaaDoorUE
namespace Go.Proofs.YtgckgkllpkkpeaaDoor
open Go.RowKit

/-- How long the first jobs take together. -/
def sumN (jobs : List Jb) : Nat → Int
  | 0 => 0
  | i + 1 => sumN jobs i + (match jobs[i]? with | some j => j.long | none => 0)
theorem sumN_succ {jobs : List Jb} {i : Nat} {j : Jb} (h : jobs[i]? = some j) : sumN jobs (i + 1) = sumN jobs i + j.long := by rw [sumN, h]
/-- Each job begins when the ones ahead of it are done. -/
def seqS (jobs : List Jb) : List Int := (List.range jobs.length).map (sumN jobs)
theorem seqS_at {jobs : List Jb} {i : Nat} (h : i < jobs.length) : (seqS jobs)[i]? = some (sumN jobs i) := by simp [seqS, h]
theorem seqS_is {jobs : List Jb} {i : Nat} {s : Int} (h : (seqS jobs)[i]? = some s) : i < jobs.length ∧ s = sumN jobs i := by
  have hi : i < jobs.length := by have := (List.getElem?_eq_some_iff.1 h).1; simpa [seqS] using this
  rw [seqS_at hi] at h
  exact ⟨hi, (Option.some.inj h).symm⟩
theorem sumN_mono {jobs : List Jb} (hl : ∀ (i : Nat) (j : Jb), jobs[i]? = some j → 0 ≤ j.long) : ∀ (n k : Nat), k ≤ n → sumN jobs k ≤ sumN jobs n
  | 0, k, h => by obtain rfl : k = 0 := by omega
                  exact Int.le_refl _
  | n + 1, k, h => by
    rcases (by omega : k = n + 1 ∨ k ≤ n) with rfl | h
    · exact Int.le_refl _
    · have ih := sumN_mono hl n k h
      have : sumN jobs n ≤ sumN jobs (n + 1) := by
        rw [sumN]
        split
        · rename_i j hj
          have := hl n j hj
          omega
        · omega
      omega
theorem sumN_longs (jobs : List Jb) : sumN jobs jobs.length = longs jobs := by
  have h : ∀ n, n ≤ jobs.length → sumN jobs n = longs (jobs.take n) := by
    intro n
    induction n with
    | zero => intro _; rfl
    | succ n ih =>
      intro hn
      obtain ⟨j, hj⟩ : ∃ j, jobs[n]? = some j := ⟨jobs[n], by simp⟩
      rw [sumN_succ hj, take_next hj, longs_snoc, ih (by omega)]
  rw [h _ (Nat.le_refl _), List.take_length]
theorem seq_use {jobs : List Jb} {t cap : Int} {c : Nat} (hc : 0 ≤ cap) (hl : ∀ (i : Nat) (j : Jb), jobs[i]? = some j → 0 ≤ j.long) (hu : ∀ (i : Nat) (j : Jb), jobs[i]? = some j → (j.uses[c]?).getD 0 ≤ cap) : ∀ n, n ≤ jobs.length → useN (seqS jobs) jobs t c n ≤ cap ∧ (sumN jobs n ≤ t → useN (seqS jobs) jobs t c n = 0)
  | 0, _ => ⟨hc, fun _ => rfl⟩
  | n + 1, hn => by
    obtain ⟨ih1, ih2⟩ := seq_use hc hl hu (t := t) n (by omega)
    obtain ⟨j, hj⟩ : ∃ j, jobs[n]? = some j := ⟨jobs[n], by simp⟩
    have hs := seqS_at (jobs := jobs) (i := n) (by omega)
    have hsu := sumN_succ hj
    have hl0 := hl n j hj
    have hu0 := hu n j hj
    rw [useN, hs, hj]
    simp only
    by_cases ha : sumN jobs n ≤ t ∧ t < sumN jobs n + j.long
    · rw [if_pos ha, ih2 ha.1]
      exact ⟨by omega, fun h => by omega⟩
    · rw [if_neg ha]
      exact ⟨ih1, fun h => ih2 (by omega)⟩
theorem seq_last {jobs : List Jb} (hl : ∀ (i : Nat) (j : Jb), jobs[i]? = some j → 0 ≤ j.long) : ∀ n, n ≤ jobs.length → lastN (seqS jobs) jobs n = sumN jobs n
  | 0, _ => rfl
  | n + 1, hn => by
    obtain ⟨j, hj⟩ : ∃ j, jobs[n]? = some j := ⟨jobs[n], by simp⟩
    have := hl n j hj
    rw [lastN_succ (seqS_at (by omega)) hj, seq_last hl n (by omega), sumN_succ hj]
    split <;> omega
/-- Of a right plan all can be done within its bound. -/
theorem seq_ends {p : Pl} (h : plvalid p = 0) : ends p (seqS p.jobs) = (longs p.jobs, true) ∧ longs p.jobs ≤ 30 := by
  have hR := plr_of h
  have h30 : longs p.jobs ≤ 30 := by
    unfold plvalid at h
    split at h
    · cases h
    split at h
    · cases h
    split at h
    · rename_i h3
      exact absurd h h3
    split at h
    · cases h
    · omega
  have hl : ∀ (i : Nat) (j : Jb), p.jobs[i]? = some j → 0 ≤ j.long := fun i j hj => (hR.j i j hj).1.1
  have hm := sumN_mono hl
  have hle : ∀ i, i ≤ p.jobs.length → 0 ≤ sumN p.jobs i ∧ sumN p.jobs i ≤ 30 := fun i hi => ⟨hm i 0 (Nat.zero_le _), by have := hm p.jobs.length i hi; rw [sumN_longs] at this; omega⟩
  refine ⟨?_, h30⟩
  rw [ends_good, seq_last hl _ (Nat.le_refl _), sumN_longs]
  · rintro ⟨s, hs, hb⟩
    obtain ⟨i, hi⟩ := List.getElem?_of_mem hs
    obtain ⟨h1, rfl⟩ := seqS_is hi
    have := hle i (by omega)
    omega
  · rintro ⟨i, ⟨s, j, k, a, sa, ja, e1, e2, e3, e4, e5, e6⟩ | ⟨s, c, cap, e1, e2, e3⟩⟩
    · obtain ⟨h1, rfl⟩ := seqS_is e1
      obtain ⟨h2, rfl⟩ := seqS_is e4
      have h3 := (hR.j i j e2).2.2.2.2 (a : Int) (List.mem_of_getElem? e3)
      have h4 := hm i (a + 1) (by omega)
      rw [sumN_succ e5] at h4
      omega
    · have hc0 := (hR.c cap (List.mem_of_getElem? e2)).1
      have hu : ∀ (i : Nat) (j : Jb), p.jobs[i]? = some j → (j.uses[c]?).getD 0 ≤ cap := fun i j hj => by
        cases hcu : j.uses[c]? with
        | none => exact hc0
        | some u => exact ((hR.j i j hj).2.2.2.1 c u cap hcu e2).2
      have := (seq_use (t := s) hc0 hl hu p.jobs.length (Nat.le_refl _)).1
      omega
/-- Of a right plan there is a least span. -/
theorem least_ex {p : Pl} (h : plvalid p = 0) : ∃ s : Nat, s ≤ 30 ∧ (trySt p (s : Int) p.jobs.length []).isSome = true := by
  obtain ⟨h1, h2⟩ := seq_ends h
  have hR := plr_of h
  have hl : ∀ (i : Nat) (j : Jb), p.jobs[i]? = some j → 0 ≤ j.long := fun i j hj => (hR.j i j hj).1.1
  have h0 : 0 ≤ longs p.jobs := by rw [← sumN_longs]; exact sumN_mono hl p.jobs.length 0 (Nat.zero_le _)
  refine ⟨(longs p.jobs).toNat, by omega, ?_⟩
  have := try_some (st := seqS p.jobs) (span := (((longs p.jobs).toNat : Nat) : Int)) hR (by rw [seqS, List.length_map, List.length_range]) (by rw [h1]) (by rw [← ends_end h1]; omega) p.jobs.length 0 (by omega)
  rwa [List.take_zero] at this
end Go.Proofs.YtgckgkllpkkpeaaDoor
