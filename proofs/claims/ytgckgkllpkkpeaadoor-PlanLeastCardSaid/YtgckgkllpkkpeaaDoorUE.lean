/-
  Jobs: the first starts with the least span: mathematics.
-/
import Derived.Test.YtgckgkllpkkpeaaDoorUC
namespace Go.Proofs.YtgckgkllpkkpeaaDoor
open Go.RowKit

/-- The first jobs of a plan. -/
def cutP (p : Pl) (k : Nat) : Pl := ⟨p.jobs.take k, p.caps⟩
/-- The first jobs can begin so. -/
def okS (p : Pl) (x : List Int) : Prop := (ends (cutP p x.length) x).2 = true
/-- How long the n-th job takes. -/
def longAt (p : Pl) (n : Nat) : Int := match p.jobs[n]? with | some j => j.long | none => 0
open Classical in
/-- The first starts, behind some, that are done in time; k jobs are left. -/
noncomputable def trySt (p : Pl) (span : Int) : Nat → List Int → Option (List Int)
  | 0, x => some x
  | k + 1, x => (List.range (span - longAt p x.length + 1).toNat).findSome? fun (t : Nat) => if okS p (x ++ [(t : Int)]) then trySt p span k (x ++ [(t : Int)]) else none
theorem ends_yes {p : Pl} {st : List Int} : (ends p st).2 = true ↔ ¬ bigS st ∧ ¬ ∃ i, badA p st i ∨ badC p st i := by
  rw [ends]
  split
  · rename_i h
    simp [h]
  · rename_i h
    split
    · rename_i h'
      simp only [Bool.false_eq_true, false_iff]
      exact fun hh => hh.2 h'
    · rename_i h'
      simp only [true_iff]
      exact ⟨h, h'⟩
theorem ends_end {p : Pl} {st : List Int} {m : Int} (h : ends p st = (m, true)) : m = lastN st p.jobs p.jobs.length := by
  have h2 := (ends_yes (p := p) (st := st)).1 (by rw [h])
  rw [ends_good h2.1 h2.2] at h
  exact (Prod.mk.inj h).1.symm
theorem use_pre {st : List Int} {jobs : List Jb} {t : Int} {c : Nat} (hu : ∀ (i : Nat) (j : Jb), jobs[i]? = some j → 0 ≤ (j.uses[c]?).getD 0) : ∀ (n k : Nat), k ≤ n → useN st jobs t c k ≤ useN st jobs t c n
  | 0, k, h => by obtain rfl : k = 0 := by omega
                  exact Int.le_refl _
  | n + 1, k, h => by
    rcases (by omega : k = n + 1 ∨ k ≤ n) with rfl | h
    · exact Int.le_refl _
    · have ih := use_pre hu (st := st) (t := t) n k h
      have : useN st jobs t c n ≤ useN st jobs t c (n + 1) := by
        rw [useN]
        split
        · rename_i s j hs hj
          have := hu n j hj
          split <;> omega
        · exact Int.le_refl _
      omega
theorem use_take {st : List Int} {jobs : List Jb} {t : Int} {c m : Nat} : ∀ (k : Nat), k ≤ m → useN (st.take m) (jobs.take m) t c k = useN st jobs t c k
  | 0, _ => rfl
  | k + 1, h => by
    rw [useN, useN, use_take k (by omega), List.getElem?_take_of_lt (by omega), List.getElem?_take_of_lt (by omega)]
theorem last_ge {st : List Int} {jobs : List Jb} : ∀ (n i : Nat) (s : Int) (j : Jb), i < n → st[i]? = some s → jobs[i]? = some j → s + j.long ≤ lastN st jobs n
  | 0, i, _, _, h, _, _ => by omega
  | n + 1, i, s, j, h, hs, hj => by
    rcases (by omega : i = n ∨ i < n) with rfl | h
    · rw [lastN_succ hs hj]
      split <;> omega
    · have ih := last_ge n i s j h hs hj
      have : lastN st jobs n ≤ lastN st jobs (n + 1) := by
        rw [lastN]
        split
        · split <;> omega
        · exact Int.le_refl _
      omega
/-- Where all can begin so, the first ones can. -/
theorem ok_pre {p : Pl} {st : List Int} (hR : PlR p) (hl : st.length = p.jobs.length) (h : (ends p st).2 = true) (m : Nat) (hm : m ≤ st.length) : okS p (st.take m) := by
  have hmm : (st.take m).length = m := by rw [List.length_take]; omega
  unfold okS
  rw [hmm]
  obtain ⟨h1, h2⟩ := ends_yes.1 h
  refine ends_yes.2 ⟨fun ⟨s, hs, hb⟩ => h1 ⟨s, List.mem_of_mem_take hs, hb⟩, ?_⟩
  rintro ⟨i, hb⟩
  apply h2
  have lift : ∀ {α : Type} {l : List α} {i : Nat} {x : α}, (l.take m)[i]? = some x → l[i]? = some x ∧ i < m := fun {α l i x} hx => by
    rw [List.getElem?_take] at hx
    split at hx
    · rename_i hi
      exact ⟨hx, hi⟩
    · cases hx
  rcases hb with ⟨s, j, k, a, sa, ja, e1, e2, e3, e4, e5, e6⟩ | ⟨s, c, cap, e1, e2, e3⟩
  · exact ⟨i, Or.inl ⟨s, j, k, a, sa, ja, (lift e1).1, (lift e2).1, e3, (lift e4).1, (lift e5).1, e6⟩⟩
  · refine ⟨i, Or.inr ⟨s, c, cap, (lift e1).1, e2, ?_⟩⟩
    have hjl : (cutP p m).jobs.length = m := by show (p.jobs.take m).length = m; rw [List.length_take]; omega
    rw [hjl] at e3
    have e4 : useN (st.take m) (p.jobs.take m) s c m = useN st p.jobs s c m := use_take m (Nat.le_refl _)
    have e3' : cap < useN (st.take m) (p.jobs.take m) s c m := e3
    rw [e4] at e3'
    have hu : ∀ (i : Nat) (j : Jb), p.jobs[i]? = some j → 0 ≤ (j.uses[c]?).getD 0 := fun i j hj => by
      obtain ⟨_, _, h3, h4, _⟩ := hR.j i j hj
      cases hc : j.uses[c]? with
      | none => simp
      | some u =>
        have h5 := (List.getElem?_eq_some_iff.1 hc).1
        obtain ⟨cc, hcc⟩ : ∃ cc, p.caps[c]? = some cc := ⟨p.caps[c]'(by omega), by simp⟩
        exact (h4 c u cc hc hcc).1
    have := use_pre (st := st) (t := s) hu p.jobs.length m (by omega)
    omega
/-- What can begin so is found, or something ahead of it. -/
theorem try_some {p : Pl} {st : List Int} {span : Int} (hR : PlR p) (hl : st.length = p.jobs.length) (h : (ends p st).2 = true) (hs : lastN st p.jobs p.jobs.length ≤ span) : ∀ (k i : Nat), i + k = p.jobs.length → (trySt p span k (st.take i)).isSome = true
  | 0, i, _ => by simp [trySt]
  | k + 1, i, hik => by
    have hin : i < st.length := by omega
    have ih := try_some hR hl h hs k (i + 1) (by omega)
    obtain ⟨s, hsi⟩ : ∃ s, st[i]? = some s := ⟨st[i], by simp⟩
    obtain ⟨j, hj⟩ : ∃ j, p.jobs[i]? = some j := ⟨p.jobs[i]'(by omega), by simp⟩
    have hb := (ends_yes.1 h).1
    have hs0 : 0 ≤ s ∧ s ≤ 100000000 := by
      refine ⟨Int.not_lt.1 fun hlt => hb ⟨s, List.mem_of_getElem? hsi, Or.inl hlt⟩, Int.not_lt.1 fun hlt => hb ⟨s, List.mem_of_getElem? hsi, Or.inr hlt⟩⟩
    have hlast := last_ge p.jobs.length i s j (by omega) hsi hj
    have htk : (st.take i).length = i := by rw [List.length_take]; omega
    obtain ⟨z, rfl⟩ : ∃ z : Nat, s = (z : Int) := ⟨s.toNat, by omega⟩
    rw [trySt, List.findSome?_isSome_iff]
    refine ⟨z, ?_, ?_⟩
    · rw [htk, longAt, hj, List.mem_range]
      simp only
      omega
    · rw [← take_next hsi, if_pos (ok_pre hR hl h (i + 1) (by omega))]
      exact ih
theorem try_len {p : Pl} {span : Int} : ∀ {k : Nat} {x z : List Int}, trySt p span k x = some z → z.length = x.length + k
  | 0, x, z, h => by
    obtain rfl : x = z := by simpa [trySt] using h
    rfl
  | k + 1, x, z, h => by
    rw [trySt] at h
    obtain ⟨t, _, ht⟩ := List.exists_of_findSome?_eq_some h
    split at ht
    · rw [try_len ht, List.length_append, List.length_singleton]
      omega
    · cases ht
end Go.Proofs.YtgckgkllpkkpeaaDoor
