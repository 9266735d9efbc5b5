/-
  Puzzles: what is used at a moment, told by turns.
-/
import Derived.Test.YthoppmbmmplkiaaGreatDoorYK
namespace Go.Proofs.YthoppmbmmplkiaaGreatDoor
open Go.RowKit

/-- The moments from which on so much more is used. -/
def turnsOf : List (Int × Int × Int) → List (Int × Int)
  | [] => []
  | r :: l => (if r.1 < r.2.1 then [(r.1, r.2.2), (r.2.1, -r.2.2)] else []) ++ turnsOf l
/-- What all turns up to a moment come to. -/
def ld (m : Int) : List (Int × Int) → Int
  | [] => 0
  | t :: r => (if t.1 ≤ m then t.2 else 0) + ld m r
/-- Spans between turns, with what is used there. -/
def outs : Int → List (Int × Int) → List (Int × Int × Int)
  | u, t :: t2 :: r => (if t.1 < t2.1 then [(t.1, t2.1, u + t.2)] else []) ++ outs (u + t.2) (t2 :: r)
  | _, _ => []
/-- When each one runs, and what it uses. -/
def runsOf : List Int → List Int → List Int → List (Int × Int × Int)
  | v :: vs, n :: ns, u :: us => (v, v + n, u) :: runsOf vs ns us
  | _, _, _ => []
theorem ld_perm (m : Int) {D D' : List (Int × Int)} (h : D.Perm D') : ld m D = ld m D' := by
  induction h with
  | nil => rfl
  | cons x _ ih => simp only [ld, ih]
  | swap x y l => simp only [ld]; omega
  | trans _ _ h1 h2 => rw [h1, h2]
theorem ld_late {m : Int} : ∀ {D : List (Int × Int)}, (∀ t ∈ D, m < t.1) → ld m D = 0
  | [], _ => rfl
  | t :: r, h => by
    have := h t (by simp)
    rw [ld, if_neg (by omega), ld_late fun x hx => h x (by simp [hx])]
    rfl
theorem ld_append (m : Int) : ∀ (D E : List (Int × Int)), ld m (D ++ E) = ld m D + ld m E
  | [], E => by simp [ld]
  | t :: r, E => by rw [List.cons_append, ld, ld, ld_append m r E]; omega
theorem outs_use : ∀ {D : List (Int × Int)} {u : Int} {s : Int × Int × Int}, D.Pairwise (fun a b => a.1 ≤ b.1) → s ∈ outs u D → s.2.2 = u + ld s.1 D ∧ ∃ t ∈ D, t.1 = s.1
  | [], _, _, _, h => by simp [outs] at h
  | [_], _, _, _, h => by simp [outs] at h
  | t :: t2 :: r, u, s, hs, h => by
    have hs' := List.pairwise_cons.1 hs
    have hs2 := List.pairwise_cons.1 hs'.2
    rw [outs, List.mem_append] at h
    rcases h with h | h
    · split at h
      · rename_i hlt
        obtain rfl : s = (t.1, t2.1, u + t.2) := by simpa using h
        refine ⟨?_, t, by simp, rfl⟩
        show u + t.2 = u + ld t.1 (t :: t2 :: r)
        rw [ld, if_pos (Int.le_refl _), ld_late fun x hx => ?_]
        · omega
        · rcases List.mem_cons.1 hx with rfl | hx
          · exact hlt
          · have := hs2.1 x hx
            omega
      · simp at h
    · obtain ⟨h1, t', h2, h3⟩ := outs_use (D := t2 :: r) hs'.2 h
      have := hs'.1 t' h2
      refine ⟨?_, t', List.mem_cons_of_mem _ h2, h3⟩
      rw [h1, ld.eq_def s.1 (t :: t2 :: r)]
      simp only
      rw [if_pos (by omega)]
      omega
theorem outs_has : ∀ {D : List (Int × Int)} {u m : Int}, D.Pairwise (fun a b => a.1 ≤ b.1) → (∃ t ∈ D, t.1 ≤ m) → (∃ t ∈ D, m < t.1) → ∃ s ∈ outs u D, s.2.2 = u + ld m D
  | [], _, _, _, ⟨_, h, _⟩, _ => by simp at h
  | [t], _, _, _, ⟨a, h1, h2⟩, ⟨b, h3, h4⟩ => by
    obtain rfl : a = t := by simpa using h1
    obtain rfl : b = a := by simpa using h3
    omega
  | t :: t2 :: r, u, m, hs, ⟨a, h1, h2⟩, ⟨b, h3, h4⟩ => by
    have hs' := List.pairwise_cons.1 hs
    have hs2 := List.pairwise_cons.1 hs'.2
    have ht : t.1 ≤ m := by
      rcases List.mem_cons.1 h1 with rfl | h1
      · exact h2
      · have := hs'.1 a h1
        omega
    rw [ld, if_pos ht]
    by_cases h5 : t2.1 ≤ m
    · have hb : b ∈ t2 :: r := by
        rcases List.mem_cons.1 h3 with rfl | h3
        · omega
        · exact h3
      obtain ⟨s, e1, e2⟩ := outs_has (u := u + t.2) hs'.2 ⟨t2, by simp, h5⟩ ⟨b, hb, h4⟩
      exact ⟨s, by rw [outs]; exact List.mem_append.2 (Or.inr e1), by rw [e2]; omega⟩
    · refine ⟨(t.1, t2.1, u + t.2), by rw [outs, if_pos (by omega)]; simp, ?_⟩
      rw [ld_late fun x hx => ?_]
      · show u + t.2 = _
        omega
      · rcases List.mem_cons.1 hx with rfl | hx
        · omega
        · have := hs2.1 x hx
          omega
theorem ld_runs (m : Int) : ∀ (vs ns us : List Int), ld m (turnsOf (runsOf vs ns us)) = loadS m vs ns us
  | v :: vs, n :: ns, u :: us => by
    rw [runsOf, turnsOf, ld_append, ld_runs m vs ns us, loadS]
    congr 1
    simp only
    by_cases h : v < v + n
    · rw [if_pos h]
      simp only [ld]
      repeat' split
      all_goals omega
    · rw [if_neg h, if_neg (by omega)]
      rfl
  | [], _, _ => by simp [runsOf, turnsOf, ld, loadS]
  | _ :: _, [], _ => by simp [runsOf, turnsOf, ld, loadS]
  | _ :: _, _ :: _, [] => by simp [runsOf, turnsOf, ld, loadS]
/-- One runs at a moment. -/
def On (m t n : Int) : Prop := t ≤ m ∧ m < t + n
theorem latest (m : Int) : ∀ (vs ns : List Int), (∀ (j : Nat) (t n : Int), vs[j]? = some t → ns[j]? = some n → ¬ On m t n) ∨ ∃ (i : Nat) (t n : Int), vs[i]? = some t ∧ ns[i]? = some n ∧ On m t n ∧ ∀ (j : Nat) (t' n' : Int), vs[j]? = some t' → ns[j]? = some n' → On m t' n' → t' ≤ t
  | [], _ => Or.inl fun j t n h => by simp at h
  | _ :: _, [] => Or.inl fun j t n _ h => by simp at h
  | v :: vs, k :: ns => by
    by_cases hv : On m v k
    · rcases latest m vs ns with h | ⟨i, t, n, h1, h2, h3, h4⟩
      · refine Or.inr ⟨0, v, k, rfl, rfl, hv, fun j t' n' e1 e2 e3 => ?_⟩
        rcases j with _ | j
        · obtain rfl : v = t' := by simpa using e1
          exact Int.le_refl _
        · exact absurd e3 (h j t' n' (by simpa using e1) (by simpa using e2))
      · by_cases hle : v ≤ t
        · refine Or.inr ⟨i + 1, t, n, by simpa using h1, by simpa using h2, h3, fun j t' n' e1 e2 e3 => ?_⟩
          rcases j with _ | j
          · obtain rfl : v = t' := by simpa using e1
            exact hle
          · exact h4 j t' n' (by simpa using e1) (by simpa using e2) e3
        · refine Or.inr ⟨0, v, k, rfl, rfl, hv, fun j t' n' e1 e2 e3 => ?_⟩
          rcases j with _ | j
          · obtain rfl : v = t' := by simpa using e1
            exact Int.le_refl _
          · have := h4 j t' n' (by simpa using e1) (by simpa using e2) e3
            omega
    · rcases latest m vs ns with h | ⟨i, t, n, h1, h2, h3, h4⟩
      · refine Or.inl fun j t' n' e1 e2 => ?_
        rcases j with _ | j
        · obtain rfl : v = t' := by simpa using e1
          obtain rfl : k = n' := by simpa using e2
          exact hv
        · exact h j t' n' (by simpa using e1) (by simpa using e2)
      · refine Or.inr ⟨i + 1, t, n, by simpa using h1, by simpa using h2, h3, fun j t' n' e1 e2 e3 => ?_⟩
        rcases j with _ | j
        · obtain rfl : v = t' := by simpa using e1
          obtain rfl : k = n' := by simpa using e2
          exact absurd e3 hv
        · exact h4 j t' n' (by simpa using e1) (by simpa using e2) e3
theorem load_more {m t : Int} : ∀ {vs ns us : List Int}, (∀ u ∈ us, 0 ≤ u) → (∀ (j : Nat) (t' n' : Int), vs[j]? = some t' → ns[j]? = some n' → On m t' n' → On t t' n') → loadS m vs ns us ≤ loadS t vs ns us
  | v :: vs, n :: ns, u :: us, hu, h => by
    have ih := load_more (m := m) (t := t) (vs := vs) (ns := ns) (us := us) (fun x hx => hu x (by simp [hx])) (fun j t' n' e1 e2 => h (j + 1) t' n' (by simpa using e1) (by simpa using e2))
    have h0 := h 0 v n rfl rfl
    have hu0 := hu u (by simp)
    unfold On at h0
    rw [loadS, loadS]
    by_cases h1 : v ≤ m ∧ m < v + n
    · rw [if_pos h1, if_pos (h0 h1)]
      omega
    · rw [if_neg h1]
      split <;> omega
  | [], _, _, _, _ => by simp [loadS]
  | _ :: _, [], _, _, _ => by simp [loadS]
  | _ :: _, _ :: _, [], _, _ => by simp [loadS]
theorem load_none {m : Int} : ∀ {vs ns us : List Int}, (∀ (j : Nat) (t n : Int), vs[j]? = some t → ns[j]? = some n → ¬ On m t n) → loadS m vs ns us = 0
  | v :: vs, n :: ns, u :: us, h => by
    have h0 := h 0 v n rfl rfl
    unfold On at h0
    rw [loadS, if_neg h0, load_none fun j t n e1 e2 => h (j + 1) t n (by simpa using e1) (by simpa using e2)]
    rfl
  | [], _, _, _ => by simp [loadS]
  | _ :: _, [], _, _ => by simp [loadS]
  | _ :: _, _ :: _, [], _ => by simp [loadS]
theorem turns_mem : ∀ {vs ns us : List Int} {i : Nat} {t n u : Int}, vs[i]? = some t → ns[i]? = some n → us[i]? = some u → 0 < n → (t, u) ∈ turnsOf (runsOf vs ns us) ∧ (t + n, -u) ∈ turnsOf (runsOf vs ns us)
  | v :: vs, k :: ns, w :: us, i, t, n, u, h1, h2, h3, h0 => by
    rw [runsOf, turnsOf]
    rcases i with _ | i
    · obtain rfl : v = t := by simpa using h1
      obtain rfl : k = n := by simpa using h2
      obtain rfl : w = u := by simpa using h3
      simp only
      rw [if_pos (by omega)]
      simp
    · obtain ⟨e1, e2⟩ := turns_mem (vs := vs) (ns := ns) (us := us) (by simpa using h1) (by simpa using h2) (by simpa using h3) h0
      exact ⟨List.mem_append.2 (Or.inr e1), List.mem_append.2 (Or.inr e2)⟩
  | [], _, _, _, _, _, _, h, _, _, _ => by simp at h
  | _ :: _, [], _, _, _, _, _, _, h, _, _ => by simp at h
  | _ :: _, _ :: _, [], _, _, _, _, _, _, h, _ => by simp at h
/-- What is used never goes past the limit just if no span between turns does. -/
theorem share_iff {v nums uses : List Int} {limit : Int} {D : List (Int × Int)} (hl : uses.length = v.length) (hu : ∀ u ∈ uses, 0 ≤ u) (h0 : 0 ≤ limit) (hp : D.Perm (turnsOf (runsOf v nums uses))) (hs : D.Pairwise (fun a b => a.1 ≤ b.1)) : (∃ s ∈ outs 0 D, limit < s.2.2) ↔ ¬ shareP v nums uses limit := by
  constructor
  · rintro ⟨s, h1, h2⟩ hsh
    obtain ⟨h3, _⟩ := outs_use hs h1
    rw [ld_perm _ hp, ld_runs] at h3
    rcases latest s.1 v nums with h | ⟨i, t, n, e1, e2, e3, e4⟩
    · rw [load_none h] at h3
      omega
    · have := hsh i t n e1 e2 (by unfold On at e3; omega)
      have h4 := load_more (m := s.1) (t := t) hu (vs := v) (ns := nums) (us := uses) (fun j t' n' f1 f2 f3 => ⟨e4 j t' n' f1 f2 f3, by unfold On at e3 f3; omega⟩)
      omega
  · intro hsh
    have : ∃ (i : Nat) (t n : Int), v[i]? = some t ∧ nums[i]? = some n ∧ 0 < n ∧ limit < loadS t v nums uses := by
      refine Classical.byContradiction fun hc => hsh fun i t n e1 e2 e3 => ?_
      refine Int.not_lt.1 fun h => hc ⟨i, t, n, e1, e2, e3, h⟩
    obtain ⟨i, t, n, e1, e2, e3, e4⟩ := this
    obtain ⟨u, e5⟩ : ∃ u, uses[i]? = some u := ⟨uses[i]'(by have := (List.getElem?_eq_some_iff.1 e1).1; omega), by simp⟩
    obtain ⟨f1, f2⟩ := turns_mem e1 e2 e5 e3
    obtain ⟨s, g1, g2⟩ := outs_has (u := 0) (m := t) hs ⟨(t, u), hp.mem_iff.2 f1, Int.le_refl _⟩ ⟨(t + n, -u), hp.mem_iff.2 f2, by show t < t + n; omega⟩
    rw [ld_perm _ hp, ld_runs] at g2
    exact ⟨s, g1, by omega⟩
end Go.Proofs.YthoppmbmmplkiaaGreatDoor
