/-
  Jobs: schedules, and what is used of them: mathematics.
-/
import Derived.Test.YtgckgkllpkkpeaaDoorUY
namespace Go.Proofs.YtgckgkllpkkpeaaDoor
open Go.RowKit

def sumU (f : Nat → Int) : Nat → Int
  | 0 => 0
  | n + 1 => sumU f n + f n
theorem sumU_le {f g : Nat → Int} : ∀ {n : Nat}, (∀ i, i < n → f i ≤ g i) → sumU f n ≤ sumU g n
  | 0, _ => Int.le_refl _
  | n + 1, h => by
    have h1 := sumU_le (n := n) fun i hi => h i (by omega)
    have h2 := h n (by omega)
    simp only [sumU]
    omega
theorem sumU_congr {f g : Nat → Int} : ∀ {n : Nat}, (∀ i, i < n → f i = g i) → sumU f n = sumU g n
  | 0, _ => rfl
  | n + 1, h => by simp only [sumU]; rw [sumU_congr (n := n) fun i hi => h i (by omega), h n (by omega)]
theorem sumU_nonneg {f : Nat → Int} : ∀ {n : Nat}, (∀ i, i < n → 0 ≤ f i) → 0 ≤ sumU f n
  | 0, _ => Int.le_refl _
  | n + 1, h => by
    have h1 := sumU_nonneg (n := n) fun i hi => h i (by omega)
    have h2 := h n (by omega)
    simp only [sumU]
    omega
theorem sumU_top {f : Nat → Int} {c : Int} (hc : 0 ≤ c) : ∀ {n : Nat}, (∀ i, i < n → f i ≤ c) → sumU f n ≤ c * (n : Int)
  | 0, _ => by simp [sumU]
  | n + 1, h => by
    have h1 := sumU_top hc (n := n) fun i hi => h i (by omega)
    have h2 := h n (by omega)
    simp only [sumU]
    rw [Int.natCast_succ, Int.mul_add]
    omega
theorem sumU_one {f g : Nat → Int} {j : Nat} : ∀ {n : Nat}, j < n → (∀ i, i < n → i ≠ j → f i = g i) → sumU g n = sumU f n - f j + g j
  | 0, h, _ => by omega
  | n + 1, hj, h => by
    simp only [sumU]
    by_cases e : j = n
    · subst e
      rw [sumU_congr (f := g) (g := f) fun i hi => (h i (by omega) (by omega)).symm]
      omega
    · rw [sumU_one (f := f) (g := g) (n := n) (by omega) fun i hi hne => h i (by omega) hne, h n (by omega) (fun e' => e e'.symm)]
      omega
/-- What a job uses at a moment. -/
def runU (p : Pl) (x : Nat → Nat) (b : Nat → Bool) (m k i : Nat) : Int := if b i = true ∧ x i ≤ m ∧ m < x i + lgN p i then usN p i k else 0
/-- What all jobs of some use at a moment. -/
def useM (p : Pl) (x : Nat → Nat) (b : Nat → Bool) : Nat → Nat → Int := fun m k => sumU (runU p x b m k) p.jobs.length
theorem usN_bound {p : Pl} (hR : PlR p) (i k : Nat) : 0 ≤ usN p i k ∧ usN p i k ≤ 100000000 := by
  cases h : p.jobs[i]? with
  | none => simp [usN, h]
  | some j =>
    cases hu : j.uses[k]? with
    | none => simp [usN, h, hu]
    | some v =>
      have h1 := (hR.j i j h).2.2.1
      obtain ⟨c, hc⟩ : ∃ c, p.caps[k]? = some c := at_some (by have := (List.getElem?_eq_some_iff.1 hu).1; omega)
      have h2 := (hR.j i j h).2.2.2.1 k v c hu hc
      have h3 := hR.c c (List.mem_of_getElem? hc)
      rw [usN_eq h hu]
      omega
theorem usN_none {p : Pl} (hR : PlR p) {i k : Nat} (hk : ¬ k < p.caps.length) : usN p i k = 0 := by
  cases h : p.jobs[i]? with
  | none => simp [usN, h]
  | some j =>
    have h1 := (hR.j i j h).2.2.1
    have : j.uses[k]? = none := List.getElem?_eq_none (by omega)
    simp [usN, h, this]
theorem runU_bound {p : Pl} (hR : PlR p) (x : Nat → Nat) (b : Nat → Bool) (m k i : Nat) : 0 ≤ runU p x b m k i ∧ runU p x b m k i ≤ 100000000 := by
  have := usN_bound hR i k
  unfold runU
  split
  · exact this
  · omega
theorem useM_bound {p : Pl} (hR : PlR p) (x : Nat → Nat) (b : Nat → Bool) (m k : Nat) : 0 ≤ useM p x b m k ∧ useM p x b m k ≤ 1000000000 := by
  refine ⟨sumU_nonneg fun i _ => (runU_bound hR x b m k i).1, ?_⟩
  have h1 := sumU_top (c := 100000000) (by decide) (n := p.jobs.length) fun i _ => (runU_bound hR x b m k i).2
  have h2 := hR.nj
  unfold useM
  omega
theorem useM_congr {p : Pl} {x y : Nat → Nat} {b b' : Nat → Bool} (hb : ∀ i, i < p.jobs.length → b i = b' i) (h : ∀ i, i < p.jobs.length → b i = true → x i = y i) : useM p x b = useM p y b' := by
  funext m k
  refine sumU_congr fun i hi => ?_
  unfold runU
  rw [← hb i hi]
  by_cases e : b i = true
  · rw [h i hi e]
  · rw [if_neg (fun h => e h.1), if_neg (fun h => e h.1)]
theorem useM_mono {p : Pl} (hR : PlR p) {x y : Nat → Nat} {b b' : Nat → Bool} (h : ∀ i, i < p.jobs.length → b i = true → b' i = true ∧ x i = y i) (m k : Nat) : useM p x b m k ≤ useM p y b' m k := by
  refine sumU_le fun i hi => ?_
  by_cases e : b i = true
  · obtain ⟨h1, h2⟩ := h i hi e
    unfold runU
    rw [h2, e, h1]
    exact Int.le_refl _
  · have := (runU_bound hR y b' m k i).1
    rw [runU, if_neg (fun h => e h.1)]
    exact this
/-- A job more. -/
theorem useM_with {p : Pl} {x : Nat → Nat} {b : Nat → Bool} {j a : Nat} (hj : j < p.jobs.length) (hb : b j = false) (m k : Nat) : useM p (upd x j a) (upd b j true) m k = useM p x b m k + if a ≤ m ∧ m < a + lgN p j then usN p j k else 0 := by
  have h1 := sumU_one (f := runU p x b m k) (g := runU p (upd x j a) (upd b j true) m k) hj fun i _ hne => by simp only [runU, upd_other _ _ hne]
  have h2 : runU p x b m k j = 0 := by rw [runU, if_neg (by simp [hb])]
  have h3 : runU p (upd x j a) (upd b j true) m k j = if a ≤ m ∧ m < a + lgN p j then usN p j k else 0 := by
    simp only [runU, upd_same, true_and]
  unfold useM
  rw [h1, h2, h3]
  omega
theorem addN_with {p : Pl} (hR : PlR p) {x : Nat → Nat} {b : Nat → Bool} {j a : Nat} (hj : j < p.jobs.length) (hb : b j = false) : addN p (useM p x b) j a (lgN p j) 1 = useM p (upd x j a) (upd b j true) := by
  funext m k
  rw [useM_with hj hb, addN]
  by_cases h1 : a ≤ m ∧ m < a + lgN p j
  · rw [if_pos h1]
    by_cases hk : k < p.caps.length
    · rw [if_pos ⟨h1.1, h1.2, hk⟩]
      omega
    · rw [if_neg (fun h => hk h.2.2), usN_none hR hk]
      omega
  · rw [if_neg h1, if_neg (fun h => h1 ⟨h.1, h.2.1⟩)]
    omega
/-- A job less. -/
theorem useM_less {p : Pl} {x : Nat → Nat} {b : Nat → Bool} {j : Nat} (hj : j < p.jobs.length) (hb : b j = true) (m k : Nat) : useM p x b m k = useM p x (upd b j false) m k + if x j ≤ m ∧ m < x j + lgN p j then usN p j k else 0 := by
  have h := useM_with (x := x) (a := x j) hj (upd_same b j false) m k
  have e1 : upd x j (x j) = x := by funext i; by_cases e : i = j; subst e; rw [upd_same]; rw [upd_other _ _ e]
  have e2 : upd (upd b j false) j true = b := by funext i; by_cases e : i = j; subst e; rw [upd_same, hb]; rw [upd_other _ _ e, upd_other _ _ e]
  rw [e1, e2] at h
  exact h
theorem addN_less {p : Pl} (hR : PlR p) {x : Nat → Nat} {b : Nat → Bool} {j : Nat} (hj : j < p.jobs.length) (hb : b j = true) : addN p (useM p x b) j (x j) (lgN p j) (-1) = useM p x (upd b j false) := by
  funext m k
  have h := useM_less (x := x) hj hb m k
  rw [addN]
  by_cases h1 : x j ≤ m ∧ m < x j + lgN p j
  · rw [if_pos h1] at h
    by_cases hk : k < p.caps.length
    · rw [if_pos ⟨h1.1, h1.2, hk⟩]
      omega
    · rw [usN_none hR hk] at h
      rw [if_neg (fun h => hk h.2.2)]
      omega
  · rw [if_neg h1] at h
    rw [if_neg (fun h => h1 ⟨h.1, h.2.1⟩)]
    omega
/-- All. -/
def allB : Nat → Bool := fun _ => true
/-- Starts that are done within a span. -/
structure Feas (p : Pl) (S : Nat) (x : Nat → Nat) : Prop where
  fit : ∀ i, i < p.jobs.length → x i + lgN p i ≤ S
  aft : ∀ j a, Aft p j a → x a + lgN p a ≤ x j
  use : ∀ m k, k < p.caps.length → useM p x allB m k ≤ capN p k
/-- Starts that go on from some. -/
structure Compl (p : Pl) (S : Nat) (x : Nat → Nat) (b : Nat → Bool) (y : Nat → Nat) : Prop where
  f : Feas p S y
  e : ∀ i, i < p.jobs.length → b i = true → y i = x i
/-- No job that has not begun could begin earlier while the others stay. -/
def Tight (p : Pl) (b : Nat → Bool) (y : Nat → Nat) : Prop := ∀ j, j < p.jobs.length → b j = false → ∀ e, e < y j → rdN p y j ≤ e → ¬ Room p (useM p y (upd allB j false)) j e
theorem Feas.move {p : Pl} (hR : PlR p) {S : Nat} {y : Nat → Nat} (h : Feas p S y) {j e : Nat} (hj : j < p.jobs.length) (he : e < y j) (hr : rdN p y j ≤ e) (hm : Room p (useM p y (upd allB j false)) j e) : Feas p S (upd y j e) := by
  have hr := (rdN_le hR hj).1 hr
  refine ⟨fun i hi => ?_, fun i a ha => ?_, fun m k hk => ?_⟩
  · by_cases e1 : i = j
    · subst e1
      rw [upd_same]
      have := h.fit i hi
      omega
    · rw [upd_other _ _ e1]
      exact h.fit i hi
  · have hlt := ha.lt hR
    by_cases e1 : i = j
    · subst e1
      rw [upd_same, upd_other _ _ (by omega)]
      exact hr a ha
    · rw [upd_other (i := i) _ _ e1]
      by_cases e2 : a = j
      · subst e2
        rw [upd_same]
        have := h.aft i a ha
        omega
      · rw [upd_other _ _ e2]
        exact h.aft i a ha
  · have h1 := useM_with (p := p) (x := y) (b := upd allB j false) (a := e) hj (upd_same _ _ _) m k
    have e2 : upd (upd allB j false) j true = allB := by funext i; by_cases e : i = j; subst e; rw [upd_same]; rfl; rw [upd_other _ _ e, upd_other _ _ e]
    rw [e2] at h1
    rw [h1]
    by_cases h2 : e ≤ m ∧ m < e + lgN p j
    · rw [if_pos h2]
      exact hm m k h2.1 h2.2 hk
    · rw [if_neg h2, Int.add_zero]
      refine Int.le_trans (useM_mono hR (y := y) (b' := allB) (fun i _ _ => ⟨rfl, rfl⟩) m k) (h.use m k hk)
def sumX (x : Nat → Nat) : Nat → Nat
  | 0 => 0
  | n + 1 => sumX x n + x n
theorem sumX_le {x y : Nat → Nat} : ∀ {n : Nat}, (∀ i, i < n → x i ≤ y i) → sumX x n ≤ sumX y n
  | 0, _ => Nat.le_refl _
  | n + 1, h => by
    have h1 := sumX_le (n := n) fun i hi => h i (by omega)
    have h2 := h n (by omega)
    simp only [sumX]
    omega
theorem sumX_lt {y : Nat → Nat} {j e : Nat} (he : e < y j) : ∀ {n : Nat}, j < n → sumX (upd y j e) n < sumX y n
  | 0, h => by omega
  | n + 1, h => by
    simp only [sumX]
    by_cases e1 : j = n
    · subst e1
      rw [upd_same]
      have := sumX_le (x := upd y j e) (y := y) (n := j) fun i hi => by rw [upd_other _ _ (by omega)]; exact Nat.le_refl _
      omega
    · have := sumX_lt (y := y) he (n := n) (by omega)
      rw [upd_other (i := n) _ _ (by omega)]
      omega
/-- There are tight ones. -/
theorem tight_ex {p : Pl} (hR : PlR p) {S : Nat} {x : Nat → Nat} {b : Nat → Bool} : ∀ (N : Nat) (y : Nat → Nat), sumX y p.jobs.length ≤ N → Compl p S x b y → ∃ y', Compl p S x b y' ∧ Tight p b y' := by
  intro N
  induction N with
  | zero =>
    intro y hN h
    refine ⟨y, h, fun j hj _ e he _ _ => ?_⟩
    have := sumX_lt he hj
    omega
  | succ N ih =>
    intro y hN h
    by_cases ht : Tight p b y
    · exact ⟨y, h, ht⟩
    · have : ∃ j e, j < p.jobs.length ∧ b j = false ∧ e < y j ∧ rdN p y j ≤ e ∧ Room p (useM p y (upd allB j false)) j e := by
        refine Classical.byContradiction fun hn => ht fun j hj hb e he hr hm => hn ⟨j, e, hj, hb, he, hr, hm⟩
      obtain ⟨j, e, hj, hb, he, hr, hm⟩ := this
      have hlt := sumX_lt he hj
      refine ih (upd y j e) (by omega) ⟨h.f.move hR hj he hr hm, fun i hi hbi => ?_⟩
      rw [upd_other _ _ (by rintro rfl; rw [hb] at hbi; cases hbi)]
      exact h.e i hi hbi
end Go.Proofs.YtgckgkllpkkpeaaDoor
