/-
  Jobs: why the order in which jobs begin is all that is to be looked for: mathematics.
-/
import Derived.Test.YtgckgkllpkkpeaaDoorZA
namespace Go.Proofs.YtgckgkllpkkpeaaDoor
open Go.RowKit

/-- Some jobs have begun, each in its time. -/
structure OkS (p : Pl) (S : Nat) (T : Nat → Nat) (x : Nat → Nat) (b : Nat → Bool) : Prop where
  fit : ∀ i, i < p.jobs.length → b i = true → x i + T i ≤ S
  aft : ∀ j a, Aft p j a → b j = true → b a = true ∧ x a + lgN p a ≤ x j
  use : ∀ m k, k < p.caps.length → useM p x b m k ≤ capN p k
theorem OkS.begin {p : Pl} (hR : PlR p) {S : Nat} {T x : Nat → Nat} {b : Nat → Bool} (h : OkS p S T x b) {j e : Nat} (hj : j < p.jobs.length) (hb : b j = false) (hf : ∀ a, Aft p j a → b a = true) (hr : rdN p x j ≤ e) (hm : Room p (useM p x b) j e) (hS : e + T j ≤ S) : OkS p S T (upd x j e) (upd b j true) := by
  have hr := (rdN_le hR hj).1 hr
  refine ⟨fun i hi hbi => ?_, fun i a ha hbi => ?_, fun m k hk => ?_⟩
  · by_cases e1 : i = j
    · subst e1
      rw [upd_same]
      exact hS
    · rw [upd_other _ _ e1] at hbi ⊢
      exact h.fit i hi hbi
  · have hlt := ha.lt hR
    by_cases e1 : i = j
    · subst e1
      rw [upd_same, upd_other _ _ (by omega), upd_other _ _ (by omega)]
      exact ⟨hf a ha, hr a ha⟩
    · rw [upd_other _ _ e1] at hbi
      rw [upd_other (i := i) _ _ e1]
      obtain ⟨h1, h2⟩ := h.aft i a ha hbi
      have e2 : a ≠ j := by rintro rfl; rw [hb] at h1; cases h1
      rw [upd_other _ _ e2, upd_other _ _ e2]
      exact ⟨h1, h2⟩
  · rw [useM_with hj hb]
    by_cases h2 : e ≤ m ∧ m < e + lgN p j
    · rw [if_pos h2]
      exact hm m k h2.1 h2.2 hk
    · rw [if_neg h2, Int.add_zero]
      exact h.use m k hk
theorem OkS.congr {p : Pl} (hR : PlR p) {S : Nat} {T x y : Nat → Nat} {b : Nat → Bool} (h : OkS p S T x b) (he : ∀ i, i < p.jobs.length → b i = true → y i = x i) : OkS p S T y b := by
  refine ⟨fun i hi hbi => ?_, fun j a ha hbj => ?_, fun m k hk => ?_⟩
  · rw [he i hi hbi]
    exact h.fit i hi hbi
  · have hlt := ha.lt hR
    obtain ⟨h1, h2⟩ := h.aft j a ha hbj
    rw [he a (by omega) h1, he j (by omega) hbj]
    exact ⟨h1, h2⟩
  · rw [useM_congr (x := y) (y := x) (b := b) (b' := b) (fun _ _ => rfl) he]
    exact h.use m k hk
theorem OkS.all {p : Pl} (hR : PlR p) {S : Nat} {T x : Nat → Nat} {b : Nat → Bool} (h : OkS p S T x b) (hT : ∀ i, i < p.jobs.length → lgN p i ≤ T i) (hb : ∀ i, i < p.jobs.length → b i = true) : Compl p S x b x := by
  refine ⟨⟨fun i hi => ?_, fun j a ha => ?_, fun m k hk => ?_⟩, fun _ _ _ => rfl⟩
  · have := h.fit i hi (hb i hi)
    have := hT i hi
    omega
  · exact (h.aft j a ha (hb j (ha.lt hR).2)).2
  · rw [useM_congr (x := x) (y := x) (b := allB) (b' := b) (fun i hi => (hb i hi).symm) (fun _ _ _ => rfl)]
    exact h.use m k hk
theorem rdN_compl {p : Pl} (hR : PlR p) {S : Nat} {x y : Nat → Nat} {b : Nat → Bool} (h : Compl p S x b y) {j : Nat} (hj : j < p.jobs.length) (hf : ∀ a, Aft p j a → b a = true) (s : Nat) : rdN p y j ≤ s ↔ rdN p x j ≤ s := by
  rw [rdN_le hR hj, rdN_le hR hj]
  constructor
  · intro h1 a ha
    rw [← h.e a (by have := ha.lt hR; omega) (hf a ha)]
    exact h1 a ha
  · intro h1 a ha
    rw [h.e a (by have := ha.lt hR; omega) (hf a ha)]
    exact h1 a ha
theorem earl_le {p : Pl} (hR : PlR p) {S : Nat} {T x y : Nat → Nat} {b : Nat → Bool} (h : Compl p S x b y) {j e : Nat} (hj : j < p.jobs.length) (hb : b j = false) (hf : ∀ a, Aft p j a → b a = true) (he : Earl p x (useM p x b) S (T j) j e) : e ≤ y j := by
  refine Classical.byContradiction fun hn => he.no (y j) ((rdN_compl hR h hj hf _).1 ((rdN_le hR hj).2 fun a ha => h.f.aft j a ha)) (by omega) fun m k h1 h2 hk => ?_
  have h3 := useM_with (x := x) (a := y j) hj hb m k
  rw [if_pos ⟨h1, h2⟩] at h3
  rw [← h3]
  refine Int.le_trans (useM_mono hR (y := y) (b' := allB) (fun i hi hbi => ⟨rfl, ?_⟩) m k) (h.f.use m k hk)
  by_cases e1 : i = j
  · subst e1
    rw [upd_same]
  · rw [upd_other _ _ e1] at hbi ⊢
    exact (h.e i hi hbi).symm
/-- The first to begin of those that have not. -/
structure IsMin (p : Pl) (y : Nat → Nat) (b : Nat → Bool) (j : Nat) : Prop where
  n : j < p.jobs.length
  nb : b j = false
  l : ∀ i, i < p.jobs.length → b i = false → y j < y i ∨ (y j = y i ∧ j ≤ i)
theorem min_ex {p : Pl} {y : Nat → Nat} {b : Nat → Bool} : ∀ (N i : Nat), y i * (p.jobs.length + 1) + i ≤ N → i < p.jobs.length → b i = false → ∃ j, IsMin p y b j := by
  intro N
  induction N with
  | zero =>
    intro i h1 h2 h3
    refine ⟨i, h2, h3, fun i' h4 h5 => ?_⟩
    have : y i * (p.jobs.length + 1) = 0 := by omega
    have : y i = 0 := by
      rcases Nat.mul_eq_zero.1 this with h | h
      · exact h
      · omega
    omega
  | succ N ih =>
    intro i h1 h2 h3
    by_cases hm : ∀ i', i' < p.jobs.length → b i' = false → y i < y i' ∨ (y i = y i' ∧ i ≤ i')
    · exact ⟨i, h2, h3, hm⟩
    · have : ∃ i', i' < p.jobs.length ∧ b i' = false ∧ ¬ (y i < y i' ∨ (y i = y i' ∧ i ≤ i')) := Classical.byContradiction fun hn => hm fun i' h4 h5 => Classical.byContradiction fun h6 => hn ⟨i', h4, h5, h6⟩
      obtain ⟨i', h4, h5, h6⟩ := this
      refine ih i' ?_ h4 h5
      by_cases e : y i' = y i
      · rw [e]
        omega
      · have h7 : y i' + 1 ≤ y i := by omega
        have h8 := Nat.mul_le_mul_right (p.jobs.length + 1) h7
        rw [Nat.add_mul] at h8
        omega
theorem min_free {p : Pl} (hR : PlR p) {S : Nat} {x y : Nat → Nat} {b : Nat → Bool} (h : Compl p S x b y) {j : Nat} (hm : IsMin p y b j) : ∀ a, Aft p j a → b a = true := by
  intro a ha
  cases hb : b a with
  | true => rfl
  | false =>
    have h1 := h.f.aft j a ha
    have h2 := ha.lt hR
    have h3 := hm.l a (by omega) hb
    omega
theorem min_eq {p : Pl} (hR : PlR p) {S : Nat} {T x y : Nat → Nat} {b : Nat → Bool} (h : Compl p S x b y) (ht : Tight p b y) {j e : Nat} (hm : IsMin p y b j) (he : Earl p x (useM p x b) S (T j) j e) (hS : e + T j ≤ S) : e = y j := by
  have hf := min_free hR h hm
  have h1 := earl_le hR h hm.n hm.nb hf he
  refine Classical.byContradiction fun hn => ht j hm.n hm.nb e (by omega) ((rdN_compl hR h hm.n hf _).2 he.r) fun m k h2 h3 hk => ?_
  by_cases h4 : m < y j
  · refine Int.le_trans ?_ (he.yes hS m k h2 h3 hk)
    refine Int.add_le_add_right (sumU_le fun i hi => ?_) _
    cases hb : b i with
    | true =>
      have e1 : i ≠ j := by rintro rfl; rw [hm.nb] at hb; cases hb
      simp only [runU, upd_other _ _ e1, hb, h.e i hi hb, allB]
      exact Int.le_refl _
    | false =>
      have h5 := (runU_bound hR x b m k i).1
      by_cases e1 : i = j
      · subst e1
        rw [runU, if_neg (by rw [upd_same]; simp)]
        exact h5
      · have h6 := hm.l i hi hb
        rw [runU, if_neg (by omega)]
        exact h5
  · have h5 := useM_less (x := y) (b := allB) hm.n rfl m k
    rw [if_pos (by omega)] at h5
    have := h.f.use m k hk
    omega
/-- None begins ahead of a moment, nor, of those that begin with it, ahead of a job. -/
def Lo (p : Pl) (y : Nat → Nat) (b : Nat → Bool) (mo fi : Nat) : Prop := ∀ j, j < p.jobs.length → b j = false → mo < y j ∨ (mo = y j ∧ fi ≤ j)
theorem freeB_iff {p : Pl} (hR : PlR p) {b : Nat → Bool} {j : Nat} {jb : Jb} (h : p.jobs[j]? = some jb) : freeB b jb.after = true ↔ ∀ a, Aft p j a → b a = true := by
  simp only [freeB, Bool.not_eq_true', List.any_eq_false]
  constructor
  · rintro h1 a ⟨jb', h2, h3⟩
    rw [h] at h2
    obtain rfl := Option.some.inj h2
    have := h1 _ h3
    simpa using this
  · intro h1 a ha
    have h3 := (hR.j j jb h).2.2.2.2 a ha
    obtain ⟨k, rfl⟩ : ∃ k : Nat, a = (k : Int) := ⟨a.toNat, by omega⟩
    simpa using h1 k ⟨jb, h, ha⟩
/-- How many have not begun. -/
def cntB (b : Nat → Bool) : Nat → Nat
  | 0 => 0
  | n + 1 => cntB b n + if b n = true then 0 else 1
theorem cntB_le {b b' : Nat → Bool} (h : ∀ i, b i = true → b' i = true) : ∀ n, cntB b' n ≤ cntB b n
  | 0 => Nat.le_refl _
  | n + 1 => by
    have h1 := cntB_le h n
    simp only [cntB]
    by_cases e : b n = true
    · rw [if_pos e, if_pos (h n e)]
      omega
    · rw [if_neg e]
      split <;> omega
theorem cntB_lt {b : Nat → Bool} {j : Nat} (hb : b j = false) : ∀ {n : Nat}, j < n → cntB (upd b j true) n < cntB b n
  | 0, h => by omega
  | n + 1, h => by
    simp only [cntB]
    have hl : ∀ i, b i = true → upd b j true i = true := fun i hi => by
      by_cases e : i = j
      · subst e; exact upd_same _ _ _
      · rw [upd_other _ _ e]; exact hi
    by_cases e : j = n
    · subst e
      rw [upd_same, hb]
      have := cntB_le hl j
      simp
      omega
    · have := cntB_lt hb (n := n) (by omega)
      rw [upd_other (i := n) _ _ (by omega)]
      omega
theorem upd_back {b : Nat → Bool} {j : Nat} (hb : b j = false) : upd (upd b j true) j false = b := by
  funext i
  by_cases e : i = j
  · subst e; rw [upd_same, hb]
  · rw [upd_other _ _ e, upd_other _ _ e]
/-- What canEnd answers, and leaves. -/
structure EndP (q : Rq) (S : Nat) (x : Nat → Nat) (b : Nat → Bool) (mo fi : Nat) (e : Ending) (w w' : World) : Prop where
  ex : ∃ bb, e = .returned (.bool bb) ∧ (bb = true → ∃ y, Compl q.p S x b y) ∧ (∀ y, Compl q.p S x b y → Tight q.p b y → Lo q.p y b mo fi → bb = true)
  st : ∃ x', Ros q w' S x' b (useM q.p x b) ∧ (∀ i, i < q.p.jobs.length → b i = true → x' i = x i) ∧ ∀ i, i < q.p.jobs.length → x' i ≤ 100
  o : Only q w w'
theorem Compl.less {p : Pl} {S : Nat} {x y : Nat → Nat} {b : Nat → Bool} {j e : Nat} (h : Compl p S (upd x j e) (upd b j true) y) (hb : b j = false) : Compl p S x b y :=
  ⟨h.f, fun i hi hbi => by
    have e1 : i ≠ j := by rintro rfl; rw [hb] at hbi; cases hbi
    have := h.e i hi (by rw [upd_other _ _ e1]; exact hbi)
    rwa [upd_other _ _ e1] at this⟩
theorem Compl.more {p : Pl} {S : Nat} {x y : Nat → Nat} {b : Nat → Bool} {j e : Nat} (h : Compl p S x b y) (he : e = y j) : Compl p S (upd x j e) (upd b j true) y :=
  ⟨h.f, fun i hi hbi => by
    by_cases e1 : i = j
    · subst e1
      rw [upd_same, he]
    · rw [upd_other _ _ e1] at hbi ⊢
      exact h.e i hi hbi⟩
theorem Tight.more {p : Pl} {y : Nat → Nat} {b : Nat → Bool} {j : Nat} (h : Tight p b y) : Tight p (upd b j true) y := fun i hi hbi => by
  have e1 : i ≠ j := by rintro rfl; rw [upd_same] at hbi; cases hbi
  rw [upd_other _ _ e1] at hbi
  exact h i hi hbi
theorem Lo.more {p : Pl} {y : Nat → Nat} {b : Nat → Bool} {j e : Nat} (h : IsMin p y b j) (he : e = y j) : Lo p y (upd b j true) e j := fun i hi hbi => by
  have e1 : i ≠ j := by rintro rfl; rw [upd_same] at hbi; cases hbi
  rw [upd_other _ _ e1] at hbi
  rw [he]
  exact h.l i hi hbi
end Go.Proofs.YtgckgkllpkkpeaaDoor
