/-
  Jobs: how long it takes from a job's beginning on: mathematics.
-/
import Derived.Test.YtgckgkllpkkpeaaDoorZJ
namespace Go.Proofs.YtgckgkllpkkpeaaDoor
open Go.RowKit

theorem snocRec {α : Type} {motive : List α → Prop} (nil : motive []) (snoc : ∀ l a, motive l → motive (l ++ [a])) (l : List α) : motive l := by
  have h : ∀ k, k ≤ l.length → motive (l.take k) := by
    intro k
    induction k with
    | zero => intro _; exact nil
    | succ k ih =>
      intro hk
      rw [take_next (x := l[k]) (by simp)]
      exact snoc _ _ (ih (by omega))
  have := h l.length (Nat.le_refl _)
  rwa [List.take_length] at this
/-- What a job waits for. -/
def aftL (p : Pl) (x : Nat) : List Int := ((p.jobs[x]?).map Jb.after).getD []
theorem aftL_eq {p : Pl} {x : Nat} {j : Jb} (h : p.jobs[x]? = some j) : aftL p x = j.after := by simp [aftL, h]
/-- Those that a job waits for take at least al long. -/
def tlA (x : Nat) (T : Nat → Nat) (al : List Int) : Nat → Nat := al.foldl (fun T a => upd T a.toNat (max (T a.toNat) (T x))) T
theorem tlA_snoc (x : Nat) (T : Nat → Nat) (al : List Int) (a : Int) : tlA x T (al ++ [a]) = upd (tlA x T al) a.toNat (max (tlA x T al a.toNat) (tlA x T al x)) := by simp [tlA]
theorem tlA_le {x B : Nat} {T : Nat → Nat} (h : ∀ i, T i ≤ B) : ∀ (al : List Int) (i : Nat), tlA x T al i ≤ B := by
  intro al
  induction al using snocRec with
  | nil => exact h
  | snoc al a ih =>
    intro i
    rw [tlA_snoc]
    by_cases e : i = a.toNat
    · subst e
      rw [upd_same]
      have h1 := ih a.toNat
      have h2 := ih x
      omega
    · rw [upd_other _ _ e]
      exact ih i
def tl1 (p : Pl) (T : Nat → Nat) (x : Nat) : Nat → Nat := upd T x (T x + lgN p x)
/-- One job more. -/
def stT (p : Pl) (s : (Nat → Nat) × Nat) (x : Ji p) : (Nat → Nat) × Nat := (tlA x.1 (tl1 p s.1 x.1) (aftL p x.1), max s.2 (tlA x.1 (tl1 p s.1 x.1) (aftL p x.1) x.1))
def stL (p : Pl) (s0 : Nat) (pre : List (Ji p)) : (Nat → Nat) × Nat := pre.foldl (stT p) (fun _ => 0, s0)
theorem stL_snoc (p : Pl) (s0 : Nat) (pre : List (Ji p)) (x : Ji p) : stL p s0 (pre ++ [x]) = stT p (stL p s0 pre) x := by simp [stL]
theorem stL_bound {p : Pl} (hR : PlR p) (s0 : Nat) : ∀ (pre : List (Ji p)), (∀ i, (stL p s0 pre).1 i ≤ 30 * pre.length) ∧ (stL p s0 pre).2 ≤ max s0 (30 * pre.length) := by
  intro pre
  induction pre using snocRec with
  | nil => exact ⟨fun i => Nat.zero_le _, by simp [stL]⟩
  | snoc pre x ih =>
    rw [stL_snoc, List.length_append, List.length_singleton]
    have hl : lgN p x.1 ≤ 30 := by
      obtain ⟨j, hj⟩ : ∃ y, p.jobs[x.1]? = some y := at_some x.2
      have h1 := (hR.j x.1 j hj).1
      have h2 := lgN_eq hR hj
      omega
    have h1 : ∀ i, tl1 p (stL p s0 pre).1 x.1 i ≤ 30 * (pre.length + 1) := fun i => by
      unfold tl1
      by_cases e : i = x.1
      · subst e
        rw [upd_same]
        have := ih.1 x.1
        omega
      · rw [upd_other _ _ e]
        have := ih.1 i
        omega
    have h2 := tlA_le (x := x.1) h1 (aftL p x.1)
    refine ⟨h2, ?_⟩
    have h3 := h2 x.1
    have h4 := ih.2
    show max _ _ ≤ _
    omega
theorem tlA_self {x : Nat} (T : Nat → Nat) : ∀ al : List Int, (∀ a ∈ al, 0 ≤ a ∧ a < (x : Int)) → tlA x T al x = T x := by
  intro al
  induction al using snocRec with
  | nil => intro _; rfl
  | snoc al a ih =>
    intro h
    have ha := h a (by simp)
    rw [tlA_snoc, upd_other _ _ (by omega)]
    exact ih fun b hb => h b (by simp [hb])
/-- What is known of tails of which the last ones are settled. -/
structure TlI (p : Pl) (m : Nat) (T : Nat → Nat) (sp s0 : Nat) : Prop where
  no : ∀ S y, Feas p S y → ∀ i, i < m → y i + lgN p i + T i ≤ S
  on : ∀ S y, Feas p S y → ∀ i, m ≤ i → i < p.jobs.length → y i + T i ≤ S
  lg : ∀ i, m ≤ i → i < p.jobs.length → lgN p i ≤ T i
  sp : ∀ S y, Feas p S y → s0 ≤ S → sp ≤ S
theorem tlA_ok {p : Pl} (hR : PlR p) {x : Nat} (hx : x < p.jobs.length) {S : Nat} {y : Nat → Nat} (hf : Feas p S y) {T : Nat → Nat} (hxT : y x + T x ≤ S) (h : ∀ i, i < x → y i + lgN p i + T i ≤ S) : ∀ al : List Int, (∀ a ∈ al, a ∈ aftL p x) → ∀ i, i < x → y i + lgN p i + tlA x T al i ≤ S := by
  obtain ⟨j, hj⟩ : ∃ y, p.jobs[x]? = some y := at_some hx
  have hb : ∀ a ∈ aftL p x, 0 ≤ a ∧ a < (x : Int) := fun a ha => by rw [aftL_eq hj] at ha; exact (hR.j x j hj).2.2.2.2 a ha
  intro al
  induction al using snocRec with
  | nil => intro _; exact h
  | snoc al a ih =>
    intro hs i hi
    have ih := ih (fun b hb => hs b (by simp [hb]))
    have ha := hs a (by simp)
    have hab := hb a ha
    rw [tlA_snoc]
    by_cases e : i = a.toNat
    · subst e
      rw [upd_same, tlA_self T al fun b hb' => hb b (hs b (by simp [hb']))]
      have h1 := ih a.toNat hi
      have h2 := hf.aft x a.toNat ⟨j, hj, by rw [← aftL_eq hj, Int.toNat_of_nonneg hab.1]; exact ha⟩
      omega
    · rw [upd_other _ _ e]
      exact ih i hi
theorem tlA_up {x : Nat} (T : Nat → Nat) : ∀ (al : List Int) (i : Nat), (∀ a ∈ al, a.toNat ≠ i) → tlA x T al i = T i := by
  intro al
  induction al using snocRec with
  | nil => intro _ _; rfl
  | snoc al a ih =>
    intro i h
    rw [tlA_snoc, upd_other _ _ (fun e => h a (by simp) e.symm)]
    exact ih i fun b hb => h b (by simp [hb])
theorem TlI.step {p : Pl} (hR : PlR p) {m : Nat} (hm : m < p.jobs.length) {T : Nat → Nat} {sp s0 : Nat} (h : TlI p (m + 1) T sp s0) : TlI p m (stT p (T, sp) ⟨m, hm⟩).1 (stT p (T, sp) ⟨m, hm⟩).2 s0 := by
  obtain ⟨j, hj⟩ : ∃ y, p.jobs[m]? = some y := at_some hm
  have hb : ∀ a ∈ aftL p m, 0 ≤ a ∧ a < (m : Int) := fun a ha => by rw [aftL_eq hj] at ha; exact (hR.j m j hj).2.2.2.2 a ha
  have hself : tlA m (tl1 p T m) (aftL p m) m = T m + lgN p m := by rw [tlA_self _ _ hb, tl1, upd_same]
  have hup : ∀ i, m < i → tlA m (tl1 p T m) (aftL p m) i = T i := fun i hi => by
    rw [tlA_up _ _ _ fun a ha => by have := hb a ha; omega, tl1, upd_other _ _ (by omega)]
  have hon : ∀ S y, Feas p S y → y m + (T m + lgN p m) ≤ S := fun S y hf => by have := h.no S y hf m (by omega); omega
  refine ⟨fun S y hf i hi => ?_, fun S y hf i hi hin => ?_, fun i hi hin => ?_, fun S y hf hs => ?_⟩
  · refine tlA_ok hR hm hf ?_ (fun k hk => ?_) _ (fun a ha => ha) i hi
    · rw [tl1, upd_same]
      exact hon S y hf
    · rw [tl1, upd_other (i := k) (j := m) _ _ (by omega)]
      exact h.no S y hf k (by omega)
  · show y i + tlA m (tl1 p T m) (aftL p m) i ≤ S
    by_cases e : i = m
    · subst e
      rw [hself]
      exact hon S y hf
    · rw [hup i (by omega)]
      exact h.on S y hf i (by omega) hin
  · show lgN p i ≤ tlA m (tl1 p T m) (aftL p m) i
    by_cases e : i = m
    · subst e
      rw [hself]
      omega
    · rw [hup i (by omega)]
      exact h.lg i (by omega) hin
  · show max sp (tlA m (tl1 p T m) (aftL p m) m) ≤ S
    rw [hself]
    have h1 := h.sp S y hf hs
    have h2 := hon S y hf
    omega
theorem TlI.all {p : Pl} (hR : PlR p) (s0 : Nat) : ∀ t, t ≤ p.jobs.length → TlI p (p.jobs.length - t) (stL p s0 (dnL p t)).1 (stL p s0 (dnL p t)).2 s0
  | 0, _ => ⟨fun S y hf i hi => by have := hf.fit i (by omega); show y i + lgN p i + 0 ≤ S; omega, fun S y hf i hi hin => by omega, fun i hi hin => by omega, fun S y hf hs => hs⟩
  | t + 1, ht => by
    have ih := TlI.all hR s0 t (by omega)
    obtain ⟨m, hm⟩ : ∃ m, m + 1 = p.jobs.length - t := ⟨p.jobs.length - t - 1, by omega⟩
    rw [← hm] at ih
    have hmn : m < p.jobs.length := by omega
    have h1 := ih.step hR hmn
    rw [show p.jobs.length - (t + 1) = m by omega]
    have e1 : dnL p (t + 1) = dnL p t ++ [⟨m, hmn⟩] := by
      rw [dnL, dif_pos (by omega)]
      congr 2
      apply Subtype.ext
      simp only
      omega
    rw [e1, stL_snoc]
    exact h1
end Go.Proofs.YtgckgkllpkkpeaaDoor
