/-
  Jobs: of which no two can run at once; the program's Clip, a row with one more.
-/
import Derived.Test.YtgckgkllpkkpeaaDoorZG
import Derived.Test.YtgckgkllpkkpeaaDoorUF
namespace Go.Proofs.YtgckgkllpkkpeaaDoor
open Go.RowKit

/-- Two jobs do not run at once. -/
def Dsj (p : Pl) (y : Nat → Nat) (i j : Nat) : Prop := y i + lgN p i ≤ y j ∨ y j + lgN p j ≤ y i ∨ lgN p i = 0 ∨ lgN p j = 0
theorem sumU_two {f : Nat → Int} {i j : Nat} (hij : i ≠ j) (h0 : ∀ k, 0 ≤ f k) : ∀ {n : Nat}, i < n → j < n → f i + f j ≤ sumU f n
  | 0, h, _ => by omega
  | n + 1, hi, hj => by
    simp only [sumU]
    have hone : ∀ k, k < n → f k ≤ sumU f n := fun k hk => by
      have h1 := sumU_one (f := fun l => if l = k then 0 else f l) (g := f) hk (fun l _ hl => by rw [if_neg hl])
      have h2 := sumU_nonneg (f := fun l => if l = k then 0 else f l) (n := n) (fun l _ => by split; exact Int.le_refl _; exact h0 l)
      simp only [if_true] at h1
      omega
    by_cases e1 : i = n
    · subst e1
      have := hone j (by omega)
      omega
    · by_cases e2 : j = n
      · subst e2
        have := hone i (by omega)
        omega
      · have := sumU_two hij h0 (n := n) (by omega) (by omega)
        have := h0 n
        omega
theorem dsj_of {p : Pl} (hR : PlR p) {S : Nat} {y : Nat → Nat} (h : Feas p S y) {i j : Nat} (hi : i < p.jobs.length) (hj : j < p.jobs.length) (hij : i ≠ j) (hn : ¬ CanB p i j) : Dsj p y i j := by
  by_cases ha : Aft p j i
  · exact Or.inl (h.aft j i ha)
  · refine Classical.byContradiction fun hd => hn ⟨ha, fun k hk => ?_⟩
    have hd : ¬ (y i + lgN p i ≤ y j) ∧ ¬ (y j + lgN p j ≤ y i) ∧ ¬ (lgN p i = 0) ∧ ¬ (lgN p j = 0) := by
      refine ⟨fun h => hd (Or.inl h), fun h => hd (Or.inr (Or.inl h)), fun h => hd (Or.inr (Or.inr (Or.inl h))), fun h => hd (Or.inr (Or.inr (Or.inr h)))⟩
    have h1 := h.use (max (y i) (y j)) k hk
    have h2 := sumU_two hij (fun l => (runU_bound hR y allB (max (y i) (y j)) k l).1) hi hj
    have e1 : runU p y allB (max (y i) (y j)) k i = usN p i k := by rw [runU, if_pos ⟨rfl, by omega, by omega⟩]
    have e2 : runU p y allB (max (y i) (y j)) k j = usN p j k := by rw [runU, if_pos ⟨rfl, by omega, by omega⟩]
    rw [e1, e2] at h2
    unfold useM at h1
    omega
/-- How long they take together. -/
def sumL (p : Pl) (os : List Nat) : Nat := (os.map (lgN p)).sum
def run1 (p : Pl) (y : Nat → Nat) (s i : Nat) : Nat := if y i ≤ s ∧ s < y i + lgN p i then 1 else 0
theorem one_run {p : Pl} {y : Nat → Nat} {s : Nat} : ∀ {os : List Nat}, os.Pairwise (Dsj p y) → (os.map (run1 p y s)).sum ≤ 1
  | [], _ => by simp
  | o :: os, h => by
    obtain ⟨h1, h2⟩ := List.pairwise_cons.1 h
    have ih := one_run (s := s) h2
    rw [List.map_cons, List.sum_cons]
    by_cases hr : y o ≤ s ∧ s < y o + lgN p o
    · have h0 : ∀ l : List Nat, (∀ x ∈ l, Dsj p y o x) → (l.map (run1 p y s)).sum = 0 := by
        intro l
        induction l with
        | nil => intro _; rfl
        | cons x l ihl =>
          intro hl
          rw [List.map_cons, List.sum_cons, ihl fun z hz => hl z (List.mem_cons_of_mem _ hz)]
          have := hl x List.mem_cons_self
          unfold Dsj at this
          rw [run1, if_neg (by omega)]
      rw [h0 os h1, run1, if_pos hr]
      omega
    · rw [run1, if_neg hr]
      omega
def ovN (p : Pl) (y : Nat → Nat) (s i : Nat) : Nat := min s (y i + lgN p i) - min s (y i)
theorem ov_sum {p : Pl} {y : Nat → Nat} {os : List Nat} (h : os.Pairwise (Dsj p y)) : ∀ s, (os.map (ovN p y s)).sum ≤ s
  | 0 => by
    have : ∀ l : List Nat, (l.map (ovN p y 0)).sum = 0 := by
      intro l
      induction l with
      | nil => rfl
      | cons x l ih => rw [List.map_cons, List.sum_cons, ih]; unfold ovN; omega
    rw [this]
    exact Nat.le_refl _
  | s + 1 => by
    have ih := ov_sum h s
    have h1 := one_run (s := s) h
    have : ∀ l : List Nat, (l.map (ovN p y (s + 1))).sum = (l.map (ovN p y s)).sum + (l.map (run1 p y s)).sum := by
      intro l
      induction l with
      | nil => rfl
      | cons x l ih =>
        rw [List.map_cons, List.map_cons, List.map_cons, List.sum_cons, List.sum_cons, List.sum_cons, ih]
        have : ovN p y (s + 1) x = ovN p y s x + run1 p y s x := by unfold ovN run1; split <;> omega
        omega
    rw [this]
    omega
theorem sumL_le {p : Pl} {S : Nat} {y : Nat → Nat} (h : Feas p S y) {os : List Nat} (ho : ∀ o ∈ os, o < p.jobs.length) (hp : os.Pairwise (Dsj p y)) : sumL p os ≤ S := by
  have h1 := ov_sum hp S
  have : ∀ l : List Nat, (∀ o ∈ l, o < p.jobs.length) → sumL p l = (l.map (ovN p y S)).sum := by
    intro l
    induction l with
    | nil => intro _; rfl
    | cons x l ih =>
      intro hl
      have h2 := ih fun z hz => hl z (List.mem_cons_of_mem _ hz)
      unfold sumL at h2 ⊢
      rw [List.map_cons, List.map_cons, List.sum_cons, List.sum_cons, h2]
      have h3 := h.fit x (hl x List.mem_cons_self)
      have : ovN p y S x = lgN p x := by unfold ovN; omega
      omega
  rw [this os ho]
  exact h1
/-- Within no lesser span. -/
def LB (p : Pl) (os : List Nat) (r : Nat) : Prop := ∀ S y, Feas p S y → os.Pairwise (Dsj p y) → sumL p os + r ≤ S
theorem LB.zero {p : Pl} {os : List Nat} (ho : ∀ o ∈ os, o < p.jobs.length) : LB p os 0 := fun _ _ h hp => sumL_le h ho hp
theorem LB.step {p : Pl} (hR : PlR p) {os : List Nat} {j r : Nat} (ho : ∀ o ∈ os, o < j) (hj : j < p.jobs.length) (hn : ∀ o ∈ os, ¬ CanB p o j) (h : LB p (os ++ [j]) r) : LB p os (lgN p j + r) := fun S y hf hp => by
  have h1 := h S y hf (List.pairwise_append.2 ⟨hp, List.pairwise_singleton _ _, fun o ho1 x hx => by
    obtain rfl : x = j := by simpa using hx
    have := ho o ho1
    exact dsj_of hR hf (by omega) hj (by omega) (hn o ho1)⟩)
  have h2 : sumL p (os ++ [j]) = sumL p os + lgN p j := by simp [sumL]
  omega
theorem LB.max {p : Pl} {os : List Nat} {a b : Nat} (h1 : LB p os a) (h2 : LB p os b) : LB p os (Max.max a b) := fun S y hf hp => by
  have := h1 S y hf hp
  have := h2 S y hf hp
  omega
/-- Jobs by their numbers. -/
def osL (os : List Nat) : List Int := os.map fun (o : Nat) => (o : Int)
theorem osL_snoc (os : List Nat) (j : Nat) : osL (os ++ [j]) = osL os ++ [(j : Int)] := by simp [osL]
theorem osL_len (os : List Nat) : (osL os).length = os.length := by simp [osL]
set_option maxHeartbeats 4000000 in
/-- slices.Clip. -/
theorem clip_any {oa : Option Addr} {m oc : Nat} {l : List Int} (w : World) (h : Rows 1 JE w (.slice oa m oc) l) (hm : m = l.length) (h7 : m ≤ 7) :
    Calls Tryd.prog 29 #[.slice oa m oc] w fun e w' => (∃ oa', e = .returned (.slice oa' m m) ∧ Rows 1 JE w (.slice oa' m m) l) ∧ w' = w := by
  obtain ⟨a', cap, h1, h2, h3, h4⟩ := h
  simp only [Value.slice.injEq] at h1
  obtain ⟨rfl, rfl, rfl⟩ := h1
  unfold maxLen at h3
  have h5 : (l.length : Int) ≤ (oc : Int) := by omega
  have h6 : (oc : Int) ≤ 9223372036854775807 := by omega
  rcases h4 with rfl | ⟨b, o, rfl, h4⟩
  · have HR : ∀ a : Option Addr, Rows 1 JE w (.slice a 0 0) [] := fun a => ⟨a, 0, rfl, Nat.le_refl _, Nat.zero_le _, Or.inl rfl⟩
    have HH := hide HR
    clear HR h2 h3 h7
    simp only [List.length_nil]
    rcases oa with _ | ⟨b, o, sp⟩
    · go_enter Tryd.func29, Tryd.ntmps29
      go_wp2
      go_ret
      exact ⟨⟨_, rfl, unhide HH _⟩, rfl⟩
    · go_enter Tryd.func29, Tryd.ntmps29
      go_wp2
      all_goals go_ret
      all_goals exact ⟨⟨_, rfl, unhide HH _⟩, rfl⟩
  · have HR := hide (show Rows 1 JE w (.slice (some ⟨b, o, none⟩) l.length l.length) l from ⟨_, l.length, rfl, Nat.le_refl _, by unfold maxLen; omega, Or.inr ⟨b, o, rfl, h4⟩⟩)
    have h8 : ¬ (oc : Int) < (l.length : Int) := by omega
    clear h4
    obtain ⟨m, hm⟩ : ∃ m, m = l.length := ⟨_, rfl⟩
    rw [← hm] at h2 h5 h7 h8 HR ⊢
    clear hm
    go_enter Tryd.func29, Tryd.ntmps29
    go_wp2
    all_goals go_ret
    all_goals exact ⟨⟨_, rfl, unhide HR⟩, rfl⟩
/-- A row with one more, in memory of its own. -/
theorem app_run {w : World} {oa : Option Addr} {m B : Nat} {l : List Int} {i : Int} (h : Rows 1 JE w (.slice oa m m) l) (h7 : m ≤ 7) (hi : I64 i) (hB : w.cell? ⟨B, 0, none⟩ = some (.int .i64 i)) (ty : TypeId) :
    ∃ a' c' w', (Builtin.append_ #[23, 23] ty #[.slice oa m m, .slice (some ⟨B, 0, none⟩) 1 1]).run Tryd.prog w = .ok (.slice a' (m + 1) c') w' ∧ Rows 1 JE w' (.slice a' (m + 1) c') (l ++ [i]) ∧ Below w.heap.size w w' := by
  have hl : l.length = m := by
    obtain ⟨a', c', e⟩ := h.shape
    simp only [Value.slice.injEq] at e
    exact e.2.1.symm
  have hbl : ∀ x ∈ l ++ [i], I64 x := by
    intro x hx
    rcases List.mem_append.1 hx with hx | hx
    · obtain ⟨k, hk⟩ := List.getElem?_of_mem hx
      obtain ⟨_, _, _, _, h1, h2⟩ := h.int hk
      exact ⟨h1, h2⟩
    · obtain rfl : x = i := by simpa using hx
      exact hi
  obtain ⟨i0, hi0, hz0, hz1, hz2⟩ := info_parts (show (Tryd.prog.info? 3).map (fun i => (i.zero, i.size, i.bytes)) = some (some (.int .i64 0), 1, 8) by kernel_rfl)
  have key : ∃ v' w', (Builtin.append_ #[23, 23] ty #[.slice oa m m, .slice (some ⟨B, 0, none⟩) 1 1]).run Tryd.prog w = .ok v' w' ∧ w'.ownsRow w.heap.size 3 1 v' (m + 1) (intC l ++ [.int .i64 i]) ∧ w.grownBy w' none := by
    by_cases h0 : l = []
    · subst h0
      obtain rfl : m = 0 := hl.symm
      rcases oa with _ | b
      · obtain ⟨v', w', hr, h2, h3, _⟩ := run_append_own (P := Tryd.prog) w w.heap.size 23 ty 3 i0 (.int .i64 0) 1 8 Tryd.underlying23 hi0 hz0 hz1 hz2 rfl (by decide) (.slice none 0 0) 0 [] ⟨rfl, Or.inl ⟨rfl, rfl⟩⟩ ⟨B, 0, none⟩ 1 1 [.int .i64 i] rfl (fun j u hu => by
          rcases j with _ | j
          · obtain rfl : Value.int .i64 i = u := by simpa using hu
            exact hB
          · simp at hu) (by simp [Value.oneCell']) (by unfold maxLen; omega) (by omega) (Nat.le_refl _)
        exact ⟨v', w', hr, h2, h3⟩
      · exact run_append_arg_grows w _ ty 3 i0 (.int .i64 0) 1 8 Tryd.underlying23 hi0 hz0 hz1 hz2 rfl (by decide) b 0 0 [] rfl (fun j u hu => by simp at hu) ⟨B, 0, none⟩ 1 1 [.int .i64 i] rfl (fun j u hu => by
          rcases j with _ | j
          · obtain rfl : Value.int .i64 i = u := by simpa using hu
            exact hB
          · simp at hu) (by omega) (by unfold maxLen; omega) (by omega)
    · obtain ⟨x, hx⟩ : ∃ x, l[0]? = some x := at_some (by cases l with | nil => exact absurd rfl h0 | cons a b => simp)
      obtain ⟨b, o, rfl, _⟩ := h.int hx
      exact run_append_arg_grows w _ ty 3 i0 (.int .i64 0) 1 8 Tryd.underlying23 hi0 hz0 hz1 hz2 rfl (by decide) ⟨b, o, none⟩ m m (intC l) (by simp [intC, hl]) (fun j u hu => by
          obtain ⟨y, hy, rfl⟩ : ∃ y, l[j]? = some y ∧ Value.int .i64 y = u := by simpa [intC] using hu
          obtain ⟨b', o', e, hc, _⟩ := h.int hy
          simp only [Option.some.injEq, Addr.mk.injEq] at e
          obtain ⟨rfl, rfl, _⟩ := e
          rw [show (⟨b, o, none⟩ : Addr).add j = ⟨b, o + j, none⟩ by unfold Addr.add; split <;> simp_all]
          exact hc) ⟨B, 0, none⟩ 1 1 [.int .i64 i] rfl (fun j u hu => by
          rcases j with _ | j
          · obtain rfl : Value.int .i64 i = u := by simpa using hu
            exact hB
          · simp at hu) (by omega) (by unfold maxLen; omega) (by omega)
  obtain ⟨v', w', h1, h2, h3⟩ := key
  have hR : Rows 1 JE w' v' (l ++ [i]) := rows_own (L := l ++ [i]) (by simpa [intC] using h2) (by simp [hl]) hbl
  obtain ⟨a', c', e⟩ := hR.shape
  rw [List.length_append, hl, List.length_singleton] at e
  subst e
  exact ⟨a', c', w', h1, hR, (Below.refl _ _).grown h3 (Nat.le_refl _) (fun k e => by cases e)⟩
end Go.Proofs.YtgckgkllpkkpeaaDoor
