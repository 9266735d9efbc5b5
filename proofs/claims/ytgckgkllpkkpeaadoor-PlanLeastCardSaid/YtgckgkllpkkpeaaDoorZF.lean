/-
  Jobs: the first starts are the document's: mathematics.
-/
import Derived.Test.YtgckgkllpkkpeaaDoorZE
import Derived.Test.YtgckgkllpkkpeaaDoorUH
namespace Go.Proofs.YtgckgkllpkkpeaaDoor
open Go.RowKit

theorem longAt_lg {p : Pl} (hR : PlR p) (i : Nat) : longAt p i = (lgN p i : Int) := by
  unfold longAt
  cases h : p.jobs[i]? with
  | none => simp [lgN, h]
  | some j => exact lgN_eq hR h
theorem use_sum {p : Pl} (hR : PlR p) (z : Nat → Nat) (m c : Nat) : ∀ n, n ≤ p.jobs.length → useN (xl p z) p.jobs (m : Int) c n = sumU (runU p z allB m c) n
  | 0, _ => rfl
  | n + 1, hn => by
    have ih := use_sum hR z m c n (by omega)
    obtain ⟨j, hj⟩ : ∃ y, p.jobs[n]? = some y := at_some (by omega)
    have hu : (j.uses[c]?).getD 0 = usN p n c := by simp [usN, hj]
    rw [useN, xl_at (by omega), hj, sumU, ← ih]
    simp only
    rw [hu, lgN_eq hR hj, runU]
    by_cases h : z n ≤ m ∧ m < z n + lgN p n
    · rw [if_pos (by omega), if_pos ⟨rfl, h⟩]
    · rw [if_neg (by omega), if_neg (fun h' => h h'.2)]
      omega
theorem use_all {p : Pl} (hR : PlR p) (z : Nat → Nat) (m c : Nat) : useN (xl p z) p.jobs (m : Int) c p.jobs.length = useM p z allB m c := use_sum hR z m c _ (Nat.le_refl _)
theorem last_top {p : Pl} (hR : PlR p) {z : Nat → Nat} {S : Nat} (h : ∀ i, i < p.jobs.length → z i + lgN p i ≤ S) : ∀ n, n ≤ p.jobs.length → lastN (xl p z) p.jobs n ≤ (S : Int)
  | 0, _ => by simp [lastN]
  | n + 1, hn => by
    have ih := last_top hR h n (by omega)
    obtain ⟨j, hj⟩ : ∃ y, p.jobs[n]? = some y := at_some (by omega)
    rw [lastN_succ (xl_at (by omega)) hj, lgN_eq hR hj]
    have := h n (by omega)
    split <;> omega
theorem feas_ends {p : Pl} (hR : PlR p) {S : Nat} {z : Nat → Nat} (hS : S ≤ 30) (h : Feas p S z) : (ends p (xl p z)).2 = true := by
  refine ends_yes.2 ⟨?_, ?_⟩
  · rintro ⟨s, hs, hb⟩
    obtain ⟨i, hi⟩ := List.getElem?_of_mem hs
    have hil : i < p.jobs.length := by have := (List.getElem?_eq_some_iff.1 hi).1; rwa [xl_len] at this
    rw [xl_at hil] at hi
    obtain rfl := Option.some.inj hi
    have := h.fit i hil
    omega
  · rintro ⟨i, ⟨s, j, k, a, sa, ja, h1, h2, h3, h4, h5, h6⟩ | ⟨s, c, cap, h1, h2, h3⟩⟩
    · have hil : i < p.jobs.length := (List.getElem?_eq_some_iff.1 h2).1
      have hal : a < p.jobs.length := (List.getElem?_eq_some_iff.1 h5).1
      rw [xl_at hil] at h1
      rw [xl_at hal] at h4
      obtain rfl := Option.some.inj h1
      obtain rfl := Option.some.inj h4
      have h7 := h.aft i a ⟨j, h2, List.mem_of_getElem? h3⟩
      rw [lgN_eq hR h5] at h6
      omega
    · have hil : i < p.jobs.length := by have := (List.getElem?_eq_some_iff.1 h1).1; rwa [xl_len] at this
      rw [xl_at hil] at h1
      obtain rfl := Option.some.inj h1
      rw [use_all hR] at h3
      have h4 := h.use (z i) c (List.getElem?_eq_some_iff.1 h2).1
      rw [capN, h2] at h4
      simp only [Option.getD_some] at h4
      omega
/-- The last that runs at a moment. -/
theorem last_run {p : Pl} (z : Nat → Nat) (m : Nat) : ∀ n, (∃ i, i < n ∧ z i ≤ m ∧ m < z i + lgN p i ∧ ∀ k, k < n → z k ≤ m → m < z k + lgN p k → z k ≤ z i) ∨ ∀ k, k < n → ¬ (z k ≤ m ∧ m < z k + lgN p k)
  | 0 => Or.inr fun k hk => by omega
  | n + 1 => by
    rcases last_run z m n with ⟨i, h1, h2, h3, h4⟩ | h
    · by_cases hn : z n ≤ m ∧ m < z n + lgN p n ∧ z i < z n
      · refine Or.inl ⟨n, by omega, hn.1, hn.2.1, fun k hk h5 h6 => ?_⟩
        by_cases e : k = n
        · subst e; exact Nat.le_refl _
        · have := h4 k (by omega) h5 h6
          omega
      · refine Or.inl ⟨i, by omega, h2, h3, fun k hk h5 h6 => ?_⟩
        by_cases e : k = n
        · subst e; omega
        · exact h4 k (by omega) h5 h6
    · by_cases hn : z n ≤ m ∧ m < z n + lgN p n
      · refine Or.inl ⟨n, by omega, hn.1, hn.2, fun k hk h5 h6 => ?_⟩
        by_cases e : k = n
        · subst e; exact Nat.le_refl _
        · exact absurd ⟨h5, h6⟩ (h k (by omega))
      · refine Or.inr fun k hk => ?_
        by_cases e : k = n
        · subst e; exact hn
        · exact h k (by omega)
theorem ends_feas {p : Pl} (hR : PlR p) {S : Nat} {z : Nat → Nat} (hf : ∀ i, i < p.jobs.length → z i + lgN p i ≤ S) (h : (ends p (xl p z)).2 = true) : Feas p S z := by
  obtain ⟨_, h2⟩ := ends_yes.1 h
  refine ⟨hf, fun j a ha => ?_, fun m k hk => ?_⟩
  · have hlt := ha.lt hR
    obtain ⟨jb, h3, h4⟩ := ha
    obtain ⟨ja, h5⟩ : ∃ y, p.jobs[a]? = some y := at_some (by omega)
    obtain ⟨i, hi⟩ := List.getElem?_of_mem h4
    refine Nat.not_lt.1 fun hlt2 => h2 ⟨j, Or.inl ⟨_, jb, i, a, _, ja, xl_at hlt.2, h3, hi, xl_at (by omega), h5, ?_⟩⟩
    rw [lgN_eq hR h5]
    omega
  · obtain ⟨c, hc⟩ : ∃ y, p.caps[k]? = some y := at_some hk
    have hcp : capN p k = c := by simp [capN, hc]
    rcases last_run (p := p) z m p.jobs.length with ⟨i, h3, h4, h5, h6⟩ | hno
    · have h7 : useM p z allB (z i) k ≤ c := by
        refine Int.not_lt.1 fun hlt => h2 ⟨i, Or.inr ⟨_, k, c, xl_at h3, hc, ?_⟩⟩
        rw [use_all hR]
        exact hlt
      rw [hcp]
      refine Int.le_trans (sumU_le fun l hl => ?_) h7
      have hb := usN_bound hR l k
      unfold runU
      by_cases h8 : z l ≤ m ∧ m < z l + lgN p l
      · have h9 := h6 l hl h8.1 h8.2
        rw [if_pos ⟨rfl, h8⟩, if_pos ⟨rfl, h9, by omega⟩]
        exact Int.le_refl _
      · rw [if_neg (fun h => h8 h.2)]
        split
        · exact hb.1
        · exact Int.le_refl _
    · have h0 : useM p z allB m k = 0 := by
        rw [useM, sumU_congr (g := runU p z noB m k) fun l hl => by rw [runU, if_neg (fun h => hno l hl h.2), runU, if_neg (by simp [noB])]]
        exact useM_none p z m k
      rw [h0]
      exact capN_pos hR k
/-- Starts that are done in time, one by one. -/
def InT (p : Pl) (S : Nat) (x : List Int) : Prop := ∀ i s, x[i]? = some s → 0 ≤ s ∧ s + longAt p i ≤ (S : Int)
theorem try_sound {p : Pl} {S : Nat} : ∀ (k : Nat) (x zz : List Int), InT p S x → (okS p x ∨ x = []) → trySt p (S : Int) k x = some zz → zz.take x.length = x ∧ InT p S zz ∧ (okS p zz ∨ zz = [])
  | 0, x, zz, h1, h2, h => by
    obtain rfl : x = zz := by simpa [trySt] using h
    exact ⟨List.take_length, h1, h2⟩
  | k + 1, x, zz, h1, h2, h => by
    rw [trySt] at h
    obtain ⟨t, ht, hz⟩ := List.exists_of_findSome?_eq_some h
    rw [List.mem_range] at ht
    split at hz
    · rename_i ho
      obtain ⟨h3, h4, h5⟩ := try_sound k (x ++ [(t : Int)]) zz (fun i s hi => by
        by_cases e : i < x.length
        · rw [List.getElem?_append_left e] at hi
          exact h1 i s hi
        · rw [List.getElem?_append_right (by omega)] at hi
          obtain rfl : i = x.length := by
            have := (List.getElem?_eq_some_iff.1 hi).1
            simp at this
            omega
          simp at hi
          omega) (Or.inl ho) hz
      refine ⟨?_, h4, h5⟩
      have h6 := congrArg (List.take x.length) h3
      rw [List.take_take, List.length_append, List.length_singleton, Nat.min_eq_left (by omega)] at h6
      rw [h6, List.take_append_of_le_length (Nat.le_refl _), List.take_length]
    · cases hz
/-- What trying finds is done in time. -/
theorem try_feas {p : Pl} (hR : PlR p) {S k : Nat} {x zz : List Int} (hl : x.length + k = p.jobs.length) (h1 : InT p S x) (h2 : okS p x ∨ x = []) (h : trySt p (S : Int) k x = some zz) : ∃ y, Feas p S y ∧ ∀ i s, x[i]? = some s → (y i : Int) = s := by
  obtain ⟨h3, h4, h5⟩ := try_sound k x zz h1 h2 h
  have hz : zz.length = p.jobs.length := by rw [try_len h]; exact hl
  obtain ⟨y, hy⟩ : ∃ y : Nat → Nat, y = fun i => ((zz[i]?).getD 0).toNat := ⟨_, rfl⟩
  have hat : ∀ i s, zz[i]? = some s → (y i : Int) = s := fun i s hi => by
    have := (h4 i s hi).1
    rw [hy]
    simp only [hi, Option.getD_some]
    omega
  have hxl : xl p y = zz := by
    apply List.ext_getElem?
    intro i
    by_cases hi : i < p.jobs.length
    · obtain ⟨s, hs⟩ : ∃ s, zz[i]? = some s := at_some (by omega)
      rw [xl_at hi, hs, hat i s hs]
    · rw [List.getElem?_eq_none (by rw [xl_len]; omega), List.getElem?_eq_none (by omega)]
  refine ⟨y, ends_feas hR (fun i hi => ?_) ?_, fun i s hi => hat i s ?_⟩
  · obtain ⟨s, hs⟩ : ∃ s, zz[i]? = some s := at_some (by omega)
    have h6 := (h4 i s hs).2
    rw [longAt_lg hR, ← hat i s hs] at h6
    omega
  · rw [hxl]
    rcases h5 with h5 | h5
    · unfold okS at h5
      rw [hz, cut_all] at h5
      exact h5
    · have h6 : p.jobs.length = 0 := by rw [← hz, h5]; rfl
      refine ends_yes.2 ⟨?_, ?_⟩
      · rintro ⟨s, hs, _⟩
        rw [h5] at hs
        cases hs
      · rintro ⟨i, ⟨s, j, k, a, sa, ja, g1, _⟩ | ⟨s, c, cap, g1, _⟩⟩
        · rw [h5] at g1
          simp at g1
        · rw [h5] at g1
          simp at g1
  · have hi2 := (List.getElem?_eq_some_iff.1 hi).1
    rw [← h3, List.getElem?_take] at hi
    rw [if_pos (by omega)] at hi
    exact hi
theorem feas_none {p : Pl} (hR : PlR p) {S : Nat} (h : ∀ y, ¬ Feas p S y) : trySt p (S : Int) p.jobs.length [] = none := by
  cases ht : trySt p (S : Int) p.jobs.length [] with
  | none => rfl
  | some zz =>
    obtain ⟨y, hy, _⟩ := try_feas hR (by simp) (fun i s hi => by simp at hi) (Or.inr rfl) ht
    exact absurd hy (h y)
theorem feas_of_try {p : Pl} (hR : PlR p) {S : Nat} (h : (trySt p (S : Int) p.jobs.length []).isSome = true) : ∃ y, Feas p S y := by
  obtain ⟨zz, hz⟩ := Option.isSome_iff_exists.1 h
  obtain ⟨y, hy, _⟩ := try_feas hR (by simp) (fun i s hi => by simp at hi) (Or.inr rfl) hz
  exact ⟨y, hy⟩
theorem first_try {p : Pl} (hR : PlR p) {S : Nat} (hS : S ≤ 30) {z : Nat → Nat} (hF : Feas p S z) (hfi : First p S z p.jobs.length) : ∀ (k i : Nat), i + k = p.jobs.length → trySt p (S : Int) k ((xl p z).take i) = some (xl p z)
  | 0, i, h => by
    rw [trySt, List.take_of_length_le (by rw [xl_len]; omega)]
  | k + 1, i, h => by
    have hil : i < p.jobs.length := by omega
    have hxl : ((xl p z).take i).length = i := by rw [List.length_take, xl_len]; omega
    have hnx : ∀ t : Int, ((xl p z).take i ++ [t]).length = i + 1 := fun t => by rw [List.length_append, hxl]; rfl
    have he := feas_ends hR hS hF
    refine try_hit (t := z i) ?_ (fun t' ht' ho => ?_) ?_ ?_
    · have := hF.fit i hil
      rw [hxl, longAt_lg hR]
      omega
    · cases ht : trySt p (S : Int) k ((xl p z).take i ++ [(t' : Int)]) with
      | none => rfl
      | some zz =>
        have hpre : ∀ j s, ((xl p z).take i ++ [(t' : Int)])[j]? = some s → (j < i ∧ s = (z j : Int)) ∨ (j = i ∧ s = (t' : Int)) := fun j s hj => by
          by_cases e : j < i
          · rw [List.getElem?_append_left (by omega), List.getElem?_take, if_pos e, xl_at (by omega)] at hj
            exact Or.inl ⟨e, (Option.some.inj hj).symm⟩
          · rw [List.getElem?_append_right (by omega), hxl] at hj
            obtain rfl : j = i := by
              have := (List.getElem?_eq_some_iff.1 hj).1
              simp at this
              omega
            simp at hj
            exact Or.inr ⟨rfl, hj.symm⟩
        obtain ⟨y, hy, hag⟩ := try_feas hR (by rw [hnx]; omega) (fun j s hj => by
          rcases hpre j s hj with ⟨h1, rfl⟩ | ⟨rfl, rfl⟩
          · have := hF.fit j (by omega)
            rw [longAt_lg hR]
            omega
          · have := hF.fit j hil
            rw [longAt_lg hR]
            omega) (Or.inl ho) ht
        have h1 := hfi y hy i hil fun j hj => by
          have := hag j (z j : Int) (by rw [List.getElem?_append_left (by omega), List.getElem?_take, if_pos hj, xl_at (by omega)])
          omega
        have h2 := hag i (t' : Int) (by rw [List.getElem?_append_right (by omega), hxl]; simp)
        omega
    · have h1 := ok_pre hR (xl_len p z) he (i + 1) (by rw [xl_len]; omega)
      rwa [take_next (xl_at hil)] at h1
    · rw [← take_next (xl_at hil)]
      exact first_try hR hS hF hfi k (i + 1) (by omega)
end Go.Proofs.YtgckgkllpkkpeaaDoor
