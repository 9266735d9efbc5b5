/-
  Puzzles: the program's ruleOf.
-/
import Derived.Test.YthoppmbmmplkiaaGreatDoorVO
namespace Go.Proofs.YthoppmbmmplkiaaGreatDoor
open Go.RowKit

theorem kinds_of {c : Cn} (h : formedC c = true) : c.kind = 1 ∨ c.kind = 2 ∨ c.kind = 3 ∨ (c.kind = 4 ∧ 2 ≤ c.vars.length) ∨ c.kind = 5 := by
  by_cases e1 : c.kind = 1
  · exact Or.inl e1
  by_cases e2 : c.kind = 2
  · exact Or.inr (Or.inl e2)
  by_cases e3 : c.kind = 3
  · exact Or.inr (Or.inr (Or.inl e3))
  by_cases e4 : c.kind = 4
  · refine Or.inr (Or.inr (Or.inr (Or.inl ⟨e4, ?_⟩)))
    rw [formedC, if_neg e1, if_neg e2, if_neg e3, if_pos e4] at h
    simp at h
    omega
  by_cases e5 : c.kind = 5
  · exact Or.inr (Or.inr (Or.inr (Or.inr e5)))
  · rw [formedC, if_neg e1, if_neg e2, if_neg e3, if_neg e4, if_neg e5] at h
    cases h
theorem four_cells (w : World) (t : TypeId) (u0 u1 u2 u3 : Value) : (w.alloc (.cells #[u0, u1, u2, u3] t)).cell? ⟨w.heap.size, 0, none⟩ = some u0 ∧ (w.alloc (.cells #[u0, u1, u2, u3] t)).cell? ⟨w.heap.size, 1, none⟩ = some u1 ∧ (w.alloc (.cells #[u0, u1, u2, u3] t)).cell? ⟨w.heap.size, 2, none⟩ = some u2 ∧ (w.alloc (.cells #[u0, u1, u2, u3] t)).cell? ⟨w.heap.size, 3, none⟩ = some u3 := by
  refine ⟨?_, ?_, ?_, ?_⟩ <;> rw [new_cell rfl] <;> rfl
theorem five_cells (w : World) (t : TypeId) (u0 u1 u2 u3 u4 : Value) : (w.alloc (.cells #[u0, u1, u2, u3, u4] t)).cell? ⟨w.heap.size, 0, none⟩ = some u0 ∧ (w.alloc (.cells #[u0, u1, u2, u3, u4] t)).cell? ⟨w.heap.size, 1, none⟩ = some u1 ∧ (w.alloc (.cells #[u0, u1, u2, u3, u4] t)).cell? ⟨w.heap.size, 2, none⟩ = some u2 := by
  refine ⟨?_, ?_, ?_⟩ <;> rw [new_cell rfl] <;> rfl
set_option maxHeartbeats 8000000 in
set_option maxRecDepth 8000 in
/-- ruleOf. -/
theorem ruleof_any {c : Cn} {a1 : Option Addr} {c1 : Nat} {a2 : Option Addr} {c2 : Nat} {a3 : Option Addr} {c3 : Nat} {a4 : Option Addr} {c4 : Nat} (w : World) (hM : CnM w c a1 c1 a2 c2 a3 c3 a4 c4) (hf : formedC c = true) :
    Calls Tryz.prog 24 #[.agg #[.int .i64 c.kind, .slice a1 c.vars.length c1, .slice a2 c.nums.length c2, .slice a3 c.uses.length c3, .int .i64 c.limit, .slice a4 c.rows.length c4]] w fun e w' => (∃ u, e = .returned u ∧ RuC w' w.heap.size u c a1 c1 a2 c2 a3 c3 a4 c4) ∧ Below w.heap.size w w' := by
  have kn := below_new w (.cells #[.int .i64 c.kind, .slice a1 c.vars.length c1, .slice a2 c.nums.length c2, .slice a3 c.uses.length c3, .int .i64 c.limit, .slice a4 c.rows.length c4] 46)
  have HB := hide (cnB_new w 46 hM)
  have HK := hide kn
  have HM := hide hM
  have hkk := kinds_of hf
  clear hM kn hf
  obtain ⟨g, hg⟩ : ∃ X, X = w.heap.size := ⟨_, rfl⟩
  obtain ⟨W, hW⟩ : ∃ X, X = w.alloc (.cells #[.int .i64 c.kind, .slice a1 c.vars.length c1, .slice a2 c.nums.length c2, .slice a3 c.uses.length c3, .int .i64 c.limit, .slice a4 c.rows.length c4] 46) := ⟨_, rfl⟩
  go_enter Tryz.func24, Tryz.ntmps24
  go_upto_region 1 with fail
  rw [← hW] at HB HK ⊢
  rw [← hg] at HB ⊢
  have HSZ := hide (show w.heap.size ≤ W.heap.size by rw [hW]; simp)
  clear hW hg
  obtain ⟨k0, k1, k2, k3, k4, k5, _⟩ := unhide HB
  go_upto_region 2 with fail
  have kn := below_new W (.cells #[.slice a1 c.vars.length c1] 67)
  have o0 := one_new W 67 (.slice a1 c.vars.length c1)
  obtain ⟨P, hP⟩ : ∃ X, X = W.heap.size := ⟨_, rfl⟩
  obtain ⟨V, hV⟩ : ∃ X, X = W.alloc (.cells #[.slice a1 c.vars.length c1] 67) := ⟨_, rfl⟩
  rw [← hV, ← hP]
  rw [← hV] at kn o0
  rw [← hP] at o0
  have k0 := cell_keep kn k0
  have k1 := cell_keep kn k1
  have k2 := cell_keep kn k2
  have k3 := cell_keep kn k3
  have k4 := cell_keep kn k4
  have k5 := cell_keep kn k5
  have HK := hide (below_keep kn (unhide HK))
  have HSZ := hide (Nat.le_trans (unhide HSZ) kn.size)
  clear hV hP kn HB
  obtain ⟨kd, hkd⟩ : ∃ k, k = c.kind := ⟨_, rfl⟩
  rw [← hkd] at k0 hkk
  have HD := hide hkd
  clear hkd
  rcases hkk with rfl | rfl | rfl | ⟨rfl, hv2⟩ | rfl
  · go_wp2
    go_ret
    obtain ⟨e0, _, _⟩ := three_cells V 70 (.slice a1 c.vars.length c1) (.slice none 0 0) (.slice none 0 0)
    exact ⟨⟨_, rfl, V.heap.size, unhide HSZ, Or.inl ⟨(unhide HD).symm, rfl, e0⟩⟩, below_keep (below_new _ _) (unhide HK)⟩
  · go_wp2
    go_ret
    obtain ⟨e0, e1, e2⟩ := three_cells V 73 (.slice a1 c.vars.length c1) (.slice a2 c.nums.length c2) (.int .i64 c.limit)
    exact ⟨⟨_, rfl, V.heap.size, unhide HSZ, Or.inr (Or.inl ⟨(unhide HD).symm, rfl, e0, e1, e2⟩)⟩, below_keep (below_new _ _) (unhide HK)⟩
  · go_wp2
    go_ret
    obtain ⟨e0, e1, _⟩ := three_cells V 76 (.slice a1 c.vars.length c1) (.slice a4 c.rows.length c4) (.slice none 0 0)
    exact ⟨⟨_, rfl, V.heap.size, unhide HSZ, Or.inr (Or.inr (Or.inl ⟨(unhide HD).symm, rfl, e0, e1⟩))⟩, below_keep (below_new _ _) (unhide HK)⟩
  · obtain ⟨p, q, rest, hv⟩ : ∃ p q rest, c.vars = p :: q :: rest := by
      cases hh : c.vars with
      | nil => rw [hh] at hv2; simp at hv2
      | cons p l =>
        cases l with
        | nil => rw [hh] at hv2; simp at hv2
        | cons q r => exact ⟨p, q, r, rfl⟩
    have hr1 := (unhide HM).r1
    have hcp : (rest.length + 2 ≤ c1 ∧ c1 ≤ maxLen) := by obtain ⟨_, _, e, h1, h2, _⟩ := hr1; simp at e; rw [hv] at h1; simp at h1; omega
    obtain ⟨b, o, rfl, d0, _⟩ := hr1.int (i := 0) (x := p) (by rw [hv]; rfl)
    obtain ⟨b', o', e', d1, _⟩ := hr1.int (i := 1) (x := q) (by rw [hv]; rfl)
    obtain ⟨rfl, rfl⟩ : b = b' ∧ o = o' := by simpa using e'
    have d0 := cell_keep (unhide HK) d0
    have d1 := cell_keep (unhide HK) d1
    rw [Nat.add_zero] at d0
    obtain ⟨n, hn⟩ : ∃ n, n = c.vars.length := ⟨_, rfl⟩
    have hn2 : n = rest.length + 2 := by rw [hn, hv]; rfl
    rw [← hn] at k1 o0 ⊢
    unfold maxLen at hcp
    have g1 : (0 : Int) < (n : Int) := by omega
    have g2 : (1 : Int) < (n : Int) := by omega
    have g3 : (2 : Int) ≤ (n : Int) := by omega
    have g4 : (n : Int) ≤ (c1 : Int) := by omega
    have g5 : 2 ≤ n := by omega
    have g6 : n ≤ c1 := by omega
    have HNN := hide (And.intro hn (And.intro hn2 hcp))
    have HV := hide hv
    have HR1 := hide hr1
    clear hn hn2 hcp hv hr1 e' hv2
    by_cases hc2 : c1 = 2
    · subst hc2
      obtain rfl : n = 2 := by omega
      have HRE := hide (show rest = [] by have := (unhide HNN).2.1; exact List.eq_nil_of_length_eq_zero (by omega))
      go_upto_region 10 with fail
      go_region
      go_wp2
      go_ret
      obtain ⟨e0, e1, e2⟩ := five_cells V 79 (.int .i64 p) (.int .i64 q) (.slice (some ⟨b, o, none⟩) 0 0) (.slice none 0 0) (.slice none 0 0)
      exact ⟨⟨_, rfl, V.heap.size, unhide HSZ, Or.inr (Or.inr (Or.inr (Or.inl ⟨(unhide HD).symm, rfl, p, q, rest, _, _, unhide HV, e0, e1, (by rw [unhide HRE]; exact e2), (by rw [unhide HRE]; exact Nat.zero_le _), by unfold maxLen; omega, Or.inl (unhide HRE)⟩)))⟩, (below_keep (below_new _ _) (unhide HK)).drew⟩
    · have hc3 : ¬ (c1 : Int) = 2 := by omega
      go_upto_region 10 with fail
      go_region
      go_wp2
      go_ret
      obtain ⟨e0, e1, e2⟩ := five_cells V 79 (.int .i64 p) (.int .i64 q) (.slice (some ⟨b, o + 2, none⟩) (n - 2) (c1 - 2)) (.slice none 0 0) (.slice none 0 0)
      have hnn := unhide HNN
      exact ⟨⟨_, rfl, V.heap.size, unhide HSZ, Or.inr (Or.inr (Or.inr (Or.inl ⟨(unhide HD).symm, rfl, p, q, rest, _, _, unhide HV, e0, e1, (by rw [show rest.length = n - 2 by omega]; exact e2), by omega, by unfold maxLen; omega, Or.inr ⟨b, o, rfl, rfl⟩⟩)))⟩, (below_keep (below_new _ _) (unhide HK)).drew⟩
  · go_wp2
    go_ret
    obtain ⟨e0, e1, e2, e3⟩ := four_cells V 82 (.slice a1 c.vars.length c1) (.slice a2 c.nums.length c2) (.slice a3 c.uses.length c3) (.int .i64 c.limit)
    exact ⟨⟨_, rfl, V.heap.size, unhide HSZ, Or.inr (Or.inr (Or.inr (Or.inr ⟨(unhide HD).symm, rfl, e0, e1, e2, e3⟩)))⟩, below_keep (below_new _ _) (unhide HK)⟩
end Go.Proofs.YthoppmbmmplkiaaGreatDoor
