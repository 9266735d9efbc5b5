/-
  Puzzles: the puzzle that the laws begin with.
-/
import Derived.Test.YthoppmbmmplkiaaGreatDoorYQ
namespace Go.Proofs.YthoppmbmmplkiaaGreatDoor
open Go.RowKit

/-- The puzzle that the law begins with. -/
def dif : Pz := ⟨[[1, 2], [1, 2], [1, 2, 3]], [⟨1, [0, 1, 2], [], [], 0, []⟩]⟩
theorem dif_valid : pvalid dif = 0 := by decide
theorem dif_keeps : keepsP dif [2, 1, 3] := by
  refine ⟨fun i y l h1 h2 => ?_, fun c hc => ?_⟩
  · rcases i with _ | _ | _ | i
    · simp [dif] at h1 h2; subst h1 h2; decide
    · simp [dif] at h1 h2; subst h1 h2; decide
    · simp [dif] at h1 h2; subst h1 h2; decide
    · simp at h1
  · simp [dif] at hc
    subst hc
    show ([2, 1, 3] : List Int).Nodup
    decide
theorem three_new {w : World} {t : TypeId} {v1 v2 v3 : Value} {l1 l2 l3 : List Int} (h1 : Rows 1 JE w v1 l1) (h2 : Rows 1 JE w v2 l2) (h3 : Rows 1 JE w v3 l3) : Rows 1 (LE 1 JE) (w.alloc (.cells #[v1, v2, v3] t)) (.slice (some ⟨w.heap.size, 0, none⟩) 3 3) [l1, l2, l3] := by
  have kn := below_new w (.cells #[v1, v2, v3] t)
  refine ⟨_, 3, rfl, by simp, by decide, Or.inr ⟨w.heap.size, 0, rfl, fun i x hx => ?_⟩⟩
  have hone : ∀ i u, #[v1, v2, v3][i]? = some u → ∀ j u', [u][j]? = some u' → (w.alloc (.cells #[v1, v2, v3] t)).cell? ⟨w.heap.size, 0 + (i * 1 + j), none⟩ = some u' := fun i u hu j u' hj => by
    rcases j with _ | j
    · obtain rfl : u = u' := by simpa using hj
      rw [new_cell rfl, show 0 + (i * 1 + 0) = i by omega]
      exact hu
    · simp at hj
  rcases i with _ | _ | _ | i
  · obtain rfl : l1 = x := by simpa using hx
    exact ⟨[v1], rfl, hone 0 v1 rfl, v1, rfl, h1.later (JE.stays IsSl 0) kn⟩
  · obtain rfl : l2 = x := by simpa using hx
    exact ⟨[v2], rfl, hone 1 v2 rfl, v2, rfl, h2.later (JE.stays IsSl 0) kn⟩
  · obtain rfl : l3 = x := by simpa using hx
    exact ⟨[v3], rfl, hone 2 v3 rfl, v3, rfl, h3.later (JE.stays IsSl 0) kn⟩
  · simp at hx
set_option maxHeartbeats 4000000 in
set_option maxRecDepth 8000 in
/-- differ. -/
theorem differ_any (w : World) : Calls Tryz.prog 5 #[] w fun e w' => (∃ v, e = .returned v ∧ PzV w' v dif) ∧ Below w.heap.size w w' := by
  go_enter Tryz.func5, Tryz.ntmps5
  go_wp2
  obtain ⟨W0, hW0⟩ : ∃ X, X = w.alloc (.cells #[.slice (some ⟨w.heap.size + 1 + 1 + 1 + 1, 0, none⟩) 3 3, .slice (some ⟨w.heap.size + 1 + 1 + 1 + 1 + 1 + 1, 0, none⟩) 1 1] 25) := ⟨_, rfl⟩
  have z0 : W0.heap.size = w.heap.size + 1 := by rw [hW0]; simp
  have c0 := two_new w 25 (.slice (some ⟨w.heap.size + 1 + 1 + 1 + 1, 0, none⟩) 3 3) (.slice (some ⟨w.heap.size + 1 + 1 + 1 + 1 + 1 + 1, 0, none⟩) 1 1)
  have k0 := below_new w (.cells #[.slice (some ⟨w.heap.size + 1 + 1 + 1 + 1, 0, none⟩) 3 3, .slice (some ⟨w.heap.size + 1 + 1 + 1 + 1 + 1 + 1, 0, none⟩) 1 1] 25)
  rw [← hW0] at c0 k0 ⊢
  obtain ⟨W1, hW1⟩ : ∃ X, X = W0.alloc (.cells #[.int .i64 1, .int .i64 2] 3) := ⟨_, rfl⟩
  have z1 : W1.heap.size = w.heap.size + 1 + 1 := by rw [hW1, ← z0]; simp
  have r1 := ints_new W0 3 [1, 2] (by decide) (by decide)
  have k1 := below_new W0 (.cells #[.int .i64 1, .int .i64 2] 3)
  rw [show ([1, 2].map fun x => Value.int .i64 x).toArray = #[.int .i64 1, .int .i64 2] from rfl, ← hW1, z0] at r1
  rw [← hW1] at k1 ⊢
  obtain ⟨W2, hW2⟩ : ∃ X, X = W1.alloc (.cells #[.int .i64 1, .int .i64 2] 3) := ⟨_, rfl⟩
  have z2 : W2.heap.size = w.heap.size + 1 + 1 + 1 := by rw [hW2, ← z1]; simp
  have r2 := ints_new W1 3 [1, 2] (by decide) (by decide)
  have k2 := below_new W1 (.cells #[.int .i64 1, .int .i64 2] 3)
  rw [show ([1, 2].map fun x => Value.int .i64 x).toArray = #[.int .i64 1, .int .i64 2] from rfl, ← hW2, z1] at r2
  rw [← hW2] at k2 ⊢
  obtain ⟨W3, hW3⟩ : ∃ X, X = W2.alloc (.cells #[.int .i64 1, .int .i64 2, .int .i64 3] 3) := ⟨_, rfl⟩
  have z3 : W3.heap.size = w.heap.size + 1 + 1 + 1 + 1 := by rw [hW3, ← z2]; simp
  have r3 := ints_new W2 3 [1, 2, 3] (by decide) (by decide)
  have k3 := below_new W2 (.cells #[.int .i64 1, .int .i64 2, .int .i64 3] 3)
  rw [show ([1, 2, 3].map fun x => Value.int .i64 x).toArray = #[.int .i64 1, .int .i64 2, .int .i64 3] from rfl, ← hW3, z2] at r3
  rw [← hW3] at k3 ⊢
  have r4 := three_new (t := 26) ((r1.later (JE.stays IsSl 0) k2).later (JE.stays IsSl 0) k3) (r2.later (JE.stays IsSl 0) k3) r3
  have k4 := below_new W3 (.cells #[.slice (some ⟨w.heap.size + 1, 0, none⟩) 2 2, .slice (some ⟨w.heap.size + 1 + 1, 0, none⟩) 2 2, .slice (some ⟨w.heap.size + 1 + 1 + 1, 0, none⟩) 3 3] 26)
  obtain ⟨W4, hW4⟩ : ∃ X, X = W3.alloc (.cells #[.slice (some ⟨w.heap.size + 1, 0, none⟩) 2 2, .slice (some ⟨w.heap.size + 1 + 1, 0, none⟩) 2 2, .slice (some ⟨w.heap.size + 1 + 1 + 1, 0, none⟩) 3 3] 26) := ⟨_, rfl⟩
  have z4 : W4.heap.size = w.heap.size + 1 + 1 + 1 + 1 + 1 := by rw [hW4, ← z3]; simp
  simp only [List.length_cons, List.length_nil, Nat.zero_add, Nat.reduceAdd] at r4
  rw [← hW4, z3] at r4
  rw [← hW4] at k4 ⊢
  obtain ⟨W5, hW5⟩ : ∃ X, X = W4.alloc (.cells #[.int .i64 0, .int .i64 1, .int .i64 2] 3) := ⟨_, rfl⟩
  have z5 : W5.heap.size = w.heap.size + 1 + 1 + 1 + 1 + 1 + 1 := by rw [hW5, ← z4]; simp
  have r5 := ints_new W4 3 [0, 1, 2] (by decide) (by decide)
  have k5 := below_new W4 (.cells #[.int .i64 0, .int .i64 1, .int .i64 2] 3)
  rw [show ([0, 1, 2].map fun x => Value.int .i64 x).toArray = #[.int .i64 0, .int .i64 1, .int .i64 2] from rfl, ← hW5, z4] at r5
  rw [← hW5] at k5 ⊢
  obtain ⟨d0, d1, d2, d3, d4, d5⟩ := six_new W5 46 (.int .i64 1) (.slice (some ⟨w.heap.size + 1 + 1 + 1 + 1 + 1, 0, none⟩) 3 3) (.slice none 0 0) (.slice none 0 0) (.int .i64 0) (.slice none 0 0)
  have k6 := below_new W5 (.cells #[.int .i64 1, .slice (some ⟨w.heap.size + 1 + 1 + 1 + 1 + 1, 0, none⟩) 3 3, .slice none 0 0, .slice none 0 0, .int .i64 0, .slice none 0 0] 46)
  obtain ⟨W6, hW6⟩ : ∃ X, X = W5.alloc (.cells #[.int .i64 1, .slice (some ⟨w.heap.size + 1 + 1 + 1 + 1 + 1, 0, none⟩) 3 3, .slice none 0 0, .slice none 0 0, .int .i64 0, .slice none 0 0] 46) := ⟨_, rfl⟩
  rw [← hW6] at k6 d0 d1 d2 d3 d4 d5 ⊢
  rw [z5] at d0 d1 d2 d3 d4 d5
  have hq : Rows 6 CnE W6 (.slice (some ⟨w.heap.size + 1 + 1 + 1 + 1 + 1 + 1, 0, none⟩) 1 1) [⟨1, [0, 1, 2], [], [], 0, []⟩] := by
    refine ⟨_, 1, rfl, Nat.le_refl _, by decide, Or.inr ⟨_, 0, rfl, fun i x hx => ?_⟩⟩
    rcases i with _ | i
    · obtain rfl : _ = x := by simpa using hx
      refine ⟨_, rfl, fun j u hu => ?_, _, 3, _, 0, _, 0, _, 0, rfl, ⟨r5.later (JE.stays IsSl 0) k6, rows_nil _, rows_nil _, rows_nil _, by unfold I64; decide, by unfold I64; decide⟩⟩
      rcases j with _ | _ | _ | _ | _ | _ | j
      · obtain rfl := Option.some.inj hu; exact d0
      · obtain rfl := Option.some.inj hu; exact d1
      · obtain rfl := Option.some.inj hu; exact d2
      · obtain rfl := Option.some.inj hu; exact d3
      · obtain rfl := Option.some.inj hu; exact d4
      · obtain rfl := Option.some.inj hu; exact d5
      · simp [cnCells] at hu
    · simp at hx
  have hall := below_keep k6 (below_keep k5 (below_keep k4 (below_keep k3 (below_keep k2 k1))))
  have q0 := cell_keep hall c0.1
  have q1 := cell_keep hall c0.2
  exact bodyPost_ret (v := .agg #[.slice (some ⟨w.heap.size + 1 + 1 + 1 + 1, 0, none⟩) 3 3, .slice (some ⟨w.heap.size + 1 + 1 + 1 + 1 + 1 + 1, 0, none⟩) 1 1]) (by simp [results, Tryz.results5, go_sem, q0, q1]) rfl ⟨⟨_, rfl, _, 3, _, 1, rfl, (r4.later (jss_stays 0) k5).later (jss_stays 0) k6, hq⟩, below_keep hall k0⟩
end Go.Proofs.YthoppmbmmplkiaaGreatDoor
