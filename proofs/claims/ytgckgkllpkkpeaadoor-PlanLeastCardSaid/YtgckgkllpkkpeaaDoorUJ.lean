/-
  Jobs: the law's own plan.
-/
import Derived.Test.YtgckgkllpkkpeaaDoorUC
import Derived.Test.YtgckgkllpkkpeaaDoorEC
namespace Go.Proofs.YtgckgkllpkkpeaaDoor
open Go.RowKit

theorem six_cells (w : World) (t : TypeId) (u0 u1 u2 u3 u4 u5 : Value) : (w.alloc (.cells #[u0, u1, u2, u3, u4, u5] t)).cell? ⟨w.heap.size, 0, none⟩ = some u0 ∧ (w.alloc (.cells #[u0, u1, u2, u3, u4, u5] t)).cell? ⟨w.heap.size, 1, none⟩ = some u1 ∧ (w.alloc (.cells #[u0, u1, u2, u3, u4, u5] t)).cell? ⟨w.heap.size, 2, none⟩ = some u2 ∧ (w.alloc (.cells #[u0, u1, u2, u3, u4, u5] t)).cell? ⟨w.heap.size, 3, none⟩ = some u3 ∧ (w.alloc (.cells #[u0, u1, u2, u3, u4, u5] t)).cell? ⟨w.heap.size, 4, none⟩ = some u4 ∧ (w.alloc (.cells #[u0, u1, u2, u3, u4, u5] t)).cell? ⟨w.heap.size, 5, none⟩ = some u5 := by
  refine ⟨?_, ?_, ?_, ?_, ?_, ?_⟩ <;> rw [new_cell rfl] <;> rfl
set_option maxHeartbeats 8000000 in
set_option maxRecDepth 8000 in
/-- jobs. -/
theorem jobs_any (w : World) : Calls Tryd.prog 5 #[] w fun e w' => (∃ v, e = .returned v ∧ PlV w' v jbs) ∧ Below w.heap.size w w' := by
  go_enter Tryd.func5, Tryd.ntmps5
  go_wp2
  obtain ⟨W0, hW0⟩ : ∃ X, X = w.alloc (.cells #[.slice (some ⟨w.heap.size + 1 + 1 + 1 + 1, 0, none⟩) 2 2, .slice (some ⟨w.heap.size + 1 + 1 + 1 + 1 + 1, 0, none⟩) 1 1] 25) := ⟨_, rfl⟩
  have z0 : W0.heap.size = w.heap.size + 1 := by rw [hW0]; simp
  have c0 := two_new w 25 (.slice (some ⟨w.heap.size + 1 + 1 + 1 + 1, 0, none⟩) 2 2) (.slice (some ⟨w.heap.size + 1 + 1 + 1 + 1 + 1, 0, none⟩) 1 1)
  have k0 := below_new w (.cells #[.slice (some ⟨w.heap.size + 1 + 1 + 1 + 1, 0, none⟩) 2 2, .slice (some ⟨w.heap.size + 1 + 1 + 1 + 1 + 1, 0, none⟩) 1 1] 25)
  rw [← hW0] at c0 k0 ⊢
  obtain ⟨W1, hW1⟩ : ∃ X, X = W0.alloc (.cells #[.int .i64 1] 3) := ⟨_, rfl⟩
  have z1 : W1.heap.size = w.heap.size + 1 + 1 := by rw [hW1, ← z0]; simp
  have r1 := ints_new W0 3 [1] (by decide) (by decide)
  have k1 := below_new W0 (.cells #[.int .i64 1] 3)
  rw [show ([1].map fun x => Value.int .i64 x).toArray = #[.int .i64 1] from rfl, ← hW1, z0] at r1
  rw [← hW1] at k1 ⊢
  obtain ⟨W2, hW2⟩ : ∃ X, X = W1.alloc (.cells #[.int .i64 0] 3) := ⟨_, rfl⟩
  have z2 : W2.heap.size = w.heap.size + 1 + 1 + 1 := by rw [hW2, ← z1]; simp
  have r2 := ints_new W1 3 [0] (by decide) (by decide)
  have k2 := below_new W1 (.cells #[.int .i64 0] 3)
  rw [show ([0].map fun x => Value.int .i64 x).toArray = #[.int .i64 0] from rfl, ← hW2, z1] at r2
  rw [← hW2] at k2 ⊢
  obtain ⟨W3, hW3⟩ : ∃ X, X = W2.alloc (.cells #[.int .i64 1] 3) := ⟨_, rfl⟩
  have z3 : W3.heap.size = w.heap.size + 1 + 1 + 1 + 1 := by rw [hW3, ← z2]; simp
  have r3 := ints_new W2 3 [1] (by decide) (by decide)
  have k3 := below_new W2 (.cells #[.int .i64 1] 3)
  rw [show ([1].map fun x => Value.int .i64 x).toArray = #[.int .i64 1] from rfl, ← hW3, z2] at r3
  rw [← hW3] at k3 ⊢
  obtain ⟨d0, d1, d2, d3, d4, d5⟩ := six_cells W3 50 (.int .i64 2) (.slice none 0 0) (.slice (some ⟨w.heap.size + 1, 0, none⟩) 1 1) (.int .i64 1) (.slice (some ⟨w.heap.size + 1 + 1, 0, none⟩) 1 1) (.slice (some ⟨w.heap.size + 1 + 1 + 1, 0, none⟩) 1 1)
  have k4 := below_new W3 (.cells #[.int .i64 2, .slice none 0 0, .slice (some ⟨w.heap.size + 1, 0, none⟩) 1 1, .int .i64 1, .slice (some ⟨w.heap.size + 1 + 1, 0, none⟩) 1 1, .slice (some ⟨w.heap.size + 1 + 1 + 1, 0, none⟩) 1 1] 50)
  obtain ⟨W4, hW4⟩ : ∃ X, X = W3.alloc (.cells #[.int .i64 2, .slice none 0 0, .slice (some ⟨w.heap.size + 1, 0, none⟩) 1 1, .int .i64 1, .slice (some ⟨w.heap.size + 1 + 1, 0, none⟩) 1 1, .slice (some ⟨w.heap.size + 1 + 1 + 1, 0, none⟩) 1 1] 50) := ⟨_, rfl⟩
  have z4 : W4.heap.size = w.heap.size + 1 + 1 + 1 + 1 + 1 := by rw [hW4, ← z3]; simp
  rw [← hW4] at k4 d0 d1 d2 d3 d4 d5 ⊢
  rw [z3] at d0 d1 d2 d3 d4 d5
  obtain ⟨W5, hW5⟩ : ∃ X, X = W4.alloc (.cells #[.int .i64 1] 3) := ⟨_, rfl⟩
  have r5 := ints_new W4 3 [1] (by decide) (by decide)
  have k5 := below_new W4 (.cells #[.int .i64 1] 3)
  rw [show ([1].map fun x => Value.int .i64 x).toArray = #[.int .i64 1] from rfl, ← hW5, z4] at r5
  rw [← hW5] at k5 ⊢
  have hq : Rows 3 JbE W4 (.slice (some ⟨w.heap.size + 1 + 1 + 1 + 1, 0, none⟩) 2 2) [⟨2, [], [1]⟩, ⟨1, [0], [1]⟩] := by
    refine ⟨_, 2, rfl, Nat.le_refl _, by decide, Or.inr ⟨_, 0, rfl, fun i x hx => ?_⟩⟩
    rcases i with _ | _ | i
    · obtain rfl : _ = x := by simpa using hx
      refine ⟨_, rfl, fun j u hu => ?_, _, 0, _, 1, rfl, ⟨rows_nil _, ((r1.later (JE.stays IsSl 0) k2).later (JE.stays IsSl 0) k3).later (JE.stays IsSl 0) k4, by unfold I64; decide⟩⟩
      rcases j with _ | _ | _ | j
      · obtain rfl := Option.some.inj hu; exact d0
      · obtain rfl := Option.some.inj hu; exact d1
      · obtain rfl := Option.some.inj hu; exact d2
      · simp at hu
    · obtain rfl : _ = x := by simpa using hx
      refine ⟨_, rfl, fun j u hu => ?_, _, 1, _, 1, rfl, ⟨(r2.later (JE.stays IsSl 0) k3).later (JE.stays IsSl 0) k4, r3.later (JE.stays IsSl 0) k4, by unfold I64; decide⟩⟩
      rcases j with _ | _ | _ | j
      · obtain rfl := Option.some.inj hu; exact d3
      · obtain rfl := Option.some.inj hu; exact d4
      · obtain rfl := Option.some.inj hu; exact d5
      · simp at hu
    · simp at hx
  have hall := below_keep k5 (below_keep k4 (below_keep k3 (below_keep k2 k1)))
  have q0 := cell_keep hall c0.1
  have q1 := cell_keep hall c0.2
  exact bodyPost_ret (v := .agg #[.slice (some ⟨w.heap.size + 1 + 1 + 1 + 1, 0, none⟩) 2 2, .slice (some ⟨w.heap.size + 1 + 1 + 1 + 1 + 1, 0, none⟩) 1 1]) (by simp [results, Tryd.results5, go_sem, q0, q1]) rfl ⟨⟨_, rfl, _, 2, _, 1, rfl, hq.on (fun _ _ h => h.later k5) k5, r5⟩, below_keep hall k0⟩
theorem plvalid_codes (p : Pl) : plvalid p = 0 ∨ plvalid p = 2 ∨ plvalid p = 4 := by
  have hj : ∀ (caps : List Int) (i : Nat) (j : Jb), jobV caps i j = 0 ∨ jobV caps i j = 2 ∨ jobV caps i j = 4 := by
    intro caps i j
    unfold jobV
    repeat' split
    all_goals simp
  have hg : ∀ (caps : List Int) (l : List Jb) (i : Nat), goJ caps i l = 0 ∨ goJ caps i l = 2 ∨ goJ caps i l = 4 := by
    intro caps l
    induction l with
    | nil => intro i; exact Or.inl rfl
    | cons a l ih =>
      intro i
      rw [goJ]
      split
      · exact ih _
      · exact hj _ _ _
  unfold plvalid
  split
  · simp
  split
  · simp
  split
  · exact hg _ _ _
  split
  · simp
  · simp
theorem PlV.later {w w' : World} {v : Value} {p : Pl} (h : PlV w v p) (hb : Below w.heap.size w w') : PlV w' v p := by
  obtain ⟨a, b, c, d, e, h⟩ := h
  exact ⟨a, b, c, d, e, h.later hb⟩
end Go.Proofs.YtgckgkllpkkpeaaDoor
