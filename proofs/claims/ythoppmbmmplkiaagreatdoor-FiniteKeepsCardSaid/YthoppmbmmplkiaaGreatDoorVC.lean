/-
  Puzzles: the program's isLong, hasGreat, isShaped of a small constraint.
-/
import Derived.Test.YthoppmbmmplkiaaGreatDoorVB
import Derived.Test.YthoppmbmmplkiaaGreatDoorYC
namespace Go.Proofs.YthoppmbmmplkiaaGreatDoor
open Go.RowKit

/-- A constraint no greater than what is spoken of. -/
def FewC (c : Cn) : Prop := c.vars.length ≤ 8 ∧ c.nums.length ≤ 8 ∧ c.uses.length ≤ 8 ∧ c.rows.length ≤ 12 ∧ ∀ r ∈ c.rows, r.length ≤ 8
/-- The cells of a constraint in its box. -/
structure CnB (w : World) (g : Nat) (c : Cn) (a1 : Option Addr) (c1 : Nat) (a2 : Option Addr) (c2 : Nat) (a3 : Option Addr) (c3 : Nat) (a4 : Option Addr) (c4 : Nat) : Prop where
  k0 : w.cell? ⟨g, 0, none⟩ = some (.int .i64 c.kind)
  k1 : w.cell? ⟨g, 1, none⟩ = some (.slice a1 c.vars.length c1)
  k2 : w.cell? ⟨g, 2, none⟩ = some (.slice a2 c.nums.length c2)
  k3 : w.cell? ⟨g, 3, none⟩ = some (.slice a3 c.uses.length c3)
  k4 : w.cell? ⟨g, 4, none⟩ = some (.int .i64 c.limit)
  k5 : w.cell? ⟨g, 5, none⟩ = some (.slice a4 c.rows.length c4)
  m : CnM w c a1 c1 a2 c2 a3 c3 a4 c4
theorem CnB.later {w w' : World} {g : Nat} {c : Cn} {a1 : Option Addr} {c1 : Nat} {a2 : Option Addr} {c2 : Nat} {a3 : Option Addr} {c3 : Nat} {a4 : Option Addr} {c4 : Nat} (h : CnB w g c a1 c1 a2 c2 a3 c3 a4 c4) (hb : Below w.heap.size w w') : CnB w' g c a1 c1 a2 c2 a3 c3 a4 c4 :=
  ⟨cell_keep hb h.k0, cell_keep hb h.k1, cell_keep hb h.k2, cell_keep hb h.k3, cell_keep hb h.k4, cell_keep hb h.k5, h.m.later hb⟩
theorem cnB_new (w : World) (t : TypeId) {c : Cn} {a1 : Option Addr} {c1 : Nat} {a2 : Option Addr} {c2 : Nat} {a3 : Option Addr} {c3 : Nat} {a4 : Option Addr} {c4 : Nat} (h : CnM w c a1 c1 a2 c2 a3 c3 a4 c4) : CnB (w.alloc (.cells #[.int .i64 c.kind, .slice a1 c.vars.length c1, .slice a2 c.nums.length c2, .slice a3 c.uses.length c3, .int .i64 c.limit, .slice a4 c.rows.length c4] t)) w.heap.size c a1 c1 a2 c2 a3 c3 a4 c4 := by
  obtain ⟨k0, k1, k2, k3, k4, k5⟩ := six_new w t (.int .i64 c.kind) (.slice a1 c.vars.length c1) (.slice a2 c.nums.length c2) (.slice a3 c.uses.length c3) (.int .i64 c.limit) (.slice a4 c.rows.length c4)
  exact ⟨k0, k1, k2, k3, k4, k5, h.later (below_new w _)⟩
theorem any_no {α : Type} {l : List α} {p : α → Bool} (h : ∀ x ∈ l, p x = false) : l.any p = false := by
  rw [List.any_eq_false]
  intro x hx
  rw [h x hx]
  exact Bool.false_ne_true
set_option maxHeartbeats 8000000 in
set_option maxRecDepth 8000 in
/-- isLong. -/
theorem islong_any {v : Value} {c : Cn} (w : World) (h : CnV w v c) (hf : FewC c) : Calls Tryz.prog 28 #[v] w fun e w' => e = .returned (.bool false) ∧ Below w.heap.size w w' := by
  obtain ⟨a1, c1, a2, c2, a3, c3, a4, c4, rfl, hM⟩ := h
  have kn := below_new w (.cells #[.int .i64 c.kind, .slice a1 c.vars.length c1, .slice a2 c.nums.length c2, .slice a3 c.uses.length c3, .int .i64 c.limit, .slice a4 c.rows.length c4] 46)
  have hB := cnB_new w 46 hM
  have HF := hide hf
  have hr0 : c.rows.any (fun r : List Int => decide (60 < r.length)) = false := any_no fun r hr => by have := hf.2.2.2.2 r hr; simp; omega
  obtain ⟨f1, f2, f3, f4, _⟩ := hf
  have HR := hide hr0
  have HK := hide kn
  have HB := hide hB
  clear hM kn hB hr0
  obtain ⟨kind, vars, nums, uses, limit, rows⟩ := c
  obtain ⟨nv, hnv⟩ : ∃ n, n = vars.length := ⟨_, rfl⟩
  obtain ⟨nn, hnn⟩ : ∃ n, n = nums.length := ⟨_, rfl⟩
  obtain ⟨nu, hnu⟩ : ∃ n, n = uses.length := ⟨_, rfl⟩
  obtain ⟨nr, hnr⟩ : ∃ n, n = rows.length := ⟨_, rfl⟩
  obtain ⟨g, hg⟩ : ∃ X, X = w.heap.size := ⟨_, rfl⟩
  obtain ⟨W, hW⟩ : ∃ X, X = w.alloc (.cells #[.int .i64 kind, .slice a1 vars.length c1, .slice a2 nums.length c2, .slice a3 uses.length c3, .int .i64 limit, .slice a4 rows.length c4] 46) := ⟨_, rfl⟩
  go_enter Tryz.func28, Tryz.ntmps28
  go_upto_region 1 with fail
  rw [← hW] at HB HK ⊢
  rw [← hg] at HB ⊢
  obtain ⟨_, k1, k2, k3, _, k5, m⟩ := unhide HB
  have HM := hide m
  simp only at k1 k2 k3 k5 f1 f2 f3 f4
  rw [← hnv] at k1 f1
  rw [← hnn] at k2 f2
  rw [← hnu] at k3 f3
  rw [← hnr] at k5 f4
  rw [← hnv, ← hnn, ← hnu, ← hnr]
  have HRR := hide (show Rows 1 (LE 1 JE) W (.slice a4 nr c4) rows by rw [hnr]; exact m.r4)
  clear hW hg hnv hnn hnu hnr m HB
  have d1 : decide (60 < nv) = false := decide_eq_false (by omega)
  have d2 : decide (60 < nn) = false := decide_eq_false (by omega)
  have d3 : decide (60 < nu) = false := decide_eq_false (by omega)
  go_wp2_with fail
  go_fit (long1_any a1 nv c1 (by omega) _)
  rintro e W1 ⟨rfl, rfl⟩
  rw [d1]
  go_wp2_with fail
  go_fit (long1_any a2 nn c2 (by omega) _)
  rintro e W1 ⟨rfl, rfl⟩
  rw [d2]
  go_wp2_with fail
  go_fit (long1_any a3 nu c3 (by omega) _)
  rintro e W1 ⟨rfl, rfl⟩
  rw [d3]
  have d4 : decide ((200 : Int) < (nr : Int)) = false := decide_eq_false (by omega)
  go_wp2_with fail
  go_fit (hasR_any _ eg_long1 lastR (unhide HRR) (pred_long _))
  rintro e W1 ⟨rfl, hb⟩
  rw [unhide HR]
  go_wp2
  go_ret
  exact ⟨rfl, below_keep hb (unhide HK)⟩
/-- Has a constraint a number that is too great? -/
def greatC (c : Cn) : Bool := anyBigI c.nums || (anyBigI c.uses || (bigI c.limit || c.rows.any anyBigI))
set_option maxHeartbeats 8000000 in
set_option maxRecDepth 8000 in
/-- hasGreat. -/
theorem hasgreat_any {v : Value} {c : Cn} (w : World) (h : CnV w v c) : Calls Tryz.prog 29 #[v] w fun e w' => e = .returned (.bool (greatC c)) ∧ Below w.heap.size w w' := by
  obtain ⟨a1, c1, a2, c2, a3, c3, a4, c4, rfl, hM⟩ := h
  have kn := below_new w (.cells #[.int .i64 c.kind, .slice a1 c.vars.length c1, .slice a2 c.nums.length c2, .slice a3 c.uses.length c3, .int .i64 c.limit, .slice a4 c.rows.length c4] 46)
  have HB := hide (cnB_new w 46 hM)
  have HK := hide kn
  clear hM kn
  obtain ⟨g, hg⟩ : ∃ X, X = w.heap.size := ⟨_, rfl⟩
  obtain ⟨W, hW⟩ : ∃ X, X = w.alloc (.cells #[.int .i64 c.kind, .slice a1 c.vars.length c1, .slice a2 c.nums.length c2, .slice a3 c.uses.length c3, .int .i64 c.limit, .slice a4 c.rows.length c4] 46) := ⟨_, rfl⟩
  go_enter Tryz.func29, Tryz.ntmps29
  go_upto_region 1 with fail
  rw [← hW] at HB HK ⊢
  rw [← hg] at HB ⊢
  clear hW hg
  obtain ⟨_, _, k2, _⟩ := unhide HB
  go_wp2_with fail
  go_fit (great1_any _ (unhide HB).m.r2)
  rintro e W1 ⟨rfl, hb⟩
  have HK := hide (below_keep hb (unhide HK))
  have HB := hide ((unhide HB).later hb)
  clear k2 hb
  cases hq : anyBigI c.nums
  rotate_left
  · go_wp2
    go_ret
    exact ⟨by rw [greatC, hq]; rfl, unhide HK⟩
  obtain ⟨_, _, _, k3, _⟩ := unhide HB
  go_wp2_with fail
  go_fit (great1_any _ (unhide HB).m.r3)
  rintro e W2 ⟨rfl, hb⟩
  have HK := hide (below_keep hb (unhide HK))
  have HB := hide ((unhide HB).later hb)
  clear k3 hb
  cases hq2 : anyBigI c.uses
  rotate_left
  · go_wp2
    go_ret
    exact ⟨by rw [greatC, hq, hq2]; rfl, unhide HK⟩
  obtain ⟨_, _, _, _, k4, _⟩ := unhide HB
  go_wp2_with fail
  go_fit (great_any c.limit _)
  rintro e W3 ⟨rfl, rfl⟩
  clear k4
  cases hq3 : bigI c.limit
  rotate_left
  · go_wp2
    go_ret
    exact ⟨by rw [greatC, hq, hq2, hq3]; rfl, unhide HK⟩
  obtain ⟨_, _, _, _, _, k5, _⟩ := unhide HB
  go_wp2_with fail
  go_fit (hasR_any _ eg_great1 lastR (unhide HB).m.r4 (pred_great1 _))
  rintro e W4 ⟨rfl, hb⟩
  have HK := hide (below_keep hb (unhide HK))
  clear k5 hb
  go_wp2
  go_ret
  exact ⟨by rw [greatC, hq, hq2, hq3]; rfl, unhide HK⟩
end Go.Proofs.YthoppmbmmplkiaaGreatDoor
