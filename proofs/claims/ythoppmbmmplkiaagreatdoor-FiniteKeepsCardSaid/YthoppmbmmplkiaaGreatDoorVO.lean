/-
  Puzzles: rules in memory, and what one keeps.
-/
import Derived.Test.YthoppmbmmplkiaaGreatDoorVN
namespace Go.Proofs.YthoppmbmmplkiaaGreatDoor
open Go.RowKit

/-- A rule's own cells. -/
def RuC (w : World) (lo : Nat) (u : Value) (c : Cn) (a1 : Option Addr) (c1 : Nat) (a2 : Option Addr) (c2 : Nat) (a3 : Option Addr) (c3 : Nat) (a4 : Option Addr) (c4 : Nat) : Prop :=
  ∃ g, lo ≤ g ∧
    ((c.kind = 1 ∧ u = .iface 68 (.pointer (some ⟨g, 0, none⟩)) ∧ w.cell? ⟨g, 0, none⟩ = some (.slice a1 c.vars.length c1)) ∨
     (c.kind = 2 ∧ u = .iface 71 (.pointer (some ⟨g, 0, none⟩)) ∧ w.cell? ⟨g, 0, none⟩ = some (.slice a1 c.vars.length c1) ∧ w.cell? ⟨g, 1, none⟩ = some (.slice a2 c.nums.length c2) ∧ w.cell? ⟨g, 2, none⟩ = some (.int .i64 c.limit)) ∨
     (c.kind = 3 ∧ u = .iface 74 (.pointer (some ⟨g, 0, none⟩)) ∧ w.cell? ⟨g, 0, none⟩ = some (.slice a1 c.vars.length c1) ∧ w.cell? ⟨g, 1, none⟩ = some (.slice a4 c.rows.length c4)) ∨
     (c.kind = 4 ∧ u = .iface 77 (.pointer (some ⟨g, 0, none⟩)) ∧ ∃ (p q : Int) (rest : List Int) (a : Option Addr) (k : Nat), c.vars = p :: q :: rest ∧ w.cell? ⟨g, 0, none⟩ = some (.int .i64 p) ∧ w.cell? ⟨g, 1, none⟩ = some (.int .i64 q) ∧ w.cell? ⟨g, 2, none⟩ = some (.slice a rest.length k) ∧ rest.length ≤ k ∧ k ≤ maxLen ∧ (rest = [] ∨ ∃ b o, a1 = some ⟨b, o, none⟩ ∧ a = some ⟨b, o + 2, none⟩)) ∨
     (c.kind = 5 ∧ u = .iface 80 (.pointer (some ⟨g, 0, none⟩)) ∧ w.cell? ⟨g, 0, none⟩ = some (.slice a1 c.vars.length c1) ∧ w.cell? ⟨g, 1, none⟩ = some (.slice a2 c.nums.length c2) ∧ w.cell? ⟨g, 2, none⟩ = some (.slice a3 c.uses.length c3) ∧ w.cell? ⟨g, 3, none⟩ = some (.int .i64 c.limit)))
theorem RuC.on {w w' : World} {lo lo' : Nat} {u : Value} {c : Cn} {a1 : Option Addr} {c1 : Nat} {a2 : Option Addr} {c2 : Nat} {a3 : Option Addr} {c3 : Nat} {a4 : Option Addr} {c4 : Nat} (h : RuC w lo u c a1 c1 a2 c2 a3 c3 a4 c4) (hl : lo' ≤ lo) (hc : ∀ g o v, lo ≤ g → w.cell? ⟨g, o, none⟩ = some v → w'.cell? ⟨g, o, none⟩ = some v) : RuC w' lo' u c a1 c1 a2 c2 a3 c3 a4 c4 := by
  obtain ⟨g, hg, h⟩ := h
  refine ⟨g, Nat.le_trans hl hg, ?_⟩
  rcases h with ⟨k, e, h0⟩ | ⟨k, e, h0, h1, h2⟩ | ⟨k, e, h0, h1⟩ | ⟨k, e, p, q, rest, a, m, hv, h0, h1, h2, h3⟩ | ⟨k, e, h0, h1, h2, h3⟩
  · exact Or.inl ⟨k, e, hc _ _ _ hg h0⟩
  · exact Or.inr (Or.inl ⟨k, e, hc _ _ _ hg h0, hc _ _ _ hg h1, hc _ _ _ hg h2⟩)
  · exact Or.inr (Or.inr (Or.inl ⟨k, e, hc _ _ _ hg h0, hc _ _ _ hg h1⟩))
  · exact Or.inr (Or.inr (Or.inr (Or.inl ⟨k, e, p, q, rest, a, m, hv, hc _ _ _ hg h0, hc _ _ _ hg h1, hc _ _ _ hg h2, h3⟩)))
  · exact Or.inr (Or.inr (Or.inr (Or.inr ⟨k, e, hc _ _ _ hg h0, hc _ _ _ hg h1, hc _ _ _ hg h2, hc _ _ _ hg h3⟩)))
/-- A rule. -/
def RuV (w : World) (u : Value) (c : Cn) : Prop := ∃ a1 c1 a2 c2 a3 c3 a4 c4, CnM w c a1 c1 a2 c2 a3 c3 a4 c4 ∧ RuC w 0 u c a1 c1 a2 c2 a3 c3 a4 c4
theorem RuV.later {w w' : World} {u : Value} {c : Cn} (h : RuV w u c) (hb : Below w.heap.size w w') : RuV w' u c := by
  obtain ⟨a1, c1, a2, c2, a3, c3, a4, c4, h1, h2⟩ := h
  exact ⟨a1, c1, a2, c2, a3, c3, a4, c4, h1.later hb, h2.on (Nat.le_refl _) fun g o v _ h => cell_keep hb h⟩
theorem rows_tail {w : World} {a1 a : Option Addr} {c1 k : Nat} {p q : Int} {rest : List Int} (h : Rows 1 JE w (.slice a1 (p :: q :: rest).length c1) (p :: q :: rest)) (hk : rest.length ≤ k) (hm : k ≤ maxLen) (ha : rest = [] ∨ ∃ b o, a1 = some ⟨b, o, none⟩ ∧ a = some ⟨b, o + 2, none⟩) : Rows 1 JE w (.slice a rest.length k) rest := by
  refine ⟨a, k, rfl, hk, hm, ?_⟩
  rcases ha with rfl | ⟨b, o, rfl, rfl⟩
  · exact Or.inl rfl
  · refine Or.inr ⟨b, o + 2, rfl, fun i x hx => ?_⟩
    obtain ⟨b', o', e, cs, hl, hcs, he⟩ := h.at (i := i + 2) (x := x) (by simpa using hx)
    obtain ⟨rfl, rfl⟩ : b = b' ∧ o = o' := by simpa using e
    exact ⟨cs, hl, fun j u hu => by rw [show o + 2 + (i * 1 + j) = o + ((i + 2) * 1 + j) by omega]; exact hcs j u hu, he⟩
/-- Values do not keep a constraint. -/
noncomputable def badC (x : List Int) (c : Cn) : Bool := @decide (¬ keptP c (pickL x c.vars)) (Classical.propDecidable _)
theorem badC_of {x : List Int} {c : Cn} {b : Bool} {q : Prop} (h : b = true ↔ q) (hq : keptP c (pickL x c.vars) ↔ q) : (!b) = badC x c := by
  unfold badC
  cases b
  · exact (@decide_eq_true _ (Classical.propDecidable _) (fun hk => by have := h.2 (hq.1 hk); cases this)).symm
  · exact (@decide_eq_false _ (Classical.propDecidable _) (fun hk => hk (hq.2 (h.1 rfl)))).symm
set_option maxHeartbeats 4000000 in
set_option maxRecDepth 8000 in
/-- A rule of kind 1 is asked. -/
theorem ask1_any {g B : Nat} {xv : Value} {x : List Int} {c : Cn} {q : Prop} (w : World) (k0 : w.cell? ⟨B, 0, none⟩ = some xv) (hc : Calls Tryz.prog 71 #[.pointer (some ⟨g, 0, none⟩), xv] w fun e w' => YesP e q ∧ Below w.heap.size w w') (hq : keptP c (pickL x c.vars) ↔ q) :
    Calls Tryz.prog 14 #[.iface 68 (.pointer (some ⟨g, 0, none⟩)), .pointer (some ⟨B, 0, none⟩)] w fun e w' => e = .returned (.bool (badC x c)) ∧ Below w.heap.size w w' := by
  have HC := hide hc
  have HQ := hide hq
  have hm : ∀ w : World, (method 315 68 (.pointer (some ⟨g, 0, none⟩)) "optima/finite.keeps").run Tryz.prog w = .ok (71, .pointer (some ⟨g, 0, none⟩)) w := fun _ => by kernel_rfl
  clear hc hq
  go_enter Tryz.func14, Tryz.ntmps14
  go_wp2_with fail
  go_fit (unhide HC)
  rintro e W1 ⟨⟨b, rfl, hb⟩, hbl⟩
  have HB := hide hb
  clear hb
  go_wp2
  go_ret
  exact ⟨by rw [← badC_of (unhide HB) (unhide HQ)]; rfl, hbl⟩
set_option maxHeartbeats 4000000 in
set_option maxRecDepth 8000 in
/-- A rule of kind 2 is asked. -/
theorem ask2_any {g B : Nat} {xv : Value} {x : List Int} {c : Cn} {q : Prop} (w : World) (k0 : w.cell? ⟨B, 0, none⟩ = some xv) (hc : Calls Tryz.prog 98 #[.pointer (some ⟨g, 0, none⟩), xv] w fun e w' => YesP e q ∧ Below w.heap.size w w') (hq : keptP c (pickL x c.vars) ↔ q) :
    Calls Tryz.prog 14 #[.iface 71 (.pointer (some ⟨g, 0, none⟩)), .pointer (some ⟨B, 0, none⟩)] w fun e w' => e = .returned (.bool (badC x c)) ∧ Below w.heap.size w w' := by
  have HC := hide hc
  have HQ := hide hq
  have hm : ∀ w : World, (method 315 71 (.pointer (some ⟨g, 0, none⟩)) "optima/finite.keeps").run Tryz.prog w = .ok (98, .pointer (some ⟨g, 0, none⟩)) w := fun _ => by kernel_rfl
  clear hc hq
  go_enter Tryz.func14, Tryz.ntmps14
  go_wp2_with fail
  go_fit (unhide HC)
  rintro e W1 ⟨⟨b, rfl, hb⟩, hbl⟩
  have HB := hide hb
  clear hb
  go_wp2
  go_ret
  exact ⟨by rw [← badC_of (unhide HB) (unhide HQ)]; rfl, hbl⟩
set_option maxHeartbeats 4000000 in
set_option maxRecDepth 8000 in
/-- A rule of kind 3 is asked. -/
theorem ask3_any {g B : Nat} {xv : Value} {x : List Int} {c : Cn} {q : Prop} (w : World) (k0 : w.cell? ⟨B, 0, none⟩ = some xv) (hc : Calls Tryz.prog 102 #[.pointer (some ⟨g, 0, none⟩), xv] w fun e w' => YesP e q ∧ Below w.heap.size w w') (hq : keptP c (pickL x c.vars) ↔ q) :
    Calls Tryz.prog 14 #[.iface 74 (.pointer (some ⟨g, 0, none⟩)), .pointer (some ⟨B, 0, none⟩)] w fun e w' => e = .returned (.bool (badC x c)) ∧ Below w.heap.size w w' := by
  have HC := hide hc
  have HQ := hide hq
  have hm : ∀ w : World, (method 315 74 (.pointer (some ⟨g, 0, none⟩)) "optima/finite.keeps").run Tryz.prog w = .ok (102, .pointer (some ⟨g, 0, none⟩)) w := fun _ => by kernel_rfl
  clear hc hq
  go_enter Tryz.func14, Tryz.ntmps14
  go_wp2_with fail
  go_fit (unhide HC)
  rintro e W1 ⟨⟨b, rfl, hb⟩, hbl⟩
  have HB := hide hb
  clear hb
  go_wp2
  go_ret
  exact ⟨by rw [← badC_of (unhide HB) (unhide HQ)]; rfl, hbl⟩
set_option maxHeartbeats 4000000 in
set_option maxRecDepth 8000 in
/-- A rule of kind 4 is asked. -/
theorem ask4_any {g B : Nat} {xv : Value} {x : List Int} {c : Cn} {q : Prop} (w : World) (k0 : w.cell? ⟨B, 0, none⟩ = some xv) (hc : Calls Tryz.prog 108 #[.pointer (some ⟨g, 0, none⟩), xv] w fun e w' => YesP e q ∧ Below w.heap.size w w') (hq : keptP c (pickL x c.vars) ↔ q) :
    Calls Tryz.prog 14 #[.iface 77 (.pointer (some ⟨g, 0, none⟩)), .pointer (some ⟨B, 0, none⟩)] w fun e w' => e = .returned (.bool (badC x c)) ∧ Below w.heap.size w w' := by
  have HC := hide hc
  have HQ := hide hq
  have hm : ∀ w : World, (method 315 77 (.pointer (some ⟨g, 0, none⟩)) "optima/finite.keeps").run Tryz.prog w = .ok (108, .pointer (some ⟨g, 0, none⟩)) w := fun _ => by kernel_rfl
  clear hc hq
  go_enter Tryz.func14, Tryz.ntmps14
  go_wp2_with fail
  go_fit (unhide HC)
  rintro e W1 ⟨⟨b, rfl, hb⟩, hbl⟩
  have HB := hide hb
  clear hb
  go_wp2
  go_ret
  exact ⟨by rw [← badC_of (unhide HB) (unhide HQ)]; rfl, hbl⟩
set_option maxHeartbeats 4000000 in
set_option maxRecDepth 8000 in
/-- A rule of kind 5 is asked. -/
theorem ask5_any {g B : Nat} {xv : Value} {x : List Int} {c : Cn} {q : Prop} (w : World) (k0 : w.cell? ⟨B, 0, none⟩ = some xv) (hc : Calls Tryz.prog 112 #[.pointer (some ⟨g, 0, none⟩), xv] w fun e w' => YesP e q ∧ Below w.heap.size w w') (hq : keptP c (pickL x c.vars) ↔ q) :
    Calls Tryz.prog 14 #[.iface 80 (.pointer (some ⟨g, 0, none⟩)), .pointer (some ⟨B, 0, none⟩)] w fun e w' => e = .returned (.bool (badC x c)) ∧ Below w.heap.size w w' := by
  have HC := hide hc
  have HQ := hide hq
  have hm : ∀ w : World, (method 315 80 (.pointer (some ⟨g, 0, none⟩)) "optima/finite.keeps").run Tryz.prog w = .ok (112, .pointer (some ⟨g, 0, none⟩)) w := fun _ => by kernel_rfl
  clear hc hq
  go_enter Tryz.func14, Tryz.ntmps14
  go_wp2_with fail
  go_fit (unhide HC)
  rintro e W1 ⟨⟨b, rfl, hb⟩, hbl⟩
  have HB := hide hb
  clear hb
  go_wp2
  go_ret
  exact ⟨by rw [← badC_of (unhide HB) (unhide HQ)]; rfl, hbl⟩
theorem eg_ask : ∀ args w, (callFunc 14 args).run Tryz.prog w = .ok (.enter 14 args) w := enters_of Tryz.func14 (by kernel_rfl) rfl
/-- What is asked of a rule. -/
theorem rule_any {B : Nat} {xv u : Value} {x : List Int} {c : Cn} (w : World) (k0 : w.cell? ⟨B, 0, none⟩ = some xv) (hx : Rows 1 JE w xv x) (hu : RuV w u c) (hc : ConOk x.length c) (hf : FewC c) (ho : ∀ y ∈ pickL x c.vars, Ok8 y) :
    Calls Tryz.prog 14 #[u, .pointer (some ⟨B, 0, none⟩)] w fun e w' => e = .returned (.bool (badC x c)) ∧ Below w.heap.size w w' := by
  obtain ⟨a1, c1, a2, c2, a3, c3, a4, c4, hM, g, _, h⟩ := hu
  have hfm := hc.f
  rcases h with ⟨k, rfl, h0⟩ | ⟨k, rfl, h0, h1, h2⟩ | ⟨k, rfl, h0, h1⟩ | ⟨k, rfl, p, q, rest, a, m, hv, h0, h1, h2, h3, h4, h5⟩ | ⟨k, rfl, h0, h1, h2, h3⟩
  · exact ask1_any w k0 (diff_any w h0 hM.r1 hx hc.va hf.1) (by rw [keptP, if_pos k])
  · have hl : c.nums.length = c.vars.length := by
      rw [formedC, if_neg (by omega), if_pos k] at hfm
      simp at hfm
      omega
    exact ask2_any w k0 (sum_any w h0 h1 h2 hM.r1 hM.r2 hx hc.va hf.1 hl ho hc.nb) (by rw [keptP, if_neg (by omega), if_pos k])
  · exact ask3_any w k0 (tab_any w h0 h1 hM.r1 hM.r4 hx hc.va hf.1) (by rw [keptP, if_neg (by omega), if_neg (by omega), if_pos k])
  · have hp := hc.va p (by rw [hv]; simp)
    have hq := hc.va q (by rw [hv]; simp)
    obtain ⟨p, rfl⟩ : ∃ z : Nat, p = (z : Int) := ⟨p.toNat, by omega⟩
    obtain ⟨q, rfl⟩ : ∃ z : Nat, q = (z : Int) := ⟨q.toNat, by omega⟩
    have hr1 := hM.r1
    rw [hv] at hr1
    exact ask4_any w k0 (elem_any w h0 h1 h2 (rows_tail hr1 h3 h4 h5) hx (by omega) (by omega) fun z hz => hc.va z (by rw [hv]; simp [hz])) (by rw [keptP, if_neg (by omega), if_neg (by omega), if_neg (by omega), if_pos k, hv])
  · have hl : c.nums.length = c.vars.length ∧ c.uses.length = c.vars.length ∧ 0 ≤ c.limit ∧ ∀ y ∈ c.uses, 0 ≤ y := by
      rw [formedC, if_neg (by omega), if_neg (by omega), if_neg (by omega), if_neg (by omega), if_pos k] at hfm
      simp at hfm
      exact ⟨by omega, by omega, by omega, hfm.2⟩
    exact ask5_any w k0 (share_any w h0 h1 h2 h3 hM.r1 hM.r2 hM.r3 hx hc.va hf.1 hl.1 hl.2.1 ho hc.nb hc.ub hl.2.2.2 hl.2.2.1) (by rw [keptP, if_neg (by omega), if_neg (by omega), if_neg (by omega), if_neg (by omega)])
end Go.Proofs.YthoppmbmmplkiaaGreatDoor
