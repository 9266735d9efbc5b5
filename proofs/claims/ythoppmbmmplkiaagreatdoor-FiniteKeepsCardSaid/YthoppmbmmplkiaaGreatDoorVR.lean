/-
  Puzzles: the program's Keeps.
-/
import Derived.Test.YthoppmbmmplkiaaGreatDoorVQ
namespace Go.Proofs.YthoppmbmmplkiaaGreatDoor
open Go.RowKit

/-- A rule in its cell, of a constraint that is right, over values that are not too great. -/
def RuE (x : List Int) (w : World) (cs : List Value) (c : Cn) : Prop := ∃ u, cs = [u] ∧ RuV w u c ∧ ConOk x.length c ∧ FewC c ∧ ∀ y ∈ pickL x c.vars, Ok8 y
theorem lastU (x : List Int) : Lasts (RuE x) := fun _ _ _ _ ⟨u, h1, h2, h3⟩ hb => ⟨u, h1, h2.later hb, h3⟩
theorem pred_rule {B : Nat} {xv : Value} {x : List Int} (w : World) (k0 : w.cell? ⟨B, 0, none⟩ = some xv) (hx : Rows 1 JE w xv x) : PredE (RuE x) 14 #[.pointer (some ⟨B, 0, none⟩)] (badC x) w := fun W u c hb he => by
  obtain ⟨u', e, h1, h2, h3, h4⟩ := he
  obtain rfl : u = u' := by simpa using e
  exact rule_any W (cell_keep hb k0) (hx.later (JE.stays IsSl 0) hb) h1 h2 h3 h4
theorem rows_rules {w W : World} {B n : Nat} {us : List Value} {cs : List Cn} {x : List Int} {t : TypeId} {f : Nat × Nat} (hb : Below w.heap.size w W) (hl : us.length = cs.length) (hn : cs.length = n) (h8 : n ≤ 100) (hh : W.heap[B]? = some (.cells us.toArray t f)) (hr : RuL w W 0 us cs) (hc : ∀ c ∈ cs, ConOk x.length c ∧ FewC c ∧ ∀ y ∈ pickL x c.vars, Ok8 y) : Rows 1 (RuE x) W (.slice (some ⟨B, 0, none⟩) n n) cs := by
  subst hn
  refine ⟨_, _, rfl, Nat.le_refl _, by unfold maxLen; omega, Or.inr ⟨_, _, rfl, fun i c hi => ?_⟩⟩
  obtain ⟨u, hu⟩ : ∃ u, us[i]? = some u := ⟨us[i]'(by have := (List.getElem?_eq_some_iff.1 hi).1; omega), by simp⟩
  obtain ⟨a1, c1, a2, c2, a3, c3, a4, c4, h3, h4⟩ := hr i u c hu hi
  refine ⟨[u], rfl, fun j v hv => ?_, u, rfl, ⟨a1, c1, a2, c2, a3, c3, a4, c4, h3.later hb, h4⟩, hc c (List.mem_of_getElem? hi)⟩
  rcases j with _ | j
  · obtain rfl : u = v := by simpa using hv
    exact block_cell hh (by simpa using hu)
  · simp at hv
theorem all_kept {x : List Int} {cs : List Cn} : (!cs.any (badC x)) = true ↔ ∀ c ∈ cs, keptP c (pickL x c.vars) := by
  rw [Bool.not_eq_true', List.any_eq_false]
  refine ⟨fun h c hc => ?_, fun h c hc hb => ?_⟩
  · refine Classical.byContradiction fun hk => h c hc ?_
    exact @decide_eq_true _ (Classical.propDecidable _) hk
  · exact @of_decide_eq_true _ (Classical.propDecidable _) hb (h c hc)
set_option maxHeartbeats 8000000 in
set_option maxRecDepth 8000 in
/-- Keeps. -/
theorem keeps_any (A : Nat → Addr) : KeepsC A := by
  intro w pv xv p x hS h hx hf h20
  obtain ⟨va, vc, qa, qc, rfl, hM⟩ := h
  obtain ⟨xa, xc, rfl⟩ := hx.shape
  obtain ⟨vals, cons⟩ := p
  have kn := below_new w (.cells #[.slice va vals.length vc, .slice qa cons.length qc] 25)
  obtain ⟨p0, p1⟩ := two_new w 25 (.slice va vals.length vc) (.slice qa cons.length qc)
  obtain ⟨g, hg⟩ : ∃ X, X = w.heap.size := ⟨_, rfl⟩
  obtain ⟨W0, hW0⟩ : ∃ X, X = w.alloc (.cells #[.slice va vals.length vc, .slice qa cons.length qc] 25) := ⟨_, rfl⟩
  have hz : W0.heap.size = g + 1 := by rw [hW0, hg]; simp
  rw [← hW0] at kn p0 p1
  rw [← hg] at p0 p1
  have kn2 := below_new W0 (.cells #[.slice xa x.length xc] 26)
  have x0 := one_new W0 26 (.slice xa x.length xc)
  rw [hz] at x0
  have p0 := cell_keep kn2 p0
  have p1 := cell_keep kn2 p1
  have kb := below_keep kn2 kn
  have HM := hide (hM.later kb)
  have HX := hide (hx.later (JE.stays IsSl 0) kb)
  have HS := hide (hS.later kb)
  have HK := hide kb
  have HF := hide hf
  have f1 : vals.length ≤ 6 := hf.n
  have f2 : cons.length ≤ 8 := hf.m
  clear hM kn kn2 kb hS hf hx
  obtain ⟨nv, hnv⟩ : ∃ n, n = vals.length := ⟨_, rfl⟩
  obtain ⟨nc, hnc⟩ : ∃ n, n = cons.length := ⟨_, rfl⟩
  obtain ⟨nx, hnx⟩ : ∃ n, n = x.length := ⟨_, rfl⟩
  rw [← hnv] at f1
  rw [← hnc] at f2
  rw [← hnx] at h20
  obtain ⟨W, hW⟩ : ∃ X, X = W0.alloc (.cells #[.slice xa x.length xc] 26) := ⟨_, rfl⟩
  go_enter Tryz.func4, Tryz.ntmps4
  go_upto_region 1 with fail
  rw [← hW0, ← hW, ← hg]
  rw [← hW] at HM HX HS HK p0 p1 x0
  rw [← hnv] at p0
  rw [← hnc] at p1
  rw [← hnx] at x0 HX
  rw [← hnv, ← hnc, ← hnx]
  have HPV := hide (show ∀ w' : World, Below W.heap.size W w' → PzV w' (.agg #[.slice va nv vc, .slice qa nc qc]) ⟨vals, cons⟩ from fun w' hb => by rw [hnv, hnc]; exact ⟨va, vc, qa, qc, rfl, (unhide HM).later hb⟩)
  have HN := hide (And.intro hnv (And.intro hnc hnx))
  clear hW0 hW hg hz hnv hnc hnx
  go_wp2_with fail
  go_fit (valid_any A _ _ ⟨vals, cons⟩ (unhide HS) (unhide HPV _ (Below.refl _ _)) (unhide HF))
  rintro e W1 ⟨rfl, hb⟩
  have p0 := cell_keep hb p0
  have p1 := cell_keep hb p1
  have x0 := cell_keep hb x0
  have HB := hide hb
  clear hb
  obtain ⟨ec, hec⟩ : ∃ e, e = pvalid ⟨vals, cons⟩ := ⟨_, rfl⟩
  have hcod := pvalid_codes ⟨vals, cons⟩
  rw [← hec] at hcod ⊢
  have HEC := hide hec
  clear hec
  rcases hcod with rfl | rfl | rfl
  rotate_left
  · rw [errV2]
    go_wp2
    go_ret2
    exact ⟨Or.inl ⟨by rw [← unhide HEC]; decide, by rw [← unhide HEC]; rfl⟩, below_keep (unhide HB) (unhide HK)⟩
  · rw [errV4]
    go_wp2
    go_ret2
    exact ⟨Or.inl ⟨by rw [← unhide HEC]; decide, by rw [← unhide HEC]; rfl⟩, below_keep (unhide HB) (unhide HK)⟩
  rw [errV0]
  by_cases hxv : nx = nv
  rotate_left
  · have hne : ((nx : Int) != (nv : Int)) = true := by simp; omega
    have e3 := ((unhide HS).later (unhide HB)).h3
    have HXV := hide hxv
    clear hxv
    go_upto_region 5 with fail
    go_quiet (fail)
    go_wp2
    go_ret2
    refine ⟨Or.inr (Or.inl ⟨(unhide HEC).symm, ?_, rfl⟩), below_drewN (below_keep (unhide HB) (unhide HK)) _⟩
    show x.length ≠ vals.length
    have := unhide HN
    have := unhide HXV
    omega
  subst hxv
  have HPO := hide (pzOk (unhide HEC).symm)
  go_wp2_with fail
  go_loopg [7, 8, 23] nx (fun gk _ _ iv wr => ∃ i : Nat, i ≤ nx ∧ gk = nx - i ∧ iv = .int .i64 (i : Int) ∧ wr = W1 ∧ Hid (∀ (j : Nat) (y : Int) (l : List Int), j < i → x[j]? = some y → vals[j]? = some l → y ∈ l))
  case atStart => exact ⟨0, by omega, by omega, rfl, rfl, hide (fun j y l hj => absurd hj (Nat.not_lt_zero _))⟩
  case round =>
    obtain ⟨i, hi, hgk, rfl, rfl, HA⟩ := hrel
    by_cases hin : i < nx
    · obtain ⟨y, hy⟩ : ∃ y, x[i]? = some y := ⟨x[i]'(by have := unhide HN; omega), by simp⟩
      obtain ⟨l, hl⟩ : ∃ y, vals[i]? = some y := ⟨vals[i]'(by have := unhide HN; omega), by simp⟩
      obtain ⟨b, o, rfl, c0, _⟩ := (unhide HX).int hy
      obtain ⟨b', o', ra, rc, rfl, d0, hr⟩ := (unhide HM).v.row hl
      have c0 := cell_keep (unhide HB) c0
      have d0 := cell_keep (unhide HB) d0
      have HR := hide (hr.later (JE.stays IsSl 0) (unhide HB))
      have hin' : (i : Int) < (nx : Int) := by omega
      have HY := hide (And.intro hy hl)
      clear hy hl hr
      go_wp2_with fail
      go_fit (con_any (x := y) _ (unhide HR))
      rintro e W2 ⟨rfl, rfl⟩
      by_cases hm : y ∈ l
      · have hd : decide (y ∈ l) = true := decide_eq_true hm
        have HMM := hide hm
        clear hm
        rw [hd]
        go_wp2
        go_roundg (nx - (i + 1))
        case measure => omega
        case rel =>
          refine ⟨i + 1, by omega, rfl, by go_num, rfl, hide fun j y' l' hj h1 h2 => ?_⟩
          rcases (by omega : j < i ∨ j = i) with hj' | rfl
          · exact unhide HA j y' l' hj' h1 h2
          · obtain rfl : y = y' := Option.some.inj ((unhide HY).1.symm.trans h1)
            obtain rfl : l = l' := Option.some.inj ((unhide HY).2.symm.trans h2)
            exact unhide HMM
      · have hd : decide (y ∈ l) = false := decide_eq_false hm
        have HMM := hide hm
        clear hm
        rw [hd]
        go_wp2
        go_ret2
        refine ⟨Or.inr (Or.inr ⟨(unhide HEC).symm, ?_, _, rfl, Or.inr ⟨rfl, fun hk => unhide HMM (hk.1 i y l (unhide HY).1 (unhide HY).2)⟩⟩), below_keep (unhide HB) (unhide HK)⟩
        show x.length = vals.length
        have := unhide HN
        omega
    · obtain rfl : nx = i := by omega
      have hxl : x.length = vals.length := by have := unhide HN; omega
      have ha : ∀ (j : Nat) (y : Int) (l : List Int), x[j]? = some y → vals[j]? = some l → y ∈ l := fun j y l h1 h2 => unhide HA j y l (by have := (List.getElem?_eq_some_iff.1 h1).1; have := unhide HN; omega) h1 h2
      have hcs : ∀ c ∈ cons, ConOk x.length c ∧ FewC c ∧ ∀ y ∈ pickL x c.vars, Ok8 y := fun c hc => ⟨by rw [hxl]; exact (unhide HPO).c c hc, (unhide HF).c c hc, pick_ok (unhide HPO) hc hxl ha⟩
      have HCS := hide (And.intro hcs (And.intro ha hxl))
      clear hin hi hgk hxl ha hcs HA
      obtain ⟨X, rfl⟩ : ∃ X, X = wr := ⟨_, rfl⟩
      go_wp2_with fail
      go_fit (rules_any _ (unhide HPV _ (unhide HB)) (fun c hc => ((unhide HCS).1 c hc).1.f) (unhide HF).m)
      rintro e W2 ⟨⟨B, us, rfl, hul, hh, hrl⟩, hb⟩
      have HRR := hide (rows_rules (n := nc) hb hul (unhide HN).2.1.symm (by omega) hh hrl (unhide HCS).1)
      have x0 := cell_keep hb x0
      have HX := hide ((unhide HX).later (JE.stays IsSl 0) (below_keep hb (unhide HB)))
      have HB := hide (below_keep hb (unhide HB))
      have HLC := hide (unhide HN).2.1
      simp only
      rw [← unhide HLC]
      clear hul hh hrl hb
      go_wp2_with fail
      go_fit (hasU_any _ eg_ask (lastU x) (unhide HRR) (pred_rule _ x0 (unhide HX)))
      rintro e W3 ⟨rfl, hb⟩
      have HB := hide (below_keep hb (unhide HB))
      clear hb
      obtain ⟨bb, hbb⟩ : ∃ b, b = cons.any (badC x) := ⟨_, rfl⟩
      rw [← hbb]
      have HBB := hide hbb
      clear hbb
      go_wp2
      go_ret2
      refine ⟨Or.inr (Or.inr ⟨(unhide HEC).symm, (unhide HCS).2.2, _, rfl, ?_⟩), below_keep (unhide HB) (unhide HK)⟩
      have hk := all_kept (x := x) (cs := cons)
      rw [← unhide HBB] at hk
      cases bb
      · exact Or.inl ⟨rfl, (unhide HCS).2.1, hk.1 rfl⟩
      · exact Or.inr ⟨rfl, fun h => by have := hk.2 h.2; cases this⟩
end Go.Proofs.YthoppmbmmplkiaaGreatDoor
