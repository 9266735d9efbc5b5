/-
  Walks over package ratio: Simplest.
-/
import Derived.Test.YtmhebjeefdanmaaGreatDoorMQ21
import Derived.Test.YtmhebjeefdanmaaGreatDoorMF3
namespace Go.Proofs.YtmhebjeefdanmaaGreatDoor
open Go.RowKit

/-- The simplest of all fractions from p/d to p'/d'. -/
def simplest (p d p' d' : Int) : Int × Int := if 0 < p then sq (d + d').toNat p d p' d' else if p' < 0 then (-(sq (d' + d).toNat (-p') d' (-p) d).1, (sq (d' + d).toNat (-p') d' (-p) d).2) else (0, 1)
/-- What Simplest answers. -/
def SimP (M : Nat) (p d p' d' : Int) (e : Ending) (w' : World) : Prop :=
  (p' * d < p * d' ∧ e = .returned (.tuple #[.agg #[.int .i64 0, .slice none 0 0, .int .i64 0, .slice none 0 0], .bool false])) ∨
  (p * d' ≤ p' * d ∧ ∃ v, e = .returned (.tuple #[v, .bool true]) ∧ Rr M w' v (simplest p d p' d').1 (simplest p d p' d').2)

set_option maxHeartbeats 4000000 in
set_option maxRecDepth 8000 in
/-- Simplest. -/
theorem simplest_any {N : Nat} {v v' : Value} {p d p' d' : Int} (w : World) (h : Rr (N + 1) w v p d) (h' : Rr (N + 1) w v' p' d') (hN : N ≤ 10000) :
    Calls Tryz.prog 63 #[v, v'] w fun e w' => SimP (N + 3) p d p' d' e w' ∧ Below w.heap.size w w' := by
  have h0 := h
  have h0' := h'
  obtain ⟨x, a, n, c, y, b, m, k, e, rfl, h2, h3, d0, hg, hd⟩ := h
  obtain ⟨x', a', n', c', y', b', m', k', e', rfl, h2', h3', d0', hg', hd'⟩ := h'
  have hst := W10.start w x y x' y' a b a' b' n c m k n' c' m' k'
  have HD0 := hide (And.intro d0 d0')
  clear hg hg' hd hd' d0 d0'
  go_enter Tryz.func63, Tryz.ntmps63
  go_wp2_with fail
  obtain ⟨W0, hW0⟩ : ∃ W0, W0 = ((w.alloc (.cells #[.int .i64 x, .slice a n c, .int .i64 y, .slice b m k] 52)).alloc (.cells #[.int .i64 x', .slice a' n' c', .int .i64 y', .slice b' m' k'] 52)).alloc (.cells #[.int .i64 0, .slice none 0 0, .int .i64 0, .slice none 0 0] 52) := ⟨_, rfl⟩
  rw [← hW0] at hst ⊢
  clear hW0
  obtain ⟨hB, hr, e0, e1, e2, e3, f0, f1, f2, f3⟩ := hst
  go_wp2_with fail
  go_fit (qcmp_any (N := N) _ (h0.later hB) (h0'.later hB) (by omega))
  rintro e9 W1 ⟨rfl, hb⟩
  have hst := W10.keep hb ⟨hB, hr, e0, e1, e2, e3, f0, f1, f2, f3⟩
  clear hB hr e0 e1 e2 e3 f0 f1 f2 f3 hb
  obtain ⟨hB, hr, e0, e1, e2, e3, f0, f1, f2, f3⟩ := hst
  by_cases hc : 0 < p * d' - p' * d
  · rw [sgn_pos hc]
    obtain ⟨⟨j0, g0⟩, ⟨j1, j2, j3, g1⟩, ⟨j4, g2⟩, ⟨j5, j6, j7, g3⟩, gf⟩ := hr.cells
    have hlt := hr.lt
    go_wp2
    obtain ⟨st0, st1, st2, st3⟩ := hr.stored (.int .i64 0) (.slice none 0 0) (.int .i64 0) (.slice none 0 0)
    exact bodyPost_ret (v := .tuple #[.agg #[.int .i64 0, .slice none 0 0, .int .i64 0, .slice none 0 0], .bool false]) (by simp [results, Tryz.results63, go_sem, st0, st1, st2, st3]) rfl ⟨Or.inl ⟨by omega, rfl⟩, below_rstored hB (by omega) _ _ _ _⟩
  have hsc : ¬ 0 < sgn (p * d' - p' * d) := by rcases sgn_val (p * d' - p' * d) with ⟨_, h, _⟩ | ⟨_, h, _⟩ | ⟨h, _⟩ <;> omega
  have HC := hide hc
  clear hc
  go_wp2_with fail
  go_fit (qsign_any _ (h0.later hB))
  rintro e9 W2 ⟨rfl, hb⟩
  have hst := W10.keep hb ⟨hB, hr, e0, e1, e2, e3, f0, f1, f2, f3⟩
  clear hB hr e0 e1 e2 e3 f0 f1 f2 f3 hb hsc
  obtain ⟨hB, hr, e0, e1, e2, e3, f0, f1, f2, f3⟩ := hst
  by_cases hp : 0 < p
  · rw [sgn_pos hp]
    have HP := hide hp
    clear hp
    go_wp2_with fail
    go_fit (sabove_any (N := N) _ (h0.later hB) (h0'.later hB) (unhide HP) (by have := unhide HC; omega) hN)
    rintro e9 W3 ⟨⟨v3, rfl, hR⟩, hb⟩
    have hR : Rr (N + 3) W3 v3 (simplest p d p' d').1 (simplest p d p' d').2 := by unfold simplest; rw [if_pos (unhide HP)]; exact hR
    obtain ⟨u0, u1, u2, u3, u4, u5, u6, u7, e8, rfl, hP2, hD2, DD0, hG2, hE2⟩ := hR
    have HF := hide (And.intro DD0 (And.intro hG2 hE2))
    have hB := below_keep hb hB
    have hr := hr.later hb
    clear DD0 hG2 hE2 hb e0 e1 e2 e3 f0 f1 f2 f3
    obtain ⟨⟨j0, g0⟩, ⟨j1, j2, j3, g1⟩, ⟨j4, g2⟩, ⟨j5, j6, j7, g3⟩, gf⟩ := hr.cells
    have hlt := hr.lt
    go_wp2
    obtain ⟨st0, st1, st2, st3⟩ := hr.stored (.int .i64 u0) (.slice u1 u2 u3) (.int .i64 u4) (.slice u5 u6 u7)
    exact bodyPost_ret (v := .tuple #[.agg #[.int .i64 u0, .slice u1 u2 u3, .int .i64 u4, .slice u5 u6 u7], .bool true]) (by simp [results, Tryz.results63, go_sem, st0, st1, st2, st3]) rfl ⟨Or.inr ⟨by have := unhide HC; omega, _, rfl, ⟨_, _, _, _, _, _, _, _, e8, rfl, hP2.rstored hr _ _ _ _, hD2.rstored hr _ _ _ _, (unhide HF).1, (unhide HF).2.1, (unhide HF).2.2⟩⟩, below_rstored hB (by omega) _ _ _ _⟩
  have hsp : ¬ 0 < sgn p := by rcases sgn_val p with ⟨_, h, _⟩ | ⟨_, h, _⟩ | ⟨h, _⟩ <;> omega
  have HP := hide hp
  clear hp
  go_wp2_with fail
  go_fit (qsign_any _ (h0'.later hB))
  rintro e9 W3 ⟨rfl, hb⟩
  have hst := W10.keep hb ⟨hB, hr, e0, e1, e2, e3, f0, f1, f2, f3⟩
  clear hB hr e0 e1 e2 e3 f0 f1 f2 f3 hb hsp
  obtain ⟨hB, hr, e0, e1, e2, e3, f0, f1, f2, f3⟩ := hst
  by_cases hq : p' < 0
  · rw [sgn_neg hq]
    have HQ := hide hq
    clear hq
    go_wp2_with fail
    have tok1 : True := trivial
    have tok2 : True := trivial
    have S0 := hide (show Below w.heap.size w W3.drew ∧ RBox W3.drew (w.heap.size + 2) ∧ W3.drew.cell? ⟨w.heap.size, 0, none⟩ = some (.int .i64 x) ∧ W3.drew.cell? ⟨w.heap.size, 1, none⟩ = some (.slice a n c) ∧ W3.drew.cell? ⟨w.heap.size, 2, none⟩ = some (.int .i64 y) ∧ W3.drew.cell? ⟨w.heap.size, 3, none⟩ = some (.slice b m k) ∧ W3.drew.cell? ⟨w.heap.size + 1, 0, none⟩ = some (.int .i64 x') ∧ W3.drew.cell? ⟨w.heap.size + 1, 1, none⟩ = some (.slice a' n' c') ∧ W3.drew.cell? ⟨w.heap.size + 1, 2, none⟩ = some (.int .i64 y') ∧ W3.drew.cell? ⟨w.heap.size + 1, 3, none⟩ = some (.slice b' m' k') from ⟨hB.drew, hr, e0, e1, e2, e3, f0, f1, f2, f3⟩)
    go_region_held3 (fun w' => Below w.heap.size w w' ∧ RBox w' (w.heap.size + 2) ∧ w'.cell? ⟨w.heap.size, 0, none⟩ = some (.int .i64 x) ∧ w'.cell? ⟨w.heap.size, 1, none⟩ = some (.slice a n c) ∧ w'.cell? ⟨w.heap.size, 2, none⟩ = some (.int .i64 y) ∧ w'.cell? ⟨w.heap.size, 3, none⟩ = some (.slice b m k) ∧ w'.cell? ⟨w.heap.size + 1, 0, none⟩ = some (.int .i64 x') ∧ w'.cell? ⟨w.heap.size + 1, 1, none⟩ = some (.slice a' n' c') ∧ w'.cell? ⟨w.heap.size + 1, 2, none⟩ = some (.int .i64 y') ∧ w'.cell? ⟨w.heap.size + 1, 3, none⟩ = some (.slice b' m' k'))
      (first | with_reducible exact unhide S4 | with_reducible exact unhide S3 | with_reducible exact unhide S2 | with_reducible exact unhide S1 | with_reducible exact unhide S0 | with_reducible exact outW10 (unhide S4) _ _ _ _ _ _ _ _)
      (first
        | (go_at_call 40; have _t := tok1; go_fit (qneg_any (N := N) _ (h0'.later (unhide S0).1)); rintro e9 q1 ⟨⟨v1, rfl, hR1⟩, hb⟩; clear tok1; obtain ⟨i1, i2, i3, i4, i5, i6, i7, i8, rfl⟩ := hR1.shape; have S1 := hide (keepW10 hb (unhide S0)); clear hb)
        | (go_at_call 40; have _t := tok2; go_fit (qneg_any (N := N) _ (h0.later (unhide S1).1)); rintro e9 q2 ⟨⟨v2, rfl, hR2⟩, hb⟩; clear tok2; obtain ⟨k1, k2, k3, k4, k5, k6, k7, k8, rfl⟩ := hR2.shape; have S2 := hide (keepW10 hb (unhide S1)); have hR1 := hR1.later hb; clear hb)
        | (go_at_call 113; go_fit (sabove_any (N := N) _ hR1 hR2 (by have := unhide HQ; omega) (by rw [Int.neg_mul, Int.neg_mul]; have := unhide HC; omega) hN); rintro e9 q3 ⟨⟨v3, rfl, hR3⟩, hb⟩; obtain ⟨l1, l2, l3, l4, l5, l6, l7, l8, rfl⟩ := hR3.shape; have S3 := hide (keepW10 hb (unhide S2)); clear hb hR1 hR2)
        | (go_at_call 40; go_fit (qneg_any (N := N + 2) _ hR3); rintro e9 q4 ⟨⟨v4, rfl, hR4⟩, hb⟩; have hR4 : Rr (N + 3) q4 v4 (simplest p d p' d').1 (simplest p d p' d').2 := (by unfold simplest; rw [if_neg (show ¬ 0 < p by have := unhide HP; omega), if_pos (unhide HQ)]; exact hR4); obtain ⟨u0, u1, u2, u3, u4, u5, u6, u7, e8, rfl, hP2, hD2, DD0, hG2, hE2⟩ := hR4; have HF := hide (And.intro DD0 (And.intro hG2 hE2)); have S4 := hide (keepW10 hb (unhide S3)); have hbx := (unhide S4).2.1; obtain ⟨⟨j0, g0⟩, ⟨j1, j2, j3, g1⟩, ⟨j4, g2⟩, ⟨j5, j6, j7, g3⟩, gf⟩ := hbx.cells; have hlt := hbx.lt; clear hb hR3 DD0 hG2 hE2))
    all_goals
      have hB3 := (unhide S4).1
      have hbx := (unhide S4).2.1
      go_wp2
      obtain ⟨st0, st1, st2, st3⟩ := hbx.stored (.int .i64 u0) (.slice u1 u2 u3) (.int .i64 u4) (.slice u5 u6 u7)
      exact bodyPost_ret (v := .tuple #[.agg #[.int .i64 u0, .slice u1 u2 u3, .int .i64 u4, .slice u5 u6 u7], .bool true]) (by simp [results, Tryz.results63, go_sem, st0, st1, st2, st3]) rfl ⟨Or.inr ⟨by have := unhide HC; omega, _, rfl, ⟨_, _, _, _, _, _, _, _, e8, rfl, hP2.rstored hbx _ _ _ _, hD2.rstored hbx _ _ _ _, (unhide HF).1, (unhide HF).2.1, (unhide HF).2.2⟩⟩, below_rstored hB3 (by omega) _ _ _ _⟩
  · have hsq : ¬ sgn p' < 0 := by rcases sgn_val p' with ⟨h, _⟩ | ⟨_, h, _⟩ | ⟨_, h, _⟩ <;> omega
    have hz : simplest p d p' d' = (0, 1) := by unfold simplest; rw [if_neg (show ¬ 0 < p by have := unhide HP; omega), if_neg (show ¬ p' < 0 by omega)]
    have HZ := hide hz
    have HQ := hide hq
    clear hz hq
    obtain ⟨⟨j0, g0⟩, ⟨j1, j2, j3, g1⟩, ⟨j4, g2⟩, ⟨j5, j6, j7, g3⟩, gf⟩ := hr.cells
    have hlt := hr.lt
    go_wp2
    obtain ⟨st0, st1, st2, st3⟩ := hr.stored (.int .i64 0) (.slice none 0 0) (.int .i64 0) (.slice none 0 0)
    exact bodyPost_ret (v := .tuple #[.agg #[.int .i64 0, .slice none 0 0, .int .i64 0, .slice none 0 0], .bool true]) (by simp [results, Tryz.results63, go_sem, st0, st1, st2, st3]) rfl ⟨Or.inr ⟨by have := unhide HC; omega, _, rfl, by rw [unhide HZ]; exact ⟨0, none, 0, 0, 0, none, 0, 0, 0, rfl, Zr.near _ (by decide) (by decide), Zr.near _ (by decide) (by decide), by decide, by decide, Or.inl ⟨rfl, rfl⟩⟩⟩, below_rstored hB (by omega) _ _ _ _⟩
end Go.Proofs.YtmhebjeefdanmaaGreatDoor
