/-
  Walks over package ratio: Sub, Quo.
-/
import Derived.Test.YtmhebjeefdanmaaGreatDoorMQF
import Derived.Test.YtmhebjeefdanmaaGreatDoorMQ20
namespace Go.Proofs.YtmhebjeefdanmaaGreatDoor
open Go.RowKit

theorem outW10 {w w1 : World} {x y x' y' : Int} {a b a' b' : Option Addr} {n c m k n' c' m' k' : Nat} (h : Below w.heap.size w w1 ∧ RBox w1 (w.heap.size + 2) ∧ w1.cell? ⟨w.heap.size, 0, none⟩ = some (.int .i64 x) ∧ w1.cell? ⟨w.heap.size, 1, none⟩ = some (.slice a n c) ∧ w1.cell? ⟨w.heap.size, 2, none⟩ = some (.int .i64 y) ∧ w1.cell? ⟨w.heap.size, 3, none⟩ = some (.slice b m k) ∧ w1.cell? ⟨w.heap.size + 1, 0, none⟩ = some (.int .i64 x') ∧ w1.cell? ⟨w.heap.size + 1, 1, none⟩ = some (.slice a' n' c') ∧ w1.cell? ⟨w.heap.size + 1, 2, none⟩ = some (.int .i64 y') ∧ w1.cell? ⟨w.heap.size + 1, 3, none⟩ = some (.slice b' m' k'))  (u0 : Int) (u1 : Option Addr) (u2 u3 : Nat) (u4 : Int) (u5 : Option Addr) (u6 u7 : Nat) : Below w.heap.size w ((((w1.setCell ⟨w.heap.size + 2, 0, none⟩ (.int .i64 u0)).setCell ⟨w.heap.size + 2, 1, none⟩ (.slice u1 u2 u3)).setCell ⟨w.heap.size + 2, 2, none⟩ (.int .i64 u4)).setCell ⟨w.heap.size + 2, 3, none⟩ (.slice u5 u6 u7)) ∧ RBox ((((w1.setCell ⟨w.heap.size + 2, 0, none⟩ (.int .i64 u0)).setCell ⟨w.heap.size + 2, 1, none⟩ (.slice u1 u2 u3)).setCell ⟨w.heap.size + 2, 2, none⟩ (.int .i64 u4)).setCell ⟨w.heap.size + 2, 3, none⟩ (.slice u5 u6 u7)) (w.heap.size + 2) ∧ ((((w1.setCell ⟨w.heap.size + 2, 0, none⟩ (.int .i64 u0)).setCell ⟨w.heap.size + 2, 1, none⟩ (.slice u1 u2 u3)).setCell ⟨w.heap.size + 2, 2, none⟩ (.int .i64 u4)).setCell ⟨w.heap.size + 2, 3, none⟩ (.slice u5 u6 u7)).cell? ⟨w.heap.size, 0, none⟩ = some (.int .i64 x) ∧ ((((w1.setCell ⟨w.heap.size + 2, 0, none⟩ (.int .i64 u0)).setCell ⟨w.heap.size + 2, 1, none⟩ (.slice u1 u2 u3)).setCell ⟨w.heap.size + 2, 2, none⟩ (.int .i64 u4)).setCell ⟨w.heap.size + 2, 3, none⟩ (.slice u5 u6 u7)).cell? ⟨w.heap.size, 1, none⟩ = some (.slice a n c) ∧ ((((w1.setCell ⟨w.heap.size + 2, 0, none⟩ (.int .i64 u0)).setCell ⟨w.heap.size + 2, 1, none⟩ (.slice u1 u2 u3)).setCell ⟨w.heap.size + 2, 2, none⟩ (.int .i64 u4)).setCell ⟨w.heap.size + 2, 3, none⟩ (.slice u5 u6 u7)).cell? ⟨w.heap.size, 2, none⟩ = some (.int .i64 y) ∧ ((((w1.setCell ⟨w.heap.size + 2, 0, none⟩ (.int .i64 u0)).setCell ⟨w.heap.size + 2, 1, none⟩ (.slice u1 u2 u3)).setCell ⟨w.heap.size + 2, 2, none⟩ (.int .i64 u4)).setCell ⟨w.heap.size + 2, 3, none⟩ (.slice u5 u6 u7)).cell? ⟨w.heap.size, 3, none⟩ = some (.slice b m k) ∧ ((((w1.setCell ⟨w.heap.size + 2, 0, none⟩ (.int .i64 u0)).setCell ⟨w.heap.size + 2, 1, none⟩ (.slice u1 u2 u3)).setCell ⟨w.heap.size + 2, 2, none⟩ (.int .i64 u4)).setCell ⟨w.heap.size + 2, 3, none⟩ (.slice u5 u6 u7)).cell? ⟨w.heap.size + 1, 0, none⟩ = some (.int .i64 x') ∧ ((((w1.setCell ⟨w.heap.size + 2, 0, none⟩ (.int .i64 u0)).setCell ⟨w.heap.size + 2, 1, none⟩ (.slice u1 u2 u3)).setCell ⟨w.heap.size + 2, 2, none⟩ (.int .i64 u4)).setCell ⟨w.heap.size + 2, 3, none⟩ (.slice u5 u6 u7)).cell? ⟨w.heap.size + 1, 1, none⟩ = some (.slice a' n' c') ∧ ((((w1.setCell ⟨w.heap.size + 2, 0, none⟩ (.int .i64 u0)).setCell ⟨w.heap.size + 2, 1, none⟩ (.slice u1 u2 u3)).setCell ⟨w.heap.size + 2, 2, none⟩ (.int .i64 u4)).setCell ⟨w.heap.size + 2, 3, none⟩ (.slice u5 u6 u7)).cell? ⟨w.heap.size + 1, 2, none⟩ = some (.int .i64 y') ∧ ((((w1.setCell ⟨w.heap.size + 2, 0, none⟩ (.int .i64 u0)).setCell ⟨w.heap.size + 2, 1, none⟩ (.slice u1 u2 u3)).setCell ⟨w.heap.size + 2, 2, none⟩ (.int .i64 u4)).setCell ⟨w.heap.size + 2, 3, none⟩ (.slice u5 u6 u7)).cell? ⟨w.heap.size + 1, 3, none⟩ = some (.slice b' m' k') := by
  have hc : ∀ b o v, b ≠ w.heap.size + 2 → w1.cell? ⟨b, o, none⟩ = some v → ((((w1.setCell ⟨w.heap.size + 2, 0, none⟩ (.int .i64 u0)).setCell ⟨w.heap.size + 2, 1, none⟩ (.slice u1 u2 u3)).setCell ⟨w.heap.size + 2, 2, none⟩ (.int .i64 u4)).setCell ⟨w.heap.size + 2, 3, none⟩ (.slice u5 u6 u7)).cell? ⟨b, o, none⟩ = some v := fun b o v hb hv => by
    rw [cell?_setCell_ne _ _ _ _ _ _ (by omega), cell?_setCell_ne _ _ _ _ _ _ (by omega), cell?_setCell_ne _ _ _ _ _ _ (by omega), cell?_setCell_ne _ _ _ _ _ _ (by omega)]; exact hv
  exact ⟨below_rstored h.1 (by omega) _ _ _ _, RBox.stored' h.2.1 _ _ _ _ _ _ _ _, hc _ _ _ (by omega) h.2.2.1, hc _ _ _ (by omega) h.2.2.2.1, hc _ _ _ (by omega) h.2.2.2.2.1, hc _ _ _ (by omega) h.2.2.2.2.2.1, hc _ _ _ (by omega) h.2.2.2.2.2.2.1, hc _ _ _ (by omega) h.2.2.2.2.2.2.2.1, hc _ _ _ (by omega) h.2.2.2.2.2.2.2.2.1, hc _ _ _ (by omega) h.2.2.2.2.2.2.2.2.2⟩
set_option maxHeartbeats 4000000 in
set_option maxRecDepth 8000 in
/-- Sub. -/
theorem qsub_any {N : Nat} {v v' : Value} {p d p' d' : Int} (w : World) (h : Rr (N + 1) w v p d) (h' : Rr (N + 1) w v' p' d') (hN : N ≤ 10000) (hT : Tab64 w) :
    Calls Tryz.prog 38 #[v, v'] w fun e w' => (∃ v P D, e = .returned v ∧ Rr (2 * N + 6) w' v P D ∧ P * (d * d') = (p * d' + (-p') * d) * D) ∧ Below w.heap.size w w' := by
  have h0 := h
  have h0' := h'
  obtain ⟨x, a, n, c, y, b, m, k, e, rfl, h2, h3, d0, hg, hd⟩ := h
  obtain ⟨x', a', n', c', y', b', m', k', e', rfl, h2', h3', d0', hg', hd'⟩ := h'
  have hst := W10.start w x y x' y' a b a' b' n c m k n' c' m' k'
  have HT := hide hT
  clear hT hg hg' hd hd'
  go_enter Tryz.func38, Tryz.ntmps38
  go_wp2_with fail
  obtain ⟨W0, hW0⟩ : ∃ W0, W0 = ((w.alloc (.cells #[.int .i64 x, .slice a n c, .int .i64 y, .slice b m k] 52)).alloc (.cells #[.int .i64 x', .slice a' n' c', .int .i64 y', .slice b' m' k'] 52)).alloc (.cells #[.int .i64 0, .slice none 0 0, .int .i64 0, .slice none 0 0] 52) := ⟨_, rfl⟩
  rw [← hW0] at hst ⊢
  clear hW0
  obtain ⟨hB, hr, e0, e1, e2, e3, f0, f1, f2, f3⟩ := hst
  have S0 := hide (show Below w.heap.size w W0.drew ∧ RBox W0.drew (w.heap.size + 2) ∧ W0.drew.cell? ⟨w.heap.size, 0, none⟩ = some (.int .i64 x) ∧ W0.drew.cell? ⟨w.heap.size, 1, none⟩ = some (.slice a n c) ∧ W0.drew.cell? ⟨w.heap.size, 2, none⟩ = some (.int .i64 y) ∧ W0.drew.cell? ⟨w.heap.size, 3, none⟩ = some (.slice b m k) ∧ W0.drew.cell? ⟨w.heap.size + 1, 0, none⟩ = some (.int .i64 x') ∧ W0.drew.cell? ⟨w.heap.size + 1, 1, none⟩ = some (.slice a' n' c') ∧ W0.drew.cell? ⟨w.heap.size + 1, 2, none⟩ = some (.int .i64 y') ∧ W0.drew.cell? ⟨w.heap.size + 1, 3, none⟩ = some (.slice b' m' k') from ⟨hB.drew, hr, e0, e1, e2, e3, f0, f1, f2, f3⟩)
  go_region_held3 (fun w' => Below w.heap.size w w' ∧ RBox w' (w.heap.size + 2) ∧ w'.cell? ⟨w.heap.size, 0, none⟩ = some (.int .i64 x) ∧ w'.cell? ⟨w.heap.size, 1, none⟩ = some (.slice a n c) ∧ w'.cell? ⟨w.heap.size, 2, none⟩ = some (.int .i64 y) ∧ w'.cell? ⟨w.heap.size, 3, none⟩ = some (.slice b m k) ∧ w'.cell? ⟨w.heap.size + 1, 0, none⟩ = some (.int .i64 x') ∧ w'.cell? ⟨w.heap.size + 1, 1, none⟩ = some (.slice a' n' c') ∧ w'.cell? ⟨w.heap.size + 1, 2, none⟩ = some (.int .i64 y') ∧ w'.cell? ⟨w.heap.size + 1, 3, none⟩ = some (.slice b' m' k'))
    (first | with_reducible exact unhide S2 | with_reducible exact unhide S1 | with_reducible exact unhide S0 | with_reducible exact outW10 (unhide S2) _ _ _ _ _ _ _ _)
    (first
      | (go_at_call 40; go_fit (qneg_any (N := N) _ (h0'.later (And.left (by assumption)))); rintro e9 q1 ⟨⟨v1, rfl, hR1⟩, hb1⟩; have HR1 := hide hR1; obtain ⟨i1, i2, i3, i4, i5, i6, i7, i8, rfl⟩ := hR1.shape; have S1 := hide (keepW10 hb1 (unhide S0)); clear hR1 hb1)
      | (go_at_call 37; go_fit (qadd_any (N := N) _ (h0.later (unhide S1).1) (unhide HR1) hN ((unhide HT).later (unhide S1).1)); rintro e9 q2 ⟨⟨v2, P, D, rfl, hR2, hE⟩, hb2⟩; have HE := hide hE; clear hE; obtain ⟨u0, u1, u2, u3, u4, u5, u6, u7, e8, rfl, hP2, hD2, D0, hG2, hE2⟩ := hR2; have HG2 := hide hG2; have HD2 := hide hE2; clear hG2 hE2; have S2 := hide (keepW10 hb2 (unhide S1)); have hbx := (unhide S2).2.1; obtain ⟨⟨j0, g0⟩, ⟨j1, j2, j3, g1⟩, ⟨j4, g2⟩, ⟨j5, j6, j7, g3⟩, gf⟩ := hbx.cells; have hlt := hbx.lt; clear hb2))
  have hB3 := (unhide S2).1
  have hbx := (unhide S2).2.1
  go_wp2
  obtain ⟨st0, st1, st2, st3⟩ := hbx.stored (.int .i64 u0) (.slice u1 u2 u3) (.int .i64 u4) (.slice u5 u6 u7)
  exact bodyPost_ret (v := .agg #[.int .i64 u0, .slice u1 u2 u3, .int .i64 u4, .slice u5 u6 u7]) (by simp [results, Tryz.results38, go_sem, st0, st1, st2, st3]) rfl ⟨⟨_, P, D, rfl, ⟨_, _, _, _, _, _, _, _, e8, rfl, hP2.rstored hbx _ _ _ _, hD2.rstored hbx _ _ _ _, D0, unhide HG2, unhide HD2⟩, unhide HE⟩, below_rstored hB3 (by omega) _ _ _ _⟩

/-- What Quo answers. -/
def QuoP (M : Nat) (p d p' d' : Int) (e : Ending) (w' : World) : Prop :=
  (p' = 0 ∧ e = .returned (.tuple #[.agg #[.int .i64 0, .slice none 0 0, .int .i64 0, .slice none 0 0], .bool false])) ∨
  (p' ≠ 0 ∧ ∃ v P D, e = .returned (.tuple #[v, .bool true]) ∧ Rr M w' v P D ∧ P * (d * p') = p * d' * D)
theorem quo_cross {p d p' d' P1 D1 P D : Int} (h1 : P1 * p' = d' * D1) (h2 : P * (d * D1) = (p * P1) * D) (h0 : 0 < D1) : P * (d * p') = p * d' * D := by
  have e1 : D1 * (P * (d * p')) = P * (d * D1) * p' := by grind
  have e2 : p * P1 * D * p' = p * D * (P1 * p') := by grind
  have e3 : p * D * (d' * D1) = D1 * (p * d' * D) := by grind
  have h : D1 * (P * (d * p')) = D1 * (p * d' * D) := by rw [e1, h2, e2, h1, e3]
  exact Int.eq_of_mul_eq_mul_left (by omega) h

set_option maxHeartbeats 4000000 in
set_option maxRecDepth 8000 in
/-- Quo. -/
theorem qquo_any {N : Nat} {v v' : Value} {p d p' d' : Int} (w : World) (h : Rr (N + 1) w v p d) (h' : Rr (N + 1) w v' p' d') (hN : N ≤ 10000) (hT : Tab64 w) :
    Calls Tryz.prog 55 #[v, v'] w fun e w' => QuoP (4 * N + 10) p d p' d' e w' ∧ Below w.heap.size w w' := by
  have h0 := h
  have h0' := h'
  obtain ⟨x, a, n, c, y, b, m, k, e, rfl, h2, h3, d0, hg, hd⟩ := h
  obtain ⟨x', a', n', c', y', b', m', k', e', rfl, h2', h3', d0', hg', hd'⟩ := h'
  have hst := W10.start w x y x' y' a b a' b' n c m k n' c' m' k'
  have HT := hide hT
  clear hT hg hg' hd hd'
  go_enter Tryz.func55, Tryz.ntmps55
  go_wp2_with fail
  obtain ⟨W0, hW0⟩ : ∃ W0, W0 = ((w.alloc (.cells #[.int .i64 x, .slice a n c, .int .i64 y, .slice b m k] 52)).alloc (.cells #[.int .i64 x', .slice a' n' c', .int .i64 y', .slice b' m' k'] 52)).alloc (.cells #[.int .i64 0, .slice none 0 0, .int .i64 0, .slice none 0 0] 52) := ⟨_, rfl⟩
  rw [← hW0] at hst ⊢
  clear hW0
  obtain ⟨hB, hr, e0, e1, e2, e3, f0, f1, f2, f3⟩ := hst
  go_wp2_with fail
  go_fit (qsign_any _ (h0'.later hB))
  rintro e9 W1 ⟨rfl, hb1⟩
  have hst := W10.keep hb1 ⟨hB, hr, e0, e1, e2, e3, f0, f1, f2, f3⟩
  clear hB hr e0 e1 e2 e3 f0 f1 f2 f3 hb1
  obtain ⟨hB, hr, e0, e1, e2, e3, f0, f1, f2, f3⟩ := hst
  by_cases hp : p' = 0
  · have hs : sgn p' = 0 := sgn_zero hp
    rw [hs]
    obtain ⟨⟨j0, g0⟩, ⟨j1, j2, j3, g1⟩, ⟨j4, g2⟩, ⟨j5, j6, j7, g3⟩, gf⟩ := hr.cells
    have hlt := hr.lt
    go_wp2
    obtain ⟨st0, st1, st2, st3⟩ := hr.stored (.int .i64 0) (.slice none 0 0) (.int .i64 0) (.slice none 0 0)
    exact bodyPost_ret (v := .tuple #[.agg #[.int .i64 0, .slice none 0 0, .int .i64 0, .slice none 0 0], .bool false]) (by simp [results, Tryz.results55, go_sem, st0, st1, st2, st3]) rfl ⟨Or.inl ⟨hp, rfl⟩, below_rstored hB (by omega) _ _ _ _⟩
  · have hs : (sgn p' == 0) = false := by rcases sgn_val p' with ⟨_, h, _⟩ | ⟨h, _⟩ | ⟨_, h, _⟩; rw [h]; rfl; exact absurd h hp; rw [h]; rfl
    have HPZ := hide hp
    clear hp
    go_wp2_with fail
    have S0 := hide (show Below w.heap.size w W1.drew ∧ RBox W1.drew (w.heap.size + 2) ∧ W1.drew.cell? ⟨w.heap.size, 0, none⟩ = some (.int .i64 x) ∧ W1.drew.cell? ⟨w.heap.size, 1, none⟩ = some (.slice a n c) ∧ W1.drew.cell? ⟨w.heap.size, 2, none⟩ = some (.int .i64 y) ∧ W1.drew.cell? ⟨w.heap.size, 3, none⟩ = some (.slice b m k) ∧ W1.drew.cell? ⟨w.heap.size + 1, 0, none⟩ = some (.int .i64 x') ∧ W1.drew.cell? ⟨w.heap.size + 1, 1, none⟩ = some (.slice a' n' c') ∧ W1.drew.cell? ⟨w.heap.size + 1, 2, none⟩ = some (.int .i64 y') ∧ W1.drew.cell? ⟨w.heap.size + 1, 3, none⟩ = some (.slice b' m' k') from ⟨hB.drew, hr, e0, e1, e2, e3, f0, f1, f2, f3⟩)
    go_region_held3 (fun w' => Below w.heap.size w w' ∧ RBox w' (w.heap.size + 2) ∧ w'.cell? ⟨w.heap.size, 0, none⟩ = some (.int .i64 x) ∧ w'.cell? ⟨w.heap.size, 1, none⟩ = some (.slice a n c) ∧ w'.cell? ⟨w.heap.size, 2, none⟩ = some (.int .i64 y) ∧ w'.cell? ⟨w.heap.size, 3, none⟩ = some (.slice b m k) ∧ w'.cell? ⟨w.heap.size + 1, 0, none⟩ = some (.int .i64 x') ∧ w'.cell? ⟨w.heap.size + 1, 1, none⟩ = some (.slice a' n' c') ∧ w'.cell? ⟨w.heap.size + 1, 2, none⟩ = some (.int .i64 y') ∧ w'.cell? ⟨w.heap.size + 1, 3, none⟩ = some (.slice b' m' k'))
      (first | with_reducible exact unhide S2 | with_reducible exact unhide S1 | with_reducible exact unhide S0 | with_reducible exact outW10 (unhide S2) _ _ _ _ _ _ _ _)
      (first
        | (go_at_call 109; go_fit (turned_any (N := N) _ (h0'.later (And.left (by assumption))) (unhide HPZ) (by omega)); rintro e9 q1 ⟨⟨v1, P1, D1, rfl, hR1, hE1⟩, hb1⟩; have HE1 := hide hE1; have HR1 := hide hR1; obtain ⟨i1, i2, i3, i4, i5, i6, i7, i8, rfl⟩ := hR1.shape; have S1 := hide (keepW10 hb1 (unhide S0)); clear hR1 hb1 hE1)
        | (go_at_call 39; go_fit (qmul_any (N := N) _ (h0.later (unhide S1).1) (unhide HR1) hN ((unhide HT).later (unhide S1).1)); rintro e9 q2 ⟨⟨v2, P, D, rfl, hR2, hE⟩, hb2⟩; have HE := hide hE; clear hE; obtain ⟨u0, u1, u2, u3, u4, u5, u6, u7, e8, rfl, hP2, hD2, D0, hG2, hE2⟩ := hR2; have HG2 := hide hG2; have HD2 := hide hE2; clear hG2 hE2; have S2 := hide (keepW10 hb2 (unhide S1)); have hbx := (unhide S2).2.1; obtain ⟨⟨j0, g0⟩, ⟨j1, j2, j3, g1⟩, ⟨j4, g2⟩, ⟨j5, j6, j7, g3⟩, gf⟩ := hbx.cells; have hlt := hbx.lt; clear hb2))
    all_goals
      have hB3 := (unhide S2).1
      have hbx := (unhide S2).2.1
      go_wp2
      obtain ⟨st0, st1, st2, st3⟩ := hbx.stored (.int .i64 u0) (.slice u1 u2 u3) (.int .i64 u4) (.slice u5 u6 u7)
      exact bodyPost_ret (v := .tuple #[.agg #[.int .i64 u0, .slice u1 u2 u3, .int .i64 u4, .slice u5 u6 u7], .bool true]) (by simp [results, Tryz.results55, go_sem, st0, st1, st2, st3]) rfl ⟨Or.inr ⟨unhide HPZ, _, P, D, rfl, ⟨_, _, _, _, _, _, _, _, e8, rfl, hP2.rstored hbx _ _ _ _, hD2.rstored hbx _ _ _ _, D0, unhide HG2, unhide HD2⟩, quo_cross (unhide HE1) (unhide HE) (by obtain ⟨_, _, _, _, _, _, _, _, _, _, _, _, h, _⟩ := unhide HR1; exact h)⟩, below_rstored hB3 (by omega) _ _ _ _⟩
end Go.Proofs.YtmhebjeefdanmaaGreatDoor
