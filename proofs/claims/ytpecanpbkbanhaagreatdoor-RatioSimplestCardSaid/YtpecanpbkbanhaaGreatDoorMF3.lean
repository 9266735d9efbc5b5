/-
  Walks over package ratio: simplestAbove.
  Walks over package ratio: Simplest.
-/
import Derived.Test.YtpecanpbkbanhaaGreatDoorMDA
import Derived.Test.YtpecanpbkbanhaaGreatDoorMQE
import Derived.Test.YtpecanpbkbanhaaGreatDoorMQG
import Derived.Test.YtpecanpbkbanhaaGreatDoorMFA
namespace Go.Proofs.YtpecanpbkbanhaaGreatDoor
open Go.RowKit
theorem c8_new {w : World} (v0 v1 v2 v3 v4 v5 v6 v7 : Value) (t : TypeId) : let w1 := w.alloc (.cells #[v0, v1, v2, v3, v4, v5, v6, v7] t); w1.cell? ⟨w.heap.size, 0, none⟩ = some v0 ∧ w1.cell? ⟨w.heap.size, 1, none⟩ = some v1 ∧ w1.cell? ⟨w.heap.size, 2, none⟩ = some v2 ∧ w1.cell? ⟨w.heap.size, 3, none⟩ = some v3 ∧ w1.cell? ⟨w.heap.size, 4, none⟩ = some v4 ∧ w1.cell? ⟨w.heap.size, 5, none⟩ = some v5 ∧ w1.cell? ⟨w.heap.size, 6, none⟩ = some v6 ∧ w1.cell? ⟨w.heap.size, 7, none⟩ = some v7 := by
  intro w1
  refine ⟨?_, ?_, ?_, ?_, ?_, ?_, ?_, ?_⟩ <;> (show (World.alloc _ _).cell? _ = _; rw [new_cell rfl]; rfl)
theorem keepKD {w w1 w2 : World} {bc bq : Nat} {n0 m0 k0 l0 q0 : Int} {n1 m1 k1 l1 q1 : Option Addr} {n2 n3 m2 m3 k2 k3 l2 l3 q2 q3 : Nat} (hb : Below w1.heap.size w1 w2) (h : Below w.heap.size w w1 ∧ RBox w1 (w.heap.size + 2) ∧ w1.cell? ⟨bc, 0, none⟩ = some (.int .i64 n0) ∧ w1.cell? ⟨bc, 1, none⟩ = some (.slice n1 n2 n3) ∧ w1.cell? ⟨bc, 2, none⟩ = some (.int .i64 m0) ∧ w1.cell? ⟨bc, 3, none⟩ = some (.slice m1 m2 m3) ∧ w1.cell? ⟨bc, 4, none⟩ = some (.int .i64 k0) ∧ w1.cell? ⟨bc, 5, none⟩ = some (.slice k1 k2 k3) ∧ w1.cell? ⟨bc, 6, none⟩ = some (.int .i64 l0) ∧ w1.cell? ⟨bc, 7, none⟩ = some (.slice l1 l2 l3) ∧ w1.cell? ⟨bq, 0, none⟩ = some (.int .i64 q0) ∧ w1.cell? ⟨bq, 1, none⟩ = some (.slice q1 q2 q3)) : Below w.heap.size w w2 ∧ RBox w2 (w.heap.size + 2) ∧ w2.cell? ⟨bc, 0, none⟩ = some (.int .i64 n0) ∧ w2.cell? ⟨bc, 1, none⟩ = some (.slice n1 n2 n3) ∧ w2.cell? ⟨bc, 2, none⟩ = some (.int .i64 m0) ∧ w2.cell? ⟨bc, 3, none⟩ = some (.slice m1 m2 m3) ∧ w2.cell? ⟨bc, 4, none⟩ = some (.int .i64 k0) ∧ w2.cell? ⟨bc, 5, none⟩ = some (.slice k1 k2 k3) ∧ w2.cell? ⟨bc, 6, none⟩ = some (.int .i64 l0) ∧ w2.cell? ⟨bc, 7, none⟩ = some (.slice l1 l2 l3) ∧ w2.cell? ⟨bq, 0, none⟩ = some (.int .i64 q0) ∧ w2.cell? ⟨bq, 1, none⟩ = some (.slice q1 q2 q3) :=
  ⟨below_keep hb h.1, RBox.later h.2.1 hb, cell_keep hb h.2.2.1, cell_keep hb h.2.2.2.1, cell_keep hb h.2.2.2.2.1, cell_keep hb h.2.2.2.2.2.1, cell_keep hb h.2.2.2.2.2.2.1, cell_keep hb h.2.2.2.2.2.2.2.1, cell_keep hb h.2.2.2.2.2.2.2.2.1, cell_keep hb h.2.2.2.2.2.2.2.2.2.1, cell_keep hb h.2.2.2.2.2.2.2.2.2.2.1, cell_keep hb h.2.2.2.2.2.2.2.2.2.2.2⟩
theorem outKD {w w1 : World} {bc bq : Nat} {n0 m0 k0 l0 q0 : Int} {n1 m1 k1 l1 q1 : Option Addr} {n2 n3 m2 m3 k2 k3 l2 l3 q2 q3 : Nat} (h : Below w.heap.size w w1 ∧ RBox w1 (w.heap.size + 2) ∧ w1.cell? ⟨bc, 0, none⟩ = some (.int .i64 n0) ∧ w1.cell? ⟨bc, 1, none⟩ = some (.slice n1 n2 n3) ∧ w1.cell? ⟨bc, 2, none⟩ = some (.int .i64 m0) ∧ w1.cell? ⟨bc, 3, none⟩ = some (.slice m1 m2 m3) ∧ w1.cell? ⟨bc, 4, none⟩ = some (.int .i64 k0) ∧ w1.cell? ⟨bc, 5, none⟩ = some (.slice k1 k2 k3) ∧ w1.cell? ⟨bc, 6, none⟩ = some (.int .i64 l0) ∧ w1.cell? ⟨bc, 7, none⟩ = some (.slice l1 l2 l3) ∧ w1.cell? ⟨bq, 0, none⟩ = some (.int .i64 q0) ∧ w1.cell? ⟨bq, 1, none⟩ = some (.slice q1 q2 q3)) (hl : w.heap.size + 2 < bc) (hr : w.heap.size + 2 < bq) (u0 : Int) (u1 : Option Addr) (u2 u3 : Nat) (u4 : Int) (u5 : Option Addr) (u6 u7 : Nat) : Below w.heap.size w ((((w1.setCell ⟨w.heap.size + 2, 0, none⟩ (.int .i64 u0)).setCell ⟨w.heap.size + 2, 1, none⟩ (.slice u1 u2 u3)).setCell ⟨w.heap.size + 2, 2, none⟩ (.int .i64 u4)).setCell ⟨w.heap.size + 2, 3, none⟩ (.slice u5 u6 u7)) ∧ RBox ((((w1.setCell ⟨w.heap.size + 2, 0, none⟩ (.int .i64 u0)).setCell ⟨w.heap.size + 2, 1, none⟩ (.slice u1 u2 u3)).setCell ⟨w.heap.size + 2, 2, none⟩ (.int .i64 u4)).setCell ⟨w.heap.size + 2, 3, none⟩ (.slice u5 u6 u7)) (w.heap.size + 2) ∧ ((((w1.setCell ⟨w.heap.size + 2, 0, none⟩ (.int .i64 u0)).setCell ⟨w.heap.size + 2, 1, none⟩ (.slice u1 u2 u3)).setCell ⟨w.heap.size + 2, 2, none⟩ (.int .i64 u4)).setCell ⟨w.heap.size + 2, 3, none⟩ (.slice u5 u6 u7)).cell? ⟨bc, 0, none⟩ = some (.int .i64 n0) ∧ ((((w1.setCell ⟨w.heap.size + 2, 0, none⟩ (.int .i64 u0)).setCell ⟨w.heap.size + 2, 1, none⟩ (.slice u1 u2 u3)).setCell ⟨w.heap.size + 2, 2, none⟩ (.int .i64 u4)).setCell ⟨w.heap.size + 2, 3, none⟩ (.slice u5 u6 u7)).cell? ⟨bc, 1, none⟩ = some (.slice n1 n2 n3) ∧ ((((w1.setCell ⟨w.heap.size + 2, 0, none⟩ (.int .i64 u0)).setCell ⟨w.heap.size + 2, 1, none⟩ (.slice u1 u2 u3)).setCell ⟨w.heap.size + 2, 2, none⟩ (.int .i64 u4)).setCell ⟨w.heap.size + 2, 3, none⟩ (.slice u5 u6 u7)).cell? ⟨bc, 2, none⟩ = some (.int .i64 m0) ∧ ((((w1.setCell ⟨w.heap.size + 2, 0, none⟩ (.int .i64 u0)).setCell ⟨w.heap.size + 2, 1, none⟩ (.slice u1 u2 u3)).setCell ⟨w.heap.size + 2, 2, none⟩ (.int .i64 u4)).setCell ⟨w.heap.size + 2, 3, none⟩ (.slice u5 u6 u7)).cell? ⟨bc, 3, none⟩ = some (.slice m1 m2 m3) ∧ ((((w1.setCell ⟨w.heap.size + 2, 0, none⟩ (.int .i64 u0)).setCell ⟨w.heap.size + 2, 1, none⟩ (.slice u1 u2 u3)).setCell ⟨w.heap.size + 2, 2, none⟩ (.int .i64 u4)).setCell ⟨w.heap.size + 2, 3, none⟩ (.slice u5 u6 u7)).cell? ⟨bc, 4, none⟩ = some (.int .i64 k0) ∧ ((((w1.setCell ⟨w.heap.size + 2, 0, none⟩ (.int .i64 u0)).setCell ⟨w.heap.size + 2, 1, none⟩ (.slice u1 u2 u3)).setCell ⟨w.heap.size + 2, 2, none⟩ (.int .i64 u4)).setCell ⟨w.heap.size + 2, 3, none⟩ (.slice u5 u6 u7)).cell? ⟨bc, 5, none⟩ = some (.slice k1 k2 k3) ∧ ((((w1.setCell ⟨w.heap.size + 2, 0, none⟩ (.int .i64 u0)).setCell ⟨w.heap.size + 2, 1, none⟩ (.slice u1 u2 u3)).setCell ⟨w.heap.size + 2, 2, none⟩ (.int .i64 u4)).setCell ⟨w.heap.size + 2, 3, none⟩ (.slice u5 u6 u7)).cell? ⟨bc, 6, none⟩ = some (.int .i64 l0) ∧ ((((w1.setCell ⟨w.heap.size + 2, 0, none⟩ (.int .i64 u0)).setCell ⟨w.heap.size + 2, 1, none⟩ (.slice u1 u2 u3)).setCell ⟨w.heap.size + 2, 2, none⟩ (.int .i64 u4)).setCell ⟨w.heap.size + 2, 3, none⟩ (.slice u5 u6 u7)).cell? ⟨bc, 7, none⟩ = some (.slice l1 l2 l3) ∧ ((((w1.setCell ⟨w.heap.size + 2, 0, none⟩ (.int .i64 u0)).setCell ⟨w.heap.size + 2, 1, none⟩ (.slice u1 u2 u3)).setCell ⟨w.heap.size + 2, 2, none⟩ (.int .i64 u4)).setCell ⟨w.heap.size + 2, 3, none⟩ (.slice u5 u6 u7)).cell? ⟨bq, 0, none⟩ = some (.int .i64 q0) ∧ ((((w1.setCell ⟨w.heap.size + 2, 0, none⟩ (.int .i64 u0)).setCell ⟨w.heap.size + 2, 1, none⟩ (.slice u1 u2 u3)).setCell ⟨w.heap.size + 2, 2, none⟩ (.int .i64 u4)).setCell ⟨w.heap.size + 2, 3, none⟩ (.slice u5 u6 u7)).cell? ⟨bq, 1, none⟩ = some (.slice q1 q2 q3) := by
  have hc : ∀ b o v, b ≠ w.heap.size + 2 → w1.cell? ⟨b, o, none⟩ = some v → ((((w1.setCell ⟨w.heap.size + 2, 0, none⟩ (.int .i64 u0)).setCell ⟨w.heap.size + 2, 1, none⟩ (.slice u1 u2 u3)).setCell ⟨w.heap.size + 2, 2, none⟩ (.int .i64 u4)).setCell ⟨w.heap.size + 2, 3, none⟩ (.slice u5 u6 u7)).cell? ⟨b, o, none⟩ = some v := fun b o v hb hv => by
    rw [cell?_setCell_ne _ _ _ _ _ _ (by omega), cell?_setCell_ne _ _ _ _ _ _ (by omega), cell?_setCell_ne _ _ _ _ _ _ (by omega), cell?_setCell_ne _ _ _ _ _ _ (by omega)]; exact hv
  exact ⟨below_rstored h.1 (by omega) _ _ _ _, RBox.stored' h.2.1 _ _ _ _ _ _ _ _, hc _ _ _ (by omega) h.2.2.1, hc _ _ _ (by omega) h.2.2.2.1, hc _ _ _ (by omega) h.2.2.2.2.1, hc _ _ _ (by omega) h.2.2.2.2.2.1, hc _ _ _ (by omega) h.2.2.2.2.2.2.1, hc _ _ _ (by omega) h.2.2.2.2.2.2.2.1, hc _ _ _ (by omega) h.2.2.2.2.2.2.2.2.1, hc _ _ _ (by omega) h.2.2.2.2.2.2.2.2.2.1, hc _ _ _ (by omega) h.2.2.2.2.2.2.2.2.2.2.1, hc _ _ _ (by omega) h.2.2.2.2.2.2.2.2.2.2.2⟩
theorem Cr.mono {N M : Nat} {w : World} {v : Value} {n m k l : Int} (h : Cr N w v n m k l) (hM : N ≤ M) : Cr M w v n m k l := by
  obtain ⟨n0, n1, n2, n3, m0, m1, m2, m3, k0, k1, k2, k3, l0, l1, l2, l3, e, h1, h2, h3, h4⟩ := h
  exact ⟨n0, n1, n2, n3, m0, m1, m2, m3, k0, k1, k2, k3, l0, l1, l2, l3, e, h1.mono hM, h2.mono hM, h3.mono hM, h4.mono hM⟩
/-- The numbers of the loop. -/
def LoopM (F : Nat) (p d p' d' n m k l A B C D : Int) : Prop := Chn p d p' d' n m k l A B C D ∧ 0 < A ∧ 0 < B ∧ 0 < D ∧ A * D ≤ C * B ∧ ∃ f : Nat, B + D ≤ f ∧ n * (sq f A B C D).1 + k * (sq f A B C D).2 = (sq F p d p' d').1 ∧ m * (sq f A B C D).1 + l * (sq f A B C D).2 = (sq F p d p' d').2
theorem chn_low {F N : Nat} {p d p' d' n m k l A B C D : Int} (h : LoopM F p d p' d' n m k l A B C D) : -pw (N + 1) < A / B := by
  have h1 := Int.ediv_nonneg (Int.le_of_lt h.2.1) (Int.le_of_lt h.2.2.1)
  have h2 := pw_pos (N + 1)
  omega
theorem chn_top {F N : Nat} {p d p' d' n m k l A B C D : Int} (h : LoopM F p d p' d' n m k l A B C D) (hA : A < pw (N + 1)) : A / B < pw (N + 1) := by
  have h1 : A / B ≤ A := Int.ediv_le_self _ (Int.le_of_lt h.2.1)
  omega
theorem chn_last {F N : Nat} {p d p' d' n m k l A B C D z : Int} (h : LoopM F p d p' d' n m k l A B C D) (hz : (A % B = 0 ∧ z = A / B) ∨ (A % B ≠ 0 ∧ A / B < C / D ∧ z = A / B + 1)) (h1 : p < pw (N + 1)) (h2 : d < pw (N + 1)) (h3 : p' < pw (N + 1)) (h4 : d' < pw (N + 1)) :
    (-pw (N + 2 + 1) < z * n + k ∧ z * n + k < pw (N + 2 + 1) ∧ -pw (N + 2 + 1) < z * m + l ∧ z * m + l < pw (N + 2 + 1)) ∧ z * n + k = (sq F p d p' d').1 ∧ z * m + l = (sq F p d p' d').2 := by
  obtain ⟨hc, A0, B0, D0, hle, f, hf, e1, e2⟩ := h
  obtain ⟨s1, s2, s3, s4, s5, s6⟩ := hc.small (M := pw (N + 1)) A0 B0 (by omega) (by omega) (by omega) (by omega)
  have q0 := Int.ediv_nonneg (Int.le_of_lt A0) (Int.le_of_lt B0)
  have t1 := Int.mul_nonneg hc.n0 q0
  have t2 := Int.mul_nonneg hc.m0 q0
  have t3 := hc.ln0
  have t4 := hc.lm0
  have t5 := hc.n0
  have t6 := hc.m0
  have w1 := pw_pos (N + 1)
  have w2 : pw (N + 2 + 1) = 18446744073709551616 * (18446744073709551616 * pw (N + 1)) := rfl
  obtain ⟨f, rfl⟩ : ∃ g, f = g + 1 := ⟨f - 1, by omega⟩
  rcases hz with ⟨hz, rfl⟩ | ⟨hz, hu, rfl⟩
  · rw [sq_whole hz] at e1 e2
    rw [Int.mul_comm (A / B) n, Int.mul_comm (A / B) m]
    simp only [Int.mul_one] at e1 e2
    exact ⟨⟨by omega, by omega, by omega, by omega⟩, e1, e2⟩
  · rw [sq_up hz hu] at e1 e2
    rw [Int.mul_comm (A / B + 1) n, Int.mul_comm (A / B + 1) m]
    simp only [Int.mul_one] at e1 e2
    have r1 : n * (A / B + 1) = n * (A / B) + n := by rw [Int.mul_add, Int.mul_one]
    have r2 : m * (A / B + 1) = m * (A / B) + m := by rw [Int.mul_add, Int.mul_one]
    exact ⟨⟨by omega, by omega, by omega, by omega⟩, e1, e2⟩
theorem chn_r7 {n k z P Q : Int} : (z * n + k) * P + n * Q = n * (z * P + Q) + k * P := by grind
theorem chn_next {F N : Nat} {p d p' d' n m k l A B C D : Int} (h : LoopM F p d p' d' n m k l A B C D) (hz : A % B ≠ 0) (hu : ¬ A / B < C / D) (h1 : p < pw (N + 1)) (h2 : d < pw (N + 1)) (h3 : p' < pw (N + 1)) (h4 : d' < pw (N + 1)) :
    (-pw (N + 1) < A / B * n + k ∧ A / B * n + k < pw (N + 1) ∧ -pw (N + 1) < A / B * m + l ∧ A / B * m + l < pw (N + 1)) ∧ LoopM F p d p' d' (A / B * n + k) (A / B * m + l) n m D (C % D) B (A % B) ∧ (C % D + A % B).toNat < (B + D).toNat := by
  obtain ⟨hc, A0, B0, D0, hle, f, hf, e1, e2⟩ := h
  obtain ⟨hk, r0, r1, q0, q1, hx⟩ := sq_next B0 D0 hle hz hu
  have hs := hc.step (Int.ediv_nonneg (Int.le_of_lt A0) (Int.le_of_lt B0)) hk
  obtain ⟨s1, s2, _, _, _, _⟩ := hs.small (M := pw (N + 1) - 1) D0 q0 (by omega) (by omega) (by omega) (by omega)
  have t1 := hs.n0
  have t2 := hs.m0
  have w1 := pw_pos (N + 1)
  obtain ⟨f, rfl⟩ : ∃ g, f = g + 1 := ⟨f - 1, by omega⟩
  rw [sq_step hz hu] at e1 e2
  refine ⟨⟨by omega, by omega, by omega, by omega⟩, ⟨hs, D0, q0, r0, hx, f, by omega, ?_, ?_⟩, by omega⟩
  · rw [← e1]
    exact chn_r7
  · rw [← e2]
    exact chn_r7
theorem off_of {L : Nat → Bool} {i j : Nat} (h : L j = true → L i = true) (e : L i = false) : L j = false := by
  cases hj : L j with
  | false => rfl
  | true => rw [h hj] at e; cases e
set_option maxHeartbeats 2000000 in
set_option maxRecDepth 8000 in
/-- simplestAbove. -/
theorem sabove_any {N : Nat} {v v' : Value} {p d p' d' : Int} (w : World) (h : Rr (N + 1) w v p d) (h' : Rr (N + 1) w v' p' d') (pp : 0 < p) (hle : p * d' ≤ p' * d) (hN : N ≤ 10000) :
    Calls Tryz.prog 140 #[v, v'] w fun e w' => (∃ v, e = .returned v ∧ Rr (N + 3) w' v (sq (d + d').toNat p d p' d').1 (sq (d + d').toNat p d p' d').2) ∧ Below w.heap.size w w' := by
  have h0 := h
  have h0' := h'
  obtain ⟨x, a, n, c, y, b, m, k, e, rfl, h2, h3, d0, hg, hd⟩ := h
  obtain ⟨x', a', n', c', y', b', m', k', e', rfl, h2', h3', d0', hg', hd'⟩ := h'
  have hst := W10.start w x y x' y' a b a' b' n c m k n' c' m' k'
  have HDD := hide (And.intro d0 d0')
  have HPP := hide (And.intro pp hle)
  clear hg hg' hd hd' d0 d0' pp hle
  obtain ⟨F, HF⟩ : ∃ F, Hid ((d + d').toNat = F) := ⟨_, rfl⟩
  rw [show (d + d').toNat = F from unhide HF]
  obtain ⟨RP, HRP⟩ : ∃ r, Hid ((sq F p d p' d').1 = r) := ⟨_, rfl⟩
  obtain ⟨RQ, HRQ⟩ : ∃ r, Hid ((sq F p d p' d').2 = r) := ⟨_, rfl⟩
  rw [show (sq F p d p' d').1 = RP from unhide HRP, show (sq F p d p' d').2 = RQ from unhide HRQ]
  go_enter Tryz.func140, Tryz.ntmps140
  go_upto_region 1 with fail
  obtain ⟨W0, hW0⟩ : ∃ W0, W0 = ((w.alloc (.cells #[.int .i64 x, .slice a n c, .int .i64 y, .slice b m k] 52)).alloc (.cells #[.int .i64 x', .slice a' n' c', .int .i64 y', .slice b' m' k'] 52)).alloc (.cells #[.int .i64 0, .slice none 0 0, .int .i64 0, .slice none 0 0] 52) := ⟨_, rfl⟩
  rw [← hW0] at hst
  first | rw [← hW0] | (change Code.wp _ _ _ _ (((w.alloc (.cells #[.int .i64 x, .slice a n c, .int .i64 y, .slice b m k] 52)).alloc (.cells #[.int .i64 x', .slice a' n' c', .int .i64 y', .slice b' m' k'] 52)).alloc (.cells #[.int .i64 0, .slice none 0 0, .int .i64 0, .slice none 0 0] 52)); rw [← hW0])
  clear hW0
  go_cut [5, 6, 7, 8] (fun v5 v6 v7 v8 wx => ∃ b5 b6 b7 b8 d0 d1 d2 d3 g0 g1 g2 g3, v5 = .pointer (some ⟨b5, 0, none⟩) ∧ v6 = .pointer (some ⟨b6, 0, none⟩) ∧ v7 = .pointer (some ⟨b7, 0, none⟩) ∧ v8 = .pointer (some ⟨b8, 0, none⟩) ∧ (b5 ≠ b6 ∧ b5 ≠ b7 ∧ b5 ≠ b8 ∧ b6 ≠ b7 ∧ b6 ≠ b8 ∧ b7 ≠ b8) ∧ (w.heap.size + 2 < b5 ∧ w.heap.size + 2 < b6 ∧ w.heap.size + 2 < b7 ∧ w.heap.size + 2 < b8) ∧ Vr wx b5 x a n c (N + 1) p ∧ Vr wx b6 d0 d1 d2 d3 (N + 1) d ∧ Vr wx b7 x' a' n' c' (N + 1) p' ∧ Vr wx b8 g0 g1 g2 g3 (N + 1) d' ∧ W10 w x a n c y b m k x' a' n' c' y' b' m' k' wx)
  case first =>
    refine wp_region_inv_at (by kernel_rfl) (by kernel_rfl) (fun a0 L a1 w1 => ∃ v16 v17 v18 v19 v20 v21 v22 v23 v5 v6 v7 v8 b5 b6 b7 b8 d0 d1 d2 d3 g0 g1 g2 g3, a1 = ((((((((((((a0.put (some 16) v16).put (some 17) v17).put (some 18) v18).put (some 19) v19).put (some 20) v20).put (some 21) v21).put (some 22) v22).put (some 23) v23).put (some 5) v5).put (some 6) v6).put (some 7) v7).put (some 8) v8) ∧ Four w x a n c y b m k x' a' n' c' y' b' m' k' N d d' L v16 v17 v18 v19 v20 v21 v22 v23 v5 v6 v7 v8 b5 b6 b7 b8 d0 d1 d2 d3 g0 g1 g2 g3 w1) ?_ ?_ ?_
    · refine ⟨undef, undef, undef, undef, undef, undef, undef, undef, undef, undef, undef, undef, 0, 0, 0, 0, 0, none, 0, 0, 0, none, 0, 0, (by simp only [Act.put, List.setIfInBounds_toArray, List.set_cons_zero, List.set_cons_succ]), ⟨W10.drew hst, (fun e => by cases e), (fun e => by cases e), (fun e => by cases e), (fun e => by cases e), (fun e => by cases e), (fun e => by cases e), (fun e => by cases e), (fun e => by cases e), (fun e => by cases e), (fun e => by cases e), (fun e => by cases e), (fun e => by cases e), (fun e => by cases e), (fun e => by cases e), (fun e => by cases e), (fun e => by cases e), (fun e => by cases e), (fun e => by cases e), (fun e => by cases e), (fun e => by cases e), (fun e => by cases e), (fun e => by cases e), (fun e => by cases e), (fun e => by cases e), (fun e => by cases e), (fun e => by cases e), (fun e => by cases e), (fun e => by cases e)⟩⟩
    · intro L a1 w1 i o hI hLi ho hdep
      obtain ⟨v16, v17, v18, v19, v20, v21, v22, v23, v5, v6, v7, v8, b5, b6, b7, b8, d0, d1, d2, d3, g0, g1, g2, g3, rfl, hF⟩ := hI
      have hi : i < 16 := (Array.getElem?_eq_some_iff.1 ho).1
      rcases (by omega : i = 0 ∨ i = 1 ∨ i = 2 ∨ i = 3 ∨ i = 4 ∨ i = 5 ∨ i = 6 ∨ i = 7 ∨ i = 8 ∨ i = 9 ∨ i = 10 ∨ i = 11 ∨ i = 12 ∨ i = 13 ∨ i = 14 ∨ i = 15) with rfl | rfl | rfl | rfl | rfl | rfl | rfl | rfl | rfl | rfl | rfl | rfl | rfl | rfl | rfl | rfl
      · obtain rfl := Option.some.inj ho
        refine wpOp_step rfl (fun K hK => ?_)
        simp only [Act.put, List.setIfInBounds_toArray, List.set_cons_zero, List.set_cons_succ]
        go_simp
        exact hK _ _ ⟨.pointer (some ⟨w.heap.size, 0, none⟩), v17, v18, v19, v20, v21, v22, v23, v5, v6, v7, v8, b5, b6, b7, b8, d0, d1, d2, d3, g0, g1, g2, g3, (by simp only [Act.put, List.setIfInBounds_toArray, List.set_cons_zero, List.set_cons_succ]), hF.g0⟩
      · obtain rfl := Option.some.inj ho
        have l0 : L 0 = true := hdep ⟨0, .data⟩ (by simp) rfl
        obtain rfl := hF.f0 l0
        obtain ⟨hB, hr, e0, e1, e2, e3, f0, f1, f2, f3⟩ := hF.s
        refine wpOp_step rfl (fun K hK => ?_)
        simp only [Act.put, List.setIfInBounds_toArray, List.set_cons_zero, List.set_cons_succ]
        go_simp
        exact hK _ _ ⟨.pointer (some ⟨w.heap.size, 0, none⟩), .agg #[.int .i64 x, .slice a n c], v18, v19, v20, v21, v22, v23, v5, v6, v7, v8, b5, b6, b7, b8, d0, d1, d2, d3, g0, g1, g2, g3, (by simp only [Act.put, List.setIfInBounds_toArray, List.set_cons_zero, List.set_cons_succ]), hF.g1⟩
      · obtain rfl := Option.some.inj ho
        obtain ⟨hB, hr, e0, e1, e2, e3, f0, f1, f2, f3⟩ := hF.s
        refine wpOp_step rfl (fun K hK => ?_)
        simp only [Act.put, List.setIfInBounds_toArray, List.set_cons_zero, List.set_cons_succ]
        go_simp
        exact hK _ _ ⟨v16, v17, .agg #[.int .i64 x, .slice a n c, .int .i64 y, .slice b m k], v19, v20, v21, v22, v23, v5, v6, v7, v8, b5, b6, b7, b8, d0, d1, d2, d3, g0, g1, g2, g3, (by simp only [Act.put, List.setIfInBounds_toArray, List.set_cons_zero, List.set_cons_succ]), hF.g2⟩
      · obtain rfl := Option.some.inj ho
        have l2 : L 2 = true := hdep ⟨2, .data⟩ (by simp) rfl
        obtain rfl := hF.f2 l2
        refine wpOp_step rfl (fun K hK => ?_)
        simp only [Act.put, List.setIfInBounds_toArray, List.set_cons_zero, List.set_cons_succ]
        go_simp
        go_fit (den_any _ (h0.later hF.s.1))
        rintro e9 q1 ⟨⟨v9, rfl, hD⟩, hb⟩
        obtain ⟨p0, p1, p2, p3, rfl⟩ := hD.shape
        exact hK _ _ ⟨v16, v17, .agg #[.int .i64 x, .slice a n c, .int .i64 y, .slice b m k], .agg #[.int .i64 p0, .slice p1 p2 p3], v20, v21, v22, v23, v5, v6, v7, v8, b5, b6, b7, b8, p0, p1, p2, p3, g0, g1, g2, g3, (by simp only [Act.put, List.setIfInBounds_toArray, List.set_cons_zero, List.set_cons_succ]), (hF.later hb).g3 (off_of hF.c13_3 hLi) hD⟩
      · obtain rfl := Option.some.inj ho
        refine wpOp_step rfl (fun K hK => ?_)
        simp only [Act.put, List.setIfInBounds_toArray, List.set_cons_zero, List.set_cons_succ]
        go_simp
        exact hK _ _ ⟨v16, v17, v18, v19, .pointer (some ⟨w.heap.size + 1, 0, none⟩), v21, v22, v23, v5, v6, v7, v8, b5, b6, b7, b8, d0, d1, d2, d3, g0, g1, g2, g3, (by simp only [Act.put, List.setIfInBounds_toArray, List.set_cons_zero, List.set_cons_succ]), hF.g4⟩
      · obtain rfl := Option.some.inj ho
        have l4 : L 4 = true := hdep ⟨4, .data⟩ (by simp) rfl
        obtain rfl := hF.f4 l4
        obtain ⟨hB, hr, e0, e1, e2, e3, f0, f1, f2, f3⟩ := hF.s
        refine wpOp_step rfl (fun K hK => ?_)
        simp only [Act.put, List.setIfInBounds_toArray, List.set_cons_zero, List.set_cons_succ]
        go_simp
        exact hK _ _ ⟨v16, v17, v18, v19, .pointer (some ⟨w.heap.size + 1, 0, none⟩), .agg #[.int .i64 x', .slice a' n' c'], v22, v23, v5, v6, v7, v8, b5, b6, b7, b8, d0, d1, d2, d3, g0, g1, g2, g3, (by simp only [Act.put, List.setIfInBounds_toArray, List.set_cons_zero, List.set_cons_succ]), hF.g5⟩
      · obtain rfl := Option.some.inj ho
        obtain ⟨hB, hr, e0, e1, e2, e3, f0, f1, f2, f3⟩ := hF.s
        refine wpOp_step rfl (fun K hK => ?_)
        simp only [Act.put, List.setIfInBounds_toArray, List.set_cons_zero, List.set_cons_succ]
        go_simp
        exact hK _ _ ⟨v16, v17, v18, v19, v20, v21, .agg #[.int .i64 x', .slice a' n' c', .int .i64 y', .slice b' m' k'], v23, v5, v6, v7, v8, b5, b6, b7, b8, d0, d1, d2, d3, g0, g1, g2, g3, (by simp only [Act.put, List.setIfInBounds_toArray, List.set_cons_zero, List.set_cons_succ]), hF.g6⟩
      · obtain rfl := Option.some.inj ho
        have l6 : L 6 = true := hdep ⟨6, .data⟩ (by simp) rfl
        obtain rfl := hF.f6 l6
        refine wpOp_step rfl (fun K hK => ?_)
        simp only [Act.put, List.setIfInBounds_toArray, List.set_cons_zero, List.set_cons_succ]
        go_simp
        go_fit (den_any _ (h0'.later hF.s.1))
        rintro e9 q1 ⟨⟨v9, rfl, hD⟩, hb⟩
        obtain ⟨p0, p1, p2, p3, rfl⟩ := hD.shape
        exact hK _ _ ⟨v16, v17, v18, v19, v20, v21, .agg #[.int .i64 x', .slice a' n' c', .int .i64 y', .slice b' m' k'], .agg #[.int .i64 p0, .slice p1 p2 p3], v5, v6, v7, v8, b5, b6, b7, b8, d0, d1, d2, d3, p0, p1, p2, p3, (by simp only [Act.put, List.setIfInBounds_toArray, List.set_cons_zero, List.set_cons_succ]), (hF.later hb).g7 (off_of hF.c15_7 hLi) hD⟩
      · obtain rfl := Option.some.inj ho
        refine wpOp_step rfl (fun K hK => ?_)
        simp only [Act.put, List.setIfInBounds_toArray, List.set_cons_zero, List.set_cons_succ]
        go_simp
        exact hK _ _ ⟨v16, v17, v18, v19, v20, v21, v22, v23, .pointer (some ⟨w1.heap.size, 0, none⟩), v6, v7, v8, w1.heap.size, b6, b7, b8, d0, d1, d2, d3, g0, g1, g2, g3, (by simp only [Act.put, List.setIfInBounds_toArray, List.set_cons_zero, List.set_cons_succ]), hF.g8 (off_of hF.c12_8 hLi)⟩
      · obtain rfl := Option.some.inj ho
        refine wpOp_step rfl (fun K hK => ?_)
        simp only [Act.put, List.setIfInBounds_toArray, List.set_cons_zero, List.set_cons_succ]
        go_simp
        exact hK _ _ ⟨v16, v17, v18, v19, v20, v21, v22, v23, v5, .pointer (some ⟨w1.heap.size, 0, none⟩), v7, v8, b5, w1.heap.size, b7, b8, d0, d1, d2, d3, g0, g1, g2, g3, (by simp only [Act.put, List.setIfInBounds_toArray, List.set_cons_zero, List.set_cons_succ]), hF.g9 (off_of hF.c13_9 hLi)⟩
      · obtain rfl := Option.some.inj ho
        refine wpOp_step rfl (fun K hK => ?_)
        simp only [Act.put, List.setIfInBounds_toArray, List.set_cons_zero, List.set_cons_succ]
        go_simp
        exact hK _ _ ⟨v16, v17, v18, v19, v20, v21, v22, v23, v5, v6, .pointer (some ⟨w1.heap.size, 0, none⟩), v8, b5, b6, w1.heap.size, b8, d0, d1, d2, d3, g0, g1, g2, g3, (by simp only [Act.put, List.setIfInBounds_toArray, List.set_cons_zero, List.set_cons_succ]), hF.g10 (off_of hF.c14_10 hLi)⟩
      · obtain rfl := Option.some.inj ho
        refine wpOp_step rfl (fun K hK => ?_)
        simp only [Act.put, List.setIfInBounds_toArray, List.set_cons_zero, List.set_cons_succ]
        go_simp
        exact hK _ _ ⟨v16, v17, v18, v19, v20, v21, v22, v23, v5, v6, v7, .pointer (some ⟨w1.heap.size, 0, none⟩), b5, b6, b7, w1.heap.size, d0, d1, d2, d3, g0, g1, g2, g3, (by simp only [Act.put, List.setIfInBounds_toArray, List.set_cons_zero, List.set_cons_succ]), hF.g11 (off_of hF.c15_11 hLi)⟩
      · obtain rfl := Option.some.inj ho
        have l8 : L 8 = true := hdep ⟨8, .data⟩ (by simp) rfl
        have l1 : L 1 = true := hdep ⟨1, .data⟩ (by simp) rfl
        have l9 : L 9 = true := hdep ⟨9, .phase⟩ (by simp) rfl
        have l10 : L 10 = true := hdep ⟨10, .phase⟩ (by simp) rfl
        have l11 : L 11 = true := hdep ⟨11, .phase⟩ (by simp) rfl
        obtain ⟨rfl, hbx, hlo⟩ := hF.f8 l8
        obtain rfl := hF.f1 l1
        obtain ⟨⟨j0, k0⟩, ⟨j1, j2, j3, k1⟩, kf⟩ := hbx.cells
        have hlt := box_lt hbx
        refine wpOp_step rfl (fun K hK => ?_)
        simp only [Act.put, List.setIfInBounds_toArray, List.set_cons_zero, List.set_cons_succ]
        go_simp
        exact hK _ _ ⟨v16, .agg #[.int .i64 x, .slice a n c], v18, v19, v20, v21, v22, v23, .pointer (some ⟨b5, 0, none⟩), v6, v7, v8, b5, b6, b7, b8, d0, d1, d2, d3, g0, g1, g2, g3, (by simp only [Act.put, List.setIfInBounds_toArray, List.set_cons_zero, List.set_cons_succ]), hF.g12 l8 l9 l10 l11⟩
      · obtain rfl := Option.some.inj ho
        have l9 : L 9 = true := hdep ⟨9, .data⟩ (by simp) rfl
        have l3 : L 3 = true := hdep ⟨3, .data⟩ (by simp) rfl
        have l8 : L 8 = true := hdep ⟨8, .phase⟩ (by simp) rfl
        have l10 : L 10 = true := hdep ⟨10, .phase⟩ (by simp) rfl
        have l11 : L 11 = true := hdep ⟨11, .phase⟩ (by simp) rfl
        obtain ⟨rfl, hbx, hlo⟩ := hF.f9 l9
        obtain ⟨rfl, -⟩ := hF.f3 l3
        obtain ⟨⟨j0, k0⟩, ⟨j1, j2, j3, k1⟩, kf⟩ := hbx.cells
        have hlt := box_lt hbx
        refine wpOp_step rfl (fun K hK => ?_)
        simp only [Act.put, List.setIfInBounds_toArray, List.set_cons_zero, List.set_cons_succ]
        go_simp
        exact hK _ _ ⟨v16, v17, v18, .agg #[.int .i64 d0, .slice d1 d2 d3], v20, v21, v22, v23, v5, .pointer (some ⟨b6, 0, none⟩), v7, v8, b5, b6, b7, b8, d0, d1, d2, d3, g0, g1, g2, g3, (by simp only [Act.put, List.setIfInBounds_toArray, List.set_cons_zero, List.set_cons_succ]), hF.g13 l8 l9 l10 l11 l3⟩
      · obtain rfl := Option.some.inj ho
        have l10 : L 10 = true := hdep ⟨10, .data⟩ (by simp) rfl
        have l5 : L 5 = true := hdep ⟨5, .data⟩ (by simp) rfl
        have l8 : L 8 = true := hdep ⟨8, .phase⟩ (by simp) rfl
        have l9 : L 9 = true := hdep ⟨9, .phase⟩ (by simp) rfl
        have l11 : L 11 = true := hdep ⟨11, .phase⟩ (by simp) rfl
        obtain ⟨rfl, hbx, hlo⟩ := hF.f10 l10
        obtain rfl := hF.f5 l5
        obtain ⟨⟨j0, k0⟩, ⟨j1, j2, j3, k1⟩, kf⟩ := hbx.cells
        have hlt := box_lt hbx
        refine wpOp_step rfl (fun K hK => ?_)
        simp only [Act.put, List.setIfInBounds_toArray, List.set_cons_zero, List.set_cons_succ]
        go_simp
        exact hK _ _ ⟨v16, v17, v18, v19, v20, .agg #[.int .i64 x', .slice a' n' c'], v22, v23, v5, v6, .pointer (some ⟨b7, 0, none⟩), v8, b5, b6, b7, b8, d0, d1, d2, d3, g0, g1, g2, g3, (by simp only [Act.put, List.setIfInBounds_toArray, List.set_cons_zero, List.set_cons_succ]), hF.g14 l8 l9 l10 l11⟩
      · obtain rfl := Option.some.inj ho
        have l11 : L 11 = true := hdep ⟨11, .data⟩ (by simp) rfl
        have l7 : L 7 = true := hdep ⟨7, .data⟩ (by simp) rfl
        have l8 : L 8 = true := hdep ⟨8, .phase⟩ (by simp) rfl
        have l9 : L 9 = true := hdep ⟨9, .phase⟩ (by simp) rfl
        have l10 : L 10 = true := hdep ⟨10, .phase⟩ (by simp) rfl
        obtain ⟨rfl, hbx, hlo⟩ := hF.f11 l11
        obtain ⟨rfl, -⟩ := hF.f7 l7
        obtain ⟨⟨j0, k0⟩, ⟨j1, j2, j3, k1⟩, kf⟩ := hbx.cells
        have hlt := box_lt hbx
        refine wpOp_step rfl (fun K hK => ?_)
        simp only [Act.put, List.setIfInBounds_toArray, List.set_cons_zero, List.set_cons_succ]
        go_simp
        exact hK _ _ ⟨v16, v17, v18, v19, v20, v21, v22, .agg #[.int .i64 g0, .slice g1 g2 g3], v5, v6, v7, .pointer (some ⟨b8, 0, none⟩), b5, b6, b7, b8, d0, d1, d2, d3, g0, g1, g2, g3, (by simp only [Act.put, List.setIfInBounds_toArray, List.set_cons_zero, List.set_cons_succ]), hF.g15 l8 l9 l10 l11 l7⟩
    · intro L a1 w1 hI hall
      obtain ⟨v16, v17, v18, v19, v20, v21, v22, v23, v5, v6, v7, v8, b5, b6, b7, b8, d0, d1, d2, d3, g0, g1, g2, g3, rfl, hF⟩ := hI
      obtain ⟨rfl, B5, q5⟩ := hF.f8 (hall 8 (by decide))
      obtain ⟨rfl, B6, q6⟩ := hF.f9 (hall 9 (by decide))
      obtain ⟨rfl, B7, q7⟩ := hF.f10 (hall 10 (by decide))
      obtain ⟨rfl, B8, q8⟩ := hF.f11 (hall 11 (by decide))
      have hne := And.intro (hF.e01 (hall 8 (by decide)) (hall 9 (by decide))) (And.intro (hF.e02 (hall 8 (by decide)) (hall 10 (by decide))) (And.intro (hF.e03 (hall 8 (by decide)) (hall 11 (by decide))) (And.intro (hF.e12 (hall 9 (by decide)) (hall 10 (by decide))) (And.intro (hF.e13 (hall 9 (by decide)) (hall 11 (by decide))) (hF.e23 (hall 10 (by decide)) (hall 11 (by decide)))))))
      have t5 := hF.f12 (hall 12 (by decide))
      have t6 := hF.f13 (hall 13 (by decide))
      have t7 := hF.f14 (hall 14 (by decide))
      have t8 := hF.f15 (hall 15 (by decide))
      have z6 := (hF.f3 (hall 3 (by decide))).2
      have z8 := (hF.f7 (hall 7 (by decide))).2
      have hW := hF.s
      have HALL := hide (And.intro hne (And.intro (And.intro q5 (And.intro q6 (And.intro q7 q8))) (And.intro (show Vr w1 b5 x a n c (N + 1) p from ⟨t5.1, t5.2, B5, h2.later hW.1⟩) (And.intro (show Vr w1 b6 d0 d1 d2 d3 (N + 1) d from ⟨t6.1, t6.2, B6, z6⟩) (And.intro (show Vr w1 b7 x' a' n' c' (N + 1) p' from ⟨t7.1, t7.2, B7, h2'.later hW.1⟩) (And.intro (show Vr w1 b8 g0 g1 g2 g3 (N + 1) d' from ⟨t8.1, t8.2, B8, z8⟩) hW))))))
      clear hF hall B5 q5 B6 q6 B7 q7 B8 q8 hne t5 t6 t7 t8 z6 z8 hW
      simp only [Act.put, List.setIfInBounds_toArray, List.set_cons_zero, List.set_cons_succ]
      go_wp2
      go_meet
      exact ⟨b5, b6, b7, b8, d0, d1, d2, d3, g0, g1, g2, g3, rfl, rfl, rfl, rfl, unhide HALL⟩
  case rest =>
    obtain ⟨b5, b6, b7, b8, d0, d1, d2, d3, g0, g1, g2, g3, rfl, rfl, rfl, rfl, hne, hlo, V5, V6, V7, V8, hst⟩ := hcut
    obtain ⟨W1, rfl⟩ : ∃ X, X = wc := ⟨_, rfl⟩
    have hgood := hide (sq_good F p d p' d' (unhide HPP).1 (unhide HDD).1 (unhide HDD).2 (unhide HPP).2 (by have := unhide HDD; rw [← unhide HF]; omega))
    have hins := hide (And.intro h2.inside.2 (And.intro (Zr.inside (show Zr (N + 1) W1 _ d from V6.zr)).2 (And.intro h2'.inside.2 (Zr.inside (show Zr (N + 1) W1 _ d' from V8.zr)).2)))
    go_wp2_with fail
    go_fit (newChain_any _)
    rintro e9 W2 ⟨⟨vc, rfl, hC⟩, hb⟩
    obtain ⟨n0, n1, n2, n3, m0, m1, m2, m3, k0, k1, k2, k3, l0, l1, l2, l3, rfl, z1, z2, z3, z4⟩ := hC
    have kn := below_new W2 (.cells #[.int .i64 n0, .slice n1 n2 n3, .int .i64 m0, .slice m1 m2 m3, .int .i64 k0, .slice k1 k2 k3, .int .i64 l0, .slice l1 l2 l3] 243)
    have kk := below_keep kn hb
    have ap : Apart w b5 b6 b7 b8 W2.heap.size := ⟨hne, hlo, ⟨Nat.lt_of_lt_of_le V5.lt hb.size, Nat.lt_of_lt_of_le V6.lt hb.size, Nat.lt_of_lt_of_le V7.lt hb.size, Nat.lt_of_lt_of_le V8.lt hb.size⟩⟩
    have hS : SA w N b5 b6 b7 b8 W2.heap.size x a n c d0 d1 d2 d3 x' a' n' c' g0 g1 g2 g3 n0 n1 n2 n3 m0 m1 m2 m3 k0 k1 k2 k3 l0 l1 l2 l3 p d p' d' 1 0 0 1 (W2.alloc (.cells #[.int .i64 n0, .slice n1 n2 n3, .int .i64 m0, .slice m1 m2 m3, .int .i64 k0, .slice k1 k2 k3, .int .i64 l0, .slice l1 l2 l3] 243)) := ⟨below_keep kk hst.1, hst.2.1.later kk, V5.keep kk, V6.keep kk, V7.keep kk, V8.keep kk, ⟨⟨_, _, _, _, _, _, _, _, _, _, _, _, _, _, _, _, heap_alloc_new W2 _⟩, c8_new _ _ _ _ _ _ _ _ _, (z1.later kn).mono (by omega), (z2.later kn).mono (by omega), (z3.later kn).mono (by omega), (z4.later kn).mono (by omega)⟩⟩
    obtain ⟨bc, hbc⟩ : ∃ X, X = W2.heap.size := ⟨_, rfl⟩
    clear z1 z2 z3 z4 kn kk hb V5 V6 V7 V8 hst hne hlo
    go_wp2_with fail
    obtain ⟨V2, hV2⟩ : ∃ X, X = W2.alloc (.cells #[.int .i64 n0, .slice n1 n2 n3, .int .i64 m0, .slice m1 m2 m3, .int .i64 k0, .slice k1 k2 k3, .int .i64 l0, .slice l1 l2 l3] 243) := ⟨_, rfl⟩
    rw [← hV2] at hS
    rw [← hbc] at hS ap
    rw [← hV2, ← hbc]
    clear hV2 hbc
    have AP := hide ap
    clear ap
    go_loopg [10] F (fun g v10 wr => ∃ a0 a1 a2 a3 e0 e1 e2 e3 f0 f1 f2 f3 g0 g1 g2 g3 n0 n1 n2 n3 m0 m1 m2 m3 k0 k1 k2 k3 l0 l1 l2 l3 A B C D n1' m1' k1' l1', g = (B + D).toNat ∧ Hid (LoopM F p d p' d' n1' m1' k1' l1' A B C D) ∧ Hid (SA w N b5 b6 b7 b8 bc a0 a1 a2 a3 e0 e1 e2 e3 f0 f1 f2 f3 g0 g1 g2 g3 n0 n1 n2 n3 m0 m1 m2 m3 k0 k1 k2 k3 l0 l1 l2 l3 A B C D n1' m1' k1' l1' wr))
    case atStart =>
      refine ⟨_, _, _, _, _, _, _, _, _, _, _, _, _, _, _, _, _, _, _, _, _, _, _, _, _, _, _, _, _, _, _, _, p, d, p', d', 1, 0, 0, 1, (unhide HF).symm, ⟨Chn.start p d p' d', (unhide HPP).1, (unhide HDD).1, (unhide HDD).2, (unhide HPP).2, F, ?_, ?_, ?_⟩, hS⟩
      · have := unhide HDD; rw [← unhide HF]; omega
      · rw [Int.one_mul, Int.zero_mul, Int.add_zero]
      · rw [Int.zero_mul, Int.one_mul, Int.zero_add]
    case round =>
      clear hS
      obtain ⟨a0, a1, a2, a3, e0, e1, e2, e3, f0, f1, f2, f3, g0, g1, g2, g3, n0, n1, n2, n3, m0, m1, m2, m3, k0, k1, k2, k3, l0, l1, l2, l3, A, B, C, D, n1', m1', k1', l1', hgk, HM, HS⟩ := hrel
      have hB0 : 0 < B := (unhide HM).2.2.1
      have hD0 : 0 < D := (unhide HM).2.2.2.1
      have c50 := (unhide HS).v5.c0
      have c51 := (unhide HS).v5.c1
      have c60 := (unhide HS).v6.c0
      have c61 := (unhide HS).v6.c1
      have HGK := hide hgk
      clear hgk
      go_wp2_with fail
      go_fit (divMod_any (N := N) _ (unhide HS).v5.zr (unhide HS).v6.zr (by omega))
      rintro e9 Y1 ⟨hdv, hb⟩
      obtain ⟨vq, vr, qq, rr, rfl, hZq, hZr, e5, r5, r6⟩ := hdv.resolve_left (fun h => absurd h.1 (Int.ne_of_gt hB0)) |>.2
      rw [iabs_of_pos hB0] at r6
      obtain ⟨eqq, err⟩ := rnd_up e5 r5 r6
      subst eqq err
      obtain ⟨q0, q1, q2, q3, rfl⟩ := hZq.shape
      obtain ⟨r0, r1, r2, r3, rfl⟩ := hZr.shape
      have kn := below_new2 Y1 (.cells #[.int .i64 q0, .slice q1 q2 q3] 31) (.cells #[.int .i64 r0, .slice r1 r2 r3] 31)
      have kk := below_keep kn hb
      have hlq1 : w.heap.size + 2 < Y1.heap.size := ((unhide HS).out.later hb).lt
      have hcq1 : bc < Y1.heap.size := ((unhide HS).cv.box.later hb).lt
      have HS := hide ((unhide HS).keep kk)
      have HV1 := hide (two_new hZq hZr)
      clear hdv e5 r5 r6 kn kk hb hZq hZr c50 c51 c60 c61
      have c70 := (unhide HS).v7.c0
      have c71 := (unhide HS).v7.c1
      have c80 := (unhide HS).v8.c0
      have c81 := (unhide HS).v8.c1
      go_wp2_with fail
      go_fit (divMod_any (N := N) _ (unhide HS).v7.zr (unhide HS).v8.zr (by omega))
      rintro e9 Y2 ⟨hdv, hb⟩
      obtain ⟨vq, vr, qq, rr, rfl, hZq, hZr, e5, r5, r6⟩ := hdv.resolve_left (fun h => absurd h.1 (Int.ne_of_gt hD0)) |>.2
      rw [iabs_of_pos hD0] at r6
      obtain ⟨eqq, err⟩ := rnd_up e5 r5 r6
      subst eqq err
      obtain ⟨s0, s1, s2, s3, rfl⟩ := hZq.shape
      obtain ⟨t0, t1, t2, t3, rfl⟩ := hZr.shape
      have kn := below_new2 Y2 (.cells #[.int .i64 s0, .slice s1 s2 s3] 31) (.cells #[.int .i64 t0, .slice t1 t2 t3] 31)
      have kk := below_keep kn hb
      have hch1 : bc < Y2.heap.size := ((unhide HS).cv.box.later hb).lt
      have HS := hide ((unhide HS).keep kk)
      have HV1 := hide (And.intro ((unhide HV1).1.keep kk) ((unhide HV1).2.keep kk))
      have HV2 := hide (two_new hZq hZr)
      have hY := hide (And.intro (unhide HV1).1.lt hb.size)
      clear hdv e5 r5 r6 kn hb kk hZq hZr c70 c71 c80 c81
      obtain ⟨bq, hbq⟩ : ∃ X, X = Y1.heap.size := ⟨_, rfl⟩
      obtain ⟨bh, hbh⟩ : ∃ X, X = Y2.heap.size := ⟨_, rfl⟩
      go_upto_region 5 with fail
      obtain ⟨V3, hV3⟩ : ∃ X, X = (Y2.alloc (.cells #[.int .i64 s0, .slice s1 s2 s3] 31)).alloc (.cells #[.int .i64 t0, .slice t1 t2 t3] 31) := ⟨_, rfl⟩
      rw [← hV3] at HS HV1 HV2
      rw [← hbq] at HV1 hlq1 hcq1
      rw [← hbh] at HV2 hch1
      rw [← hV3, ← hbq, ← hbh]
      have hlbq : w.heap.size + 2 < bq := hlq1
      clear hV3 hbq hbh hY
      have rc0 := (unhide HV1).2.c0
      have rc1 := (unhide HV1).2.c1
      go_wp2_with fail
      go_fit (sign_zr _ (unhide HV1).2.zr)
      rintro e9 Y3 ⟨rfl, hb⟩
      have HS := hide ((unhide HS).keep hb)
      have HV1 := hide (And.intro ((unhide HV1).1.keep hb) ((unhide HV1).2.keep hb))
      have HV2 := hide (And.intro ((unhide HV2).1.keep hb) ((unhide HV2).2.keep hb))
      clear hb rc0 rc1
      by_cases hz : A % B = 0
      · rw [sgn_zero hz]
        have hfin := chn_last (unhide HM) (Or.inl ⟨hz, rfl⟩) (unhide hins).1 (unhide hins).2.1 (unhide hins).2.2.1 (unhide hins).2.2.2
        have HFIN := hide hfin
        have HZQ := hide ((unhide HV1).1.zr.fit (M := N + 1) (chn_low (unhide HM)) (chn_top (unhide HM) (unhide HS).v5.zr.inside.2))
        obtain ⟨cc0, cc1, cc2, cc3, cc4, cc5, cc6, cc7⟩ := (unhide HS).cv.c
        have qc0 := (unhide HV1).1.c0
        have qc1 := (unhide HV1).1.c1
        clear hfin
        go_wp2_with fail
        go_fit (then_any (N := N) (M := N + 2) _ (unhide HS).cv.cr (unhide HZQ) (by omega) (unhide HFIN).1.1 (unhide HFIN).1.2.1 (unhide HFIN).1.2.2.1 (unhide HFIN).1.2.2.2 (by omega))
        rintro e9 Y4 ⟨⟨vt, rfl, hT⟩, hb⟩
        have HTT := hide hT
        obtain ⟨p0, p1, p2, p3, q4, q5, q6, q7, r4, r5, r6, r7, s4, s5, s6, s7, rfl, -, -, -, -⟩ := hT
        have HS := hide ((unhide HS).keep hb)
        clear hb cc0 cc1 cc2 cc3 cc4 cc5 cc6 cc7 qc0 qc1
        go_wp2_with fail
        go_fit (fraction_any (N := N + 2) _ (unhide HTT) (by rw [(unhide HFIN).2.2]; exact (unhide hgood).2.1) (by rw [(unhide HFIN).2.1, (unhide HFIN).2.2]; exact (unhide hgood).2.2.1) (by omega))
        rintro e9 Y5 ⟨⟨vf, rfl, hR⟩, hb⟩
        rw [(unhide HFIN).2.1, (unhide HFIN).2.2, unhide HRP, unhide HRQ] at hR
        obtain ⟨u0, u1, u2, u3, u4, u5, u6, u7, e8, rfl, hP2, hD2, DD0, hG2, hE2⟩ := hR
        have HS := hide ((unhide HS).keep hb)
        have hbx := (unhide HS).out
        obtain ⟨⟨j0, g0'⟩, ⟨j1, j2, j3, g1'⟩, ⟨j4, g2'⟩, ⟨j5, j6, j7, g3'⟩, gf⟩ := hbx.cells
        have hlt := hbx.lt
        have HG2 := hide hG2
        have HD2 := hide hE2
        clear hb hG2 hE2
        go_wp2
        obtain ⟨st0, st1, st2, st3⟩ := hbx.stored (.int .i64 u0) (.slice u1 u2 u3) (.int .i64 u4) (.slice u5 u6 u7)
        exact bodyPost_ret (v := .agg #[.int .i64 u0, .slice u1 u2 u3, .int .i64 u4, .slice u5 u6 u7]) (by simp [results, Tryz.results140, go_sem, st0, st1, st2, st3]) rfl ⟨⟨_, rfl, ⟨_, _, _, _, _, _, _, _, e8, rfl, hP2.rstored hbx _ _ _ _, hD2.rstored hbx _ _ _ _, DD0, unhide HG2, unhide HD2⟩⟩, below_rstored (unhide HS).below (by omega) _ _ _ _⟩
      · have hsg : (sgn (A % B) == 0) = false := by rcases sgn_val (A % B) with ⟨_, h, _⟩ | ⟨h, _⟩ | ⟨_, h, _⟩; rw [h]; rfl; exact absurd h hz; rw [h]; rfl
        have HZ := hide hz
        have qc0 := (unhide HV1).1.c0
        have qc1 := (unhide HV1).1.c1
        have hc0 := (unhide HV2).1.c0
        have hc1 := (unhide HV2).1.c1
        clear hz
        go_wp2_with fail
        go_fit (cmp_any (N := N + 2) _ (unhide HV2).1.zr (unhide HV1).1.zr (by omega))
        rintro e9 Y4 ⟨rfl, hb⟩
        have HS := hide ((unhide HS).keep hb)
        have HV1 := hide (And.intro ((unhide HV1).1.keep hb) ((unhide HV1).2.keep hb))
        have HV2 := hide (And.intro ((unhide HV2).1.keep hb) ((unhide HV2).2.keep hb))
        clear hb qc0 qc1 hc0 hc1 hsg
        by_cases hu : A / B < C / D
        · rw [sgn_pos (show 0 < C / D - A / B by omega)]
          have hfin := chn_last (unhide HM) (Or.inr ⟨unhide HZ, hu, rfl⟩) (unhide hins).1 (unhide hins).2.1 (unhide hins).2.2.1 (unhide hins).2.2.2
          have HFIN := hide hfin
          have HZQ := hide ((unhide HV1).1.zr.fit (M := N + 1) (chn_low (unhide HM)) (chn_top (unhide HM) (unhide HS).v5.zr.inside.2))
          obtain ⟨cc0, cc1, cc2, cc3, cc4, cc5, cc6, cc7⟩ := (unhide HS).cv.c
          have qc0 := (unhide HV1).1.c0
          have qc1 := (unhide HV1).1.c1
          have lbq : w.heap.size + 2 < bq := hlbq
          have lbc : w.heap.size + 2 < bc := by have := (unhide AP).2.1.1; have := (unhide AP).2.2.1; omega
          clear hfin hu
          go_wp2_with fail
          have S0 := hide (show Below w.heap.size w Y4.drew ∧ RBox Y4.drew (w.heap.size + 2) ∧ Y4.drew.cell? ⟨bc, 0, none⟩ = some (.int .i64 n0) ∧ Y4.drew.cell? ⟨bc, 1, none⟩ = some (.slice n1 n2 n3) ∧ Y4.drew.cell? ⟨bc, 2, none⟩ = some (.int .i64 m0) ∧ Y4.drew.cell? ⟨bc, 3, none⟩ = some (.slice m1 m2 m3) ∧ Y4.drew.cell? ⟨bc, 4, none⟩ = some (.int .i64 k0) ∧ Y4.drew.cell? ⟨bc, 5, none⟩ = some (.slice k1 k2 k3) ∧ Y4.drew.cell? ⟨bc, 6, none⟩ = some (.int .i64 l0) ∧ Y4.drew.cell? ⟨bc, 7, none⟩ = some (.slice l1 l2 l3) ∧ Y4.drew.cell? ⟨bq, 0, none⟩ = some (.int .i64 q0) ∧ Y4.drew.cell? ⟨bq, 1, none⟩ = some (.slice q1 q2 q3) from ⟨(unhide HS).below.drew, (unhide HS).out, cc0, cc1, cc2, cc3, cc4, cc5, cc6, cc7, qc0, qc1⟩)
          go_region_held3 (fun w' => Below w.heap.size w w' ∧ RBox w' (w.heap.size + 2) ∧ w'.cell? ⟨bc, 0, none⟩ = some (.int .i64 n0) ∧ w'.cell? ⟨bc, 1, none⟩ = some (.slice n1 n2 n3) ∧ w'.cell? ⟨bc, 2, none⟩ = some (.int .i64 m0) ∧ w'.cell? ⟨bc, 3, none⟩ = some (.slice m1 m2 m3) ∧ w'.cell? ⟨bc, 4, none⟩ = some (.int .i64 k0) ∧ w'.cell? ⟨bc, 5, none⟩ = some (.slice k1 k2 k3) ∧ w'.cell? ⟨bc, 6, none⟩ = some (.int .i64 l0) ∧ w'.cell? ⟨bc, 7, none⟩ = some (.slice l1 l2 l3) ∧ w'.cell? ⟨bq, 0, none⟩ = some (.int .i64 q0) ∧ w'.cell? ⟨bq, 1, none⟩ = some (.slice q1 q2 q3))
            (first | with_reducible exact unhide S4 | with_reducible exact unhide S3 | with_reducible exact unhide S2 | with_reducible exact unhide S1 | with_reducible exact unhide S0 | with_reducible exact outKD (unhide S4) lbc lbq _ _ _ _ _ _ _ _)
            (first
              | (go_at_call 101; go_fit (of_any 1 _); rintro e9 Z1 ⟨rfl, hb⟩; have S1 := hide (keepKD hb (unhide S0)); have HS := hide ((unhide HS).drew.keep hb); have HZQ := hide (Zr.later (w := Y4.drew) (unhide HZQ) hb); clear hb)
              | (go_at_call 15; go_fit (add_any (N := N) _ (unhide HZQ) (Zr.near _ (by decide) (by decide)) (by omega)); rintro e9 Z2 ⟨⟨v9, rfl, hZ9⟩, hb⟩; obtain ⟨i1, i2, i3, i4, rfl⟩ := hZ9.shape; have S2 := hide (keepKD hb (unhide S1)); have HS := hide ((unhide HS).keep hb); clear hb)
              | (go_at_call 204; go_fit (then_any (N := N + 1) (M := N + 2) _ ((unhide HS).cv.cr.mono (by omega)) hZ9 (by omega) (unhide HFIN).1.1 (unhide HFIN).1.2.1 (unhide HFIN).1.2.2.1 (unhide HFIN).1.2.2.2 (by omega)); rintro e9 Z3 ⟨⟨vt, rfl, hT⟩, hb⟩; have HTT := hide hT; obtain ⟨p0, p1, p2, p3, q4, q5, q6, q7, r4, r5, r6, r7, s4, s5, s6, s7, rfl, -, -, -, -⟩ := hT; have S3 := hide (keepKD hb (unhide S2)); clear hb hZ9)
              | (go_at_call 205; go_fit (fraction_any (N := N + 2) _ (unhide HTT) (by rw [(unhide HFIN).2.2]; exact (unhide hgood).2.1) (by rw [(unhide HFIN).2.1, (unhide HFIN).2.2]; exact (unhide hgood).2.2.1) (by omega)); rintro e9 Z4 ⟨⟨vf, rfl, hR⟩, hb⟩; rw [(unhide HFIN).2.1, (unhide HFIN).2.2, unhide HRP, unhide HRQ] at hR; obtain ⟨u0, u1, u2, u3, u4, u5, u6, u7, e8, rfl, hP2, hD2, DD0, hG2, hE2⟩ := hR; have HG2 := hide hG2; have HD2 := hide hE2; have S4 := hide (keepKD hb (unhide S3)); have hbx := (unhide S4).2.1; obtain ⟨⟨j0, g0'⟩, ⟨j1, j2, j3, g1'⟩, ⟨j4, g2'⟩, ⟨j5, j6, j7, g3'⟩, gf⟩ := hbx.cells; have hlt := hbx.lt; clear hb hG2 hE2))
          have hB9 := (unhide S4).1
          have hbx := (unhide S4).2.1
          go_wp2
          obtain ⟨st0, st1, st2, st3⟩ := hbx.stored (.int .i64 u0) (.slice u1 u2 u3) (.int .i64 u4) (.slice u5 u6 u7)
          exact bodyPost_ret (v := .agg #[.int .i64 u0, .slice u1 u2 u3, .int .i64 u4, .slice u5 u6 u7]) (by simp [results, Tryz.results140, go_sem, st0, st1, st2, st3]) rfl ⟨⟨_, rfl, ⟨_, _, _, _, _, _, _, _, e8, rfl, hP2.rstored hbx _ _ _ _, hD2.rstored hbx _ _ _ _, DD0, unhide HG2, unhide HD2⟩⟩, below_rstored hB9 (by omega) _ _ _ _⟩
        · have hsu : ¬ 0 < sgn (C / D - A / B) := by rcases sgn_val (C / D - A / B) with ⟨_, h, _⟩ | ⟨_, h, _⟩ | ⟨h, _⟩ <;> omega
          have HU := hide hu
          have hnx := chn_next (unhide HM) (unhide HZ) hu (unhide hins).1 (unhide hins).2.1 (unhide hins).2.2.1 (unhide hins).2.2.2
          have HNX := hide hnx
          have HZQ := hide ((unhide HV1).1.zr.fit (M := N + 1) (chn_low (unhide HM)) (chn_top (unhide HM) (unhide HS).v5.zr.inside.2))
          obtain ⟨cc0, cc1, cc2, cc3, cc4, cc5, cc6, cc7⟩ := (unhide HS).cv.c
          have qc0 := (unhide HV1).1.c0
          have qc1 := (unhide HV1).1.c1
          clear hu hnx
          go_wp2_with fail
          go_fit (then_any (N := N) (M := N) _ (unhide HS).cv.cr (unhide HZQ) (by omega) (unhide HNX).1.1 (unhide HNX).1.2.1 (unhide HNX).1.2.2.1 (unhide HNX).1.2.2.2 (by omega))
          rintro e9 Y5 ⟨⟨vt, rfl, hT⟩, hb⟩
          obtain ⟨p0, p1, p2, p3, q4, q5, q6, q7, r4, r5, r6, r7, s4, s5, s6, s7, rfl, T1, T2, T3, T4⟩ := hT
          have HS := hide ((unhide HS).keep hb)
          have HV1 := hide ((unhide HV1).2.keep hb)
          have HV2 := hide ((unhide HV2).2.keep hb)
          obtain ⟨w0, w1, w2, w3, w4, w5, w6, w7, w8, w9, w10, w11, w12, w13, w14, w15, x0, x1, x2, x3, x4, x5, x6, x7, xf⟩ := (unhide HS).cv.box.cells
          have hltc := (unhide HS).cv.box.lt
          have HT4 := hide (And.intro T1 (And.intro T2 (And.intro T3 T4)))
          clear hb cc0 cc1 cc2 cc3 cc4 cc5 cc6 cc7 qc0 qc1 T1 T2 T3 T4
          go_upto_region 10 with fail
          have HS6 := hide (SA.putc (unhide HS) (unhide AP) (unhide HT4).1 (unhide HT4).2.1 (unhide HT4).2.2.1 (unhide HT4).2.2.2)
          have HR1 := hide (Vr.c8 (unhide HV1) (unhide HS).cv.box (r := bc) (by omega) (.int .i64 p0) (.slice p1 p2 p3) (.int .i64 q4) (.slice q5 q6 q7) (.int .i64 r4) (.slice r5 r6 r7) (.int .i64 s4) (.slice s5 s6 s7))
          have HR2 := hide (Vr.c8 (unhide HV2) (unhide HS).cv.box (r := bc) (by omega) (.int .i64 p0) (.slice p1 p2 p3) (.int .i64 q4) (.slice q5 q6 q7) (.int .i64 r4) (.slice r5 r6 r7) (.int .i64 s4) (.slice s5 s6 s7))
          obtain ⟨Y6, hY6⟩ : ∃ X, X = ((((((((Y5.setCell ⟨bc, 0, none⟩ (.int .i64 p0)).setCell ⟨bc, 1, none⟩ (.slice p1 p2 p3)).setCell ⟨bc, 2, none⟩ (.int .i64 q4)).setCell ⟨bc, 3, none⟩ (.slice q5 q6 q7)).setCell ⟨bc, 4, none⟩ (.int .i64 r4)).setCell ⟨bc, 5, none⟩ (.slice r5 r6 r7)).setCell ⟨bc, 6, none⟩ (.int .i64 s4)).setCell ⟨bc, 7, none⟩ (.slice s5 s6 s7)) := ⟨_, rfl⟩
          rw [← hY6] at HS6 HR1 HR2 ⊢
          clear hY6 HS HV1 HV2 HT4 x0 x1 x2 x3 x4 x5 x6 x7 xf hltc
          obtain ⟨⟨n56, n57, n58, n67, n68, n78⟩, ⟨o5, o6, o7, o8⟩, ⟨c5, c6, c7, c8⟩⟩ := unhide AP
          have v50 := (unhide HS6).v5.c0
          have v51 := (unhide HS6).v5.c1
          have v5f := (unhide HS6).v5.frozen
          have v5l := (unhide HS6).v5.lt
          have v60 := (unhide HS6).v6.c0
          have v61 := (unhide HS6).v6.c1
          have v6f := (unhide HS6).v6.frozen
          have v6l := (unhide HS6).v6.lt
          have v70 := (unhide HS6).v7.c0
          have v71 := (unhide HS6).v7.c1
          have v7f := (unhide HS6).v7.frozen
          have v7l := (unhide HS6).v7.lt
          have v80 := (unhide HS6).v8.c0
          have v81 := (unhide HS6).v8.c1
          have v8f := (unhide HS6).v8.frozen
          have v8l := (unhide HS6).v8.lt
          have w10 := (unhide HR1).c0
          have w11 := (unhide HR1).c1
          have w20 := (unhide HR2).c0
          have w21 := (unhide HR2).c1
          have z6 : Zr (N + 1) Y6 (.agg #[.int .i64 t0, .slice t1 t2 t3]) (C % D) := (unhide HR2).zr.fit (by have h1 := Int.emod_nonneg C (Int.ne_of_gt hD0); have h2 := pw_pos (N + 1); omega) (by have h1 := Int.emod_lt_of_pos C hD0; have h2 := (unhide HS6).v8.zr.inside.2; omega)
          have z8 : Zr (N + 1) Y6 (.agg #[.int .i64 r0, .slice r1 r2 r3]) (A % B) := (unhide HR1).zr.fit (by have h1 := Int.emod_nonneg A (Int.ne_of_gt hB0); have h2 := pw_pos (N + 1); omega) (by have h1 := Int.emod_lt_of_pos A hB0; have h2 := (unhide HS6).v6.zr.inside.2; omega)
          have h5 := SA.put5 (unhide HS6) (unhide AP) (unhide HS6).v8.zr
          have h6 := SA.put6 h5 (unhide AP) (z6.stored (unhide HS6).v5.box _ _)
          have h7 := SA.put7 h6 (unhide AP) (((unhide HS6).v6.zr.stored (unhide HS6).v5.box _ _).stored h5.v6.box _ _)
          have h8 := SA.put8 h7 (unhide AP) (((z8.stored (unhide HS6).v5.box _ _).stored h5.v6.box _ _).stored h6.v7.box _ _)
          have H8 := hide h8.drew
          clear z6 z8 h5 h6 h7 h8
          go_region
          all_goals
            go_wp2
            go_roundg ((C % D + A % B).toNat)
            case measure => rw [unhide HGK]; exact (unhide HNX).2.2
            case rel => exact ⟨_, _, _, _, _, _, _, _, _, _, _, _, _, _, _, _, _, _, _, _, _, _, _, _, _, _, _, _, _, _, _, _, D, C % D, B, A % B, _, _, _, _, rfl, (unhide HNX).2.1, unhide H8⟩
end Go.Proofs.YtpecanpbkbanhaaGreatDoor
namespace Go.Proofs.YtpecanpbkbanhaaGreatDoor
open Go.RowKit
/-- What Simplest answers. -/
def SimP (M : Nat) (p d p' d' : Int) (e : Ending) (w' : World) : Prop :=
  (p' * d < p * d' ∧ e = .returned (.tuple #[.agg #[.int .i64 0, .slice none 0 0, .int .i64 0, .slice none 0 0], .bool false])) ∨
  (p * d' ≤ p' * d ∧ ∃ v, e = .returned (.tuple #[v, .bool true]) ∧ Rr M w' v (simplest p d p' d').1 (simplest p d p' d').2)
set_option maxHeartbeats 4000000 in
set_option maxRecDepth 8000 in
/-- Simplest. -/
theorem simplest_any {N : Nat} {v v' : Value} {p d p' d' : Int} (w : World) (h : Rr (N + 1) w v p d) (h' : Rr (N + 1) w v' p' d') (hN : N ≤ 10000) :
    Calls Tryz.prog 66 #[v, v'] w fun e w' => SimP (N + 3) p d p' d' e w' ∧ Below w.heap.size w w' := by
  have h0 := h
  have h0' := h'
  obtain ⟨x, a, n, c, y, b, m, k, e, rfl, h2, h3, d0, hg, hd⟩ := h
  obtain ⟨x', a', n', c', y', b', m', k', e', rfl, h2', h3', d0', hg', hd'⟩ := h'
  have hst := W10.start w x y x' y' a b a' b' n c m k n' c' m' k'
  have HD0 := hide (And.intro d0 d0')
  clear hg hg' hd hd' d0 d0'
  go_enter Tryz.func66, Tryz.ntmps66
  go_wp2_with fail
  obtain ⟨W0, hW0⟩ : ∃ W0, W0 = ((w.alloc (.cells #[.int .i64 x, .slice a n c, .int .i64 y, .slice b m k] 52)).alloc (.cells #[.int .i64 x', .slice a' n' c', .int .i64 y', .slice b' m' k'] 52)).alloc (.cells #[.int .i64 0, .slice none 0 0, .int .i64 0, .slice none 0 0] 52) := ⟨_, rfl⟩
  rw [← hW0] at hst ⊢
  clear hW0
  obtain ⟨hB, hr, e0, e1, e2, e3, f0, f1, f2, f3⟩ := hst
  go_wp2_with fail
  go_fit (qcmp_any (N := N) _ (h0.later hB) (h0'.later hB) (by omega))
  rintro e9 W1 ⟨rfl, hb⟩
  have hst := W10.keep hb ⟨hB, hr, e0, e1, e2, e3, f0, f1, f2, f3⟩
  clear hB hr e0 e1 e2 e3 f0 f1 f2 f3 hb
  obtain ⟨hB, hr, e0, e1, e2, e3, f0, f1, f2, f3⟩ := hst
  by_cases hc : 0 < p * d' - p' * d
  · rw [sgn_pos hc]
    obtain ⟨⟨j0, g0⟩, ⟨j1, j2, j3, g1⟩, ⟨j4, g2⟩, ⟨j5, j6, j7, g3⟩, gf⟩ := hr.cells
    have hlt := hr.lt
    go_wp2
    obtain ⟨st0, st1, st2, st3⟩ := hr.stored (.int .i64 0) (.slice none 0 0) (.int .i64 0) (.slice none 0 0)
    exact bodyPost_ret (v := .tuple #[.agg #[.int .i64 0, .slice none 0 0, .int .i64 0, .slice none 0 0], .bool false]) (by simp [results, Tryz.results66, go_sem, st0, st1, st2, st3]) rfl ⟨Or.inl ⟨by omega, rfl⟩, below_rstored hB (by omega) _ _ _ _⟩
  have hsc : ¬ 0 < sgn (p * d' - p' * d) := by rcases sgn_val (p * d' - p' * d) with ⟨_, h, _⟩ | ⟨_, h, _⟩ | ⟨h, _⟩ <;> omega
  have HC := hide hc
  clear hc
  go_wp2_with fail
  go_fit (qsign_any _ (h0.later hB))
  rintro e9 W2 ⟨rfl, hb⟩
  have hst := W10.keep hb ⟨hB, hr, e0, e1, e2, e3, f0, f1, f2, f3⟩
  clear hB hr e0 e1 e2 e3 f0 f1 f2 f3 hb hsc
  obtain ⟨hB, hr, e0, e1, e2, e3, f0, f1, f2, f3⟩ := hst
  by_cases hp : 0 < p
  · rw [sgn_pos hp]
    have HP := hide hp
    clear hp
    go_wp2_with fail
    go_fit (sabove_any (N := N) _ (h0.later hB) (h0'.later hB) (unhide HP) (by have := unhide HC; omega) hN)
    rintro e9 W3 ⟨⟨v3, rfl, hR⟩, hb⟩
    have hR : Rr (N + 3) W3 v3 (simplest p d p' d').1 (simplest p d p' d').2 := by unfold simplest; rw [if_pos (unhide HP)]; exact hR
    obtain ⟨u0, u1, u2, u3, u4, u5, u6, u7, e8, rfl, hP2, hD2, DD0, hG2, hE2⟩ := hR
    have HF := hide (And.intro DD0 (And.intro hG2 hE2))
    have hB := below_keep hb hB
    have hr := hr.later hb
    clear DD0 hG2 hE2 hb e0 e1 e2 e3 f0 f1 f2 f3
    obtain ⟨⟨j0, g0⟩, ⟨j1, j2, j3, g1⟩, ⟨j4, g2⟩, ⟨j5, j6, j7, g3⟩, gf⟩ := hr.cells
    have hlt := hr.lt
    go_wp2
    obtain ⟨st0, st1, st2, st3⟩ := hr.stored (.int .i64 u0) (.slice u1 u2 u3) (.int .i64 u4) (.slice u5 u6 u7)
    exact bodyPost_ret (v := .tuple #[.agg #[.int .i64 u0, .slice u1 u2 u3, .int .i64 u4, .slice u5 u6 u7], .bool true]) (by simp [results, Tryz.results66, go_sem, st0, st1, st2, st3]) rfl ⟨Or.inr ⟨by have := unhide HC; omega, _, rfl, ⟨_, _, _, _, _, _, _, _, e8, rfl, hP2.rstored hr _ _ _ _, hD2.rstored hr _ _ _ _, (unhide HF).1, (unhide HF).2.1, (unhide HF).2.2⟩⟩, below_rstored hB (by omega) _ _ _ _⟩
  have hsp : ¬ 0 < sgn p := by rcases sgn_val p with ⟨_, h, _⟩ | ⟨_, h, _⟩ | ⟨h, _⟩ <;> omega
  have HP := hide hp
  clear hp
  go_wp2_with fail
  go_fit (qsign_any _ (h0'.later hB))
  rintro e9 W3 ⟨rfl, hb⟩
  have hst := W10.keep hb ⟨hB, hr, e0, e1, e2, e3, f0, f1, f2, f3⟩
  clear hB hr e0 e1 e2 e3 f0 f1 f2 f3 hb hsp
  obtain ⟨hB, hr, e0, e1, e2, e3, f0, f1, f2, f3⟩ := hst
  by_cases hq : p' < 0
  · rw [sgn_neg hq]
    have HQ := hide hq
    clear hq
    go_wp2_with fail
    have tok1 : True := trivial
    have tok2 : True := trivial
    have S0 := hide (show Below w.heap.size w W3.drew ∧ RBox W3.drew (w.heap.size + 2) ∧ W3.drew.cell? ⟨w.heap.size, 0, none⟩ = some (.int .i64 x) ∧ W3.drew.cell? ⟨w.heap.size, 1, none⟩ = some (.slice a n c) ∧ W3.drew.cell? ⟨w.heap.size, 2, none⟩ = some (.int .i64 y) ∧ W3.drew.cell? ⟨w.heap.size, 3, none⟩ = some (.slice b m k) ∧ W3.drew.cell? ⟨w.heap.size + 1, 0, none⟩ = some (.int .i64 x') ∧ W3.drew.cell? ⟨w.heap.size + 1, 1, none⟩ = some (.slice a' n' c') ∧ W3.drew.cell? ⟨w.heap.size + 1, 2, none⟩ = some (.int .i64 y') ∧ W3.drew.cell? ⟨w.heap.size + 1, 3, none⟩ = some (.slice b' m' k') from ⟨hB.drew, hr, e0, e1, e2, e3, f0, f1, f2, f3⟩)
    go_region_held3 (fun w' => Below w.heap.size w w' ∧ RBox w' (w.heap.size + 2) ∧ w'.cell? ⟨w.heap.size, 0, none⟩ = some (.int .i64 x) ∧ w'.cell? ⟨w.heap.size, 1, none⟩ = some (.slice a n c) ∧ w'.cell? ⟨w.heap.size, 2, none⟩ = some (.int .i64 y) ∧ w'.cell? ⟨w.heap.size, 3, none⟩ = some (.slice b m k) ∧ w'.cell? ⟨w.heap.size + 1, 0, none⟩ = some (.int .i64 x') ∧ w'.cell? ⟨w.heap.size + 1, 1, none⟩ = some (.slice a' n' c') ∧ w'.cell? ⟨w.heap.size + 1, 2, none⟩ = some (.int .i64 y') ∧ w'.cell? ⟨w.heap.size + 1, 3, none⟩ = some (.slice b' m' k'))
      (first | with_reducible exact unhide S4 | with_reducible exact unhide S3 | with_reducible exact unhide S2 | with_reducible exact unhide S1 | with_reducible exact unhide S0 | with_reducible exact outW10 (unhide S4) _ _ _ _ _ _ _ _)
      (first
        | (go_at_call 43; have _t := tok1; go_fit (qneg_any (N := N) _ (h0'.later (unhide S0).1)); rintro e9 q1 ⟨⟨v1, rfl, hR1⟩, hb⟩; clear tok1; obtain ⟨i1, i2, i3, i4, i5, i6, i7, i8, rfl⟩ := hR1.shape; have S1 := hide (keepW10 hb (unhide S0)); clear hb)
        | (go_at_call 43; have _t := tok2; go_fit (qneg_any (N := N) _ (h0.later (unhide S1).1)); rintro e9 q2 ⟨⟨v2, rfl, hR2⟩, hb⟩; clear tok2; obtain ⟨k1, k2, k3, k4, k5, k6, k7, k8, rfl⟩ := hR2.shape; have S2 := hide (keepW10 hb (unhide S1)); have hR1 := hR1.later hb; clear hb)
        | (go_at_call 140; go_fit (sabove_any (N := N) _ hR1 hR2 (by have := unhide HQ; omega) (by rw [Int.neg_mul, Int.neg_mul]; have := unhide HC; omega) hN); rintro e9 q3 ⟨⟨v3, rfl, hR3⟩, hb⟩; obtain ⟨l1, l2, l3, l4, l5, l6, l7, l8, rfl⟩ := hR3.shape; have S3 := hide (keepW10 hb (unhide S2)); clear hb hR1 hR2)
        | (go_at_call 43; go_fit (qneg_any (N := N + 2) _ hR3); rintro e9 q4 ⟨⟨v4, rfl, hR4⟩, hb⟩; have hR4 : Rr (N + 3) q4 v4 (simplest p d p' d').1 (simplest p d p' d').2 := (by unfold simplest; rw [if_neg (show ¬ 0 < p by have := unhide HP; omega), if_pos (unhide HQ)]; exact hR4); obtain ⟨u0, u1, u2, u3, u4, u5, u6, u7, e8, rfl, hP2, hD2, DD0, hG2, hE2⟩ := hR4; have HF := hide (And.intro DD0 (And.intro hG2 hE2)); have S4 := hide (keepW10 hb (unhide S3)); have hbx := (unhide S4).2.1; obtain ⟨⟨j0, g0⟩, ⟨j1, j2, j3, g1⟩, ⟨j4, g2⟩, ⟨j5, j6, j7, g3⟩, gf⟩ := hbx.cells; have hlt := hbx.lt; clear hb hR3 DD0 hG2 hE2))
    all_goals
      have hB3 := (unhide S4).1
      have hbx := (unhide S4).2.1
      go_wp2
      obtain ⟨st0, st1, st2, st3⟩ := hbx.stored (.int .i64 u0) (.slice u1 u2 u3) (.int .i64 u4) (.slice u5 u6 u7)
      exact bodyPost_ret (v := .tuple #[.agg #[.int .i64 u0, .slice u1 u2 u3, .int .i64 u4, .slice u5 u6 u7], .bool true]) (by simp [results, Tryz.results66, go_sem, st0, st1, st2, st3]) rfl ⟨Or.inr ⟨by have := unhide HC; omega, _, rfl, ⟨_, _, _, _, _, _, _, _, e8, rfl, hP2.rstored hbx _ _ _ _, hD2.rstored hbx _ _ _ _, (unhide HF).1, (unhide HF).2.1, (unhide HF).2.2⟩⟩, below_rstored hB3 (by omega) _ _ _ _⟩
  · have hsq : ¬ sgn p' < 0 := by rcases sgn_val p' with ⟨h, _⟩ | ⟨_, h, _⟩ | ⟨_, h, _⟩ <;> omega
    have hz : simplest p d p' d' = (0, 1) := by unfold simplest; rw [if_neg (show ¬ 0 < p by have := unhide HP; omega), if_neg (show ¬ p' < 0 by omega)]
    have HZ := hide hz
    have HQ := hide hq
    clear hz hq
    obtain ⟨⟨j0, g0⟩, ⟨j1, j2, j3, g1⟩, ⟨j4, g2⟩, ⟨j5, j6, j7, g3⟩, gf⟩ := hr.cells
    have hlt := hr.lt
    go_wp2
    obtain ⟨st0, st1, st2, st3⟩ := hr.stored (.int .i64 0) (.slice none 0 0) (.int .i64 0) (.slice none 0 0)
    exact bodyPost_ret (v := .tuple #[.agg #[.int .i64 0, .slice none 0 0, .int .i64 0, .slice none 0 0], .bool true]) (by simp [results, Tryz.results66, go_sem, st0, st1, st2, st3]) rfl ⟨Or.inr ⟨by have := unhide HC; omega, _, rfl, by rw [unhide HZ]; exact ⟨0, none, 0, 0, 0, none, 0, 0, 0, rfl, Zr.near _ (by decide) (by decide), Zr.near _ (by decide) (by decide), by decide, by decide, Or.inl ⟨rfl, rfl⟩⟩⟩, below_rstored hB (by omega) _ _ _ _⟩
end Go.Proofs.YtpecanpbkbanhaaGreatDoor
