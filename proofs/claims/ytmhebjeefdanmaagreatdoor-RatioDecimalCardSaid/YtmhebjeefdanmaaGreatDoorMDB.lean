/-
  Walks over package ratio: nearest.
  Walks over package ratio: Decimal.
  Walks over the fractions of the document: Decimal.
-/
import Derived.Test.YtmhebjeefdanmaaGreatDoorML4
import Derived.Test.YtmhebjeefdanmaaGreatDoorMTB
import Derived.Test.YtmhebjeefdanmaaGreatDoorMSD
import Derived.Test.YtmhebjeefdanmaaGreatDoorMQF
import Derived.Test.YtmhebjeefdanmaaGreatDoorMDA
import Derived.Lib.IndexBytes
namespace Go.Proofs.YtmhebjeefdanmaaGreatDoor
open Go.RowKit

theorem keepK8 {w w1 w2 : World} {bq br : Nat} {y0 q0 r0 : Int} {y1 q1 r1 : Option Addr} {y2 y3 q2 q3 r2 r3 : Nat} (hb : Below w1.heap.size w1 w2) (h : Below w.heap.size w w1 ∧ Box w1 (w.heap.size + 2) ∧ w1.cell? ⟨w.heap.size + 1, 0, none⟩ = some (.int .i64 y0) ∧ w1.cell? ⟨w.heap.size + 1, 1, none⟩ = some (.slice y1 y2 y3) ∧ w1.cell? ⟨bq, 0, none⟩ = some (.int .i64 q0) ∧ w1.cell? ⟨bq, 1, none⟩ = some (.slice q1 q2 q3) ∧ w1.cell? ⟨br, 0, none⟩ = some (.int .i64 r0) ∧ w1.cell? ⟨br, 1, none⟩ = some (.slice r1 r2 r3)) : Below w.heap.size w w2 ∧ Box w2 (w.heap.size + 2) ∧ w2.cell? ⟨w.heap.size + 1, 0, none⟩ = some (.int .i64 y0) ∧ w2.cell? ⟨w.heap.size + 1, 1, none⟩ = some (.slice y1 y2 y3) ∧ w2.cell? ⟨bq, 0, none⟩ = some (.int .i64 q0) ∧ w2.cell? ⟨bq, 1, none⟩ = some (.slice q1 q2 q3) ∧ w2.cell? ⟨br, 0, none⟩ = some (.int .i64 r0) ∧ w2.cell? ⟨br, 1, none⟩ = some (.slice r1 r2 r3) :=
  ⟨below_keep hb h.1, Box.later h.2.1 hb, cell_keep hb h.2.2.1, cell_keep hb h.2.2.2.1, cell_keep hb h.2.2.2.2.1, cell_keep hb h.2.2.2.2.2.1, cell_keep hb h.2.2.2.2.2.2.1, cell_keep hb h.2.2.2.2.2.2.2⟩
theorem outK8 {w w1 : World} {bq br : Nat} {y0 q0 r0 : Int} {y1 q1 r1 : Option Addr} {y2 y3 q2 q3 r2 r3 : Nat} (h : Below w.heap.size w w1 ∧ Box w1 (w.heap.size + 2) ∧ w1.cell? ⟨w.heap.size + 1, 0, none⟩ = some (.int .i64 y0) ∧ w1.cell? ⟨w.heap.size + 1, 1, none⟩ = some (.slice y1 y2 y3) ∧ w1.cell? ⟨bq, 0, none⟩ = some (.int .i64 q0) ∧ w1.cell? ⟨bq, 1, none⟩ = some (.slice q1 q2 q3) ∧ w1.cell? ⟨br, 0, none⟩ = some (.int .i64 r0) ∧ w1.cell? ⟨br, 1, none⟩ = some (.slice r1 r2 r3)) (hq : w.heap.size + 2 < bq) (hr : w.heap.size + 2 < br) (u0 : Int) (u1 : Option Addr) (u2 u3 : Nat) : Below w.heap.size w ((w1.setCell ⟨w.heap.size + 2, 0, none⟩ (.int .i64 u0)).setCell ⟨w.heap.size + 2, 1, none⟩ (.slice u1 u2 u3)) ∧ Box ((w1.setCell ⟨w.heap.size + 2, 0, none⟩ (.int .i64 u0)).setCell ⟨w.heap.size + 2, 1, none⟩ (.slice u1 u2 u3)) (w.heap.size + 2) ∧ ((w1.setCell ⟨w.heap.size + 2, 0, none⟩ (.int .i64 u0)).setCell ⟨w.heap.size + 2, 1, none⟩ (.slice u1 u2 u3)).cell? ⟨w.heap.size + 1, 0, none⟩ = some (.int .i64 y0) ∧ ((w1.setCell ⟨w.heap.size + 2, 0, none⟩ (.int .i64 u0)).setCell ⟨w.heap.size + 2, 1, none⟩ (.slice u1 u2 u3)).cell? ⟨w.heap.size + 1, 1, none⟩ = some (.slice y1 y2 y3) ∧ ((w1.setCell ⟨w.heap.size + 2, 0, none⟩ (.int .i64 u0)).setCell ⟨w.heap.size + 2, 1, none⟩ (.slice u1 u2 u3)).cell? ⟨bq, 0, none⟩ = some (.int .i64 q0) ∧ ((w1.setCell ⟨w.heap.size + 2, 0, none⟩ (.int .i64 u0)).setCell ⟨w.heap.size + 2, 1, none⟩ (.slice u1 u2 u3)).cell? ⟨bq, 1, none⟩ = some (.slice q1 q2 q3) ∧ ((w1.setCell ⟨w.heap.size + 2, 0, none⟩ (.int .i64 u0)).setCell ⟨w.heap.size + 2, 1, none⟩ (.slice u1 u2 u3)).cell? ⟨br, 0, none⟩ = some (.int .i64 r0) ∧ ((w1.setCell ⟨w.heap.size + 2, 0, none⟩ (.int .i64 u0)).setCell ⟨w.heap.size + 2, 1, none⟩ (.slice u1 u2 u3)).cell? ⟨br, 1, none⟩ = some (.slice r1 r2 r3) := by
  have hc : ∀ b o v, b ≠ w.heap.size + 2 → w1.cell? ⟨b, o, none⟩ = some v → ((w1.setCell ⟨w.heap.size + 2, 0, none⟩ (.int .i64 u0)).setCell ⟨w.heap.size + 2, 1, none⟩ (.slice u1 u2 u3)).cell? ⟨b, o, none⟩ = some v := fun b o v hb hv => by
    rw [cell?_setCell_ne _ _ _ _ _ _ (by omega), cell?_setCell_ne _ _ _ _ _ _ (by omega)]; exact hv
  exact ⟨below_stored h.1 (by omega) _ _, Box.stored' h.2.1 _ _ _ _, hc _ _ _ (by omega) h.2.2.1, hc _ _ _ (by omega) h.2.2.2.1, hc _ _ _ (by omega) h.2.2.2.2.1, hc _ _ _ (by omega) h.2.2.2.2.2.1, hc _ _ _ (by omega) h.2.2.2.2.2.2.1, hc _ _ _ (by omega) h.2.2.2.2.2.2.2⟩
theorem near_cond {n d : Int} : decide (d < 2 * (n % d) ∨ (2 * (n % d) = d ∧ (n / d) % 2 = 1)) = (decide (0 < sgn (n % d + n % d - d)) || (sgn (n % d + n % d - d) == 0) && decide ((n / d) % 2 = 1)) := by
  rcases sgn_val (n % d + n % d - d) with ⟨h, e, _⟩ | ⟨h, e, _⟩ | ⟨h, e, _⟩
  · rw [e, decide_eq_false (by omega)]; simp
  · rw [e]
    have h2 : 2 * (n % d) = d := by omega
    simp [h2]
  · rw [e, decide_eq_true (by omega)]; simp

set_option maxHeartbeats 4000000 in
set_option maxRecDepth 8000 in
/-- nearest. -/
theorem nearest_any {N : Nat} {v u : Value} {n d : Int} (w : World) (h : Zr (N + 1) w v n) (h' : Zr (N + 1) w u d) (d0 : 0 < d) (hN : N ≤ 90000) :
    Calls Tryz.prog 110 #[v, u] w fun e w' => (∃ v, e = .returned v ∧ Zr (N + 4) w' v (rnd n d)) ∧ Below w.heap.size w w' := by
  obtain ⟨x0, x1, x2, x3, rfl⟩ := h.shape
  obtain ⟨y0, y1, y2, y3, rfl⟩ := h'.shape
  have k1 := below_new w (.cells #[.int .i64 x0, .slice x1 x2 x3] 31)
  have k2 := below_new (w.alloc (.cells #[.int .i64 x0, .slice x1 x2 x3] 31)) (.cells #[.int .i64 y0, .slice y1 y2 y3] 31)
  have k3 := below_new ((w.alloc (.cells #[.int .i64 x0, .slice x1 x2 x3] 31)).alloc (.cells #[.int .i64 y0, .slice y1 y2 y3] 31)) (.cells #[.int .i64 0, .slice none 0 0] 31)
  have hB := below_keep k3 (below_keep k2 k1)
  have hbx := box_new ((w.alloc (.cells #[.int .i64 x0, .slice x1 x2 x3] 31)).alloc (.cells #[.int .i64 y0, .slice y1 y2 y3] 31))
  rw [show ((w.alloc (.cells #[.int .i64 x0, .slice x1 x2 x3] 31)).alloc (.cells #[.int .i64 y0, .slice y1 y2 y3] 31)).heap.size = w.heap.size + 2 by simp] at hbx
  have e0 := cell_keep k3 (cell_keep k2 (show (w.alloc (.cells #[.int .i64 x0, .slice x1 x2 x3] 31)).cell? ⟨w.heap.size, 0, none⟩ = some (.int .i64 x0) by rw [new_cell rfl]; rfl))
  have e1 := cell_keep k3 (cell_keep k2 (show (w.alloc (.cells #[.int .i64 x0, .slice x1 x2 x3] 31)).cell? ⟨w.heap.size, 1, none⟩ = some (.slice x1 x2 x3) by rw [new_cell rfl]; rfl))
  have f0 := cell_keep k3 (show ((w.alloc (.cells #[.int .i64 x0, .slice x1 x2 x3] 31)).alloc (.cells #[.int .i64 y0, .slice y1 y2 y3] 31)).cell? ⟨w.heap.size + 1, 0, none⟩ = some (.int .i64 y0) by rw [new_cell (by simp)]; rfl)
  have f1 := cell_keep k3 (show ((w.alloc (.cells #[.int .i64 x0, .slice x1 x2 x3] 31)).alloc (.cells #[.int .i64 y0, .slice y1 y2 y3] 31)).cell? ⟨w.heap.size + 1, 1, none⟩ = some (.slice y1 y2 y3) by rw [new_cell (by simp)]; rfl)
  obtain ⟨bw, HBW⟩ : ∃ b, Hid (decide (d < 2 * (n % d) ∨ (2 * (n % d) = d ∧ (n / d) % 2 = 1)) = b) := ⟨_, rfl⟩
  have HD0 := hide d0
  clear k1 k2 k3 d0
  go_enter Tryz.func110, Tryz.ntmps110
  go_wp2_with fail
  obtain ⟨W0, hW0⟩ : ∃ W0, W0 = ((w.alloc (.cells #[.int .i64 x0, .slice x1 x2 x3] 31)).alloc (.cells #[.int .i64 y0, .slice y1 y2 y3] 31)).alloc (.cells #[.int .i64 0, .slice none 0 0] 31) := ⟨_, rfl⟩
  rw [← hW0] at hB hbx e0 e1 f0 f1 ⊢
  clear hW0
  go_fit (divMod_any (N := N) _ (h.later hB) (h'.later hB) (by omega))
  rintro e9 W1 ⟨hd, hb⟩
  obtain ⟨vq, vr, qq, rr, rfl, hZq, hZr, e5, r5, r6⟩ := hd.resolve_left (fun h => absurd h.1 (Int.ne_of_gt (unhide HD0))) |>.2
  have hab : iabs d = d := by have := unhide HD0; unfold iabs; rw [if_neg (by omega)]
  rw [hab] at r6
  obtain ⟨eq, er⟩ := rnd_up e5 r5 r6
  subst eq er
  obtain ⟨q0, q1, q2, q3, rfl⟩ := hZq.shape
  obtain ⟨r0, r1, r2, r3, rfl⟩ := hZr.shape
  have hbx1 := hbx.later hb
  have hlt1 := box_lt hbx1
  have kn := below_new2 W1 (.cells #[.int .i64 q0, .slice q1 q2 q3] 31) (.cells #[.int .i64 r0, .slice r1 r2 r3] 31)
  have hv := two_new hZq hZr
  have kk := below_keep kn hb
  have hB := below_keep kk hB
  have hbx := hbx.later kk
  have f0 := cell_keep kk f0
  have f1 := cell_keep kk f1
  have hlr1 : w.heap.size + 2 < W1.heap.size + 1 := Nat.lt_succ_of_lt hlt1
  obtain ⟨bq, hbq⟩ : ∃ X, X = W1.heap.size := ⟨_, rfl⟩
  obtain ⟨br, hbr⟩ : ∃ X, X = W1.heap.size + 1 := ⟨_, rfl⟩
  clear hd e5 r5 r6 hab kn kk hb hbx1 e0 e1
  go_upto_region 2 with fail
  obtain ⟨V1, hV1⟩ : ∃ X, X = (W1.alloc (.cells #[.int .i64 q0, .slice q1 q2 q3] 31)).alloc (.cells #[.int .i64 r0, .slice r1 r2 r3] 31) := ⟨_, rfl⟩
  rw [← hV1] at hv hB hbx f0 f1
  rw [← hbr] at hv hlr1
  rw [← hbq] at hv hlt1
  rw [← hV1, ← hbr, ← hbq]
  clear hV1 hbr hbq hZq hZr
  have ZQ := hide hv.1.zr
  have ZR := hide hv.2.zr
  have qc0 := hv.1.c0
  have qc1 := hv.1.c1
  have rc0 := hv.2.c0
  have rc1 := hv.2.c1
  have HH := hide (And.intro h h')
  clear hv h h'
  have S0 := hide (show Below w.heap.size w V1.drew ∧ Box V1.drew (w.heap.size + 2) ∧ V1.drew.cell? ⟨w.heap.size + 1, 0, none⟩ = some (.int .i64 y0) ∧ V1.drew.cell? ⟨w.heap.size + 1, 1, none⟩ = some (.slice y1 y2 y3) ∧ V1.drew.cell? ⟨bq, 0, none⟩ = some (.int .i64 q0) ∧ V1.drew.cell? ⟨bq, 1, none⟩ = some (.slice q1 q2 q3) ∧ V1.drew.cell? ⟨br, 0, none⟩ = some (.int .i64 r0) ∧ V1.drew.cell? ⟨br, 1, none⟩ = some (.slice r1 r2 r3) from ⟨hB.drew, hbx, f0, f1, qc0, qc1, rc0, rc1⟩)
  go_region_held3 (fun w' => Below w.heap.size w w' ∧ Box w' (w.heap.size + 2) ∧ w'.cell? ⟨w.heap.size + 1, 0, none⟩ = some (.int .i64 y0) ∧ w'.cell? ⟨w.heap.size + 1, 1, none⟩ = some (.slice y1 y2 y3) ∧ w'.cell? ⟨bq, 0, none⟩ = some (.int .i64 q0) ∧ w'.cell? ⟨bq, 1, none⟩ = some (.slice q1 q2 q3) ∧ w'.cell? ⟨br, 0, none⟩ = some (.int .i64 r0) ∧ w'.cell? ⟨br, 1, none⟩ = some (.slice r1 r2 r3))
    (first | with_reducible exact unhide S2 | with_reducible exact unhide S1 | with_reducible exact unhide S0)
    (first
      | (go_at_call 12; go_fit (add_any (N := N + 2) V1.drew (show Zr _ V1.drew _ _ from unhide ZR) (show Zr _ V1.drew _ _ from unhide ZR) (by omega)); rintro e9 Y1 ⟨⟨v9, rfl, hZ9⟩, hb⟩; obtain ⟨i1, i2, i3, i4, rfl⟩ := hZ9.shape; have S1 := hide (keepK8 hb (unhide S0)); have ZQ := hide (Zr.later (w := V1.drew) (unhide ZQ) hb); clear hb)
      | (go_at_call 24; go_fit (cmp_any (N := N + 3) _ hZ9 (((unhide HH).2.later (unhide S1).1).mono (by omega)) (by omega)); rintro e9 Y2 ⟨rfl, hb⟩; have S2 := hide (keepK8 hb (unhide S1)); have ZQ := hide ((unhide ZQ).later hb); clear hb hZ9))
  obtain ⟨sg, HSG⟩ : ∃ s, Hid (sgn (n % d + n % d - d) = s) := ⟨_, rfl⟩
  rw [show sgn (n % d + n % d - d) = sg from unhide HSG]
  have hcnd : Hid (bw = (decide (0 < sg) || (sg == 0) && decide ((n / d) % 2 = 1))) := by rw [← unhide HSG, ← near_cond]; exact (unhide HBW).symm
  have hsg3 : sg = -1 ∨ sg = 0 ∨ sg = 1 := by have := unhide HSG; rcases sgn_val (n % d + n % d - d) with ⟨_, e, _⟩ | ⟨_, e, _⟩ | ⟨_, e, _⟩ <;> omega
  clear hB hbx f0 f1 qc0 qc1 rc0 rc1 HSG ZR
  obtain ⟨hB, hbx, f0, f1, qc0, qc1, rc0, rc1⟩ := unhide S2
  clear S0 S1 S2
  go_upto_region 3 with fail
  go_cut [30] (fun bv wx => bv = .bool bw ∧ Hid (Below w.heap.size w wx ∧ Box wx (w.heap.size + 2) ∧ wx.cell? ⟨w.heap.size + 1, 0, none⟩ = some (.int .i64 y0) ∧ wx.cell? ⟨w.heap.size + 1, 1, none⟩ = some (.slice y1 y2 y3) ∧ wx.cell? ⟨bq, 0, none⟩ = some (.int .i64 q0) ∧ wx.cell? ⟨bq, 1, none⟩ = some (.slice q1 q2 q3) ∧ wx.cell? ⟨br, 0, none⟩ = some (.int .i64 r0) ∧ wx.cell? ⟨br, 1, none⟩ = some (.slice r1 r2 r3)) ∧ Hid (Zr (N + 3) wx (.agg #[.int .i64 q0, .slice q1 q2 q3]) (n / d)))
  case first =>
    rcases hsg3 with rfl | rfl | rfl
    · go_wp2
      go_meet
      exact ⟨by rw [unhide hcnd]; simp, hide ⟨hB, hbx, f0, f1, qc0, qc1, rc0, rc1⟩, ZQ⟩
    · go_wp2_with fail
      go_fit (isOdd_any (N := N + 2) _ (unhide ZQ) (by omega))
      rintro e9 Y3 ⟨rfl, hb⟩
      have hK := keepK8 hb ⟨hB, hbx, f0, f1, qc0, qc1, rc0, rc1⟩
      go_wp2
      go_meet
      exact ⟨by rw [unhide hcnd]; simp, hide hK, hide ((unhide ZQ).later hb)⟩
    · go_wp2
      go_meet
      exact ⟨by rw [unhide hcnd]; simp, hide ⟨hB, hbx, f0, f1, qc0, qc1, rc0, rc1⟩, ZQ⟩
  case rest =>
    obtain ⟨rfl, HK, ZQ⟩ := hcut
    obtain ⟨Y4, rfl⟩ : ∃ X, X = wc := ⟨_, rfl⟩
    clear hB hbx f0 f1 qc0 qc1 rc0 rc1 hcnd hsg3
    obtain ⟨hB, hbx, f0, f1, qc0, qc1, rc0, rc1⟩ := unhide HK
    rcases bw with _ | _
    · have hr : rnd n d = n / d := by unfold rnd; rw [if_neg (of_decide_eq_false (unhide HBW))]
      obtain ⟨⟨j0, g0⟩, ⟨j1, j2, j3, g1⟩, gf⟩ := hbx.cells
      have hlt := box_lt hbx
      go_wp2
      obtain ⟨st0, st1⟩ := hbx.stored (.int .i64 q0) (.slice q1 q2 q3)
      exact bodyPost_ret (v := .agg #[.int .i64 q0, .slice q1 q2 q3]) (by simp [results, Tryz.results110, go_sem, st0, st1]) rfl ⟨⟨_, rfl, (((unhide ZQ).stored hbx _ _).mono (by omega)).eq hr.symm⟩, below_stored hB (by omega) _ _⟩
    · have hr : rnd n d = n / d + 1 := by unfold rnd; rw [if_pos (of_decide_eq_true (unhide HBW))]
      go_wp2_with fail
      have S0 := hide (show Below w.heap.size w Y4.drew ∧ Box Y4.drew (w.heap.size + 2) ∧ Y4.drew.cell? ⟨w.heap.size + 1, 0, none⟩ = some (.int .i64 y0) ∧ Y4.drew.cell? ⟨w.heap.size + 1, 1, none⟩ = some (.slice y1 y2 y3) ∧ Y4.drew.cell? ⟨bq, 0, none⟩ = some (.int .i64 q0) ∧ Y4.drew.cell? ⟨bq, 1, none⟩ = some (.slice q1 q2 q3) ∧ Y4.drew.cell? ⟨br, 0, none⟩ = some (.int .i64 r0) ∧ Y4.drew.cell? ⟨br, 1, none⟩ = some (.slice r1 r2 r3) from ⟨hB.drew, hbx, f0, f1, qc0, qc1, rc0, rc1⟩)
      go_region_held3 (fun w' => Below w.heap.size w w' ∧ Box w' (w.heap.size + 2) ∧ w'.cell? ⟨w.heap.size + 1, 0, none⟩ = some (.int .i64 y0) ∧ w'.cell? ⟨w.heap.size + 1, 1, none⟩ = some (.slice y1 y2 y3) ∧ w'.cell? ⟨bq, 0, none⟩ = some (.int .i64 q0) ∧ w'.cell? ⟨bq, 1, none⟩ = some (.slice q1 q2 q3) ∧ w'.cell? ⟨br, 0, none⟩ = some (.int .i64 r0) ∧ w'.cell? ⟨br, 1, none⟩ = some (.slice r1 r2 r3))
        (first | with_reducible exact unhide S2 | with_reducible exact unhide S1 | with_reducible exact unhide S0 | with_reducible exact outK8 (unhide S2) hlt1 hlr1 _ _ _ _)
        (first
          | (go_at_call 74; go_fit (of_any 1 _); rintro e9 Y5 ⟨rfl, hb⟩; have S1 := hide (keepK8 hb (unhide S0)); have ZQ := hide (Zr.later (w := Y4.drew) (unhide ZQ) hb); clear hb)
          | (go_at_call 12; go_fit (add_any (N := N + 2) _ (unhide ZQ) (Zr.near _ (by decide) (by decide)) (by omega)); rintro e9 Y6 ⟨⟨v9, rfl, hZ9⟩, hb⟩; obtain ⟨u0, u1, u2, u3, rfl⟩ := hZ9.shape; have S2 := hide (keepK8 hb (unhide S1)); have hbx := (unhide S2).2.1; obtain ⟨⟨j0, g0⟩, ⟨j1, j2, j3, g1⟩, gf⟩ := hbx.cells; have hlt := box_lt hbx; have HZ9 := hide hZ9; clear hb hZ9))
      have hB := (unhide S2).1
      have hbx := (unhide S2).2.1
      go_wp2
      obtain ⟨st0, st1⟩ := hbx.stored (.int .i64 u0) (.slice u1 u2 u3)
      exact bodyPost_ret (v := .agg #[.int .i64 u0, .slice u1 u2 u3]) (by simp [results, Tryz.results110, go_sem, st0, st1]) rfl ⟨⟨_, rfl, ((unhide HZ9).stored hbx _ _).eq hr.symm⟩, below_stored hB (by omega) _ _⟩
end Go.Proofs.YtmhebjeefdanmaaGreatDoor
namespace Go.Proofs.YtmhebjeefdanmaaGreatDoor
open Go.RowKit

theorem Rr.num {N : Nat} {w : World} {x1 : Int} {x2 : Option Addr} {x3 x4 : Nat} {x5 : Int} {x6 : Option Addr} {x7 x8 : Nat} {p d : Int} (h : Rr N w (.agg #[.int .i64 x1, .slice x2 x3 x4, .int .i64 x5, .slice x6 x7 x8]) p d) : Zr N w (.agg #[.int .i64 x1, .slice x2 x3 x4]) p ∧ 0 < d := by
  obtain ⟨x, a, n, c, y, b, m, k, e, hv, h2, h3, d0, _⟩ := h
  obtain ⟨rfl, ⟨rfl, rfl, rfl⟩, _⟩ : x1 = x ∧ (x2 = a ∧ x3 = n ∧ x4 = c) ∧ x5 = y ∧ x6 = b ∧ x7 = m ∧ x8 = k := by simpa using hv
  exact ⟨h2, d0⟩
theorem repeat_one : ∀ c : Nat, Lib.repeatL [48] c = List.replicate c 48
  | 0 => rfl
  | c + 1 => by rw [Lib.repeatL, repeat_one c]; rfl
/-- strings.Repeat of one nought. -/
theorem repeat_op (c : Nat) (w : World) (hc : c ≤ 61) :
    Calls Tryz.prog 91 #[.string ⟨#[48]⟩, .int .i64 c] w fun e w' => ∃ s : ByteArray, e = .returned (.string s) ∧ s.size = c ∧ Hid (s.data.toList = List.replicate c 48) ∧ Below w.heap.size w w' := by
  match c, hc with
  | 0, _ => exact (Tryz.strings_Repeat_zero ⟨#[48]⟩ w).mono fun _ _ ⟨he, hw⟩ => ⟨_, he, rfl, rfl, hw ▸ Below.refl _ _⟩
  | 1, _ => exact (Tryz.strings_Repeat_one ⟨#[48]⟩ w).mono fun _ _ ⟨he, hw⟩ => ⟨_, he, rfl, rfl, hw ▸ Below.refl _ _⟩
  | c + 2, hc =>
    refine (Tryz.strings_Repeat_main ⟨#[48]⟩ (c + 2) w (by omega) (by omega) ?_ (by decide)).mono fun _ _ ⟨he, hb⟩ => ⟨_, he, ?_, ?_, hb⟩
    · show 1 * (c + 2) ≤ _
      omega
    · show (Lib.repeatL [48] (c + 2)).toArray.size = c + 2
      rw [repeat_one]; simp
    · show (Lib.repeatL [48] (c + 2)).toArray.toList = _
      rw [repeat_one]
theorem ba_eq {s : ByteArray} {l : List UInt8} (h : s.data.toList = l) : s = ⟨l.toArray⟩ := by
  obtain ⟨⟨k⟩⟩ := s
  subst h
  rfl
theorem ba_app (s t : ByteArray) : (s ++ t).data.toList = s.data.toList ++ t.data.toList := by
  obtain ⟨⟨a⟩⟩ := s
  obtain ⟨⟨b⟩⟩ := t
  simp
theorem ba_size (s : ByteArray) : s.data.toList.length = s.size := by
  obtain ⟨⟨a⟩⟩ := s
  rfl
theorem point_data {s : ByteArray} {l : List UInt8} {k : Nat} (h : s.data.toList = l) (_hk : k < s.size) (k0 : k ≠ 0) : ((s.extract 0 (s.size - k) ++ ⟨#[46]⟩) ++ s.extract (s.size - k) s.size : ByteArray) = ⟨(pointed l k).toArray⟩ := by
  apply ba_eq
  have hl : l.length = s.size := by rw [← h]; exact ba_size s
  rw [ba_app, ba_app, Lib.extract_data, Lib.extract_to_end, h]
  unfold pointed
  rw [if_neg k0, hl]
  simp

theorem put8 {w w1 : World} {b0 b1 b2 b3 b4 b5 b6 b7 o0 o1 o2 o3 o4 o5 o6 o7 : Nat} {v0 v1 v2 v3 v4 v5 v6 v7 : Value} (h : Below w.heap.size w w1 ∧ w1.cell? ⟨b0, o0, none⟩ = some v0 ∧ w1.cell? ⟨b1, o1, none⟩ = some v1 ∧ w1.cell? ⟨b2, o2, none⟩ = some v2 ∧ w1.cell? ⟨b3, o3, none⟩ = some v3 ∧ w1.cell? ⟨b4, o4, none⟩ = some v4 ∧ w1.cell? ⟨b5, o5, none⟩ = some v5 ∧ w1.cell? ⟨b6, o6, none⟩ = some v6 ∧ w1.cell? ⟨b7, o7, none⟩ = some v7) {q : Nat} (hq : w.heap.size ≤ q) (n0 : b0 ≠ q) (n1 : b1 ≠ q) (n2 : b2 ≠ q) (n3 : b3 ≠ q) (n4 : b4 ≠ q) (n5 : b5 ≠ q) (n6 : b6 ≠ q) (n7 : b7 ≠ q) (u u' : Value) : Below w.heap.size w ((w1.setCell ⟨q, 0, none⟩ u).setCell ⟨q, 1, none⟩ u') ∧ ((w1.setCell ⟨q, 0, none⟩ u).setCell ⟨q, 1, none⟩ u').cell? ⟨b0, o0, none⟩ = some v0 ∧ ((w1.setCell ⟨q, 0, none⟩ u).setCell ⟨q, 1, none⟩ u').cell? ⟨b1, o1, none⟩ = some v1 ∧ ((w1.setCell ⟨q, 0, none⟩ u).setCell ⟨q, 1, none⟩ u').cell? ⟨b2, o2, none⟩ = some v2 ∧ ((w1.setCell ⟨q, 0, none⟩ u).setCell ⟨q, 1, none⟩ u').cell? ⟨b3, o3, none⟩ = some v3 ∧ ((w1.setCell ⟨q, 0, none⟩ u).setCell ⟨q, 1, none⟩ u').cell? ⟨b4, o4, none⟩ = some v4 ∧ ((w1.setCell ⟨q, 0, none⟩ u).setCell ⟨q, 1, none⟩ u').cell? ⟨b5, o5, none⟩ = some v5 ∧ ((w1.setCell ⟨q, 0, none⟩ u).setCell ⟨q, 1, none⟩ u').cell? ⟨b6, o6, none⟩ = some v6 ∧ ((w1.setCell ⟨q, 0, none⟩ u).setCell ⟨q, 1, none⟩ u').cell? ⟨b7, o7, none⟩ = some v7 := by
  have hc : ∀ b o v, b ≠ q → w1.cell? ⟨b, o, none⟩ = some v → ((w1.setCell ⟨q, 0, none⟩ u).setCell ⟨q, 1, none⟩ u').cell? ⟨b, o, none⟩ = some v := fun b o v hb hv => by
    rw [cell?_setCell_ne _ _ _ _ _ _ (by omega), cell?_setCell_ne _ _ _ _ _ _ (by omega)]; exact hv
  exact ⟨below_stored h.1 hq _ _, hc _ _ _ n0 h.2.1, hc _ _ _ n1 h.2.2.1, hc _ _ _ n2 h.2.2.2.1, hc _ _ _ n3 h.2.2.2.2.1, hc _ _ _ n4 h.2.2.2.2.2.1, hc _ _ _ n5 h.2.2.2.2.2.2.1, hc _ _ _ n6 h.2.2.2.2.2.2.2.1, hc _ _ _ n7 h.2.2.2.2.2.2.2.2⟩
theorem drew8 {w w1 : World} {b0 b1 b2 b3 b4 b5 b6 b7 o0 o1 o2 o3 o4 o5 o6 o7 : Nat} {v0 v1 v2 v3 v4 v5 v6 v7 : Value} {o : Obj} (h : Below w.heap.size w w1.drew ∧ w1.drew.cell? ⟨b0, o0, none⟩ = some v0 ∧ w1.drew.cell? ⟨b1, o1, none⟩ = some v1 ∧ w1.drew.cell? ⟨b2, o2, none⟩ = some v2 ∧ w1.drew.cell? ⟨b3, o3, none⟩ = some v3 ∧ w1.drew.cell? ⟨b4, o4, none⟩ = some v4 ∧ w1.drew.cell? ⟨b5, o5, none⟩ = some v5 ∧ w1.drew.cell? ⟨b6, o6, none⟩ = some v6 ∧ w1.drew.cell? ⟨b7, o7, none⟩ = some v7) : Below w.heap.size w (w1.alloc o).drew ∧ (w1.alloc o).drew.cell? ⟨b0, o0, none⟩ = some v0 ∧ (w1.alloc o).drew.cell? ⟨b1, o1, none⟩ = some v1 ∧ (w1.alloc o).drew.cell? ⟨b2, o2, none⟩ = some v2 ∧ (w1.alloc o).drew.cell? ⟨b3, o3, none⟩ = some v3 ∧ (w1.alloc o).drew.cell? ⟨b4, o4, none⟩ = some v4 ∧ (w1.alloc o).drew.cell? ⟨b5, o5, none⟩ = some v5 ∧ (w1.alloc o).drew.cell? ⟨b6, o6, none⟩ = some v6 ∧ (w1.alloc o).drew.cell? ⟨b7, o7, none⟩ = some v7 := keep8 (w1 := w1.drew) (w2 := (w1.alloc o).drew) (below_new w1.drew o) h

set_option maxHeartbeats 8000000 in
set_option maxRecDepth 8000 in
/-- Decimal. -/
theorem qdecimal_any {N : Nat} {v : Value} {p d : Int} (k : Int) (w : World) (h : Rr (N + 1) w v p d) (hN : N ≤ 400) (htab : Lib.TabIs Tryz.prog w "internal/strconv.uint64pow10" .u64 Lib.pow10Tab) :
    Calls Tryz.prog 61 #[v, .int .i64 k] w fun e w' => e = .returned (.string (decimal p d (plc k))) ∧ Below w.heap.size w w' := by
  have h0 := h
  obtain ⟨x1, x2, x3, x4, x5, x6, x7, x8, rfl⟩ := h.shape
  have hst := R1.start w x1 x5 x2 x6 x3 x4 x7 x8
  obtain ⟨RES, HRES⟩ : ∃ s, Hid (decimal p d (plc k) = s) := ⟨_, rfl⟩
  rw [show decimal p d (plc k) = RES from unhide HRES]
  have HTAB := hide htab
  clear htab
  go_enter Tryz.func61, Tryz.ntmps61
  go_upto_region 1 with fail
  obtain ⟨W0, hW0⟩ : ∃ W0, W0 = w.alloc (.cells #[.int .i64 x1, .slice x2 x3 x4, .int .i64 x5, .slice x6 x7 x8] 52) := ⟨_, rfl⟩
  rw [← hW0] at hst
  first | rw [← hW0] | (change Code.wp _ _ _ _ (w.alloc (.cells #[.int .i64 x1, .slice x2 x3 x4, .int .i64 x5, .slice x6 x7 x8] 52)); rw [← hW0])
  clear hW0
  obtain ⟨kk, HKK⟩ : ∃ kk, Hid (plc k = kk) := ⟨_, rfl⟩
  have hkk : kk ≤ 60 := by rw [← unhide HKK]; exact plc_le k
  go_cut [1] (fun kv wx => kv = .int .i64 (kk : Nat) ∧ W0 = wx)
  case first =>
    go_wp2
    go_meet
    exact ⟨by rw [← unhide HKK, plc_is], rfl⟩
  case rest =>
    obtain ⟨rfl, rfl⟩ := hcut
    rw [unhide HKK] at HRES
    obtain ⟨hB, e0, e1, e2, e3⟩ := hst
    go_upto_region 3 with fail
    obtain ⟨W1, hW1⟩ : ∃ W1, W1 = W0.alloc (.cells #[.int .i64 x1, .slice x2 x3 x4, .int .i64 x5, .slice x6 x7 x8] 52) := ⟨_, rfl⟩
    have kn := below_new W0 (.cells #[.int .i64 x1, .slice x2 x3 x4, .int .i64 x5, .slice x6 x7 x8] 52)
    have hbs : RBox (W0.alloc (.cells #[.int .i64 x1, .slice x2 x3 x4, .int .i64 x5, .slice x6 x7 x8] 52)) W0.heap.size := rbox_new W0 _ _ _ _ _ _ _ _
    have sc := c4_new (w := W0) (.int .i64 x1) (.slice x2 x3 x4) (.int .i64 x5) (.slice x6 x7 x8) 52
    have lt0 : w.heap.size < W0.heap.size := World.block_lt_of_cell? _ _ e0
    obtain ⟨bs, hbsz⟩ : ∃ X, X = W0.heap.size := ⟨_, rfl⟩
    rw [← hW1] at kn hbs sc
    rw [← hbsz] at hbs sc lt0
    first | rw [← hW1] | (change Code.wp _ _ _ _ (W0.alloc (.cells #[.int .i64 x1, .slice x2 x3 x4, .int .i64 x5, .slice x6 x7 x8] 52)); rw [← hW1])
    try rw [← hbsz]
    have hB := below_keep kn hB
    have e0 := cell_keep kn e0
    have e1 := cell_keep kn e1
    have e2 := cell_keep kn e2
    have e3 := cell_keep kn e3
    clear hW1 kn hbsz
    go_wp2_with fail
    go_fit (qsign_any _ (h0.later hB))
    rintro e9 W2 ⟨rfl, hb⟩
    have hB := below_keep hb hB
    have e0 := cell_keep hb e0
    have e1 := cell_keep hb e1
    have e2 := cell_keep hb e2
    have e3 := cell_keep hb e3
    have sc := c4_keep hb sc
    have hbs := hbs.later hb
    clear hb
    obtain ⟨t0, t1, t2, t3⟩ := sc
    obtain ⟨sg, HSG⟩ : ∃ s, Hid (sgn p = s) := ⟨_, rfl⟩
    rw [show sgn p = sg from unhide HSG]
    have hsg : (sg < 0 ∧ p < 0) ∨ (¬ sg < 0 ∧ 0 ≤ p) := by have := unhide HSG; rcases sgn_val p with ⟨_, e, _⟩ | ⟨_, e, _⟩ | ⟨_, e, _⟩ <;> omega
    go_upto_if 15 with fail
    go_cut [5] (fun sv wx => ∃ s1 s2 s3 s4 s5 s6 s7 s8, sv = .pointer (some ⟨bs, 0, none⟩) ∧ Rr (N + 1) wx (.agg #[.int .i64 s1, .slice s2 s3 s4, .int .i64 s5, .slice s6 s7 s8]) (p.natAbs : Int) d ∧ Below w.heap.size w wx ∧ wx.cell? ⟨w.heap.size, 0, none⟩ = some (.int .i64 x1) ∧ wx.cell? ⟨w.heap.size, 1, none⟩ = some (.slice x2 x3 x4) ∧ wx.cell? ⟨w.heap.size, 2, none⟩ = some (.int .i64 x5) ∧ wx.cell? ⟨w.heap.size, 3, none⟩ = some (.slice x6 x7 x8) ∧ wx.cell? ⟨bs, 0, none⟩ = some (.int .i64 s1) ∧ wx.cell? ⟨bs, 1, none⟩ = some (.slice s2 s3 s4) ∧ wx.cell? ⟨bs, 2, none⟩ = some (.int .i64 s5) ∧ wx.cell? ⟨bs, 3, none⟩ = some (.slice s6 s7 s8))
    case first =>
      have lbs := hbs.lt
      have nb : bs ≠ w.heap.size := by omega
      have nb' : w.heap.size ≠ bs := by omega
      rcases hsg with ⟨hs, hp⟩ | ⟨hs, hp⟩
      · go_wp2_with fail
        go_fit (qneg_any (N := N) _ (h0.later hB))
        rintro e9 W3 ⟨⟨v3, rfl, hR⟩, hb⟩
        have hR0 := hR
        obtain ⟨s1, s2, s3, s4, s5, s6, s7, s8, e8, rfl, hP3, hD3, D0, hG3, hE3⟩ := hR
        have hB := below_keep hb hB
        have hbs := hbs.later hb
        have e0 := cell_keep hb e0
        have e1 := cell_keep hb e1
        have e2 := cell_keep hb e2
        have e3 := cell_keep hb e3
        obtain ⟨⟨j0, g0⟩, ⟨j1, j2, j3, g1⟩, ⟨j4, g2⟩, ⟨j5, j6, j7, g3⟩, gf⟩ := hbs.cells
        have hlt := hbs.lt
        have HF := hide (And.intro D0 (And.intro hG3 hE3))
        clear hb t0 t1 t2 t3 D0 hG3 hE3
        go_wp2
        go_meet
        obtain ⟨st0, st1, st2, st3⟩ := hbs.stored (.int .i64 s1) (.slice s2 s3 s4) (.int .i64 s5) (.slice s6 s7 s8)
        have hab : ((p.natAbs : Nat) : Int) = -p := by omega
        have hcc : ∀ o v, W3.cell? ⟨w.heap.size, o, none⟩ = some v → ((((W3.setCell ⟨bs, 0, none⟩ (.int .i64 s1)).setCell ⟨bs, 1, none⟩ (.slice s2 s3 s4)).setCell ⟨bs, 2, none⟩ (.int .i64 s5)).setCell ⟨bs, 3, none⟩ (.slice s6 s7 s8)).cell? ⟨w.heap.size, o, none⟩ = some v := fun o v hv => by
          rw [cell?_setCell_ne _ _ _ _ _ _ (by omega), cell?_setCell_ne _ _ _ _ _ _ (by omega), cell?_setCell_ne _ _ _ _ _ _ (by omega), cell?_setCell_ne _ _ _ _ _ _ (by omega)]; exact hv
        exact ⟨_, _, _, _, _, _, _, _, rfl, ⟨_, _, _, _, _, _, _, _, e8, rfl, hab ▸ hP3.rstored hbs _ _ _ _, hD3.rstored hbs _ _ _ _, (unhide HF).1, hab ▸ (unhide HF).2.1, (unhide HF).2.2⟩, below_rstored hB (by omega) _ _ _ _, hcc _ _ e0, hcc _ _ e1, hcc _ _ e2, hcc _ _ e3, st0, st1, st2, st3⟩
      · go_wp2
        go_meet
        have hab : ((p.natAbs : Nat) : Int) = p := by omega
        exact ⟨_, _, _, _, _, _, _, _, rfl, hab ▸ (h0.later hB), hB, e0, e1, e2, e3, t0, t1, t2, t3⟩
    case rest =>
      obtain ⟨s1, s2, s3, s4, s5, s6, s7, s8, rfl, hRS, hst⟩ := hcut
      obtain ⟨W4, rfl⟩ : ∃ X, X = wc := ⟨_, rfl⟩
      clear hB e0 e1 e2 e3 t0 t1 t2 t3 hbs hsg
      obtain ⟨hB, e0, e1, e2, e3, t0, t1, t2, t3⟩ := hst
      have lbs : bs < W4.heap.size := World.block_lt_of_cell? _ _ t0
      have lb0 : w.heap.size < W4.heap.size := World.block_lt_of_cell? _ _ e0
      have HRS := hide hRS
      obtain ⟨hZN, D0⟩ := hRS.num
      have ZN := hide hZN
      have HD0 := hide D0
      clear hZN D0 hRS
      obtain ⟨st, HST⟩ : ∃ q, Hid (rnd ((p.natAbs : Int) * 10 ^ kk) d = q) := ⟨_, rfl⟩
      go_upto_region 5 with fail
      go_cut [6] (fun sv wx => ∃ b6 z0 z1 z2 z3, sv = .pointer (some ⟨b6, 0, none⟩) ∧ Vr wx b6 z0 z1 z2 z3 (2 * (N + 17) + 3) st ∧ Below w.heap.size w wx ∧ wx.cell? ⟨w.heap.size, 0, none⟩ = some (.int .i64 x1) ∧ wx.cell? ⟨w.heap.size, 1, none⟩ = some (.slice x2 x3 x4) ∧ wx.cell? ⟨w.heap.size, 2, none⟩ = some (.int .i64 x5) ∧ wx.cell? ⟨w.heap.size, 3, none⟩ = some (.slice x6 x7 x8) ∧ wx.cell? ⟨bs, 0, none⟩ = some (.int .i64 s1) ∧ wx.cell? ⟨bs, 1, none⟩ = some (.slice s2 s3 s4) ∧ wx.cell? ⟨bs, 2, none⟩ = some (.int .i64 s5) ∧ wx.cell? ⟨bs, 3, none⟩ = some (.slice s6 s7 s8))
      case first =>
        have tok1 : True := trivial
        have S0 := hide (show Below w.heap.size w W4.drew ∧ W4.drew.cell? ⟨w.heap.size, 0, none⟩ = some (.int .i64 x1) ∧ W4.drew.cell? ⟨w.heap.size, 1, none⟩ = some (.slice x2 x3 x4) ∧ W4.drew.cell? ⟨w.heap.size, 2, none⟩ = some (.int .i64 x5) ∧ W4.drew.cell? ⟨w.heap.size, 3, none⟩ = some (.slice x6 x7 x8) ∧ W4.drew.cell? ⟨bs, 0, none⟩ = some (.int .i64 s1) ∧ W4.drew.cell? ⟨bs, 1, none⟩ = some (.slice s2 s3 s4) ∧ W4.drew.cell? ⟨bs, 2, none⟩ = some (.int .i64 s5) ∧ W4.drew.cell? ⟨bs, 3, none⟩ = some (.slice s6 s7 s8) from ⟨hB.drew, e0, e1, e2, e3, t0, t1, t2, t3⟩)
        go_region_held3 (fun w' => Below w.heap.size w w' ∧ w'.cell? ⟨w.heap.size, 0, none⟩ = some (.int .i64 x1) ∧ w'.cell? ⟨w.heap.size, 1, none⟩ = some (.slice x2 x3 x4) ∧ w'.cell? ⟨w.heap.size, 2, none⟩ = some (.int .i64 x5) ∧ w'.cell? ⟨w.heap.size, 3, none⟩ = some (.slice x6 x7 x8) ∧ w'.cell? ⟨bs, 0, none⟩ = some (.int .i64 s1) ∧ w'.cell? ⟨bs, 1, none⟩ = some (.slice s2 s3 s4) ∧ w'.cell? ⟨bs, 2, none⟩ = some (.int .i64 s5) ∧ w'.cell? ⟨bs, 3, none⟩ = some (.slice s6 s7 s8))
          (first | with_reducible exact unhide S4 | with_reducible exact unhide S3 | with_reducible exact unhide S2 | with_reducible exact unhide S1 | with_reducible exact unhide S0 | with_reducible exact keep8 (below_new _ _) (by assumption) | with_reducible exact drew8 (by assumption) | with_reducible exact put8 (unhide S4) (Nat.le_trans (Nat.le_of_lt lb0) qs) n0 n0 n0 n0 n1 n1 n1 n1 _ _ | with_reducible exact keep8 (below_new _ _) (unhide S4))
          (first
            | (go_at_call 111; go_fit (tenTo_any kk _ (by omega)); rintro e9 q1 ⟨⟨v1, rfl, hP1⟩, hb1⟩; obtain ⟨i1, i2, i3, i4, rfl⟩ := hP1.shape; have S1 := hide (keep8 hb1 (by assumption)); have hq1 := below_keep hb1 (show Below W4.heap.size W4 _ from (by first | exact (Below.refl _ _).drew | exact (below_new _ _).drew)); have sz1 := hq1.size; (first | (have BXa : Hid (Box q1 W4.heap.size) := (by with_reducible exact hide (bx1d hb1)); have qs : W4.heap.size ≤ W4.heap.size := Nat.le_refl _) | (replace BXa := hide ((unhide BXa).later hq1)) | skip); have ZN := hide ((unhide ZN).later hq1); have HRS := hide ((unhide HRS).later hq1); clear hb1 hq1)
            | (go_at_call 14; go_fit (mul_any (N := N + 16) _ (((unhide ZN).later (by first | exact Below.refl _ _ | exact below_new _ _)).mono (by omega)) ((hP1.later (by first | exact Below.refl _ _ | exact below_new _ _)).mono (by omega)) (by omega)); rintro e9 q2 ⟨⟨v2, rfl, hP2⟩, hb2⟩; obtain ⟨i5, i6, i7, i8, rfl⟩ := hP2.shape; have S2 := hide (keep8 hb2 (by assumption)); have hq2 := below_keep hb2 (show Below q1.heap.size q1 _ from (by first | exact Below.refl _ _ | exact below_new _ _)); have sz2 := Nat.le_trans sz1 hq2.size; (first | (have BXa : Hid (Box q2 q1.heap.size) := (by with_reducible exact hide (bx1 hb2)); have qs : W4.heap.size ≤ q1.heap.size := sz1) | (replace BXa := hide ((unhide BXa).later hq2)) | skip); have HRS := hide ((unhide HRS).later hq2); clear hb2 hq2 hP1 ZN)
            | (go_at_call 35; go_fit (den_any _ ((unhide HRS).later (by first | exact Below.refl _ _ | exact below_new _ _))); rintro e9 q3 ⟨⟨v3, rfl, hP3⟩, hb3⟩; obtain ⟨i9, i10, i11, i12, rfl⟩ := hP3.shape; have S3 := hide (keep8 hb3 (by assumption)); have hq3 := below_keep hb3 (show Below q2.heap.size q2 _ from (by first | exact Below.refl _ _ | exact below_new _ _)); have sz3 := Nat.le_trans sz2 hq3.size; (first | (have BXa : Hid (Box q3 q2.heap.size) := (by with_reducible exact hide (bx1 hb3)); have qs : W4.heap.size ≤ q2.heap.size := sz2) | (replace BXa := hide ((unhide BXa).later hq3)) | skip); have hP2 := hP2.later hq3; clear hb3 hq3 HRS)
            | (go_at_call 110; go_fit (nearest_any (N := 2 * (N + 17) - 1) _ ((hP2.later (by first | exact Below.refl _ _ | exact below_new _ _)).mono (by omega)) ((hP3.later (by first | exact Below.refl _ _ | exact below_new _ _)).mono (by omega)) (unhide HD0) (by omega)); rintro e9 q4 ⟨⟨v4, rfl, hP4⟩, hb4⟩; obtain ⟨i13, i14, i15, i16, rfl⟩ := hP4.shape; have S4 := hide (keep8 hb4 (by assumption)); have hq4 := below_keep hb4 (show Below q3.heap.size q3 _ from (by first | exact Below.refl _ _ | exact below_new _ _)); have sz4 := Nat.le_trans sz3 hq4.size; (first | (have BXa : Hid (Box q4 q3.heap.size) := (by with_reducible exact hide (bx1 hb4)); have qs : W4.heap.size ≤ q3.heap.size := sz3) | (replace BXa := hide ((unhide BXa).later hq4)) | skip); have HP4 := hide hP4; (first | (obtain ⟨⟨z0, zz0⟩, ⟨z1, z2, z3, zz1⟩, zzf⟩ := (unhide BXa).cells; have hlb := box_lt (unhide BXa); have n0 := Nat.ne_of_lt (Nat.lt_of_lt_of_le lb0 qs); have n1 := Nat.ne_of_lt (Nat.lt_of_lt_of_le lbs qs)) | skip); clear hb4 hq4 hP2 hP3 hP4))
        all_goals
          go_wp2
          go_meet
          first
            | exact ⟨_, _, _, _, _, rfl, (fun v => ⟨v.c0, v.c1, v.box, (v.zr.mono (by omega)).eq (unhide HST)⟩) (Vr.new (unhide HP4)), keep8 (below_new _ _) (unhide S4)⟩
            | exact ⟨_, _, _, _, _, rfl, (fun v => ⟨v.c0, v.c1, v.box, (v.zr.mono (by omega)).eq (unhide HST)⟩) (Vr.in (unhide BXa) (unhide HP4)), put8 (unhide S4) (Nat.le_trans (Nat.le_of_lt lb0) qs) n0 n0 n0 n0 n1 n1 n1 n1 _ _⟩
      case rest =>
        obtain ⟨b6, z0, z1, z2, z3, rfl, hv, hst⟩ := hcut
        obtain ⟨W5, rfl⟩ : ∃ X, X = wc := ⟨_, rfl⟩
        clear hB e0 e1 e2 e3 t0 t1 t2 t3 lbs lb0 ZN HRS
        obtain ⟨hB, e0, e1, e2, e3, -, -, -, -⟩ := hst
        have c0 := hv.c0
        have c1 := hv.c1
        go_wp2_with fail
        go_fit (text_op _ hv.zr (by omega) (tab_later (unhide HTAB) hB))
        rintro e9 W6 ⟨sx, rfl, hsx, HSX, hb⟩
        have hB := below_keep hb hB
        have e0 := cell_keep hb e0
        have e1 := cell_keep hb e1
        have e2 := cell_keep hb e2
        have e3 := cell_keep hb e3
        have hv := hv.keep hb
        clear hb c0 c1
        have c0 := hv.c0
        have c1 := hv.c1
        have hkki : (kk : Int) ≤ 60 := by omega
        have hsxi : (sx.size : Int) ≤ 30000 := by omega
        go_upto_region 7 with fail
        go_cut [7] (fun tv wx => ∃ s1 : ByteArray, tv = .string s1 ∧ s1.size ≤ 30100 ∧ kk < s1.size ∧ Hid (s1.data.toList = padded st kk) ∧ Vr wx b6 z0 z1 z2 z3 (2 * (N + 17) + 3) st ∧ Below w.heap.size w wx ∧ wx.cell? ⟨w.heap.size, 0, none⟩ = some (.int .i64 x1) ∧ wx.cell? ⟨w.heap.size, 1, none⟩ = some (.slice x2 x3 x4) ∧ wx.cell? ⟨w.heap.size, 2, none⟩ = some (.int .i64 x5) ∧ wx.cell? ⟨w.heap.size, 3, none⟩ = some (.slice x6 x7 x8))
        case first =>
          go_wp2_with fail
          rw [show max ((kk : Int) + 1 - (sx.size : Int)) 0 = ((kk + 1 - sx.size : Nat) : Int) by omega]
          go_fit (repeat_op (kk + 1 - sx.size) _ (by omega))
          rintro e9 W7 ⟨sr, rfl, hsr, HSR, hb⟩
          have hB := below_keep hb hB
          have e0 := cell_keep hb e0
          have e1 := cell_keep hb e1
          have e2 := cell_keep hb e2
          have e3 := cell_keep hb e3
          have hv := hv.keep hb
          have hbig : ¬ 9223372036854775807 < sr.size + sx.size := by omega
          clear hb c0 c1
          go_wp2
          go_meet
          have hl : (sr ++ sx).data.toList = padded st kk := by
            rw [ba_app, unhide HSR, unhide HSX]
            rfl
          exact ⟨_, rfl, by rw [ByteArray.size_append]; omega, by rw [ByteArray.size_append]; omega, hl, hv, hB, e0, e1, e2, e3⟩
        case rest =>
          obtain ⟨sp, rfl, hsp, hkp, HSP, hv, hB, e0, e1, e2, e3⟩ := hcut
          obtain ⟨W8, rfl⟩ : ∃ X, X = wc := ⟨_, rfl⟩
          clear c0 c1 hsx hsxi HSX
          have c0 := hv.c0
          have c1 := hv.c1
          have hsg : (sg < 0 ∧ p < 0) ∨ (¬ sg < 0 ∧ 0 ≤ p) := by have := unhide HSG; rcases sgn_val p with ⟨_, e, _⟩ | ⟨_, e, _⟩ | ⟨_, e, _⟩ <;> omega
          obtain ⟨bn, HBN⟩ : ∃ b, Hid (decide (p < 0 ∧ 0 < st) = b) := ⟨_, rfl⟩
          go_upto_region 8 with fail
          go_cut [44] (fun bv wx => bv = .bool bn ∧ Below w.heap.size w wx)
          case first =>
            go_wp2_with fail
            go_fit (qsign_any _ (h0.later hB))
            rintro e9 W9 ⟨rfl, hb⟩
            rw [show sgn p = sg from unhide HSG]
            have hB := below_keep hb hB
            have hv := hv.keep hb
            clear hb c0 c1 e0 e1 e2 e3
            rcases hsg with ⟨hs, hp⟩ | ⟨hs, hp⟩
            · have c0 := hv.c0
              have c1 := hv.c1
              go_wp2_with fail
              go_fit (sign_zr _ hv.zr)
              rintro e9 W10 ⟨rfl, hb⟩
              have hB := below_keep hb hB
              have hss : (0 < sgn st ∧ 0 < st) ∨ (¬ 0 < sgn st ∧ ¬ 0 < st) := by rcases sgn_val st with ⟨_, e, _⟩ | ⟨_, e, _⟩ | ⟨_, e, _⟩ <;> omega
              clear hb c0 c1
              rcases hss with ⟨h1, h2⟩ | ⟨h1, h2⟩
              · go_wp2
                go_meet
                exact ⟨by rw [← unhide HBN, decide_eq_true ⟨hp, h2⟩], hB⟩
              · go_wp2
                go_meet
                exact ⟨by rw [← unhide HBN, decide_eq_false (show ¬ (p < 0 ∧ 0 < st) by omega)]; first | rfl | exact congrArg Value.bool (decide_eq_false (show ¬ 0 < sgn st by omega)), hB⟩
            · go_wp2
              go_meet
              exact ⟨by rw [← unhide HBN]; exact congrArg Value.bool (decide_eq_false (by omega)).symm, hB⟩
          case rest =>
            obtain ⟨rfl, hB⟩ := hcut
            obtain ⟨W11, rfl⟩ : ∃ X, X = wc := ⟨_, rfl⟩
            clear c0 c1 hv e0 e1 e2 e3 hsg HSG
            go_upto_if 44 with fail
            go_cut [7] (fun tv wx => ∃ s2 : ByteArray, tv = .string s2 ∧ s2.size ≤ 30200 ∧ kk < s2.size ∧ Hid (s2.data.toList = if bn then 45 :: padded st kk else padded st kk) ∧ W11 = wx)
            case first =>
              rcases bn with _ | _
              · go_wp2
                go_meet
                exact ⟨_, rfl, by omega, hkp, unhide HSP, rfl⟩
              · have hbig : ¬ 9223372036854775807 < 1 + sp.size := by omega
                go_wp2
                go_meet
                refine ⟨_, rfl, ?_, ?_, ?_, rfl⟩
                · rw [ByteArray.size_append]; show 1 + sp.size ≤ _; omega
                · rw [ByteArray.size_append]; show _ < 1 + sp.size; omega
                · show (_ ++ sp).data.toList = _
                  rw [ba_app, unhide HSP]
                  rfl
            case rest =>
              obtain ⟨s2, rfl, hs2, hk2, HS2, rfl⟩ := hcut
              clear hsp hkp HSP
              have hfin : Hid (RES = ⟨(pointed (if bn then 45 :: padded st kk else padded st kk) kk).toArray⟩) := by
                show RES = _
                rw [← unhide HRES, decimal, unhide HST]
                congr 2
                by_cases hc : p < 0 ∧ 0 < st
                · rw [if_pos hc, show bn = true by rw [← unhide HBN]; exact decide_eq_true hc]
                  exact (pointed_minus (padded_length _ _)).symm
                · rw [if_neg hc, show bn = false by rw [← unhide HBN]; exact decide_eq_false hc]
                  rfl
              by_cases hk0 : kk = 0
              · have hk0i : ((kk : Int) == 0) = true := by rw [hk0]; rfl
                have hr : s2 = RES := by rw [unhide hfin, hk0]; exact ba_eq (by rw [unhide HS2, hk0]; rfl)
                subst hr
                go_wp2
                go_ret
                exact ⟨rfl, hB⟩
              · have hk0i : ((kk : Int) == 0) = false := by simp; omega
                have hr := point_data (unhide HS2) hk2 hk0
                rw [← unhide hfin] at hr
                have hs2i : (s2.size : Int) ≤ 30200 := by omega
                have hk2i : (kk : Int) < s2.size := by omega
                have hw1 : ((s2.size : Int) - kk) = ((s2.size - kk : Nat) : Int) := by omega
                have hpt : ((s2.size - kk : Nat) : Int) ≤ (s2.size : Int) := by omega
                have hpt0 : (0 : Int) ≤ ((s2.size - kk : Nat) : Int) := by omega
                have hsA : (s2.extract 0 (s2.size - kk)).size = s2.size - kk := by rw [ByteArray.size_extract]; omega
                have hsB : (s2.extract (s2.size - kk) s2.size).size = kk := by rw [ByteArray.size_extract]; omega
                have hbA : ¬ 9223372036854775807 < s2.size - kk + 1 := by omega
                have hbB : ¬ 9223372036854775807 < s2.size - kk + 1 + kk := by omega
                go_wp2
                go_region
                all_goals
                  go_wp2
                  go_ret
                  exact ⟨by rw [← hr]; rfl, hB.drew⟩
end Go.Proofs.YtmhebjeefdanmaaGreatDoor
namespace Go.Proofs.YtmhebjeefdanmaaGreatDoor
open Go.RowKit

theorem keepK5 {w w1 w2 : World} {x1 x5 : Bool} {x2 x6 : Option Addr} {x3 x4 x7 x8 : Nat} (hb : Below w1.heap.size w1 w2) (h : Below w.heap.size w w1 ∧ w1.cell? ⟨w.heap.size, 0, none⟩ = some (.bool x1) ∧ w1.cell? ⟨w.heap.size, 1, none⟩ = some (.slice x2 x3 x4) ∧ w1.cell? ⟨w.heap.size, 2, none⟩ = some (.bool x5) ∧ w1.cell? ⟨w.heap.size, 3, none⟩ = some (.slice x6 x7 x8)) : Below w.heap.size w w2 ∧ w2.cell? ⟨w.heap.size, 0, none⟩ = some (.bool x1) ∧ w2.cell? ⟨w.heap.size, 1, none⟩ = some (.slice x2 x3 x4) ∧ w2.cell? ⟨w.heap.size, 2, none⟩ = some (.bool x5) ∧ w2.cell? ⟨w.heap.size, 3, none⟩ = some (.slice x6 x7 x8) :=
  ⟨below_keep hb h.1, cell_keep hb h.2.1, cell_keep hb h.2.2.1, cell_keep hb h.2.2.2.1, cell_keep hb h.2.2.2.2⟩
theorem putK5 {w w1 : World} {x1 x5 : Bool} {x2 x6 : Option Addr} {x3 x4 x7 x8 : Nat} (h : Below w.heap.size w w1 ∧ w1.cell? ⟨w.heap.size, 0, none⟩ = some (.bool x1) ∧ w1.cell? ⟨w.heap.size, 1, none⟩ = some (.slice x2 x3 x4) ∧ w1.cell? ⟨w.heap.size, 2, none⟩ = some (.bool x5) ∧ w1.cell? ⟨w.heap.size, 3, none⟩ = some (.slice x6 x7 x8)) {q : Nat} (hq : w.heap.size ≤ q) (hn : w.heap.size ≠ q) (u u' : Value) : Below w.heap.size w ((w1.setCell ⟨q, 0, none⟩ u).setCell ⟨q, 1, none⟩ u') ∧ ((w1.setCell ⟨q, 0, none⟩ u).setCell ⟨q, 1, none⟩ u').cell? ⟨w.heap.size, 0, none⟩ = some (.bool x1) ∧ ((w1.setCell ⟨q, 0, none⟩ u).setCell ⟨q, 1, none⟩ u').cell? ⟨w.heap.size, 1, none⟩ = some (.slice x2 x3 x4) ∧ ((w1.setCell ⟨q, 0, none⟩ u).setCell ⟨q, 1, none⟩ u').cell? ⟨w.heap.size, 2, none⟩ = some (.bool x5) ∧ ((w1.setCell ⟨q, 0, none⟩ u).setCell ⟨q, 1, none⟩ u').cell? ⟨w.heap.size, 3, none⟩ = some (.slice x6 x7 x8) := by
  have hc : ∀ b o v, b ≠ q → w1.cell? ⟨b, o, none⟩ = some v → ((w1.setCell ⟨q, 0, none⟩ u).setCell ⟨q, 1, none⟩ u').cell? ⟨b, o, none⟩ = some v := fun b o v hb hv => by
    rw [cell?_setCell_ne _ _ _ _ _ _ (by omega), cell?_setCell_ne _ _ _ _ _ _ (by omega)]; exact hv
  exact ⟨below_stored h.1 (by omega) _ _, hc _ _ _ (by omega) h.2.1, hc _ _ _ (by omega) h.2.2.1, hc _ _ _ (by omega) h.2.2.2.1, hc _ _ _ (by omega) h.2.2.2.2⟩
/-- A number's size: the same pieces. -/
theorem Nr.size {N : Nat} {w : World} {x : Bool} {a : Option Addr} {n c : Nat} {z : Int} (h : Nr N w (.agg #[.bool x, .slice a n c]) z) : Nr N w (.agg #[.bool false, .slice a n c]) (z.natAbs : Int) := by
  obtain ⟨neg, sl, D, hv, hs, hP, hT, hl, hn, hz⟩ := h
  obtain ⟨rfl, rfl⟩ : x = neg ∧ .slice a n c = sl := by simpa using hv
  have h0 := v4_nonneg hP
  exact ⟨false, _, D, rfl, hs, hP, hT, hl, fun _ => rfl, by cases x <;> simp at hz ⊢ <;> omega⟩
theorem v4_odd {D : List Int} (hD : D ≠ []) : v4 D % 2 = nth D 0 % 2 := by
  cases D with
  | nil => exact absurd rfl hD
  | cons a l => show (a + 10000 * v4 l) % 2 = a % 2; omega
theorem doc_near {n d : Int} (sg : Int) (h : sgn (n % d + n % d - d) = sg) : decide (d < 2 * (n % d) ∨ (2 * (n % d) = d ∧ (n / d) % 2 = 1)) = (decide (0 < sg) || (sg == 0) && decide ((n / d) % 2 = 1)) := by rw [← h]; exact near_cond
theorem itoa_pos (z : Int) : 0 < (Lib.itoa z).length := by
  rw [Lib.itoa]
  split
  · simp
  · rw [Lib.decDigits]
    split <;> simp
/-- Numbers ahead of the point, one nought more ahead. -/
theorem pad_more {q : Int} {k : Nat} {l : List UInt8} {j : Nat} (h : l = List.replicate j 48 ++ Lib.itoa q) (hk : k < l.length) (hj : j = 0 ∨ l.length = k + 1) : l = padded q k := by
  subst h
  unfold padded
  rw [List.length_append, List.length_replicate] at hk hj
  rw [show k + 1 - (Lib.itoa q).length = j by omega]

set_option maxHeartbeats 8000000 in
set_option maxRecDepth 8000 in
/-- Decimal. -/
theorem rdecimal_any {N : Nat} {v : Value} {p d : Int} (k : Int) (w : World) (h : Qr N w v p d) (hN : N ≤ 400) :
    Calls Tryz.prog 62 #[v, .int .i64 k] w fun e w' => e = .returned (.string (decimal p d (plc k))) ∧ Below w.heap.size w w' := by
  obtain ⟨x1, x2, x3, x4, x5, x6, x7, x8, rfl, h2, h3, d0, hg⟩ := h
  have hst := K1.start w x1 x5 x2 x6 x3 x4 x7 x8
  obtain ⟨RES, HRES⟩ : ∃ s, Hid (decimal p d (plc k) = s) := ⟨_, rfl⟩
  rw [show decimal p d (plc k) = RES from unhide HRES]
  have HD0 := hide d0
  clear hg d0
  go_enter Tryz.func62, Tryz.ntmps62
  go_upto_if 15 with fail
  obtain ⟨W0, hW0⟩ : ∃ W0, W0 = w.alloc (.cells #[.bool x1, .slice x2 x3 x4, .bool x5, .slice x6 x7 x8] 56) := ⟨_, rfl⟩
  rw [← hW0] at hst
  first | rw [← hW0] | (change Code.wp _ _ _ _ (w.alloc (.cells #[.bool x1, .slice x2 x3 x4, .bool x5, .slice x6 x7 x8] 56)); rw [← hW0])
  clear hW0
  obtain ⟨kk, HKK⟩ : ∃ kk, Hid (plc k = kk) := ⟨_, rfl⟩
  have hkk : kk ≤ 60 := by rw [← unhide HKK]; exact plc_le k
  obtain ⟨k1, HK1⟩ : ∃ k1, Hid (max k 0 = k1) := ⟨_, rfl⟩
  go_cut [1] (fun kv wx => kv = .int .i64 k1 ∧ W0 = wx)
  case first =>
    by_cases hk : k < 0
    · go_wp2
      go_meet
      exact ⟨by rw [← unhide HK1, show max k 0 = 0 by omega], rfl⟩
    · go_wp2
      go_meet
      exact ⟨by rw [← unhide HK1, show max k 0 = k by omega], rfl⟩
  case rest =>
    obtain ⟨rfl, rfl⟩ := hcut
    go_upto_if 17 with fail
    go_cut [1] (fun kv wx => kv = .int .i64 (kk : Nat) ∧ W0 = wx)
    case first =>
      have hkm : ((kk : Nat) : Int) = min k1 60 := by rw [← unhide HKK, plc_is, unhide HK1]
      by_cases hk : 60 < k1
      · have e : ((kk : Nat) : Int) = 60 := by omega
        go_wp2
        go_meet
        exact ⟨by rw [e], rfl⟩
      · have e : ((kk : Nat) : Int) = k1 := by omega
        go_wp2
        go_meet
        exact ⟨by rw [e], rfl⟩
    case rest =>
      obtain ⟨rfl, rfl⟩ := hcut
      rw [unhide HKK] at HRES
      clear HK1
      obtain ⟨hB, e0, e1, e2, e3⟩ := hst
      go_wp2_with fail
      go_fit (rten_any kk _ (by omega))
      rintro e9 W1 ⟨⟨v1, rfl, hT⟩, hb⟩
      obtain ⟨t1, t2, t3, t4, rfl⟩ := hT.shape
      have kn := below_new W1 (.cells #[.bool t1, .slice t2 t3 t4] 24)
      have kk1 := below_keep kn hb
      have hst := K1.keep ⟨hB, e0, e1, e2, e3⟩ kk1
      have hbt := NB.new hT
      clear hB e0 e1 e2 e3 kn kk1 hb hT
      obtain ⟨hB, e0, e1, e2, e3⟩ := hst
      have tc0 := hbt.c0
      have tc1 := hbt.c1
      go_wp2_with fail
      go_fit (rmul_any (N := N) (M := kk + 1) _ ((h2.later hB).size) hbt.nr (by omega))
      rintro e9 W2 ⟨⟨v2, rfl, hM⟩, hb⟩
      obtain ⟨m1, m2, m3, m4, rfl⟩ := hM.shape
      have kn := below_new W2 (.cells #[.bool m1, .slice m2 m3 m4] 24)
      have kk1 := below_keep kn hb
      have hst := K1.keep ⟨hB, e0, e1, e2, e3⟩ kk1
      have hbm := NB.new hM
      clear hB e0 e1 e2 e3 kn kk1 hb hM tc0 tc1 hbt
      obtain ⟨hB, e0, e1, e2, e3⟩ := hst
      have tc0 := hbm.c0
      have tc1 := hbm.c1
      go_wp2_with fail
      go_fit (rdivMod_any (N := N + 61) _ (hbm.nr.mono (by omega)) ((h3.later hB).mono (by omega)) (by omega))
      rintro e9 W3 ⟨hd, hb⟩
      obtain ⟨q1, q2, q3, q4, r1, r2, r3, r4, qq, rr, rfl, hNq, hNr, hq⟩ := dm_doc hd
      obtain ⟨hn0, hq9, hr0, hr1⟩ := hq.resolve_left (fun h => absurd h.1 (Int.ne_of_gt (unhide HD0)))
      rw [iabs_of_pos (unhide HD0)] at hr1
      obtain ⟨eqq, err⟩ := rnd_up hq9.symm hr0 hr1
      subst eqq err
      clear hd hq hn0 hq9 hr0 hr1
      obtain ⟨n, HNN⟩ : ∃ n, Hid ((p.natAbs : Int) * 10 ^ kk = n) := ⟨_, rfl⟩
      rw [show (p.natAbs : Int) * 10 ^ kk = n from unhide HNN] at hNq hNr
      have hn0 : 0 ≤ n := by rw [← unhide HNN]; exact Int.mul_nonneg (by omega) (Int.le_of_lt (ten_pos kk))
      have hq0 : 0 ≤ n / d := Int.ediv_nonneg hn0 (Int.le_of_lt (unhide HD0))
      have kn1 := below_new W3 (.cells #[.bool q1, .slice q2 q3 q4] 24)
      have kn2 := below_new (W3.alloc (.cells #[.bool q1, .slice q2 q3 q4] 24)) (.cells #[.bool r1, .slice r2 r3 r4] 24)
      have kk1 := below_keep (below_keep kn2 kn1) hb
      have hst := K1.keep ⟨hB, e0, e1, e2, e3⟩ kk1
      have hbq := (NB.new hNq).keep kn2
      have hbr := NB.second (o1 := (.cells #[.bool q1, .slice q2 q3 q4] 24)) hNr
      have lt3 : w.heap.size < W3.heap.size := Nat.lt_of_lt_of_le (World.block_lt_of_cell? _ _ e0) hb.size
      obtain ⟨bq, hbqz⟩ : ∃ X, X = W3.heap.size := ⟨_, rfl⟩
      clear hB e0 e1 e2 e3 kn1 kn2 kk1 hb tc0 tc1 hbm hNq hNr
      obtain ⟨hB, e0, e1, e2, e3⟩ := hst
      have rc0 := hbr.c0
      have rc1 := hbr.c1
      go_wp2_with fail
      go_fit (radd_any (N := N + 61 + 1) _ hbr.nr hbr.nr (by omega))
      rintro e9 W4 ⟨⟨v4, rfl, hA⟩, hb⟩
      obtain ⟨a1, a2, a3, a4, rfl⟩ := hA.shape
      have kn := below_new W4 (.cells #[.bool a1, .slice a2 a3 a4] 24)
      have kk1 := below_keep kn hb
      have hst := K1.keep ⟨hB, e0, e1, e2, e3⟩ kk1
      have hbq := hbq.keep kk1
      have hba := NB.new hA
      clear hB e0 e1 e2 e3 kn kk1 hb hA rc0 rc1 hbr
      obtain ⟨hB, e0, e1, e2, e3⟩ := hst
      have rc0 := hba.c0
      have rc1 := hba.c1
      go_wp2_with fail
      go_fit (rcmp_any _ hba.nr (h3.later hB) (by omega) (by omega))
      rintro e9 W5 ⟨rfl, hb⟩
      have hst := K1.keep ⟨hB, e0, e1, e2, e3⟩ hb
      have hbq := hbq.keep hb
      rw [← hbqz] at hbq lt3
      clear hB e0 e1 e2 e3 hb rc0 rc1 hba
      obtain ⟨hB, e0, e1, e2, e3⟩ := hst
      obtain ⟨sg, HSG⟩ : ∃ s, Hid (sgn (n % d + n % d - d) = s) := ⟨_, rfl⟩
      rw [show sgn (n % d + n % d - d) = sg from unhide HSG]
      obtain ⟨bo, HBO⟩ : ∃ b, Hid (decide ((n / d) % 2 = 1) = b) := ⟨_, rfl⟩
      go_upto_region 10 with fail
      try rw [← hbqz]
      clear hbqz
      go_cut [12] (fun bv wx => bv = .bool bo ∧ W5 = wx)
      case first =>
        have qc0 := hbq.c0
        have qc1 := hbq.c1
        obtain ⟨D, hSl, hP, hDl, hDv, hDn, hz0, hz1⟩ := hbq.nr.places hq0
        by_cases hz : n / d = 0
        · obtain rfl : q3 = 0 := hz0 hz
          go_wp2
          go_meet
          exact ⟨by rw [← unhide HBO, hz]; rfl, rfl⟩
        · have hq3 := hz1 hz
          have hDe : D ≠ [] := by rintro rfl; simp at hDn; omega
          obtain ⟨base, cap, hsv, hrow⟩ := hSl.get
          obtain ⟨bb, rfl, hR⟩ := hrow hDe
          obtain ⟨rfl, rfl, rfl⟩ : q2 = some ⟨bb, 0, none⟩ ∧ q3 = D.length ∧ q4 = cap := by simpa using hsv
          have hc0 := hR 0 (by omega)
          have hqi : (0 : Int) < (D.length : Int) := by omega
          have hp := hP.nth 0
          have hm : (nth D 0).tmod 2 = (n / d) % 2 := by rw [← hDv, v4_odd hDe, Int.tmod_eq_emod_of_nonneg hp.1]
          obtain ⟨dd, HDG⟩ : ∃ x, Hid (nth D 0 = x) := ⟨_, rfl⟩
          rw [show nth D 0 = dd from unhide HDG] at hc0 hm hp
          obtain ⟨hp0, hp1⟩ := hp
          clear hDv hDn hsv HDG hR hSl hP hz0 hz1
          go_wp2
          go_meet
          exact ⟨by rw [← unhide HBO, ← hm]; rfl, rfl⟩
      case rest =>
        obtain ⟨rfl, rfl⟩ := hcut
        obtain ⟨bw, HBW⟩ : ∃ b, Hid (decide (d < 2 * (n % d) ∨ (2 * (n % d) = d ∧ (n / d) % 2 = 1)) = b) := ⟨_, rfl⟩
        have hcnd : Hid (bw = (decide (0 < sg) || (sg == 0) && bo)) := by rw [← unhide HBW, ← unhide HBO]; exact doc_near sg (unhide HSG)
        have hsg3 : sg = -1 ∨ sg = 0 ∨ sg = 1 := by have := unhide HSG; rcases sgn_val (n % d + n % d - d) with ⟨_, e, _⟩ | ⟨_, e, _⟩ | ⟨_, e, _⟩ <;> omega
        clear HSG HBO
        go_upto_region 11 with fail
        go_cut [61] (fun bv wx => bv = .bool bw ∧ W5 = wx)
        case first =>
          rcases hsg3 with rfl | rfl | rfl
          · go_wp2
            go_meet
            exact ⟨by rw [unhide hcnd]; simp, rfl⟩
          · go_wp2
            go_meet
            exact ⟨by rw [unhide hcnd]; simp, rfl⟩
          · go_wp2
            go_meet
            exact ⟨by rw [unhide hcnd]; simp, rfl⟩
        case rest =>
          obtain ⟨rfl, rfl⟩ := hcut
          clear hcnd hsg3
          obtain ⟨st, HST⟩ : ∃ q, Hid (rnd n d = q) := ⟨_, rfl⟩
          have hst0 : 0 ≤ st := by rw [← unhide HST]; exact rnd_nonneg hn0 (unhide HD0)
          have hrn : Hid (st = if bw then n / d + 1 else n / d) := by
            show st = _
            rw [← unhide HST, ← unhide HBW, rnd]
            by_cases hc : d < 2 * (n % d) ∨ (2 * (n % d) = d ∧ (n / d) % 2 = 1)
            · rw [if_pos hc, decide_eq_true hc, if_pos rfl]
            · rw [if_neg hc, decide_eq_false hc, if_neg (by decide)]
          clear HBW
          go_upto_if 61 with fail
          go_cut [7] (fun qv wx => ∃ y1 y2 y3 y4, qv = .pointer (some ⟨bq, 0, none⟩) ∧ NB wx bq y1 y2 y3 y4 (N + 63) st ∧ Below w.heap.size w wx ∧ wx.cell? ⟨w.heap.size, 0, none⟩ = some (.bool x1) ∧ wx.cell? ⟨w.heap.size, 1, none⟩ = some (.slice x2 x3 x4) ∧ wx.cell? ⟨w.heap.size, 2, none⟩ = some (.bool x5) ∧ wx.cell? ⟨w.heap.size, 3, none⟩ = some (.slice x6 x7 x8))
          case first =>
            have qc0 := hbq.c0
            have qc1 := hbq.c1
            rcases bw with _ | _
            · go_wp2
              go_meet
              exact ⟨_, _, _, _, rfl, ⟨hbq.c0, hbq.c1, hbq.box, (hbq.nr.mono (by omega)).congr (by rw [unhide hrn]; rfl)⟩, hB, e0, e1, e2, e3⟩
            · go_wp2_with fail
              have HQ := hide hbq
              have S0 := hide (show Below w.heap.size w W5.drew ∧ W5.drew.cell? ⟨w.heap.size, 0, none⟩ = some (.bool x1) ∧ W5.drew.cell? ⟨w.heap.size, 1, none⟩ = some (.slice x2 x3 x4) ∧ W5.drew.cell? ⟨w.heap.size, 2, none⟩ = some (.bool x5) ∧ W5.drew.cell? ⟨w.heap.size, 3, none⟩ = some (.slice x6 x7 x8) from ⟨hB.drew, e0, e1, e2, e3⟩)
              have nb : w.heap.size ≠ bq := Nat.ne_of_lt lt3
              clear hbq
              go_region_with (first
                | (go_at_call 101; go_fit (rsmall_any 1 _ (by decide) (by decide)); rintro e9 Y1 ⟨⟨v9, rfl, hN9⟩, hb⟩; obtain ⟨i1, i2, i3, i4, rfl⟩ := hN9.shape; have S1 := hide (keepK5 hb (unhide S0)); have HQ := hide (NB.keep (unhide HQ).drew hb); have qd0 := (unhide HQ).c0; have qd1 := (unhide HQ).c1; clear hb)
                | (go_at_call 19; go_fit (radd_any (N := N + 61 + 1) _ (unhide HQ).nr (hN9.mono (by omega)) (by omega)); rintro e9 Y2 ⟨⟨v9, rfl, hN8⟩, hb⟩; obtain ⟨i5, i6, i7, i8, rfl⟩ := hN8.shape; have S2 := hide (keepK5 hb (unhide S1)); have HQ := hide ((unhide HQ).keep hb); obtain ⟨⟨j0, g0⟩, ⟨j1, j2, j3, g1⟩, gf⟩ := (unhide HQ).box.cells; have hlt := (unhide HQ).lt; have HN8 := hide hN8; clear hb hN8 hN9))
              all_goals
                go_wp2
                go_meet
                exact ⟨_, _, _, _, rfl, (fun v => ⟨v.c0, v.c1, v.box, v.nr.congr (by rw [unhide hrn]; rfl)⟩) ((unhide HQ).stored (unhide HN8)), putK5 (unhide S2) (Nat.le_of_lt lt3) nb _ _⟩
          case rest =>
            obtain ⟨y1, y2, y3, y4, rfl, hbq, hst⟩ := hcut
            obtain ⟨W6, rfl⟩ : ∃ X, X = wc := ⟨_, rfl⟩
            clear hB e0 e1 e2 e3
            obtain ⟨hB, e0, e1, e2, e3⟩ := hst
            have qc0 := hbq.c0
            have qc1 := hbq.c1
            go_wp2_with fail
            go_fit (rtext_any _ hbq.nr (by omega))
            rintro e9 W7 ⟨rfl, hb⟩
            have hsz : (⟨(Lib.itoa st).toArray⟩ : ByteArray).size ≤ 30000 := by have := hbq.nr.short; omega
            obtain ⟨sx, HSX⟩ : ∃ s : ByteArray, Hid (s = ⟨(Lib.itoa st).toArray⟩) := ⟨_, rfl⟩
            rw [← show sx = ⟨(Lib.itoa st).toArray⟩ from unhide HSX] at hsz ⊢
            have hst := K1.keep ⟨hB, e0, e1, e2, e3⟩ hb
            have hbq := hbq.keep hb
            clear hB e0 e1 e2 e3 hb qc0 qc1
            obtain ⟨hB, e0, e1, e2, e3⟩ := hst
            have hxl : Hid (sx.data.toList = Lib.itoa st) := by show sx.data.toList = _; rw [unhide HSX]
            clear HSX
            go_upto_if 68 with fail
            go_cut [13, 68] (fun tv cv wx => ∃ s2 : ByteArray, tv = .string s2 ∧ s2.size ≤ 30200 ∧ Hid (s2.data.toList = pointed (padded st kk) kk) ∧ Hid (NB wx bq y1 y2 y3 y4 (N + 63) st) ∧ Below w.heap.size w wx ∧ wx.cell? ⟨w.heap.size, 0, none⟩ = some (.bool x1) ∧ wx.cell? ⟨w.heap.size, 1, none⟩ = some (.slice x2 x3 x4) ∧ wx.cell? ⟨w.heap.size, 2, none⟩ = some (.bool x5) ∧ wx.cell? ⟨w.heap.size, 3, none⟩ = some (.slice x6 x7 x8))
            case first =>
              have hsxi : (sx.size : Int) ≤ 30000 := by omega
              have hsx0 : 0 < sx.size := by rw [← ba_size, unhide hxl]; exact itoa_pos st
              by_cases hk0 : kk = 0
              · have hk0i : ¬ (0 : Int) < (kk : Int) := by omega
                have HK0 := hide hk0
                clear hk0
                go_wp2
                go_meet
                refine ⟨_, rfl, by omega, ?_, hide hbq, hB, e0, e1, e2, e3⟩
                show sx.data.toList = _
                rw [unhide hxl, unhide HK0]
                have h1 := itoa_pos st
                unfold pointed padded
                rw [if_pos rfl, show 0 + 1 - (Lib.itoa st).length = 0 by omega]
                rfl
              · have hk0i : (0 : Int) < (kk : Int) := by omega
                go_wp2_with fail
                go_loop [13] (fun s => ∃ t j, s = .string t ∧ Hid (t.data.toList = List.replicate j 48 ++ Lib.itoa st) ∧ t.size ≤ 30000 ∧ (j = 0 ∨ t.size ≤ kk + 1)) (fun s => match s with | .string t => kk + 1 - t.size | _ => 0)
                case atStart => exact ⟨sx, 0, rfl, unhide hxl, by omega, Or.inl rfl⟩
                case round =>
                  obtain ⟨t, j, rfl, HTL, hts, hj⟩ := hrel
                  by_cases hlt : t.size ≤ kk
                  · have hlti : (t.size : Int) ≤ (kk : Int) := by omega
                    have hbig : ¬ 9223372036854775807 < 1 + t.size := by omega
                    have hsz2 : ((⟨#[48]⟩ : ByteArray) ++ t).size = 1 + t.size := by rw [ByteArray.size_append]; rfl
                    go_wp2
                    go_round
                    case rel =>
                      refine ⟨_, j + 1, rfl, ?_, by omega, Or.inr (by omega)⟩
                      show (_ ++ t).data.toList = _
                      rw [ba_app, unhide HTL]
                      rfl
                    case measure =>
                      show kk + 1 - ((⟨#[48]⟩ : ByteArray) ++ t).size < kk + 1 - t.size
                      omega
                  · have hlti : ¬ (t.size : Int) ≤ (kk : Int) := by omega
                    have hpt : ((t.size - kk : Nat) : Int) ≤ (t.size : Int) := by omega
                    have hpt0 : (0 : Int) ≤ ((t.size - kk : Nat) : Int) := by omega
                    have hw1 : ((t.size : Int) - kk) = ((t.size - kk : Nat) : Int) := by omega
                    have hsA : (t.extract 0 (t.size - kk)).size = t.size - kk := by rw [ByteArray.size_extract]; omega
                    have hsB : (t.extract (t.size - kk) t.size).size = kk := by rw [ByteArray.size_extract]; omega
                    have hbA : ¬ 9223372036854775807 < t.size - kk + 1 := by omega
                    have hbB : ¬ 9223372036854775807 < t.size - kk + 1 + kk := by omega
                    have hts2 : (t.size : Int) ≤ 30000 := by omega
                    have htl : Hid (t.data.toList = padded st kk) := pad_more (unhide HTL) (by rw [ba_size]; omega) (by rw [ba_size]; omega)
                    have hr := hide (point_data (unhide htl) (by omega : kk < t.size) hk0)
                    have hsz3 : ((t.extract 0 (t.size - kk) ++ ⟨#[46]⟩) ++ t.extract (t.size - kk) t.size : ByteArray).size = t.size - kk + 1 + kk := by rw [ByteArray.size_append, ByteArray.size_append, hsA, hsB]; rfl
                    go_wp2
                    go_region
                    all_goals
                      go_wp2
                      go_meet
                      exact ⟨_, rfl, by rw [hsz3]; omega, hide (by rw [unhide hr]), hide hbq.drew, hB.drew, e0, e1, e2, e3⟩
            case rest =>
              obtain ⟨s2, rfl, hs2, HS2, HBQ, hst⟩ := hcut
              obtain ⟨W8, rfl⟩ : ∃ X, X = wc := ⟨_, rfl⟩
              clear hB e0 e1 e2 e3 hbq
              obtain ⟨hB, e0, e1, e2, e3⟩ := hst
              have hbq := unhide HBQ
              have qc0 := hbq.c0
              have qc1 := hbq.c1
              obtain ⟨-, -, -, -, -, -, hz0, hz1⟩ := hbq.nr.places hst0
              have hsgn := h2.sign
              have hfin : Hid (RES = ⟨(if p < 0 ∧ 0 < st then 45 :: pointed (padded st kk) kk else pointed (padded st kk) kk).toArray⟩) := by
                show RES = _
                rw [← unhide HRES, decimal, unhide HNN, unhide HST]
              have hs2i : ¬ 9223372036854775807 < 1 + s2.size := by omega
              clear hbq HBQ
              rcases hsgn with ⟨rfl, hp⟩ | ⟨rfl, hp⟩
              · by_cases hz : st = 0
                · obtain rfl : y3 = 0 := hz0 hz
                  have hr : s2 = RES := by rw [unhide hfin, if_neg (by omega)]; exact ba_eq (unhide HS2)
                  subst hr
                  clear hz0 hz1 hz
                  go_wp2
                  go_ret
                  exact ⟨rfl, hB⟩
                · have hy : (0 : Int) < (y3 : Int) := by have := hz1 hz; omega
                  have hr : (⟨#[45]⟩ ++ s2 : ByteArray) = RES := by rw [unhide hfin, if_pos ⟨hp, by omega⟩]; exact ba_eq (by rw [ba_app, unhide HS2]; rfl)
                  clear hz0 hz1 hz
                  go_wp2
                  go_ret
                  exact ⟨by rw [← hr]; rfl, hB⟩
              · have hr : s2 = RES := by rw [unhide hfin, if_neg (by omega)]; exact ba_eq (unhide HS2)
                subst hr
                clear hz0 hz1
                go_wp2
                go_ret
                exact ⟨rfl, hB⟩
end Go.Proofs.YtmhebjeefdanmaaGreatDoor
