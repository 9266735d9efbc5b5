/-
  Walks over package ratio: Read.
-/
import Derived.Test.YtmhebjeefdanmaaGreatDoorMQD
import Derived.Test.YtmhebjeefdanmaaGreatDoorMS8
namespace Go.Proofs.YtmhebjeefdanmaaGreatDoor
open Go.RowKit

/-- What Read answers. -/
def RdP (s : ByteArray) (A : Nat → Addr) (e : Ending) (w' : World) : Prop :=
  (∃ c k pb, said s = .inl (c + 1, k) ∧ c < 3 ∧ e = .returned (.tuple #[.agg #[.int .i64 0, .slice none 0 0, .int .i64 0, .slice none 0 0], .iface 95 (.pointer (some ⟨pb, 0, none⟩))]) ∧ w'.cell? ⟨pb, 0, none⟩ = some (.int .i64 (k : Nat)) ∧ w'.cell? ⟨pb, 1, none⟩ = some (.iface 234 (.pointer (some (A c))))) ∨
  (∃ p q v P D, said s = .inr (p, q) ∧ 0 < q ∧ e = .returned (.tuple #[v, .nilIface]) ∧ Rr 78 w' v P D ∧ P * q = p * D)
theorem pb_not_rbox {w : World} {r pb : Nat} {t : TypeId} {v : Value} (h : RBox w r) (hc : w.cell? ⟨pb, 1, none⟩ = some (.iface t v)) : r ≠ pb := by
  rintro rfl
  obtain ⟨_, ⟨a, n, c, h1⟩, _⟩ := h.cells
  rw [h1] at hc
  exact absurd (Option.some.inj hc) (by simp)
theorem pb_rstored {w : World} {pb r o : Nat} {v u0 u1 u2 u3 : Value} (h : w.cell? ⟨pb, o, none⟩ = some v) (hne : r ≠ pb) : ((((w.setCell ⟨r, 0, none⟩ u0).setCell ⟨r, 1, none⟩ u1).setCell ⟨r, 2, none⟩ u2).setCell ⟨r, 3, none⟩ u3).cell? ⟨pb, o, none⟩ = some v := by
  rw [cell?_setCell_ne _ _ _ _ _ _ (by omega), cell?_setCell_ne _ _ _ _ _ _ (by omega), cell?_setCell_ne _ _ _ _ _ _ (by omega), cell?_setCell_ne _ _ _ _ _ _ (by omega)]; exact h

set_option maxHeartbeats 8000000 in
set_option maxRecDepth 8000 in
theorem qread_any (s : ByteArray) (A : Nat → Addr) (w : World) (hs : s.size ≤ 9223372036854775807) (hT : Tab64 w)
    (h1 : w.cell? ⟨0, 0, none⟩ = some (.iface 234 (.pointer (some (A 0))))) (h2 : w.cell? ⟨1, 0, none⟩ = some (.iface 234 (.pointer (some (A 1))))) (h3 : w.cell? ⟨2, 0, none⟩ = some (.iface 234 (.pointer (some (A 2))))) :
    Calls Tryz.prog 30 #[.string s] w fun e w' => RdP s A e w' ∧ Below w.heap.size w w' := by
  have hbx := rbox_new w 0 none 0 0 0 none 0 0
  have hk := below_new w (.cells #[.int .i64 0, .slice none 0 0, .int .i64 0, .slice none 0 0] 52)
  have H1 := hide h1
  have H2 := hide h2
  have H3 := hide h3
  have HTT := hide hT
  clear h1 h2 h3 hT
  go_enter Tryz.func30, Tryz.ntmps30
  go_wp2_with fail
  go_fit (split_any s A _ hs (cell_keep hk (unhide H1)) (cell_keep hk (unhide H2)))
  rintro e W1 ⟨⟨mi, me, l, u, b, x, us, es, hc⟩, hb1⟩
  have hbx1 := hbx.later hb1
  have hk1 := below_keep hb1 hk
  have hlt := hbx1.lt
  clear hbx hk hb1
  rcases hc with ⟨c, k, pb, hsd, hc3, rfl, q0, q1⟩ | ⟨rfl, hsd, fl, fu, fb, fx⟩
  · have HSD := hide hsd
    clear hsd
    have hne := pb_not_rbox hbx1 q1
    obtain ⟨⟨x0, g0⟩, ⟨a0, n0, c0, g1⟩, ⟨x1, g2⟩, ⟨a1, n1, c1, g3⟩, gf⟩ := hbx1.cells
    unfold figs
    go_wp2
    obtain ⟨s0, s1, s2, s3⟩ := hbx1.stored (.int .i64 0) (.slice none 0 0) (.int .i64 0) (.slice none 0 0)
    have kk := below_new ((((W1.setCell ⟨w.heap.size, 0, none⟩ (.int .i64 0)).setCell ⟨w.heap.size, 1, none⟩ (.slice none 0 0)).setCell ⟨w.heap.size, 2, none⟩ (.int .i64 0)).setCell ⟨w.heap.size, 3, none⟩ (.slice none 0 0)) (.cells #[.bool mi, .bool me, .string l, .string u, .string b, .string x, .int .i64 (us : Int), .int .i64 (es : Int)] 130)
    have s0 := cell_keep kk s0
    have s1 := cell_keep kk s1
    have s2 := cell_keep kk s2
    have s3 := cell_keep kk s3
    exact bodyPost_ret (v := .tuple #[.agg #[.int .i64 0, .slice none 0 0, .int .i64 0, .slice none 0 0], .iface 95 (.pointer (some ⟨pb, 0, none⟩))]) (by simp [results, Tryz.results30, go_sem, s0, s1, s2, s3]) rfl ⟨Or.inl ⟨c, k, pb, unhide HSD, by omega, rfl, cell_keep kk (pb_rstored q0 hne), cell_keep kk (pb_rstored q1 hne)⟩, below_keep kk (below_rstored hk1 (Nat.le_refl _) _ _ _ _)⟩
  · have HSD := hide hsd
    clear hsd
    unfold figs
    have hf : Fg (W1.alloc (.cells #[.bool mi, .bool me, .string l, .string u, .string b, .string x, .int .i64 (us : Int), .int .i64 (es : Int)] 130)) W1.heap.size mi me l u b x us es := heap_alloc_new W1 _
    have kf := below_new W1 (.cells #[.bool mi, .bool me, .string l, .string u, .string b, .string x, .int .i64 (us : Int), .int .i64 (es : Int)] 130)
    have hbx2 := hbx1.later kf
    have hk2 := below_keep kf hk1
    clear hbx1 hk1 kf
    go_wp2_with fail
    go_fit (fsize_any mi me l u b x us es A _ fl fu fb fx ((unhide HTT).later hk2) (cell_keep hk2 (unhide H1)) (cell_keep hk2 (unhide H2)) (cell_keep hk2 (unhide H3)))
    rintro e W2 ⟨hc, hb2⟩
    have hbx3 := hbx2.later hb2
    have hk3 := below_keep hb2 hk2
    have hf3 := hf.later hb2
    have e0 := hf3.c0
    have hlf := hf3.lt
    have hlt3 := hbx3.lt
    clear hbx2 hk2 hf hb2
    rcases hc with ⟨c, k, pb, hsd, hc3, rfl, q0, q1⟩ | ⟨p, q, v, P, D, hsd, hq, rfl, hR, hE⟩
    · have HS2 := hide ((unhide HSD).trans hsd)
      clear hsd
      have hne := pb_not_rbox hbx3 q1
      obtain ⟨⟨x0, g0⟩, ⟨a0, n0, c0, g1⟩, ⟨x1, g2⟩, ⟨a1, n1, c1, g3⟩, gf⟩ := hbx3.cells
      go_wp2
      obtain ⟨s0, s1, s2, s3⟩ := hbx3.stored (.int .i64 0) (.slice none 0 0) (.int .i64 0) (.slice none 0 0)
      have kk := below_new ((((W2.setCell ⟨w.heap.size, 0, none⟩ (.int .i64 0)).setCell ⟨w.heap.size, 1, none⟩ (.slice none 0 0)).setCell ⟨w.heap.size, 2, none⟩ (.int .i64 0)).setCell ⟨w.heap.size, 3, none⟩ (.slice none 0 0)) (.cells #[.int .i64 0, .slice none 0 0, .int .i64 0, .slice none 0 0] 52)
      have s0 := cell_keep kk s0
      have s1 := cell_keep kk s1
      have s2 := cell_keep kk s2
      have s3 := cell_keep kk s3
      exact bodyPost_ret (v := .tuple #[.agg #[.int .i64 0, .slice none 0 0, .int .i64 0, .slice none 0 0], .iface 95 (.pointer (some ⟨pb, 0, none⟩))]) (by simp [results, Tryz.results30, go_sem, s0, s1, s2, s3]) rfl ⟨Or.inl ⟨c, k, pb, unhide HS2, hc3, rfl, cell_keep kk (pb_rstored q0 hne), cell_keep kk (pb_rstored q1 hne)⟩, below_keep kk (below_rstored hk3 (Nat.le_refl _) _ _ _ _)⟩
    · have HS2 := hide ((unhide HSD).trans hsd)
      have HE := hide hE
      clear hsd hE
      have hR0 := hR
      obtain ⟨k1, k2, k3, k4, k5, k6, k7, k8, k9, rfl, hP, hD, D0, hG, hDE⟩ := hR
      have HG := hide hG
      have HDE := hide hDE
      clear hG hDE
      cases mi
      · obtain ⟨⟨x0, g0⟩, ⟨a0, n0, c0, g1⟩, ⟨x1, g2⟩, ⟨a1, n1, c1, g3⟩, gf⟩ := hbx3.cells
        go_wp2
        obtain ⟨s0, s1, s2, s3⟩ := hbx3.stored (.int .i64 k1) (.slice k2 k3 k4) (.int .i64 k5) (.slice k6 k7 k8)
        have kk := below_new ((((W2.setCell ⟨w.heap.size, 0, none⟩ (.int .i64 k1)).setCell ⟨w.heap.size, 1, none⟩ (.slice k2 k3 k4)).setCell ⟨w.heap.size, 2, none⟩ (.int .i64 k5)).setCell ⟨w.heap.size, 3, none⟩ (.slice k6 k7 k8)) (.cells #[.int .i64 k1, .slice k2 k3 k4, .int .i64 k5, .slice k6 k7 k8] 52)
        have s0 := cell_keep kk s0
        have s1 := cell_keep kk s1
        have s2 := cell_keep kk s2
        have s3 := cell_keep kk s3
        exact bodyPost_ret (v := .tuple #[.agg #[.int .i64 k1, .slice k2 k3 k4, .int .i64 k5, .slice k6 k7 k8], .nilIface]) (by simp [results, Tryz.results30, go_sem, s0, s1, s2, s3]) rfl ⟨Or.inr ⟨_, q, _, P, D, unhide HS2, hq, rfl, (hR0.rstored hbx3 _ _ _ _).later kk, unhide HE⟩, below_keep kk (below_rstored hk3 (Nat.le_refl _) _ _ _ _)⟩
      · have kf := below_new W2 (.cells #[.int .i64 k1, .slice k2 k3 k4, .int .i64 k5, .slice k6 k7 k8] 52)
        have hbx4 := hbx3.later kf
        have hk4 := below_keep kf hk3
        have hR4 := hR0.later kf
        clear hbx3 hk3 kf hlt3
        go_wp2_with fail
        go_fit (qneg_any (N := 77) _ hR4)
        rintro e W5 ⟨⟨v5, rfl, hR5⟩, hb5⟩
        have hbx5 := hbx4.later hb5
        have hk5 := below_keep hb5 hk4
        have hlt5 := hbx5.lt
        have hR6 := hR5
        obtain ⟨j1, j2, j3, j4, j5, j6, j7, j8, j9, rfl, _, _, _, _, _⟩ := hR5
        obtain ⟨⟨x0, g0⟩, ⟨a0, n0, c0, g1⟩, ⟨x1, g2⟩, ⟨a1, n1, c1, g3⟩, gf⟩ := hbx5.cells
        go_wp2
        obtain ⟨s0, s1, s2, s3⟩ := hbx5.stored (.int .i64 j1) (.slice j2 j3 j4) (.int .i64 j5) (.slice j6 j7 j8)
        exact bodyPost_ret (v := .tuple #[.agg #[.int .i64 j1, .slice j2 j3 j4, .int .i64 j5, .slice j6 j7 j8], .nilIface]) (by simp [results, Tryz.results30, go_sem, s0, s1, s2, s3]) rfl ⟨Or.inr ⟨_, q, _, _, D, unhide HS2, hq, rfl, hR6.rstored hbx5 _ _ _ _, by have h9 := unhide HE; show -P * q = -p * D; rw [Int.neg_mul, Int.neg_mul, h9]⟩, below_rstored hk5 (Nat.le_refl _) _ _ _ _⟩
end Go.Proofs.YtmhebjeefdanmaaGreatDoor
