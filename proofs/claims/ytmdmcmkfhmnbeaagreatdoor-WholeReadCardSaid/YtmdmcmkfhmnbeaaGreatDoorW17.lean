/-
  Walks over package whole: Add of two int64, Sub; Add of any two numbers.
-/
import Derived.Test.YtmdmcmkfhmnbeaaGreatDoorW16
namespace Go.Proofs.YtmdmcmkfhmnbeaaGreatDoor
open Go.RowKit

set_option maxHeartbeats 2000000 in
theorem add_over {N : Nat} (x y : Int) (a1 a2 : Option Addr) (n1 c1 n2 c2 : Nat) (z o : Int) (w : World) (hz : Zr (N + 1) w (.agg #[.int .i64 x, .slice a1 n1 c1]) z) (ho : Zr (N + 1) w (.agg #[.int .i64 y, .slice a2 n2 c2]) o) (hbn : (a1.isNone && a2.isNone) = true) (ht : (decide (x ≤ wrap64 (x + y)) == decide (0 ≤ y)) = false) (hlim : N ≤ 800000) :
    Calls Tryz.prog 10 #[.agg #[.int .i64 x, .slice a1 n1 c1], .agg #[.int .i64 y, .slice a2 n2 c2]] w fun e w' => (∃ v, e = .returned v ∧ Zr (N + 2) w' v (z + o)) ∧ Below w.heap.size w w' := by
  have HZ := hide hz
  have HO := hide ho
  have HBN := hide hbn
  have tok1 : True := trivial
  have HSX : Hid (sgn x = sgn z) := by
    obtain ⟨x', a', n', c', hvv, hsg, _⟩ := hz.sgn
    obtain ⟨rfl, _⟩ : x = x' ∧ _ := by simpa using hvv
    exact hsg
  have HSY : Hid (sgn y = sgn o) := by
    obtain ⟨x', a', n', c', hvv, hsg, _⟩ := ho.sgn
    obtain ⟨rfl, _⟩ : y = x' ∧ _ := by simpa using hvv
    exact hsg
  clear hz ho hbn
  go_enter Tryz.func10, Tryz.ntmps10
  go_wp2_with fail
  go_fit (bothNear_any x y a1 a2 n1 c1 n2 c2 _)
  rintro e W1 ⟨rfl, hb0⟩
  rw [unhide HBN]
  have hst := hstart w (.cells #[.int .i64 x, .slice a1 n1 c1] 24) (.cells #[.int .i64 y, .slice a2 n2 c2] 24)
  have hS1 : Below w.heap.size w W1 ∧ Box W1 (w.heap.size + 2) ∧ W1.cell? ⟨w.heap.size, 0, none⟩ = some (.int .i64 x) ∧ W1.cell? ⟨w.heap.size, 1, none⟩ = some (.slice a1 n1 c1) ∧ W1.cell? ⟨w.heap.size + 1, 0, none⟩ = some (.int .i64 y) ∧ W1.cell? ⟨w.heap.size + 1, 1, none⟩ = some (.slice a2 n2 c2) :=
    keep21 hb0 ⟨hst.1, hst.2, by simp [go_sem], by simp [go_sem], by simp [go_sem], by simp [go_sem]⟩
  clear hb0 hst
  obtain ⟨hbW, hbox, hc0, hc1, hc2, hc3⟩ := hS1
  go_wp2_with fail
  go_region_held3 (fun w' => Below w.heap.size w w' ∧ Box w' (w.heap.size + 2) ∧ w'.cell? ⟨w.heap.size, 0, none⟩ = some (.int .i64 x) ∧ w'.cell? ⟨w.heap.size, 1, none⟩ = some (.slice a1 n1 c1) ∧ w'.cell? ⟨w.heap.size + 1, 0, none⟩ = some (.int .i64 y) ∧ w'.cell? ⟨w.heap.size + 1, 1, none⟩ = some (.slice a2 n2 c2))
    (first | exact ⟨hbW.drew, hbox, hc0, hc1, hc2, hc3⟩ | exact keep21 (by assumption) (by assumption))
    (first | (go_at_call 43; have _t := tok1; go_fit (size_any (z := z) (N := N) _ ((unhide HZ).later (And.left (by assumption)))); rintro e w2 ⟨sv1, rfl, hsv1, hb2⟩; clear tok1) | (go_at_call 43; go_fit (size_any (z := o) (N := N) _ ((unhide HO).later (And.left (by assumption)))); rintro e w3 ⟨sv2, rfl, hsv2, hb3⟩))
  have hS3 : Below w.heap.size w w3 ∧ Box w3 (w.heap.size + 2) ∧ w3.cell? ⟨w.heap.size, 0, none⟩ = some (.int .i64 x) ∧ w3.cell? ⟨w.heap.size, 1, none⟩ = some (.slice a1 n1 c1) ∧ w3.cell? ⟨w.heap.size + 1, 0, none⟩ = some (.int .i64 y) ∧ w3.cell? ⟨w.heap.size + 1, 1, none⟩ = some (.slice a2 n2 c2) := by assumption
  have hsv1' := hsv1.later hb3
  clear hbW hbox hc0 hc1 hc2 hc3 hsv1
  obtain ⟨hbW, hbox, hc0, hc1, hc2, hc3⟩ := hS3
  by_cases hss : sgn x = sgn y
  · have hss' : (sgn x == sgn y) = true := by simpa using hss
    have HC := hide (add_cond (z := z) (o := o) (unhide HSX) (unhide HSY) hss)
    have HE := hide (add_same (z := z) (o := o) (unhide HSX) (unhide HSY) hss)
    clear hss
    go_wp2_with fail
    go_region_held3 (fun w' => Below w.heap.size w w' ∧ Box w' (w.heap.size + 2) ∧ w'.cell? ⟨w.heap.size, 0, none⟩ = some (.int .i64 x) ∧ w'.cell? ⟨w.heap.size, 1, none⟩ = some (.slice a1 n1 c1) ∧ w'.cell? ⟨w.heap.size + 1, 0, none⟩ = some (.int .i64 y) ∧ w'.cell? ⟨w.heap.size + 1, 1, none⟩ = some (.slice a2 n2 c2) ∧ Sz (N + 1) w' sv1 (iabs z) ∧ Sz (N + 1) w' sv2 (iabs o))
      (first | exact ⟨hbW.drew, hbox, hc0, hc1, hc2, hc3, hsv1', hsv2⟩ | exact keep21s (by assumption) (by assumption))
      (first | (go_at_call 22; go_fit (sign_any _ _ _); rintro e w4 ⟨rfl, hb4⟩))
    have hS4 : Below w.heap.size w w4 ∧ Box w4 (w.heap.size + 2) ∧ w4.cell? ⟨w.heap.size, 0, none⟩ = some (.int .i64 x) ∧ w4.cell? ⟨w.heap.size, 1, none⟩ = some (.slice a1 n1 c1) ∧ w4.cell? ⟨w.heap.size + 1, 0, none⟩ = some (.int .i64 y) ∧ w4.cell? ⟨w.heap.size + 1, 1, none⟩ = some (.slice a2 n2 c2) ∧ Sz (N + 1) w4 sv1 (iabs z) ∧ Sz (N + 1) w4 sv2 (iabs o) := by assumption
    clear hbW hbox hc0 hc1 hc2 hc3 hsv1' hsv2
    obtain ⟨hbW, hbox, hc0, hc1, hc2, hc3, hsv1, hsv2⟩ := hS4
    go_wp2_with fail
    go_fit (sign_any _ _ _)
    rintro e w5 ⟨rfl, hb5⟩
    go_wp2_with fail
    go_fit (sum_any _ (hsv1.later hb5) (hsv2.later hb5) (by omega))
    rintro e w6 ⟨sv, rfl, hsv, hb6⟩
    go_wp2_with fail
    go_fit (signed_any _ _ (Or.inl hsv) (unhide HC))
    rintro e w7 ⟨⟨v7, rfl, hZ7⟩, hb7⟩
    obtain ⟨near7, a7, n7, c7, hv7⟩ := hZ7.shape
    subst hv7
    have hbx : Box w7 (w.heap.size + 2) := ((hbox.later hb5).later hb6).later hb7
    obtain ⟨⟨x0, g0⟩, ⟨a0, n0, c0, g1⟩, gf⟩ := hbx.cells
    have hbl : Below w.heap.size w w7 := below_keep hb7 (below_keep hb6 (below_keep hb5 hbW))
    go_wp2
    obtain ⟨st0, st1⟩ := hbx.stored (.int .i64 near7) (.slice a7 n7 c7)
    exact bodyPost_ret (v := .agg #[.int .i64 near7, .slice a7 n7 c7]) (by simp [results, Tryz.results10, go_sem, st0, st1]) rfl ⟨⟨_, rfl, ((hZ7.mono (by omega)).stored hbx _ _).eq (unhide HE)⟩, below_stored hbl (by omega) _ _⟩
  · have hss' : (sgn x == sgn y) = false := by simpa using hss
    obtain ⟨sg, hsg⟩ : ∃ sg, sgn (iabs z - iabs o) = sg := ⟨_, rfl⟩
    have HSG := hide hsg
    by_cases hge : iabs o ≤ iabs z
    · have hsg0 : 0 ≤ sg := by
        rw [← hsg]
        by_cases e : iabs z = iabs o
        · rw [sgn_zero (by omega)]; decide
        · rw [sgn_pos (by omega)]; decide
      have HC := hide (add_condB (z := z) (o := o) (unhide HSX) (unhide HSY) hss hge)
      have HE := hide (add_diffB (z := z) (o := o) (unhide HSX) (unhide HSY) hss hge)
      have HG := hide hge
      clear hss hsg hge
      go_wp2_with fail
      go_region_held3 (fun w' => Below w.heap.size w w' ∧ Box w' (w.heap.size + 2) ∧ w'.cell? ⟨w.heap.size, 0, none⟩ = some (.int .i64 x) ∧ w'.cell? ⟨w.heap.size, 1, none⟩ = some (.slice a1 n1 c1) ∧ w'.cell? ⟨w.heap.size + 1, 0, none⟩ = some (.int .i64 y) ∧ w'.cell? ⟨w.heap.size + 1, 1, none⟩ = some (.slice a2 n2 c2) ∧ Sz (N + 1) w' sv1 (iabs z) ∧ Sz (N + 1) w' sv2 (iabs o))
        (first | exact ⟨hbW.drew, hbox, hc0, hc1, hc2, hc3, hsv1', hsv2⟩ | exact keep21s (by assumption) (by assumption))
        (first | (go_at_call 22; go_fit (sign_any _ _ _); rintro e w4 ⟨rfl, hb4⟩))
      have hS4 : Below w.heap.size w w4 ∧ Box w4 (w.heap.size + 2) ∧ w4.cell? ⟨w.heap.size, 0, none⟩ = some (.int .i64 x) ∧ w4.cell? ⟨w.heap.size, 1, none⟩ = some (.slice a1 n1 c1) ∧ w4.cell? ⟨w.heap.size + 1, 0, none⟩ = some (.int .i64 y) ∧ w4.cell? ⟨w.heap.size + 1, 1, none⟩ = some (.slice a2 n2 c2) ∧ Sz (N + 1) w4 sv1 (iabs z) ∧ Sz (N + 1) w4 sv2 (iabs o) := by assumption
      clear hbW hbox hc0 hc1 hc2 hc3 hsv1' hsv2
      obtain ⟨hbW, hbox, hc0, hc1, hc2, hc3, hsv1, hsv2⟩ := hS4
      go_wp2_with fail
      go_fit (compare_sz _ hsv1 hsv2 (by omega) (by omega))
      rintro e w8 ⟨rfl, hb8⟩
      rw [unhide HSG]
      have hbW := below_keep hb8 hbW
      have hbox := hbox.later hb8
      have hc0 := cell_keep hb8 hc0
      have hc1 := cell_keep hb8 hc1
      have hc2 := cell_keep hb8 hc2
      have hc3 := cell_keep hb8 hc3
      have hsv1 := hsv1.later hb8
      have hsv2 := hsv2.later hb8
      go_wp2_with fail
      go_fit (sign_any _ _ _)
      rintro e w5 ⟨rfl, hb5⟩
      go_wp2_with fail
      go_fit (difference_any _ (hsv1.later hb5) (hsv2.later hb5) (unhide HG) (by omega))
      rintro e w6 ⟨sv, rfl, hsv, hb6⟩
      go_wp2_with fail
      go_fit (signed_any _ _ (Or.inl hsv) (unhide HC))
      rintro e w7 ⟨⟨v7, rfl, hZ7⟩, hb7⟩
      obtain ⟨near7, a7, n7, c7, hv7⟩ := hZ7.shape
      subst hv7
      have hbx : Box w7 (w.heap.size + 2) := ((hbox.later hb5).later hb6).later hb7
      obtain ⟨⟨x0, g0⟩, ⟨a0, n0, c0, g1⟩, gf⟩ := hbx.cells
      have hbl : Below w.heap.size w w7 := below_keep hb7 (below_keep hb6 (below_keep hb5 hbW))
      go_wp2
      obtain ⟨st0, st1⟩ := hbx.stored (.int .i64 near7) (.slice a7 n7 c7)
      exact bodyPost_ret (v := .agg #[.int .i64 near7, .slice a7 n7 c7]) (by simp [results, Tryz.results10, go_sem, st0, st1]) rfl ⟨⟨_, rfl, ((hZ7.mono (by omega)).stored hbx _ _).eq (unhide HE)⟩, below_stored hbl (by omega) _ _⟩
    · have hsg0 : sg < 0 := by rw [← hsg, sgn_neg (by omega)]; decide
      have hge' : iabs z ≤ iabs o := by omega
      have HC := hide (add_condC (z := z) (o := o) (unhide HSX) (unhide HSY) hss hge')
      have HE := hide (add_diffC (z := z) (o := o) (unhide HSX) (unhide HSY) hss hge')
      have HG := hide hge'
      clear hss hsg hge hge'
      go_wp2_with fail
      go_region_held3 (fun w' => Below w.heap.size w w' ∧ Box w' (w.heap.size + 2) ∧ w'.cell? ⟨w.heap.size, 0, none⟩ = some (.int .i64 x) ∧ w'.cell? ⟨w.heap.size, 1, none⟩ = some (.slice a1 n1 c1) ∧ w'.cell? ⟨w.heap.size + 1, 0, none⟩ = some (.int .i64 y) ∧ w'.cell? ⟨w.heap.size + 1, 1, none⟩ = some (.slice a2 n2 c2) ∧ Sz (N + 1) w' sv1 (iabs z) ∧ Sz (N + 1) w' sv2 (iabs o))
        (first | exact ⟨hbW.drew, hbox, hc0, hc1, hc2, hc3, hsv1', hsv2⟩ | exact keep21s (by assumption) (by assumption))
        (first | (go_at_call 22; go_fit (sign_any _ _ _); rintro e w4 ⟨rfl, hb4⟩))
      have hS4 : Below w.heap.size w w4 ∧ Box w4 (w.heap.size + 2) ∧ w4.cell? ⟨w.heap.size, 0, none⟩ = some (.int .i64 x) ∧ w4.cell? ⟨w.heap.size, 1, none⟩ = some (.slice a1 n1 c1) ∧ w4.cell? ⟨w.heap.size + 1, 0, none⟩ = some (.int .i64 y) ∧ w4.cell? ⟨w.heap.size + 1, 1, none⟩ = some (.slice a2 n2 c2) ∧ Sz (N + 1) w4 sv1 (iabs z) ∧ Sz (N + 1) w4 sv2 (iabs o) := by assumption
      clear hbW hbox hc0 hc1 hc2 hc3 hsv1' hsv2
      obtain ⟨hbW, hbox, hc0, hc1, hc2, hc3, hsv1, hsv2⟩ := hS4
      go_wp2_with fail
      go_fit (compare_sz _ hsv1 hsv2 (by omega) (by omega))
      rintro e w8 ⟨rfl, hb8⟩
      rw [unhide HSG]
      have hbW := below_keep hb8 hbW
      have hbox := hbox.later hb8
      have hc0 := cell_keep hb8 hc0
      have hc1 := cell_keep hb8 hc1
      have hc2 := cell_keep hb8 hc2
      have hc3 := cell_keep hb8 hc3
      have hsv1 := hsv1.later hb8
      have hsv2 := hsv2.later hb8
      go_wp2_with fail
      go_fit (sign_any _ _ _)
      rintro e w5 ⟨rfl, hb5⟩
      go_wp2_with fail
      go_fit (difference_any _ (hsv2.later hb5) (hsv1.later hb5) (unhide HG) (by omega))
      rintro e w6 ⟨sv, rfl, hsv, hb6⟩
      go_wp2_with fail
      go_fit (signed_any _ _ (Or.inl hsv) (unhide HC))
      rintro e w7 ⟨⟨v7, rfl, hZ7⟩, hb7⟩
      obtain ⟨near7, a7, n7, c7, hv7⟩ := hZ7.shape
      subst hv7
      have hbx : Box w7 (w.heap.size + 2) := ((hbox.later hb5).later hb6).later hb7
      obtain ⟨⟨x0, g0⟩, ⟨a0, n0, c0, g1⟩, gf⟩ := hbx.cells
      have hbl : Below w.heap.size w w7 := below_keep hb7 (below_keep hb6 (below_keep hb5 hbW))
      go_wp2
      obtain ⟨st0, st1⟩ := hbx.stored (.int .i64 near7) (.slice a7 n7 c7)
      exact bodyPost_ret (v := .agg #[.int .i64 near7, .slice a7 n7 c7]) (by simp [results, Tryz.results10, go_sem, st0, st1]) rfl ⟨⟨_, rfl, ((hZ7.mono (by omega)).stored hbx _ _).eq (unhide HE)⟩, below_stored hbl (by omega) _ _⟩

set_option maxHeartbeats 2000000 in
theorem add_fast (x y t : Int) (w : World) (ht : (decide (x ≤ t) == decide (0 ≤ y)) = true) (hw : wrap64 (x + y) = t) :
    Calls Tryz.prog 10 #[.agg #[.int .i64 x, .slice none 0 0], .agg #[.int .i64 y, .slice none 0 0]] w fun e w' => e = .returned (.agg #[.int .i64 t, .slice none 0 0]) ∧ Below w.heap.size w w' := by
  go_enter Tryz.func10, Tryz.ntmps10
  go_wp2_with fail
  go_fit (bothNear_any x y none none 0 0 0 0 _)
  rintro e W1 ⟨rfl, hb0⟩
  have hst := hstart w (.cells #[.int .i64 x, .slice none 0 0] 24) (.cells #[.int .i64 y, .slice none 0 0] 24)
  have hS1 : Below w.heap.size w W1 ∧ Box W1 (w.heap.size + 2) ∧ W1.cell? ⟨w.heap.size, 0, none⟩ = some (.int .i64 x) ∧ W1.cell? ⟨w.heap.size, 1, none⟩ = some (.slice none 0 0) ∧ W1.cell? ⟨w.heap.size + 1, 0, none⟩ = some (.int .i64 y) ∧ W1.cell? ⟨w.heap.size + 1, 1, none⟩ = some (.slice none 0 0) :=
    keep21 hb0 ⟨hst.1, hst.2, by simp [go_sem], by simp [go_sem], by simp [go_sem], by simp [go_sem]⟩
  clear hb0 hst
  obtain ⟨hbW, hbox, hc0, hc1, hc2, hc3⟩ := hS1
  simp only [Option.isNone_none, Bool.and_self]
  go_wp2_with fail
  go_fit (of_any t _)
  rintro e w7 ⟨rfl, hb7⟩
  have hbx : Box w7 (w.heap.size + 2) := hbox.later hb7
  obtain ⟨⟨x0, g0⟩, ⟨a0, n0, c0, g1⟩, gf⟩ := hbx.cells
  go_wp2
  obtain ⟨st0, st1⟩ := hbx.stored (.int .i64 t) (.slice none 0 0)
  exact bodyPost_ret (v := .agg #[.int .i64 t, .slice none 0 0]) (by simp [results, Tryz.results10, go_sem, st0, st1]) rfl ⟨rfl, below_stored (below_keep hb7 hbW) (by omega) _ _⟩

/-- Add: of any two numbers. -/
theorem add_any {N : Nat} {v u : Value} {z o : Int} (w : World) (hz : Zr (N + 1) w v z) (ho : Zr (N + 1) w u o) (hlim : N ≤ 800000) :
    Calls Tryz.prog 10 #[v, u] w fun e w' => (∃ v, e = .returned v ∧ Zr (N + 2) w' v (z + o)) ∧ Below w.heap.size w w' := by
  obtain ⟨x, a1, n1, c1, rfl, h1, h2, h3⟩ := hz.sgn
  obtain ⟨y, a2, n2, c2, rfl, k1, k2, k3⟩ := ho.sgn
  cases hbn : (a1.isNone && a2.isNone)
  · exact add_slow x y a1 a2 n1 c1 n2 c2 z o w hz ho hbn hlim
  · have hb := hbn
    simp at hbn
    obtain ⟨rfl, rfl, rfl, b0, b1⟩ := h2 hbn.1
    obtain ⟨rfl, rfl, rfl, d0, d1⟩ := k2 hbn.2
    obtain ⟨rfl, rfl⟩ := hbn
    cases ht : (decide (x ≤ wrap64 (x + y)) == decide (0 ≤ y))
    · exact add_over x y none none 0 0 0 0 x y w hz ho hb ht hlim
    · have hw : wrap64 (x + y) = x + y := by
        simp at ht
        unfold wrap64 at ht ⊢
        omega
      rw [hw] at ht
      refine (add_fast x y (x + y) w ht hw).mono ?_
      rintro e w' ⟨rfl, hb'⟩
      refine ⟨⟨_, rfl, Zr.near _ ?_ ?_⟩, hb'⟩
      · unfold wrap64 at hw; omega
      · unfold wrap64 at hw; omega
end Go.Proofs.YtmdmcmkfhmnbeaaGreatDoor
