/-
  Walks over package whole: bothNear, Add, Sub of numbers.
-/
import Derived.Test.YtmdmcmkfhmnbeaaGreatDoorW15
namespace Go.Proofs.YtmdmcmkfhmnbeaaGreatDoor
open Go.RowKit

theorem eql_any (a : Option Addr) (n c : Nat) (w : World) : (binOp .eql 22 (.slice a n c) (.slice none 0 0)).run Tryz.prog w = .ok (.bool a.isNone) w :=
  Lib.run_eql_slice_nil w 22 75 a n c 0 0 Tryz.underlying22

set_option maxHeartbeats 1000000 in
theorem bothNear_any (x y : Int) (a1 a2 : Option Addr) (n1 c1 n2 c2 : Nat) (w : World) :
    Calls Tryz.prog 41 #[.agg #[.int .i64 x, .slice a1 n1 c1], .agg #[.int .i64 y, .slice a2 n2 c2]] w fun e w' => e = .returned (.bool (a1.isNone && a2.isNone)) ∧ Below w.heap.size w w' := by
  have e1 := fun w => eql_any a1 n1 c1 w
  have e2 := fun w => eql_any a2 n2 c2 w
  have fin : ∀ (u v : Obj), Below w.heap.size w ((w.alloc u).alloc v) := fun u v => ((Below.refl _ _).alloc (Nat.le_refl _) _).alloc (by simp) _
  cases h1 : a1.isNone
  · rw [h1] at e1
    go_enter Tryz.func41, Tryz.ntmps41
    go_wp2
    go_ret
    exact ⟨rfl, fin _ _⟩
  · rw [h1] at e1
    go_enter Tryz.func41, Tryz.ntmps41
    go_wp2
    all_goals go_ret
    all_goals exact ⟨by simp [*], fin _ _⟩

/-- Two numbers in their boxes, one box for the answer. -/
theorem keep21 {w wp w1 : World} {r s q : Nat} {x y x' y' : Value} (hb : Below wp.heap.size wp w1) (h : Below w.heap.size w wp ∧ Box wp q ∧ wp.cell? ⟨r, 0, none⟩ = some x ∧ wp.cell? ⟨r, 1, none⟩ = some y ∧ wp.cell? ⟨s, 0, none⟩ = some x' ∧ wp.cell? ⟨s, 1, none⟩ = some y') :
    Below w.heap.size w w1 ∧ Box w1 q ∧ w1.cell? ⟨r, 0, none⟩ = some x ∧ w1.cell? ⟨r, 1, none⟩ = some y ∧ w1.cell? ⟨s, 0, none⟩ = some x' ∧ w1.cell? ⟨s, 1, none⟩ = some y' :=
  ⟨below_keep hb h.1, h.2.1.later hb, cell_keep hb h.2.2.1, cell_keep hb h.2.2.2.1, cell_keep hb h.2.2.2.2.1, cell_keep hb h.2.2.2.2.2⟩

theorem keep21s {w wp w1 : World} {r s q N M : Nat} {x y x' y' sv sv' : Value} {z z' : Int} (hb : Below wp.heap.size wp w1) (h : Below w.heap.size w wp ∧ Box wp q ∧ wp.cell? ⟨r, 0, none⟩ = some x ∧ wp.cell? ⟨r, 1, none⟩ = some y ∧ wp.cell? ⟨s, 0, none⟩ = some x' ∧ wp.cell? ⟨s, 1, none⟩ = some y' ∧ Sz N wp sv z ∧ Sz M wp sv' z') :
    Below w.heap.size w w1 ∧ Box w1 q ∧ w1.cell? ⟨r, 0, none⟩ = some x ∧ w1.cell? ⟨r, 1, none⟩ = some y ∧ w1.cell? ⟨s, 0, none⟩ = some x' ∧ w1.cell? ⟨s, 1, none⟩ = some y' ∧ Sz N w1 sv z ∧ Sz M w1 sv' z' :=
  ⟨below_keep hb h.1, h.2.1.later hb, cell_keep hb h.2.2.1, cell_keep hb h.2.2.2.1, cell_keep hb h.2.2.2.2.1, cell_keep hb h.2.2.2.2.2.1, h.2.2.2.2.2.2.1.later hb, h.2.2.2.2.2.2.2.later hb⟩
theorem hstart (w : World) (u v : Obj) : Below w.heap.size w (((w.alloc u).alloc v).alloc (.cells #[.int .i64 0, .slice none 0 0] 24)) ∧ Box (((w.alloc u).alloc v).alloc (.cells #[.int .i64 0, .slice none 0 0] 24)) (w.heap.size + 2) := by
  refine ⟨(((Below.refl _ _).alloc (Nat.le_refl _) _).alloc (by simp) _).alloc (by simp; omega) _, ?_⟩
  have := box_new ((w.alloc u).alloc v)
  simpa using this

theorem compare_sz {N M : Nat} {va vb : Value} {x y : Int} (w : World) (hva : Sz N w va x) (hvb : Sz M w vb y) (hN : N ≤ 1000000) (hM : M ≤ 1000000) :
    Calls Tryz.prog 46 #[va, vb] w fun e w' => e = .returned (.int .i64 (sgn (x - y))) ∧ Below w.heap.size w w' := by
  obtain ⟨ga, oa, ca, a, rfl, ha, ta, rfl, na, la, lca, hra⟩ := hva
  obtain ⟨gb, ob, cb, b, rfl, hb, tb, rfl, nb, lb, lcb, hrb⟩ := hvb
  refine (compare_any ga oa ca gb ob cb a b w hra hrb ha hb ta tb (by omega) (by omega)).mono ?_
  rintro e w' ⟨rfl, n, rfl⟩
  exact ⟨rfl, below_drewN (Below.refl _ _) n⟩
theorem sgn_val (z : Int) : (z < 0 ∧ sgn z = -1 ∧ iabs z = -z) ∨ (z = 0 ∧ sgn z = 0 ∧ iabs z = 0) ∨ (0 < z ∧ sgn z = 1 ∧ iabs z = z) := by
  unfold sgn iabs
  by_cases h : z < 0
  · simp [h]
  · by_cases h' : z = 0
    · subst h'; simp
    · simp [h, h']; omega
section
variable {x y z o : Int}
theorem add_cond (hx : sgn x = sgn z) (hy : sgn y = sgn o) (h : sgn x = sgn y) : sgn x = 1 ∨ sgn x = -1 ∨ (sgn x = 0 ∧ iabs z + iabs o = 0) := by
  rcases sgn_val z with ⟨a, b, c⟩ | ⟨a, b, c⟩ | ⟨a, b, c⟩ <;> rcases sgn_val o with ⟨a', b', c'⟩ | ⟨a', b', c'⟩ | ⟨a', b', c'⟩ <;> omega
theorem add_same (hx : sgn x = sgn z) (hy : sgn y = sgn o) (h : sgn x = sgn y) : sgn x * (iabs z + iabs o) = z + o := by
  rw [hx]
  rcases sgn_val z with ⟨a, b, c⟩ | ⟨a, b, c⟩ | ⟨a, b, c⟩ <;> rcases sgn_val o with ⟨a', b', c'⟩ | ⟨a', b', c'⟩ | ⟨a', b', c'⟩ <;> rw [b, c, c'] <;> omega
theorem add_condB (hx : sgn x = sgn z) (_hy : sgn y = sgn o) (_h : ¬ sgn x = sgn y) (hg : iabs o ≤ iabs z) : sgn x = 1 ∨ sgn x = -1 ∨ (sgn x = 0 ∧ iabs z - iabs o = 0) := by
  rcases sgn_val z with ⟨a, b, c⟩ | ⟨a, b, c⟩ | ⟨a, b, c⟩ <;> rcases sgn_val o with ⟨a', b', c'⟩ | ⟨a', b', c'⟩ | ⟨a', b', c'⟩ <;> omega
theorem add_diffB (hx : sgn x = sgn z) (hy : sgn y = sgn o) (h : ¬ sgn x = sgn y) (hg : iabs o ≤ iabs z) : sgn x * (iabs z - iabs o) = z + o := by
  rw [hx]
  rcases sgn_val z with ⟨a, b, c⟩ | ⟨a, b, c⟩ | ⟨a, b, c⟩ <;> rcases sgn_val o with ⟨a', b', c'⟩ | ⟨a', b', c'⟩ | ⟨a', b', c'⟩ <;> rw [b, c, c'] <;> omega
theorem add_condC (_hx : sgn x = sgn z) (hy : sgn y = sgn o) (_h : ¬ sgn x = sgn y) (hg : iabs z ≤ iabs o) : sgn y = 1 ∨ sgn y = -1 ∨ (sgn y = 0 ∧ iabs o - iabs z = 0) := by
  rcases sgn_val z with ⟨a, b, c⟩ | ⟨a, b, c⟩ | ⟨a, b, c⟩ <;> rcases sgn_val o with ⟨a', b', c'⟩ | ⟨a', b', c'⟩ | ⟨a', b', c'⟩ <;> omega
theorem add_diffC (hx : sgn x = sgn z) (hy : sgn y = sgn o) (h : ¬ sgn x = sgn y) (hg : iabs z ≤ iabs o) : sgn y * (iabs o - iabs z) = z + o := by
  rw [hy]
  rcases sgn_val z with ⟨a, b, c⟩ | ⟨a, b, c⟩ | ⟨a, b, c⟩ <;> rcases sgn_val o with ⟨a', b', c'⟩ | ⟨a', b', c'⟩ | ⟨a', b', c'⟩ <;> rw [b', c, c'] <;> omega
end

set_option maxHeartbeats 2000000 in
theorem add_slow {N : Nat} (x y : Int) (a1 a2 : Option Addr) (n1 c1 n2 c2 : Nat) (z o : Int) (w : World) (hz : Zr (N + 1) w (.agg #[.int .i64 x, .slice a1 n1 c1]) z) (ho : Zr (N + 1) w (.agg #[.int .i64 y, .slice a2 n2 c2]) o) (hbn : (a1.isNone && a2.isNone) = false) (hlim : N ≤ 800000) :
    Calls Tryz.prog 10 #[.agg #[.int .i64 x, .slice a1 n1 c1], .agg #[.int .i64 y, .slice a2 n2 c2]] w fun e w' => (∃ v, e = .returned v ∧ Zr (N + 2) w' v (z + o)) ∧ Below w.heap.size w w' := by
  have HZ := hide hz
  have HO := hide ho
  have HBN := hide hbn
  have tok1 : True := trivial
  have HSX : Hid (sgn x = sgn z) := by
    obtain ⟨x', a', n', c', hvv, hsg, _⟩ := hz.sgn
    obtain ⟨rfl, _⟩ : x = x' ∧ _ := by simpa using hvv
    exact hsg
  have HSY : Hid (sgn y = sgn o) := by
    obtain ⟨x', a', n', c', hvv, hsg, _⟩ := ho.sgn
    obtain ⟨rfl, _⟩ : y = x' ∧ _ := by simpa using hvv
    exact hsg
  clear hz ho hbn
  go_enter Tryz.func10, Tryz.ntmps10
  go_wp2_with fail
  go_fit (bothNear_any x y a1 a2 n1 c1 n2 c2 _)
  rintro e W1 ⟨rfl, hb0⟩
  rw [unhide HBN]
  have hst := hstart w (.cells #[.int .i64 x, .slice a1 n1 c1] 24) (.cells #[.int .i64 y, .slice a2 n2 c2] 24)
  have hS1 : Below w.heap.size w W1 ∧ Box W1 (w.heap.size + 2) ∧ W1.cell? ⟨w.heap.size, 0, none⟩ = some (.int .i64 x) ∧ W1.cell? ⟨w.heap.size, 1, none⟩ = some (.slice a1 n1 c1) ∧ W1.cell? ⟨w.heap.size + 1, 0, none⟩ = some (.int .i64 y) ∧ W1.cell? ⟨w.heap.size + 1, 1, none⟩ = some (.slice a2 n2 c2) :=
    keep21 hb0 ⟨hst.1, hst.2, by simp [go_sem], by simp [go_sem], by simp [go_sem], by simp [go_sem]⟩
  clear hb0 hst
  obtain ⟨hbW, hbox, hc0, hc1, hc2, hc3⟩ := hS1
  go_wp2_with fail
  go_region_held3 (fun w' => Below w.heap.size w w' ∧ Box w' (w.heap.size + 2) ∧ w'.cell? ⟨w.heap.size, 0, none⟩ = some (.int .i64 x) ∧ w'.cell? ⟨w.heap.size, 1, none⟩ = some (.slice a1 n1 c1) ∧ w'.cell? ⟨w.heap.size + 1, 0, none⟩ = some (.int .i64 y) ∧ w'.cell? ⟨w.heap.size + 1, 1, none⟩ = some (.slice a2 n2 c2))
    (first | exact ⟨hbW.drew, hbox, hc0, hc1, hc2, hc3⟩ | exact keep21 (by assumption) (by assumption))
    (first | (go_at_call 43; have _t := tok1; go_fit (size_any (z := z) (N := N) _ ((unhide HZ).later (And.left (by assumption)))); rintro e w2 ⟨sv1, rfl, hsv1, hb2⟩; clear tok1) | (go_at_call 43; go_fit (size_any (z := o) (N := N) _ ((unhide HO).later (And.left (by assumption)))); rintro e w3 ⟨sv2, rfl, hsv2, hb3⟩))
  have hS3 : Below w.heap.size w w3 ∧ Box w3 (w.heap.size + 2) ∧ w3.cell? ⟨w.heap.size, 0, none⟩ = some (.int .i64 x) ∧ w3.cell? ⟨w.heap.size, 1, none⟩ = some (.slice a1 n1 c1) ∧ w3.cell? ⟨w.heap.size + 1, 0, none⟩ = some (.int .i64 y) ∧ w3.cell? ⟨w.heap.size + 1, 1, none⟩ = some (.slice a2 n2 c2) := by assumption
  have hsv1' := hsv1.later hb3
  clear hbW hbox hc0 hc1 hc2 hc3 hsv1
  obtain ⟨hbW, hbox, hc0, hc1, hc2, hc3⟩ := hS3
  by_cases hss : sgn x = sgn y
  · have hss' : (sgn x == sgn y) = true := by simpa using hss
    have HC := hide (add_cond (z := z) (o := o) (unhide HSX) (unhide HSY) hss)
    have HE := hide (add_same (z := z) (o := o) (unhide HSX) (unhide HSY) hss)
    clear hss
    go_wp2_with fail
    go_region_held3 (fun w' => Below w.heap.size w w' ∧ Box w' (w.heap.size + 2) ∧ w'.cell? ⟨w.heap.size, 0, none⟩ = some (.int .i64 x) ∧ w'.cell? ⟨w.heap.size, 1, none⟩ = some (.slice a1 n1 c1) ∧ w'.cell? ⟨w.heap.size + 1, 0, none⟩ = some (.int .i64 y) ∧ w'.cell? ⟨w.heap.size + 1, 1, none⟩ = some (.slice a2 n2 c2) ∧ Sz (N + 1) w' sv1 (iabs z) ∧ Sz (N + 1) w' sv2 (iabs o))
      (first | exact ⟨hbW.drew, hbox, hc0, hc1, hc2, hc3, hsv1', hsv2⟩ | exact keep21s (by assumption) (by assumption))
      (first | (go_at_call 22; go_fit (sign_any _ _ _); rintro e w4 ⟨rfl, hb4⟩))
    have hS4 : Below w.heap.size w w4 ∧ Box w4 (w.heap.size + 2) ∧ w4.cell? ⟨w.heap.size, 0, none⟩ = some (.int .i64 x) ∧ w4.cell? ⟨w.heap.size, 1, none⟩ = some (.slice a1 n1 c1) ∧ w4.cell? ⟨w.heap.size + 1, 0, none⟩ = some (.int .i64 y) ∧ w4.cell? ⟨w.heap.size + 1, 1, none⟩ = some (.slice a2 n2 c2) ∧ Sz (N + 1) w4 sv1 (iabs z) ∧ Sz (N + 1) w4 sv2 (iabs o) := by assumption
    clear hbW hbox hc0 hc1 hc2 hc3 hsv1' hsv2
    obtain ⟨hbW, hbox, hc0, hc1, hc2, hc3, hsv1, hsv2⟩ := hS4
    go_wp2_with fail
    go_fit (sign_any _ _ _)
    rintro e w5 ⟨rfl, hb5⟩
    go_wp2_with fail
    go_fit (sum_any _ (hsv1.later hb5) (hsv2.later hb5) (by omega))
    rintro e w6 ⟨sv, rfl, hsv, hb6⟩
    go_wp2_with fail
    go_fit (signed_any _ _ (Or.inl hsv) (unhide HC))
    rintro e w7 ⟨⟨v7, rfl, hZ7⟩, hb7⟩
    obtain ⟨near7, a7, n7, c7, hv7⟩ := hZ7.shape
    subst hv7
    have hbx : Box w7 (w.heap.size + 2) := ((hbox.later hb5).later hb6).later hb7
    obtain ⟨⟨x0, g0⟩, ⟨a0, n0, c0, g1⟩, gf⟩ := hbx.cells
    have hbl : Below w.heap.size w w7 := below_keep hb7 (below_keep hb6 (below_keep hb5 hbW))
    go_wp2
    obtain ⟨st0, st1⟩ := hbx.stored (.int .i64 near7) (.slice a7 n7 c7)
    exact bodyPost_ret (v := .agg #[.int .i64 near7, .slice a7 n7 c7]) (by simp [results, Tryz.results10, go_sem, st0, st1]) rfl ⟨⟨_, rfl, ((hZ7.mono (by omega)).stored hbx _ _).eq (unhide HE)⟩, below_stored hbl (by omega) _ _⟩
  · have hss' : (sgn x == sgn y) = false := by simpa using hss
    obtain ⟨sg, hsg⟩ : ∃ sg, sgn (iabs z - iabs o) = sg := ⟨_, rfl⟩
    have HSG := hide hsg
    by_cases hge : iabs o ≤ iabs z
    · have hsg0 : 0 ≤ sg := by
        rw [← hsg]
        by_cases e : iabs z = iabs o
        · rw [sgn_zero (by omega)]; decide
        · rw [sgn_pos (by omega)]; decide
      have HC := hide (add_condB (z := z) (o := o) (unhide HSX) (unhide HSY) hss hge)
      have HE := hide (add_diffB (z := z) (o := o) (unhide HSX) (unhide HSY) hss hge)
      have HG := hide hge
      clear hss hsg hge
      go_wp2_with fail
      go_region_held3 (fun w' => Below w.heap.size w w' ∧ Box w' (w.heap.size + 2) ∧ w'.cell? ⟨w.heap.size, 0, none⟩ = some (.int .i64 x) ∧ w'.cell? ⟨w.heap.size, 1, none⟩ = some (.slice a1 n1 c1) ∧ w'.cell? ⟨w.heap.size + 1, 0, none⟩ = some (.int .i64 y) ∧ w'.cell? ⟨w.heap.size + 1, 1, none⟩ = some (.slice a2 n2 c2) ∧ Sz (N + 1) w' sv1 (iabs z) ∧ Sz (N + 1) w' sv2 (iabs o))
        (first | exact ⟨hbW.drew, hbox, hc0, hc1, hc2, hc3, hsv1', hsv2⟩ | exact keep21s (by assumption) (by assumption))
        (first | (go_at_call 22; go_fit (sign_any _ _ _); rintro e w4 ⟨rfl, hb4⟩))
      have hS4 : Below w.heap.size w w4 ∧ Box w4 (w.heap.size + 2) ∧ w4.cell? ⟨w.heap.size, 0, none⟩ = some (.int .i64 x) ∧ w4.cell? ⟨w.heap.size, 1, none⟩ = some (.slice a1 n1 c1) ∧ w4.cell? ⟨w.heap.size + 1, 0, none⟩ = some (.int .i64 y) ∧ w4.cell? ⟨w.heap.size + 1, 1, none⟩ = some (.slice a2 n2 c2) ∧ Sz (N + 1) w4 sv1 (iabs z) ∧ Sz (N + 1) w4 sv2 (iabs o) := by assumption
      clear hbW hbox hc0 hc1 hc2 hc3 hsv1' hsv2
      obtain ⟨hbW, hbox, hc0, hc1, hc2, hc3, hsv1, hsv2⟩ := hS4
      go_wp2_with fail
      go_fit (compare_sz _ hsv1 hsv2 (by omega) (by omega))
      rintro e w8 ⟨rfl, hb8⟩
      rw [unhide HSG]
      have hbW := below_keep hb8 hbW
      have hbox := hbox.later hb8
      have hc0 := cell_keep hb8 hc0
      have hc1 := cell_keep hb8 hc1
      have hc2 := cell_keep hb8 hc2
      have hc3 := cell_keep hb8 hc3
      have hsv1 := hsv1.later hb8
      have hsv2 := hsv2.later hb8
      go_wp2_with fail
      go_fit (sign_any _ _ _)
      rintro e w5 ⟨rfl, hb5⟩
      go_wp2_with fail
      go_fit (difference_any _ (hsv1.later hb5) (hsv2.later hb5) (unhide HG) (by omega))
      rintro e w6 ⟨sv, rfl, hsv, hb6⟩
      go_wp2_with fail
      go_fit (signed_any _ _ (Or.inl hsv) (unhide HC))
      rintro e w7 ⟨⟨v7, rfl, hZ7⟩, hb7⟩
      obtain ⟨near7, a7, n7, c7, hv7⟩ := hZ7.shape
      subst hv7
      have hbx : Box w7 (w.heap.size + 2) := ((hbox.later hb5).later hb6).later hb7
      obtain ⟨⟨x0, g0⟩, ⟨a0, n0, c0, g1⟩, gf⟩ := hbx.cells
      have hbl : Below w.heap.size w w7 := below_keep hb7 (below_keep hb6 (below_keep hb5 hbW))
      go_wp2
      obtain ⟨st0, st1⟩ := hbx.stored (.int .i64 near7) (.slice a7 n7 c7)
      exact bodyPost_ret (v := .agg #[.int .i64 near7, .slice a7 n7 c7]) (by simp [results, Tryz.results10, go_sem, st0, st1]) rfl ⟨⟨_, rfl, ((hZ7.mono (by omega)).stored hbx _ _).eq (unhide HE)⟩, below_stored hbl (by omega) _ _⟩
    · have hsg0 : sg < 0 := by rw [← hsg, sgn_neg (by omega)]; decide
      have hge' : iabs z ≤ iabs o := by omega
      have HC := hide (add_condC (z := z) (o := o) (unhide HSX) (unhide HSY) hss hge')
      have HE := hide (add_diffC (z := z) (o := o) (unhide HSX) (unhide HSY) hss hge')
      have HG := hide hge'
      clear hss hsg hge hge'
      go_wp2_with fail
      go_region_held3 (fun w' => Below w.heap.size w w' ∧ Box w' (w.heap.size + 2) ∧ w'.cell? ⟨w.heap.size, 0, none⟩ = some (.int .i64 x) ∧ w'.cell? ⟨w.heap.size, 1, none⟩ = some (.slice a1 n1 c1) ∧ w'.cell? ⟨w.heap.size + 1, 0, none⟩ = some (.int .i64 y) ∧ w'.cell? ⟨w.heap.size + 1, 1, none⟩ = some (.slice a2 n2 c2) ∧ Sz (N + 1) w' sv1 (iabs z) ∧ Sz (N + 1) w' sv2 (iabs o))
        (first | exact ⟨hbW.drew, hbox, hc0, hc1, hc2, hc3, hsv1', hsv2⟩ | exact keep21s (by assumption) (by assumption))
        (first | (go_at_call 22; go_fit (sign_any _ _ _); rintro e w4 ⟨rfl, hb4⟩))
      have hS4 : Below w.heap.size w w4 ∧ Box w4 (w.heap.size + 2) ∧ w4.cell? ⟨w.heap.size, 0, none⟩ = some (.int .i64 x) ∧ w4.cell? ⟨w.heap.size, 1, none⟩ = some (.slice a1 n1 c1) ∧ w4.cell? ⟨w.heap.size + 1, 0, none⟩ = some (.int .i64 y) ∧ w4.cell? ⟨w.heap.size + 1, 1, none⟩ = some (.slice a2 n2 c2) ∧ Sz (N + 1) w4 sv1 (iabs z) ∧ Sz (N + 1) w4 sv2 (iabs o) := by assumption
      clear hbW hbox hc0 hc1 hc2 hc3 hsv1' hsv2
      obtain ⟨hbW, hbox, hc0, hc1, hc2, hc3, hsv1, hsv2⟩ := hS4
      go_wp2_with fail
      go_fit (compare_sz _ hsv1 hsv2 (by omega) (by omega))
      rintro e w8 ⟨rfl, hb8⟩
      rw [unhide HSG]
      have hbW := below_keep hb8 hbW
      have hbox := hbox.later hb8
      have hc0 := cell_keep hb8 hc0
      have hc1 := cell_keep hb8 hc1
      have hc2 := cell_keep hb8 hc2
      have hc3 := cell_keep hb8 hc3
      have hsv1 := hsv1.later hb8
      have hsv2 := hsv2.later hb8
      go_wp2_with fail
      go_fit (sign_any _ _ _)
      rintro e w5 ⟨rfl, hb5⟩
      go_wp2_with fail
      go_fit (difference_any _ (hsv2.later hb5) (hsv1.later hb5) (unhide HG) (by omega))
      rintro e w6 ⟨sv, rfl, hsv, hb6⟩
      go_wp2_with fail
      go_fit (signed_any _ _ (Or.inl hsv) (unhide HC))
      rintro e w7 ⟨⟨v7, rfl, hZ7⟩, hb7⟩
      obtain ⟨near7, a7, n7, c7, hv7⟩ := hZ7.shape
      subst hv7
      have hbx : Box w7 (w.heap.size + 2) := ((hbox.later hb5).later hb6).later hb7
      obtain ⟨⟨x0, g0⟩, ⟨a0, n0, c0, g1⟩, gf⟩ := hbx.cells
      have hbl : Below w.heap.size w w7 := below_keep hb7 (below_keep hb6 (below_keep hb5 hbW))
      go_wp2
      obtain ⟨st0, st1⟩ := hbx.stored (.int .i64 near7) (.slice a7 n7 c7)
      exact bodyPost_ret (v := .agg #[.int .i64 near7, .slice a7 n7 c7]) (by simp [results, Tryz.results10, go_sem, st0, st1]) rfl ⟨⟨_, rfl, ((hZ7.mono (by omega)).stored hbx _ _).eq (unhide HE)⟩, below_stored hbl (by omega) _ _⟩
end Go.Proofs.YtmdmcmkfhmnbeaaGreatDoor
