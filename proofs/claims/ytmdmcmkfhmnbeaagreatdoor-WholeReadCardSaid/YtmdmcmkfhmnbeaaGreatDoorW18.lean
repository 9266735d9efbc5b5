/-
  Walks over package whole: Sub, Cmp of numbers.
-/
import Derived.Test.YtmdmcmkfhmnbeaaGreatDoorW17
namespace Go.Proofs.YtmdmcmkfhmnbeaaGreatDoor
open Go.RowKit

theorem store21 {w wp : World} {r s q : Nat} {x y x' y' : Value} {u : Int} {a : Option Addr} {n c : Nat} (h : Below w.heap.size w wp ∧ Box wp q ∧ wp.cell? ⟨r, 0, none⟩ = some x ∧ wp.cell? ⟨r, 1, none⟩ = some y ∧ wp.cell? ⟨s, 0, none⟩ = some x' ∧ wp.cell? ⟨s, 1, none⟩ = some y') (hq : w.heap.size ≤ q) (hr : r ≠ q) (hs : s ≠ q) :
    Below w.heap.size w ((wp.setCell ⟨q, 0, none⟩ (.int .i64 u)).setCell ⟨q, 1, none⟩ (.slice a n c)) ∧ Box ((wp.setCell ⟨q, 0, none⟩ (.int .i64 u)).setCell ⟨q, 1, none⟩ (.slice a n c)) q ∧
    ((wp.setCell ⟨q, 0, none⟩ (.int .i64 u)).setCell ⟨q, 1, none⟩ (.slice a n c)).cell? ⟨r, 0, none⟩ = some x ∧ ((wp.setCell ⟨q, 0, none⟩ (.int .i64 u)).setCell ⟨q, 1, none⟩ (.slice a n c)).cell? ⟨r, 1, none⟩ = some y ∧
    ((wp.setCell ⟨q, 0, none⟩ (.int .i64 u)).setCell ⟨q, 1, none⟩ (.slice a n c)).cell? ⟨s, 0, none⟩ = some x' ∧ ((wp.setCell ⟨q, 0, none⟩ (.int .i64 u)).setCell ⟨q, 1, none⟩ (.slice a n c)).cell? ⟨s, 1, none⟩ = some y' := by
  obtain ⟨h1, h2, h3, h4, h5, h6⟩ := h
  refine ⟨below_stored h1 hq _ _, h2.stored' _ _ _ _, ?_, ?_, ?_, ?_⟩
  · rw [cell?_setCell_ne _ _ _ _ _ _ (by omega), cell?_setCell_ne _ _ _ _ _ _ (by omega)]; exact h3
  · rw [cell?_setCell_ne _ _ _ _ _ _ (by omega), cell?_setCell_ne _ _ _ _ _ _ (by omega)]; exact h4
  · rw [cell?_setCell_ne _ _ _ _ _ _ (by omega), cell?_setCell_ne _ _ _ _ _ _ (by omega)]; exact h5
  · rw [cell?_setCell_ne _ _ _ _ _ _ (by omega), cell?_setCell_ne _ _ _ _ _ _ (by omega)]; exact h6

set_option maxHeartbeats 2000000 in
theorem sub_core {N : Nat} (x y : Int) (a1 a2 : Option Addr) (n1 c1 n2 c2 : Nat) (z o : Int) (w : World) (hz : Zr (N + 1) w (.agg #[.int .i64 x, .slice a1 n1 c1]) z) (ho : Zr (N + 1) w (.agg #[.int .i64 y, .slice a2 n2 c2]) o) (hlim : N ≤ 800000) :
    Calls Tryz.prog 11 #[.agg #[.int .i64 x, .slice a1 n1 c1], .agg #[.int .i64 y, .slice a2 n2 c2]] w fun e w' => (∃ v, e = .returned v ∧ Zr (N + 2) w' v (z - o)) ∧ Below w.heap.size w w' := by
  have HZ := hide hz
  have HO := hide ho
  clear hz ho
  go_enter Tryz.func11, Tryz.ntmps11
  go_wp2_with fail
  obtain ⟨W1, hW1⟩ : ∃ W1, W1 = ((w.alloc (.cells #[.int .i64 x, .slice a1 n1 c1] 24)).alloc (.cells #[.int .i64 y, .slice a2 n2 c2] 24)).alloc (.cells #[.int .i64 0, .slice none 0 0] 24) := ⟨_, rfl⟩
  have hst := hstart w (.cells #[.int .i64 x, .slice a1 n1 c1] 24) (.cells #[.int .i64 y, .slice a2 n2 c2] 24)
  have hS1 : Below w.heap.size w W1 ∧ Box W1 (w.heap.size + 2) ∧ W1.cell? ⟨w.heap.size, 0, none⟩ = some (.int .i64 x) ∧ W1.cell? ⟨w.heap.size, 1, none⟩ = some (.slice a1 n1 c1) ∧ W1.cell? ⟨w.heap.size + 1, 0, none⟩ = some (.int .i64 y) ∧ W1.cell? ⟨w.heap.size + 1, 1, none⟩ = some (.slice a2 n2 c2) := by
    rw [hW1]; exact ⟨hst.1, hst.2, by simp [go_sem], by simp [go_sem], by simp [go_sem], by simp [go_sem]⟩
  rw [← hW1]
  clear hW1 hst
  obtain ⟨hbW, hbox, hc0, hc1, hc2, hc3⟩ := hS1
  go_region_held3 (fun w' => Below w.heap.size w w' ∧ Box w' (w.heap.size + 2) ∧ w'.cell? ⟨w.heap.size, 0, none⟩ = some (.int .i64 x) ∧ w'.cell? ⟨w.heap.size, 1, none⟩ = some (.slice a1 n1 c1) ∧ w'.cell? ⟨w.heap.size + 1, 0, none⟩ = some (.int .i64 y) ∧ w'.cell? ⟨w.heap.size + 1, 1, none⟩ = some (.slice a2 n2 c2))
    (first | exact ⟨hbW.drew, hbox, hc0, hc1, hc2, hc3⟩ | exact keep21 (by assumption) (by assumption) | exact store21 (by assumption) (by omega) (by omega) (by omega))
    (first | (go_at_call 13; go_fit (neg_any (z := o) (N := N) _ ((unhide HO).later (And.left (by assumption)))); rintro e w2 ⟨⟨nv, rfl, hnv⟩, hb2⟩) | (go_at_call 10; go_fit (add_any (z := z) (o := -o) (N := N) _ ((unhide HZ).later (And.left (by assumption))) hnv hlim); rintro e w3 ⟨⟨v3, rfl, hZ3⟩, hb3⟩; obtain ⟨near3, a3, n3, c3, hv3⟩ := hZ3.shape; subst hv3; obtain ⟨x0, a0, n0, c0, g0, g1, gf⟩ := boxOf hb3 (by assumption)))
  go_wp2
  have hbx : Box w3 (w.heap.size + 2) := (Box.later (w := W1.drew) hbox hb2).later hb3
  have hbl : Below w.heap.size w w3 := below_keep hb3 (below_keep hb2 hbW.drew)
  obtain ⟨st0, st1⟩ := hbx.stored (.int .i64 near3) (.slice a3 n3 c3)
  exact bodyPost_ret (v := .agg #[.int .i64 near3, .slice a3 n3 c3]) (by simp [results, Tryz.results11, go_sem, st0, st1]) rfl ⟨⟨_, rfl, (hZ3.stored hbx _ _).eq (by omega)⟩, below_stored hbl (by omega) _ _⟩

/-- Sub: of any two numbers. -/
theorem sub_any {N : Nat} {v u : Value} {z o : Int} (w : World) (hz : Zr (N + 1) w v z) (ho : Zr (N + 1) w u o) (hlim : N ≤ 800000) :
    Calls Tryz.prog 11 #[v, u] w fun e w' => (∃ v, e = .returned v ∧ Zr (N + 2) w' v (z - o)) ∧ Below w.heap.size w w' := by
  obtain ⟨x, a1, n1, c1, rfl⟩ := hz.shape
  obtain ⟨y, a2, n2, c2, rfl⟩ := ho.shape
  exact sub_core x y a1 a2 n1 c1 n2 c2 z o w hz ho hlim

/-- Two numbers in their boxes. -/
theorem keep2 {w wp w1 : World} {r s : Nat} {x y x' y' : Value} (hb : Below wp.heap.size wp w1) (h : Below w.heap.size w wp ∧ wp.cell? ⟨r, 0, none⟩ = some x ∧ wp.cell? ⟨r, 1, none⟩ = some y ∧ wp.cell? ⟨s, 0, none⟩ = some x' ∧ wp.cell? ⟨s, 1, none⟩ = some y') :
    Below w.heap.size w w1 ∧ w1.cell? ⟨r, 0, none⟩ = some x ∧ w1.cell? ⟨r, 1, none⟩ = some y ∧ w1.cell? ⟨s, 0, none⟩ = some x' ∧ w1.cell? ⟨s, 1, none⟩ = some y' :=
  ⟨below_keep hb h.1, cell_keep hb h.2.1, cell_keep hb h.2.2.1, cell_keep hb h.2.2.2.1, cell_keep hb h.2.2.2.2⟩
theorem cmp_diff {x y z o : Int} (hx : sgn x = sgn z) (hy : sgn y = sgn o) (h : ¬ sgn x = sgn y) : sgn (sgn x - sgn y) = sgn (z - o) := by
  rw [hx, hy] at h ⊢
  rcases sgn_val z with ⟨a, b, c⟩ | ⟨a, b, c⟩ | ⟨a, b, c⟩ <;> rcases sgn_val o with ⟨a', b', c'⟩ | ⟨a', b', c'⟩ | ⟨a', b', c'⟩ <;> rw [b, b'] at h ⊢ <;> first | omega | (rw [sgn_neg (by omega), sgn_neg (by omega)]) | (rw [sgn_pos (by omega), sgn_pos (by omega)])
theorem cmp_same {x y z o : Int} (hx : sgn x = sgn z) (hy : sgn y = sgn o) (h : sgn x = sgn y) : sgn x * sgn (iabs z - iabs o) = sgn (z - o) := by
  rw [hx, hy] at h
  rw [hx]
  rcases sgn_val z with ⟨a, b, c⟩ | ⟨a, b, c⟩ | ⟨a, b, c⟩ <;> rcases sgn_val o with ⟨a', b', c'⟩ | ⟨a', b', c'⟩ | ⟨a', b', c'⟩ <;> rw [b, b'] at h <;> try omega
  · rw [b, c, c']
    rcases sgn_val (z - o) with ⟨e, f, _⟩ | ⟨e, f, _⟩ | ⟨e, f, _⟩
    · rw [f, sgn_pos (by omega)]; omega
    · rw [f, sgn_zero (by omega)]; omega
    · rw [f, sgn_neg (by omega)]; omega
  · rw [b, a, a']; simp; rfl
  · rw [b, c, c']; omega

set_option maxHeartbeats 2000000 in
theorem cmp_near (x y : Int) (w : World) :
    Calls Tryz.prog 20 #[.agg #[.int .i64 x, .slice none 0 0], .agg #[.int .i64 y, .slice none 0 0]] w fun e w' => e = .returned (.int .i64 (sgn (x - y))) ∧ Below w.heap.size w w' := by
  go_enter Tryz.func20, Tryz.ntmps20
  go_wp2_with fail
  go_fit (bothNear_any x y none none 0 0 0 0 _)
  rintro e W1 ⟨rfl, hb0⟩
  have hS1 : Below w.heap.size w W1 ∧ W1.cell? ⟨w.heap.size, 0, none⟩ = some (.int .i64 x) ∧ W1.cell? ⟨w.heap.size, 1, none⟩ = some (.slice none 0 0) ∧ W1.cell? ⟨w.heap.size + 1, 0, none⟩ = some (.int .i64 y) ∧ W1.cell? ⟨w.heap.size + 1, 1, none⟩ = some (.slice none 0 0) :=
    keep2 hb0 ⟨((Below.refl _ _).alloc (Nat.le_refl _) _).alloc (by simp) _, by simp [go_sem], by simp [go_sem], by simp [go_sem], by simp [go_sem]⟩
  clear hb0
  obtain ⟨hbW, hc0, hc1, hc2, hc3⟩ := hS1
  simp only [Option.isNone_none, Bool.and_self]
  go_wp2_with fail
  go_fit (cmp_i64 x y _)
  rintro e w7 ⟨rfl, rfl⟩
  go_wp2
  go_ret
  exact ⟨rfl, hbW⟩

set_option maxHeartbeats 2000000 in
theorem cmp_far {N : Nat} (x y : Int) (a1 a2 : Option Addr) (n1 c1 n2 c2 : Nat) (z o : Int) (w : World) (hz : Zr (N + 1) w (.agg #[.int .i64 x, .slice a1 n1 c1]) z) (ho : Zr (N + 1) w (.agg #[.int .i64 y, .slice a2 n2 c2]) o) (hbn : (a1.isNone && a2.isNone) = false) (hlim : N ≤ 800000) :
    Calls Tryz.prog 20 #[.agg #[.int .i64 x, .slice a1 n1 c1], .agg #[.int .i64 y, .slice a2 n2 c2]] w fun e w' => e = .returned (.int .i64 (sgn (z - o))) ∧ Below w.heap.size w w' := by
  have HZ := hide hz
  have HO := hide ho
  have HBN := hide hbn
  have tok1 : True := trivial
  have HSX : Hid (sgn x = sgn z) := by
    obtain ⟨x', a', n', c', hvv, hsg, _⟩ := hz.sgn
    obtain ⟨rfl, _⟩ : x = x' ∧ _ := by simpa using hvv
    exact hsg
  have HSY : Hid (sgn y = sgn o) := by
    obtain ⟨x', a', n', c', hvv, hsg, _⟩ := ho.sgn
    obtain ⟨rfl, _⟩ : y = x' ∧ _ := by simpa using hvv
    exact hsg
  clear hz ho hbn
  go_enter Tryz.func20, Tryz.ntmps20
  go_wp2_with fail
  go_fit (bothNear_any x y a1 a2 n1 c1 n2 c2 _)
  rintro e W1 ⟨rfl, hb0⟩
  rw [unhide HBN]
  have hS1 : Below w.heap.size w W1 ∧ W1.cell? ⟨w.heap.size, 0, none⟩ = some (.int .i64 x) ∧ W1.cell? ⟨w.heap.size, 1, none⟩ = some (.slice a1 n1 c1) ∧ W1.cell? ⟨w.heap.size + 1, 0, none⟩ = some (.int .i64 y) ∧ W1.cell? ⟨w.heap.size + 1, 1, none⟩ = some (.slice a2 n2 c2) :=
    keep2 hb0 ⟨((Below.refl _ _).alloc (Nat.le_refl _) _).alloc (by simp) _, by simp [go_sem], by simp [go_sem], by simp [go_sem], by simp [go_sem]⟩
  clear hb0
  obtain ⟨hbW, hc0, hc1, hc2, hc3⟩ := hS1
  by_cases hss : sgn x = sgn y
  · have hss' : (sgn x != sgn y) = false := by simpa using hss
    have HE := hide (cmp_same (z := z) (o := o) (unhide HSX) (unhide HSY) hss)
    clear hss
    obtain ⟨sg, hsg⟩ : ∃ sg, sgn (iabs z - iabs o) = sg := ⟨_, rfl⟩
    have HSG := hide hsg
    have hm : sgn x * sg = sgn (z - o) := by rw [← hsg]; exact unhide HE
    obtain ⟨m, hmm⟩ : ∃ m, sgn (z - o) = m := ⟨_, rfl⟩
    have hmb : -1 ≤ m ∧ m ≤ 1 := by rw [← hmm]; rcases sgn_cases (z - o) with h | h | ⟨h, _⟩ <;> omega
    have hw1 : IntKind.i64.wrap (sgn x * sg) = m := by rw [hm, hmm, IntKind.wrap_i64]; omega
    have hw2 : wrap64 (sgn x * sg) = m := by rw [hm, hmm]; unfold wrap64; omega
    have HMM := hide hmm
    clear hsg hm hmm hmb
    go_wp2_with fail
    go_region_held3 (fun w' => Below w.heap.size w w' ∧ w'.cell? ⟨w.heap.size, 0, none⟩ = some (.int .i64 x) ∧ w'.cell? ⟨w.heap.size, 1, none⟩ = some (.slice a1 n1 c1) ∧ w'.cell? ⟨w.heap.size + 1, 0, none⟩ = some (.int .i64 y) ∧ w'.cell? ⟨w.heap.size + 1, 1, none⟩ = some (.slice a2 n2 c2))
      (first | exact ⟨hbW.drew, hc0, hc1, hc2, hc3⟩ | exact keep2 (by assumption) (by assumption))
      (first | (go_at_call 22; go_fit (sign_any _ _ _); rintro e w4 ⟨rfl, hb4⟩))
    have hS4 : Below w.heap.size w w4 ∧ w4.cell? ⟨w.heap.size, 0, none⟩ = some (.int .i64 x) ∧ w4.cell? ⟨w.heap.size, 1, none⟩ = some (.slice a1 n1 c1) ∧ w4.cell? ⟨w.heap.size + 1, 0, none⟩ = some (.int .i64 y) ∧ w4.cell? ⟨w.heap.size + 1, 1, none⟩ = some (.slice a2 n2 c2) := by assumption
    clear hbW hc0 hc1 hc2 hc3
    obtain ⟨hbW, hc0, hc1, hc2, hc3⟩ := hS4
    go_wp2_with fail
    go_region_held3 (fun w' => Below w.heap.size w w' ∧ w'.cell? ⟨w.heap.size, 0, none⟩ = some (.int .i64 x) ∧ w'.cell? ⟨w.heap.size, 1, none⟩ = some (.slice a1 n1 c1) ∧ w'.cell? ⟨w.heap.size + 1, 0, none⟩ = some (.int .i64 y) ∧ w'.cell? ⟨w.heap.size + 1, 1, none⟩ = some (.slice a2 n2 c2))
      (first | exact ⟨hbW.drew, hc0, hc1, hc2, hc3⟩ | exact keep2 (by assumption) (by assumption) | assumption)
      (first | (go_at_call 22; go_fit (sign_any _ _ _); rintro e w5 ⟨rfl, hb5⟩) | (go_at_call 43; have _t := tok1; go_fit (size_any (z := z) (N := N) _ ((unhide HZ).later (And.left (by assumption)))); rintro e w2 ⟨sv1, rfl, hsv1, hb2⟩; clear tok1) | (go_at_call 43; go_fit (size_any (z := o) (N := N) _ ((unhide HO).later (And.left (by assumption)))); rintro e w3 ⟨sv2, rfl, hsv2, hb3⟩) | (go_at_call 46; go_fit (compare_sz _ (hsv1.later hb3) hsv2 (by omega) (by omega)); rw [unhide HSG]; rintro e w6 ⟨rfl, hb6⟩))
    go_wp2
    go_ret
    exact ⟨ret_int (unhide HMM).symm, And.left (by assumption)⟩
  · have hss' : (sgn x != sgn y) = true := by simpa using hss
    have HE := hide (cmp_diff (z := z) (o := o) (unhide HSX) (unhide HSY) hss)
    clear hss
    go_wp2_with fail
    go_region_held3 (fun w' => Below w.heap.size w w' ∧ w'.cell? ⟨w.heap.size, 0, none⟩ = some (.int .i64 x) ∧ w'.cell? ⟨w.heap.size, 1, none⟩ = some (.slice a1 n1 c1) ∧ w'.cell? ⟨w.heap.size + 1, 0, none⟩ = some (.int .i64 y) ∧ w'.cell? ⟨w.heap.size + 1, 1, none⟩ = some (.slice a2 n2 c2))
      (first | exact ⟨hbW.drew, hc0, hc1, hc2, hc3⟩ | exact keep2 (by assumption) (by assumption))
      (first | (go_at_call 22; go_fit (sign_any _ _ _); rintro e w4 ⟨rfl, hb4⟩))
    have hS4 : Below w.heap.size w w4 ∧ w4.cell? ⟨w.heap.size, 0, none⟩ = some (.int .i64 x) ∧ w4.cell? ⟨w.heap.size, 1, none⟩ = some (.slice a1 n1 c1) ∧ w4.cell? ⟨w.heap.size + 1, 0, none⟩ = some (.int .i64 y) ∧ w4.cell? ⟨w.heap.size + 1, 1, none⟩ = some (.slice a2 n2 c2) := by assumption
    clear hbW hc0 hc1 hc2 hc3
    obtain ⟨hbW, hc0, hc1, hc2, hc3⟩ := hS4
    go_wp2_with fail
    go_region_held3 (fun w' => Below w.heap.size w w' ∧ w'.cell? ⟨w.heap.size, 0, none⟩ = some (.int .i64 x) ∧ w'.cell? ⟨w.heap.size, 1, none⟩ = some (.slice a1 n1 c1) ∧ w'.cell? ⟨w.heap.size + 1, 0, none⟩ = some (.int .i64 y) ∧ w'.cell? ⟨w.heap.size + 1, 1, none⟩ = some (.slice a2 n2 c2))
      (first | exact ⟨hbW.drew, hc0, hc1, hc2, hc3⟩ | exact keep2 (by assumption) (by assumption) | assumption)
      (first | (go_at_call 22; go_fit (sign_any _ _ _); rintro e w5 ⟨rfl, hb5⟩) | (go_at_call 59; go_fit (cmp_int _ _ _); rintro e w6 ⟨rfl, rfl⟩))
    go_wp2
    go_ret
    exact ⟨ret_int (unhide HE), And.left (by assumption)⟩

/-- Cmp: of any two numbers. -/
theorem cmp_any {N : Nat} {v u : Value} {z o : Int} (w : World) (hz : Zr (N + 1) w v z) (ho : Zr (N + 1) w u o) (hlim : N ≤ 800000) :
    Calls Tryz.prog 20 #[v, u] w fun e w' => e = .returned (.int .i64 (sgn (z - o))) ∧ Below w.heap.size w w' := by
  obtain ⟨x, a1, n1, c1, rfl, h1, h2, h3⟩ := hz.sgn
  obtain ⟨y, a2, n2, c2, rfl, k1, k2, k3⟩ := ho.sgn
  cases hbn : (a1.isNone && a2.isNone)
  · exact cmp_far x y a1 a2 n1 c1 n2 c2 z o w hz ho hbn hlim
  · simp at hbn
    obtain ⟨rfl, rfl, rfl, b0, b1⟩ := h2 hbn.1
    obtain ⟨rfl, rfl, rfl, d0, d1⟩ := k2 hbn.2
    obtain ⟨rfl, rfl⟩ := hbn
    exact cmp_near x y w
end Go.Proofs.YtmdmcmkfhmnbeaaGreatDoor
