/-
  Walks over the numbers of the document: Read.
-/
import Derived.Test.YtmdmcmkfhmnbeaaGreatDoorR8
namespace Go.Proofs.YtmdmcmkfhmnbeaaGreatDoor
open Go.RowKit

theorem GB.other {w : World} {r q : Nat} {T : TypeId} (h : GB w r T) (hne : r ≠ q) (u u' : Value) : GB ((w.setCell ⟨q, 0, none⟩ u).setCell ⟨q, 1, none⟩ u') r T := by
  obtain ⟨x, y, h⟩ := h
  exact ⟨x, y, by rw [Below.heap_setCell _ _ _ _ hne, Below.heap_setCell _ _ _ _ hne]; exact h⟩
/-- Two boxes, both stored. -/
theorem four_stores {W : World} {p q : Nat} {T U : TypeId} (h0 : GB W p T) (h1 : GB W q U) (hne : p ≠ q) (x y u v : Value) :
    let wf := (((W.setCell ⟨p, 0, none⟩ x).setCell ⟨p, 1, none⟩ y).setCell ⟨q, 0, none⟩ u).setCell ⟨q, 1, none⟩ v
    wf.cell? ⟨p, 0, none⟩ = some x ∧ wf.cell? ⟨p, 1, none⟩ = some y ∧ wf.cell? ⟨q, 0, none⟩ = some u ∧ wf.cell? ⟨q, 1, none⟩ = some v := by
  intro wf
  obtain ⟨⟨a0, c0⟩, ⟨a1, c1⟩, _⟩ := h0.cells
  obtain ⟨⟨b0, d0⟩, ⟨b1, d1⟩, _⟩ := h1.cells
  refine ⟨?_, ?_, ?_, ?_⟩
  · show (World.setCell _ _ _).cell? _ = _
    rw [cell?_setCell_ne _ _ _ _ _ _ (by omega), cell?_setCell_ne _ _ _ _ _ _ (by omega), cell?_setCell_ne _ _ _ _ _ _ (by omega)]
    exact cell?_setCell_eq c0
  · show (World.setCell _ _ _).cell? _ = _
    rw [cell?_setCell_ne _ _ _ _ _ _ (by omega), cell?_setCell_ne _ _ _ _ _ _ (by omega)]
    exact cell?_setCell_eq (u := a1) (by rw [cell?_setCell_ne _ _ _ _ _ _ (by omega)]; exact c1)
  · show (World.setCell _ _ _).cell? _ = _
    rw [cell?_setCell_ne _ _ _ _ _ _ (by omega)]
    exact cell?_setCell_eq (u := b0) (by rw [cell?_setCell_ne _ _ _ _ _ _ (by omega), cell?_setCell_ne _ _ _ _ _ _ (by omega)]; exact d0)
  · show (World.setCell _ _ _).cell? _ = _
    exact cell?_setCell_eq (u := b1) (by rw [cell?_setCell_ne _ _ _ _ _ _ (by omega), cell?_setCell_ne _ _ _ _ _ _ (by omega), cell?_setCell_ne _ _ _ _ _ _ (by omega)]; exact d1)

theorem Sl.shape {w : World} {sl : Value} {D : List Int} (h : Sl w sl D) : ∃ a n c, sl = .slice a n c := by
  rcases h with ⟨rfl, _⟩ | ⟨b, cap, rfl, _⟩ <;> exact ⟨_, _, _, rfl⟩
theorem sign_false {neg : Bool} {D : List Int} {z : Int} (hP : P4 D) (hT : Trim D) (hn : D = [] → neg = false) (hz : z = if neg then - v4 D else v4 D) (h0 : 0 ≤ z) : v4 D = z := by
  cases neg
  · simpa using hz.symm
  · exfalso
    by_cases h : D = []
    · exact absurd (hn h) (by decide)
    · have := v4_pos hP hT h
      simp at hz
      omega
theorem Nr.congr {N : Nat} {w : World} {v : Value} {z y : Int} (h : Nr N w v z) (e : z = y) : Nr N w v y := e ▸ h

set_option maxHeartbeats 2000000 in
set_option maxRecDepth 8000 in
theorem rread_any (s : ByteArray) (w : World) (hs : s.size ≤ maxLen) :
    Calls Tryz.prog 6 #[.string s] w fun e w' => (∃ v code pl, e = .returned (.tuple #[v, .agg #[.int .i64 code, .int .i64 pl]]) ∧ ((code = 0 ∧ pl = -1 ∧ Good (digitsOf s) ∧ Nr 75 w' v (numOf s)) ∨ (∃ (k : Nat) (text : Bool), code = (if text then 1 else 2) ∧ pl = (atOf s : Int) + k ∧ Wrong (digitsOf s) k text ∧ v = .agg #[.bool false, .slice none 0 0]))) ∧ Below w.heap.size w w' := by
  unfold maxLen at hs
  have hsi : (s.size : Int) ≤ 9223372036854775807 := by omega
  have HAL := hide (atOf_le s)
  have HBW := hide (below_keep (below_new (w.alloc (.cells #[.bool false, .slice none 0 0] 31)) (.cells #[.int .i64 0, .int .i64 0] 33)) (below_new w (.cells #[.bool false, .slice none 0 0] 31)))
  have HB0 := hide ((nbox_new w false none 0 0).later (below_new (w.alloc (.cells #[.bool false, .slice none 0 0] 31)) (.cells #[.int .i64 0, .int .i64 0] 33)))
  have HB1 := hide (gb_new (w.alloc (.cells #[.bool false, .slice none 0 0] 31)) (.int .i64 0) (.int .i64 0) 33)
  rw [show (w.alloc (.cells #[.bool false, .slice none 0 0] 31)).heap.size = w.heap.size + 1 by simp] at HB1
  have h3 : (atOf s = 0 ∧ minusOf s = false ∧ s.size = 0) ∨ (atOf s = 0 ∧ minusOf s = false ∧ ∃ h : 0 < s.size, ((s[0]'h).toNat == 45) = false) ∨ (atOf s = 1 ∧ minusOf s = true ∧ ∃ h : 0 < s.size, ((s[0]'h).toNat == 45) = true) := by
    by_cases h0 : s.size = 0
    · exact Or.inl ⟨by unfold atOf; rw [minus_none h0]; rfl, minus_none h0, h0⟩
    · have hp : 0 < s.size := by omega
      have hm := minus_some hp
      cases h : minusOf s
      · exact Or.inr (Or.inl ⟨by unfold atOf; rw [h]; rfl, rfl, hp, by rw [← hm, h]⟩)
      · exact Or.inr (Or.inr ⟨by unfold atOf; rw [h]; rfl, rfl, hp, by rw [← hm, h]⟩)
  obtain ⟨at', HA⟩ : ∃ a, Hid (atOf s = a) := ⟨_, rfl⟩
  rw [unhide HA] at h3 HAL
  obtain ⟨mi, HMI⟩ : ∃ a, Hid (minusOf s = a) := ⟨_, rfl⟩
  rw [show minusOf s = mi from unhide HMI] at h3
  go_enter Tryz.func6, Tryz.ntmps6
  rcases h3 with ⟨rfl, rfl, h0⟩ | ⟨rfl, rfl, h0, h1⟩ | ⟨rfl, rfl, h0, h1⟩
  · have h0i : ¬ (0 : Int) < s.size := by omega
    go_wp2_with fail
    go_fit (digits_any s 0 _ (by omega) (unhide HAL))
    rintro e W1 ⟨⟨m, code, pl, rfl, m0, m1, m2, hj, hc⟩, hb1⟩
    have b0 := (unhide HB0).later hb1
    have b1 := (unhide HB1).later hb1
    have bw := below_keep hb1 (unhide HBW)
    obtain ⟨⟨x0, g0⟩, ⟨a0, n0, c0, g1⟩, gf⟩ := b0.cells
    obtain ⟨⟨y0, k0⟩, ⟨y1, k1⟩, kf⟩ := b1.cells
    have HJ := hide hj
    have l1 : w.heap.size + 1 < W1.heap.size := World.block_lt_of_cell? W1 _ k0
    have l0 : w.heap.size < W1.heap.size := by omega
    clear hb1 hj
    rcases hc with ⟨rfl, rfl, e1, e2⟩ | ⟨rfl, rfl, e1, e2⟩ | ⟨rfl, rfl, e1, e2⟩
    · omega
    · have E1 := hide e1
      have E2 := hide e2
      clear e1 e2
      go_wp2
      go_region
      all_goals go_wp2
      obtain ⟨f0, f1, f2, f3⟩ := four_stores b0.gb b1 (by omega) (.bool false) (.slice none 0 0) (.int .i64 1) (.int .i64 0)
      have hk := below_new ((((W1.setCell ⟨w.heap.size, 0, none⟩ (.bool false)).setCell ⟨w.heap.size, 1, none⟩ (.slice none 0 0)).setCell ⟨w.heap.size + 1, 0, none⟩ (.int .i64 1)).setCell ⟨w.heap.size + 1, 1, none⟩ (.int .i64 0)) (.cells #[.int .i64 1, .int .i64 0] 33)
      have f0 := cell_keep hk f0
      have f1 := cell_keep hk f1
      have f2 := cell_keep hk f2
      have f3 := cell_keep hk f3
      exact bodyPost_ret (v := .tuple #[.agg #[.bool false, .slice none 0 0], .agg #[.int .i64 1, .int .i64 0]]) (by simp [results, Tryz.results6, go_sem, f0, f1, f2, f3]) rfl ⟨⟨_, _, _, rfl, Or.inr ⟨m - atOf s, true, rfl, by rw [show atOf s = _ from unhide HA]; have := unhide E1; omega, wrong_one (m := m) (by rw [show atOf s = _ from unhide HA]; exact m2) (by rw [show atOf s = _ from unhide HA]; exact m0) (by rw [show atOf s = _ from unhide HA]; exact unhide HJ) (unhide E2) (Or.inr (by rw [show atOf s = _ from unhide HA]; exact unhide E1)), rfl⟩⟩, (by first | exact (below_keep hk (below_stored (below_stored bw (Nat.le_refl _) _ _) (by omega) _ _)).drew | exact below_keep hk (below_stored (below_stored bw (Nat.le_refl _) _ _) (by omega) _ _))⟩
    · omega
  · have h0i : (0 : Int) < s.size := by omega
    go_wp2_with fail
    go_fit (digits_any s 0 _ (by omega) (unhide HAL))
    rintro e W1 ⟨⟨m, code, pl, rfl, m0, m1, m2, hj, hc⟩, hb1⟩
    have b0 := (unhide HB0).later hb1
    have b1 := (unhide HB1).later hb1
    have bw := below_keep hb1 (unhide HBW)
    obtain ⟨⟨x0, g0⟩, ⟨a0, n0, c0, g1⟩, gf⟩ := b0.cells
    obtain ⟨⟨y0, k0⟩, ⟨y1, k1⟩, kf⟩ := b1.cells
    have HJ := hide hj
    have l1 : w.heap.size + 1 < W1.heap.size := World.block_lt_of_cell? W1 _ k0
    have l0 : w.heap.size < W1.heap.size := by omega
    clear hb1 hj
    rcases hc with ⟨rfl, rfl, e1, e2⟩ | ⟨rfl, rfl, e1, e2⟩ | ⟨rfl, rfl, e1, e2⟩
    · have E1 := hide e1
      have E2 := hide e2
      clear e1 e2
      go_wp2
      go_region
      all_goals go_wp2
      obtain ⟨f0, f1, f2, f3⟩ := four_stores b0.gb b1 (by omega) (.bool false) (.slice none 0 0) (.int .i64 2) (.int .i64 m)
      have hk := below_new ((((W1.setCell ⟨w.heap.size, 0, none⟩ (.bool false)).setCell ⟨w.heap.size, 1, none⟩ (.slice none 0 0)).setCell ⟨w.heap.size + 1, 0, none⟩ (.int .i64 2)).setCell ⟨w.heap.size + 1, 1, none⟩ (.int .i64 m)) (.cells #[.int .i64 2, .int .i64 m] 33)
      have f0 := cell_keep hk f0
      have f1 := cell_keep hk f1
      have f2 := cell_keep hk f2
      have f3 := cell_keep hk f3
      exact bodyPost_ret (v := .tuple #[.agg #[.bool false, .slice none 0 0], .agg #[.int .i64 2, .int .i64 m]]) (by simp [results, Tryz.results6, go_sem, f0, f1, f2, f3]) rfl ⟨⟨_, _, _, rfl, Or.inr ⟨300, false, rfl, by rw [show atOf s = _ from unhide HA]; have := unhide E1; omega, wrong_two (m := m) (by rw [show atOf s = _ from unhide HA]; exact unhide E1) (by rw [show atOf s = _ from unhide HA]; exact unhide HJ) (unhide E2), rfl⟩⟩, (by first | exact (below_keep hk (below_stored (below_stored bw (Nat.le_refl _) _ _) (by omega) _ _)).drew | exact below_keep hk (below_stored (below_stored bw (Nat.le_refl _) _ _) (by omega) _ _))⟩
    · have E1 := hide e1
      have E2 := hide e2
      clear e1 e2
      go_wp2
      go_region
      all_goals go_wp2
      obtain ⟨f0, f1, f2, f3⟩ := four_stores b0.gb b1 (by omega) (.bool false) (.slice none 0 0) (.int .i64 1) (.int .i64 0)
      have hk := below_new ((((W1.setCell ⟨w.heap.size, 0, none⟩ (.bool false)).setCell ⟨w.heap.size, 1, none⟩ (.slice none 0 0)).setCell ⟨w.heap.size + 1, 0, none⟩ (.int .i64 1)).setCell ⟨w.heap.size + 1, 1, none⟩ (.int .i64 0)) (.cells #[.int .i64 1, .int .i64 0] 33)
      have f0 := cell_keep hk f0
      have f1 := cell_keep hk f1
      have f2 := cell_keep hk f2
      have f3 := cell_keep hk f3
      exact bodyPost_ret (v := .tuple #[.agg #[.bool false, .slice none 0 0], .agg #[.int .i64 1, .int .i64 0]]) (by simp [results, Tryz.results6, go_sem, f0, f1, f2, f3]) rfl ⟨⟨_, _, _, rfl, Or.inr ⟨m - atOf s, true, rfl, by rw [show atOf s = _ from unhide HA]; have := unhide E1; omega, wrong_one (m := m) (by rw [show atOf s = _ from unhide HA]; exact m2) (by rw [show atOf s = _ from unhide HA]; exact m0) (by rw [show atOf s = _ from unhide HA]; exact unhide HJ) (unhide E2) (Or.inr (by rw [show atOf s = _ from unhide HA]; exact unhide E1)), rfl⟩⟩, (by first | exact (below_keep hk (below_stored (below_stored bw (Nat.le_refl _) _ _) (by omega) _ _)).drew | exact below_keep hk (below_stored (below_stored bw (Nat.le_refl _) _ _) (by omega) _ _))⟩
    · have E1 := hide e1
      have E2 := hide e2
      clear e1 e2
      by_cases hms : m < s.size
      · have hmi : (m : Int) < s.size := by omega
        go_wp2
        obtain ⟨f0, f1, f2, f3⟩ := four_stores b0.gb b1 (by omega) (.bool false) (.slice none 0 0) (.int .i64 1) (.int .i64 m)
        have hk := below_new ((((W1.setCell ⟨w.heap.size, 0, none⟩ (.bool false)).setCell ⟨w.heap.size, 1, none⟩ (.slice none 0 0)).setCell ⟨w.heap.size + 1, 0, none⟩ (.int .i64 1)).setCell ⟨w.heap.size + 1, 1, none⟩ (.int .i64 m)) (.cells #[.int .i64 0, .int .i64 (-1)] 33)
        have f0 := cell_keep hk f0
        have f1 := cell_keep hk f1
        have f2 := cell_keep hk f2
        have f3 := cell_keep hk f3
        exact bodyPost_ret (v := .tuple #[.agg #[.bool false, .slice none 0 0], .agg #[.int .i64 1, .int .i64 m]]) (by simp [results, Tryz.results6, go_sem, f0, f1, f2, f3]) rfl ⟨⟨_, _, _, rfl, Or.inr ⟨m - atOf s, true, rfl, by rw [show atOf s = _ from unhide HA]; omega, wrong_one (m := m) (by rw [show atOf s = _ from unhide HA]; exact m2) (by rw [show atOf s = _ from unhide HA]; exact m0) (by rw [show atOf s = _ from unhide HA]; exact unhide HJ) (unhide E2) (Or.inl hms), rfl⟩⟩, (by first | exact (below_keep hk (below_stored (below_stored bw (Nat.le_refl _) _ _) (by omega) _ _)).drew | exact below_keep hk (below_stored (below_stored bw (Nat.le_refl _) _ _) (by omega) _ _))⟩
      · have hmi : ¬ (m : Int) < s.size := by omega
        have HMS := hide hms
        clear hms
        go_wp2_with fail
        have HG := hide (good_all (s := s) (by rw [show atOf s = _ from unhide HA]; have := unhide E1; omega) (by rw [show atOf s = _ from unhide HA]; have := unhide HMS; omega) (by rw [show atOf s = _ from unhide HA]; exact fun j j1 j2 => unhide HJ j j1 (by have := unhide HMS; omega)))
        have HL : Hid ((s).data.toList = (digitsOf s).data.toList) := by show _ = _; rw [digitsOf_list, show atOf s = _ from unhide HA, List.drop_zero]
        go_fit (figure_any (s) _ (by rw [Lib.size_eq, show (s).data.toList = _ from unhide HL, ← Lib.size_eq]; exact (unhide HG).2.1) (by rw [show (s).data.toList = _ from unhide HL]; exact (unhide HG).dig))
        rintro e W2 ⟨⟨v2, rfl, hN2⟩, hb2⟩
        rw [show (s).data.toList = _ from unhide HL] at hN2
        obtain ⟨neg2, sl2, D2, hv2, hsl, hP, hT, hlen, hneg, hz⟩ := hN2
        have hV := hide (sign_false hP hT hneg hz (dec_bound (unhide HG).dig).1)
        obtain ⟨a2, n2, c2, hs2⟩ := hsl.shape
        subst hs2
        subst hv2
        have kf := below_new W1 (.cells #[.int .i64 0, .int .i64 (-1)] 33)
        have b0 := (b0.later kf).later hb2
        have b1 := (b1.later kf).later hb2
        have bw := below_keep hb2 (below_keep kf bw)
        have kn := below_new W2 (.cells #[.bool neg2, .slice a2 n2 c2] 31)
        clear hneg hz g0 g1 gf k0 k1 kf l0 l1 hb2
        obtain ⟨⟨x0, g0⟩, ⟨a0, n0, c0, g1⟩, gf⟩ := b0.cells
        obtain ⟨⟨y0, k0⟩, ⟨y1, k1⟩, kf⟩ := b1.cells
        have l1 : w.heap.size + 1 < W2.heap.size := World.block_lt_of_cell? W2 _ k0
        have l0 : w.heap.size < W2.heap.size := by omega
        go_wp2_with fail
        go_fit (made_any false _ D2 75 _ (hsl.later kn) hP hlen)
        rintro e W3 ⟨⟨v3, rfl, hN3⟩, hb3⟩
        obtain ⟨x3, a3, n3, c3, hv3⟩ := hN3.shape
        subst hv3
        have b0 := (b0.later kn).later hb3
        have b1 := (b1.later kn).later hb3
        have bw := below_keep hb3 (below_keep kn bw)
        clear g0 g1 gf k0 k1 kf l0 l1 hb3 kn hsl
        obtain ⟨⟨x0, g0⟩, ⟨a0, n0, c0, g1⟩, gf⟩ := b0.cells
        obtain ⟨⟨y0, k0⟩, ⟨y1, k1⟩, kf⟩ := b1.cells
        have l1 : w.heap.size + 1 < W3.heap.size := World.block_lt_of_cell? W3 _ k0
        have l0 : w.heap.size < W3.heap.size := by omega
        go_wp2
        obtain ⟨f0, f1, f2, f3⟩ := four_stores b0.gb b1 (by omega) (.bool x3) (.slice a3 n3 c3) (.int .i64 0) (.int .i64 (-1))
        exact bodyPost_ret (v := .tuple #[.agg #[.bool x3, .slice a3 n3 c3], .agg #[.int .i64 0, .int .i64 (-1)]]) (by simp [results, Tryz.results6, go_sem, f0, f1, f2, f3]) rfl ⟨⟨_, _, _, rfl, Or.inl ⟨rfl, rfl, unhide HG, ((hN3.gb b0.gb (by decide) _ _).gb (b1.other (by omega) _ _) (by decide) _ _).congr (by unfold numOf; rw [show minusOf s = _ from unhide HMI, ← unhide hV] <;> simp)⟩⟩, below_stored (below_stored bw (Nat.le_refl _) _ _) (by omega) _ _⟩
  · have h0i : (0 : Int) < s.size := by omega
    go_wp2_with fail
    go_fit (digits_any s 1 _ (by omega) (unhide HAL))
    rintro e W1 ⟨⟨m, code, pl, rfl, m0, m1, m2, hj, hc⟩, hb1⟩
    have b0 := (unhide HB0).later hb1
    have b1 := (unhide HB1).later hb1
    have bw := below_keep hb1 (unhide HBW)
    obtain ⟨⟨x0, g0⟩, ⟨a0, n0, c0, g1⟩, gf⟩ := b0.cells
    obtain ⟨⟨y0, k0⟩, ⟨y1, k1⟩, kf⟩ := b1.cells
    have HJ := hide hj
    have l1 : w.heap.size + 1 < W1.heap.size := World.block_lt_of_cell? W1 _ k0
    have l0 : w.heap.size < W1.heap.size := by omega
    clear hb1 hj
    rcases hc with ⟨rfl, rfl, e1, e2⟩ | ⟨rfl, rfl, e1, e2⟩ | ⟨rfl, rfl, e1, e2⟩
    · have E1 := hide e1
      have E2 := hide e2
      clear e1 e2
      go_wp2
      go_region
      all_goals go_wp2
      obtain ⟨f0, f1, f2, f3⟩ := four_stores b0.gb b1 (by omega) (.bool false) (.slice none 0 0) (.int .i64 2) (.int .i64 m)
      have hk := below_new ((((W1.setCell ⟨w.heap.size, 0, none⟩ (.bool false)).setCell ⟨w.heap.size, 1, none⟩ (.slice none 0 0)).setCell ⟨w.heap.size + 1, 0, none⟩ (.int .i64 2)).setCell ⟨w.heap.size + 1, 1, none⟩ (.int .i64 m)) (.cells #[.int .i64 2, .int .i64 m] 33)
      have f0 := cell_keep hk f0
      have f1 := cell_keep hk f1
      have f2 := cell_keep hk f2
      have f3 := cell_keep hk f3
      exact bodyPost_ret (v := .tuple #[.agg #[.bool false, .slice none 0 0], .agg #[.int .i64 2, .int .i64 m]]) (by simp [results, Tryz.results6, go_sem, f0, f1, f2, f3]) rfl ⟨⟨_, _, _, rfl, Or.inr ⟨300, false, rfl, by rw [show atOf s = _ from unhide HA]; have := unhide E1; omega, wrong_two (m := m) (by rw [show atOf s = _ from unhide HA]; exact unhide E1) (by rw [show atOf s = _ from unhide HA]; exact unhide HJ) (unhide E2), rfl⟩⟩, (by first | exact (below_keep hk (below_stored (below_stored bw (Nat.le_refl _) _ _) (by omega) _ _)).drew | exact below_keep hk (below_stored (below_stored bw (Nat.le_refl _) _ _) (by omega) _ _))⟩
    · have E1 := hide e1
      have E2 := hide e2
      clear e1 e2
      go_wp2
      go_region
      all_goals go_wp2
      obtain ⟨f0, f1, f2, f3⟩ := four_stores b0.gb b1 (by omega) (.bool false) (.slice none 0 0) (.int .i64 1) (.int .i64 1)
      have hk := below_new ((((W1.setCell ⟨w.heap.size, 0, none⟩ (.bool false)).setCell ⟨w.heap.size, 1, none⟩ (.slice none 0 0)).setCell ⟨w.heap.size + 1, 0, none⟩ (.int .i64 1)).setCell ⟨w.heap.size + 1, 1, none⟩ (.int .i64 1)) (.cells #[.int .i64 1, .int .i64 1] 33)
      have f0 := cell_keep hk f0
      have f1 := cell_keep hk f1
      have f2 := cell_keep hk f2
      have f3 := cell_keep hk f3
      exact bodyPost_ret (v := .tuple #[.agg #[.bool false, .slice none 0 0], .agg #[.int .i64 1, .int .i64 1]]) (by simp [results, Tryz.results6, go_sem, f0, f1, f2, f3]) rfl ⟨⟨_, _, _, rfl, Or.inr ⟨m - atOf s, true, rfl, by rw [show atOf s = _ from unhide HA]; have := unhide E1; omega, wrong_one (m := m) (by rw [show atOf s = _ from unhide HA]; exact m2) (by rw [show atOf s = _ from unhide HA]; exact m0) (by rw [show atOf s = _ from unhide HA]; exact unhide HJ) (unhide E2) (Or.inr (by rw [show atOf s = _ from unhide HA]; exact unhide E1)), rfl⟩⟩, (by first | exact (below_keep hk (below_stored (below_stored bw (Nat.le_refl _) _ _) (by omega) _ _)).drew | exact below_keep hk (below_stored (below_stored bw (Nat.le_refl _) _ _) (by omega) _ _))⟩
    · have E1 := hide e1
      have E2 := hide e2
      clear e1 e2
      by_cases hms : m < s.size
      · have hmi : (m : Int) < s.size := by omega
        go_wp2
        obtain ⟨f0, f1, f2, f3⟩ := four_stores b0.gb b1 (by omega) (.bool false) (.slice none 0 0) (.int .i64 1) (.int .i64 m)
        have hk := below_new ((((W1.setCell ⟨w.heap.size, 0, none⟩ (.bool false)).setCell ⟨w.heap.size, 1, none⟩ (.slice none 0 0)).setCell ⟨w.heap.size + 1, 0, none⟩ (.int .i64 1)).setCell ⟨w.heap.size + 1, 1, none⟩ (.int .i64 m)) (.cells #[.int .i64 0, .int .i64 (-1)] 33)
        have f0 := cell_keep hk f0
        have f1 := cell_keep hk f1
        have f2 := cell_keep hk f2
        have f3 := cell_keep hk f3
        exact bodyPost_ret (v := .tuple #[.agg #[.bool false, .slice none 0 0], .agg #[.int .i64 1, .int .i64 m]]) (by simp [results, Tryz.results6, go_sem, f0, f1, f2, f3]) rfl ⟨⟨_, _, _, rfl, Or.inr ⟨m - atOf s, true, rfl, by rw [show atOf s = _ from unhide HA]; omega, wrong_one (m := m) (by rw [show atOf s = _ from unhide HA]; exact m2) (by rw [show atOf s = _ from unhide HA]; exact m0) (by rw [show atOf s = _ from unhide HA]; exact unhide HJ) (unhide E2) (Or.inl hms), rfl⟩⟩, (by first | exact (below_keep hk (below_stored (below_stored bw (Nat.le_refl _) _ _) (by omega) _ _)).drew | exact below_keep hk (below_stored (below_stored bw (Nat.le_refl _) _ _) (by omega) _ _))⟩
      · have hmi : ¬ (m : Int) < s.size := by omega
        have HMS := hide hms
        clear hms
        go_wp2_with fail
        have HG := hide (good_all (s := s) (by rw [show atOf s = _ from unhide HA]; have := unhide E1; omega) (by rw [show atOf s = _ from unhide HA]; have := unhide HMS; omega) (by rw [show atOf s = _ from unhide HA]; exact fun j j1 j2 => unhide HJ j j1 (by have := unhide HMS; omega)))
        have HL : Hid ((s.extract 1 s.size).data.toList = (digitsOf s).data.toList) := by show _ = _; rw [← digitsOf_extract, show atOf s = _ from unhide HA]
        go_fit (figure_any (s.extract 1 s.size) _ (by rw [Lib.size_eq, show (s.extract 1 s.size).data.toList = _ from unhide HL, ← Lib.size_eq]; exact (unhide HG).2.1) (by rw [show (s.extract 1 s.size).data.toList = _ from unhide HL]; exact (unhide HG).dig))
        rintro e W2 ⟨⟨v2, rfl, hN2⟩, hb2⟩
        rw [show (s.extract 1 s.size).data.toList = _ from unhide HL] at hN2
        obtain ⟨neg2, sl2, D2, hv2, hsl, hP, hT, hlen, hneg, hz⟩ := hN2
        have hV := hide (sign_false hP hT hneg hz (dec_bound (unhide HG).dig).1)
        obtain ⟨a2, n2, c2, hs2⟩ := hsl.shape
        subst hs2
        subst hv2
        have kf := below_new W1 (.cells #[.int .i64 0, .int .i64 (-1)] 33)
        have b0 := (b0.later kf).later hb2
        have b1 := (b1.later kf).later hb2
        have bw := below_keep hb2 (below_keep kf bw)
        have kn := below_new W2 (.cells #[.bool neg2, .slice a2 n2 c2] 31)
        clear hneg hz g0 g1 gf k0 k1 kf l0 l1 hb2
        obtain ⟨⟨x0, g0⟩, ⟨a0, n0, c0, g1⟩, gf⟩ := b0.cells
        obtain ⟨⟨y0, k0⟩, ⟨y1, k1⟩, kf⟩ := b1.cells
        have l1 : w.heap.size + 1 < W2.heap.size := World.block_lt_of_cell? W2 _ k0
        have l0 : w.heap.size < W2.heap.size := by omega
        go_wp2_with fail
        go_fit (made_any true _ D2 75 _ (hsl.later kn) hP hlen)
        rintro e W3 ⟨⟨v3, rfl, hN3⟩, hb3⟩
        obtain ⟨x3, a3, n3, c3, hv3⟩ := hN3.shape
        subst hv3
        have b0 := (b0.later kn).later hb3
        have b1 := (b1.later kn).later hb3
        have bw := below_keep hb3 (below_keep kn bw)
        clear g0 g1 gf k0 k1 kf l0 l1 hb3 kn hsl
        obtain ⟨⟨x0, g0⟩, ⟨a0, n0, c0, g1⟩, gf⟩ := b0.cells
        obtain ⟨⟨y0, k0⟩, ⟨y1, k1⟩, kf⟩ := b1.cells
        have l1 : w.heap.size + 1 < W3.heap.size := World.block_lt_of_cell? W3 _ k0
        have l0 : w.heap.size < W3.heap.size := by omega
        go_wp2
        obtain ⟨f0, f1, f2, f3⟩ := four_stores b0.gb b1 (by omega) (.bool x3) (.slice a3 n3 c3) (.int .i64 0) (.int .i64 (-1))
        exact bodyPost_ret (v := .tuple #[.agg #[.bool x3, .slice a3 n3 c3], .agg #[.int .i64 0, .int .i64 (-1)]]) (by simp [results, Tryz.results6, go_sem, f0, f1, f2, f3]) rfl ⟨⟨_, _, _, rfl, Or.inl ⟨rfl, rfl, unhide HG, ((hN3.gb b0.gb (by decide) _ _).gb (b1.other (by omega) _ _) (by decide) _ _).congr (by unfold numOf; rw [show minusOf s = _ from unhide HMI, ← unhide hV] <;> simp)⟩⟩, below_stored (below_stored bw (Nat.le_refl _) _ _) (by omega) _ _⟩
end Go.Proofs.YtmdmcmkfhmnbeaaGreatDoor
