/-
  Walks over the document's numbers: made, Of.
-/
import Derived.Test.YtmdmcmkfhmnbeaaGreatDoorR2
import Derived.Test.YtmdmcmkfhmnbeaaGreatDoorW26
import Derived.OwnWalk
namespace Go.Proofs.YtmdmcmkfhmnbeaaGreatDoor
open Go.RowKit

/-- The places of a number, in memory. -/
def Sl (w : World) (sl : Value) (D : List Int) : Prop :=
  (sl = .slice none 0 0 ∧ D = []) ∨ ∃ b cap, sl = .slice (some ⟨b, 0, none⟩) D.length cap ∧ D.length ≤ cap ∧ cap ≤ maxLen ∧ RowI w b D ∧ ∃ cur, w.heap[b]? = some (.cells cur 3 (0, 0))
/-- A number of the document's: v is the value of z, of at most N places. -/
def Nr (N : Nat) (w : World) (v : Value) (z : Int) : Prop :=
  ∃ neg sl D, v = .agg #[.bool neg, sl] ∧ Sl w sl D ∧ P4 D ∧ Trim D ∧ D.length ≤ N ∧ (D = [] → neg = false) ∧ z = if neg then - v4 D else v4 D
theorem RowI.lt {w : World} {b : Nat} {l : List Int} (h : RowI w b l) (hl : l ≠ []) : b < w.heap.size :=
  World.block_lt_of_cell? w _ (h 0 (List.length_pos_iff.2 hl))
theorem RowI.later {w w' : World} {b : Nat} {l : List Int} (h : RowI w b l) (hb : Below w.heap.size w w') : RowI w' b l := fun k hk => cell_keep hb (h k hk)
theorem Sl.later {w w' : World} {sl : Value} {D : List Int} (h : Sl w sl D) (hb : Below w.heap.size w w') : Sl w' sl D := by
  rcases h with h | ⟨b, cap, h1, h2, h3, h4, cur, h5⟩
  · exact Or.inl h
  · exact Or.inr ⟨b, cap, h1, h2, h3, h4.later hb, cur, by rw [hb.block b (Array.getElem?_eq_some_iff.1 h5).1]; exact h5⟩
theorem Nr.later {N : Nat} {w w' : World} {v : Value} {z : Int} (h : Nr N w v z) (hb : Below w.heap.size w w') : Nr N w' v z := by
  obtain ⟨neg, sl, D, h1, h2, h3⟩ := h
  exact ⟨neg, sl, D, h1, h2.later hb, h3⟩

/-- A box of a number of the document's: two cells of its own, not frozen. -/
def NBox (w : World) (r : Nat) : Prop := ∃ x a n c, w.heap[r]? = some (.cells #[.bool x, .slice a n c] 31 (0, 0))
theorem NBox.cells {w : World} {r : Nat} (h : NBox w r) : (∃ x, w.cell? ⟨r, 0, none⟩ = some (.bool x)) ∧ (∃ a n c, w.cell? ⟨r, 1, none⟩ = some (.slice a n c)) ∧ (∀ o, w.frozen? ⟨r, o, none⟩ = false) := by
  obtain ⟨x, a, n, c, h⟩ := h
  exact ⟨⟨x, by simp [World.cell?, h]⟩, ⟨a, n, c, by simp [World.cell?, h]⟩, fun o => by simp [World.frozen?, h]⟩
theorem RowI.notBox {w : World} {b r : Nat} {l : List Int} (hr : RowI w b l) (hl : l ≠ []) (h : NBox w r) : b ≠ r := by
  intro e
  subst e
  obtain ⟨x, a, n, c, h⟩ := h
  have := hr 0 (List.length_pos_iff.2 hl)
  simp [World.cell?, h] at this
theorem RowI.stored {w : World} {b r : Nat} {l : List Int} (hr : RowI w b l) (h : l ≠ [] → b ≠ r) (u u' : Value) : RowI ((w.setCell ⟨r, 0, none⟩ u).setCell ⟨r, 1, none⟩ u') b l := by
  intro k hk
  have hne := h (List.length_pos_iff.1 (by omega))
  rw [cell?_setCell_ne _ _ _ _ _ _ (by omega), cell?_setCell_ne _ _ _ _ _ _ (by omega)]
  exact hr k hk
theorem NBox.stored {w : World} {r : Nat} (h : NBox w r) (u u' : Value) : ((w.setCell ⟨r, 0, none⟩ u).setCell ⟨r, 1, none⟩ u').cell? ⟨r, 0, none⟩ = some u ∧ ((w.setCell ⟨r, 0, none⟩ u).setCell ⟨r, 1, none⟩ u').cell? ⟨r, 1, none⟩ = some u' := by
  obtain ⟨⟨x, h0⟩, ⟨a, n, c, h1⟩, _⟩ := h.cells
  constructor
  · rw [cell?_setCell_ne _ _ _ _ _ _ (by omega)]; exact cell?_setCell_eq h0
  · exact cell?_setCell_eq (u := .slice a n c) (by rw [cell?_setCell_ne _ _ _ _ _ _ (by omega)]; exact h1)
theorem nbox_new (w : World) (x : Bool) (a : Option Addr) (n c : Nat) : NBox (w.alloc (.cells #[.bool x, .slice a n c] 31)) w.heap.size := ⟨_, _, _, _, heap_alloc_new w _⟩
theorem NBox.later {w w' : World} {r : Nat} (h : NBox w r) (hb : Below w.heap.size w w') : NBox w' r := by
  obtain ⟨x, a, n, c, h⟩ := h
  exact ⟨x, a, n, c, by rw [hb.block r (Array.getElem?_eq_some_iff.1 h).1]; exact h⟩
/-- A box of two cells. -/
def GB (w : World) (r : Nat) (T : TypeId) : Prop := ∃ x y, w.heap[r]? = some (.cells #[x, y] T (0, 0))
theorem GB.cells {w : World} {r : Nat} {T : TypeId} (h : GB w r T) : (∃ x, w.cell? ⟨r, 0, none⟩ = some x) ∧ (∃ y, w.cell? ⟨r, 1, none⟩ = some y) ∧ (∀ o, w.frozen? ⟨r, o, none⟩ = false) := by
  obtain ⟨x, y, h⟩ := h
  exact ⟨⟨x, by simp [World.cell?, h]⟩, ⟨y, by simp [World.cell?, h]⟩, fun o => by simp [World.frozen?, h]⟩
theorem GB.later {w w' : World} {r : Nat} {T : TypeId} (h : GB w r T) (hb : Below w.heap.size w w') : GB w' r T := by
  obtain ⟨x, y, h⟩ := h
  exact ⟨x, y, by rw [hb.block r (Array.getElem?_eq_some_iff.1 h).1]; exact h⟩
theorem gb_new (w : World) (x y : Value) (T : TypeId) : GB (w.alloc (.cells #[x, y] T)) w.heap.size T := ⟨_, _, heap_alloc_new w _⟩
theorem NBox.gb {w : World} {r : Nat} (h : NBox w r) : GB w r 31 := by
  obtain ⟨x, a, n, c, h⟩ := h
  exact ⟨_, _, h⟩
theorem Sl.gb {w : World} {sl : Value} {D : List Int} {r : Nat} {T : TypeId} (h : Sl w sl D) (hb : GB w r T) (hT : T ≠ 3) (u u' : Value) : Sl ((w.setCell ⟨r, 0, none⟩ u).setCell ⟨r, 1, none⟩ u') sl D := by
  rcases h with h | ⟨b, cap, h1, h2, h3, h4, cur, h5⟩
  · exact Or.inl h
  · have hne : b ≠ r := by
      rintro rfl
      obtain ⟨x, y, h⟩ := hb
      rw [h5] at h
      simp at h
      exact hT h.2.symm
    exact Or.inr ⟨b, cap, h1, h2, h3, h4.stored (fun _ => hne) _ _, cur, by rw [Below.heap_setCell _ _ _ _ hne, Below.heap_setCell _ _ _ _ hne]; exact h5⟩
theorem Sl.stored {w : World} {sl : Value} {D : List Int} {r : Nat} (h : Sl w sl D) (hb : NBox w r) (u u' : Value) : Sl ((w.setCell ⟨r, 0, none⟩ u).setCell ⟨r, 1, none⟩ u') sl D := h.gb hb.gb (by decide) u u'

theorem trim_take {l : List Int} {m : Nat} (hm : m ≤ l.length) (h : m = 0 ∨ nth l (m - 1) ≠ 0) : Trim (l.take m) := by
  rcases h with rfl | h
  · exact Or.inl (by simp)
  · by_cases hm0 : m = 0
    · subst hm0; exact Or.inl (by simp)
    · refine Or.inr ?_
      rw [List.length_take, Nat.min_eq_left hm]
      unfold nth at h ⊢
      rw [List.getElem?_take, if_pos (by omega)]; exact h

set_option maxHeartbeats 1000000 in
theorem made_some (neg : Bool) (b cap : Nat) (l : List Int) (w : World) (hr : RowI w b l) (hl : l.length ≤ cap) (hcap : cap ≤ 9223372036854775807) :
    Calls Tryz.prog 31 #[.bool neg, .slice (some ⟨b, 0, none⟩) l.length cap] w fun e w' => (∃ m, m ≤ l.length ∧ e = .returned (.agg #[.bool (neg && decide (0 < m)), .slice (some ⟨b, 0, none⟩) m cap]) ∧ (∀ k, m ≤ k → nth l k = 0) ∧ (m = 0 ∨ nth l (m - 1) ≠ 0)) ∧ Below w.heap.size w w' := by
  have hal := below_new w (.cells #[.bool false, .slice none 0 0] 31)
  have hbx := nbox_new w false none 0 0
  go_enter Tryz.func31, Tryz.ntmps31
  go_wp2_with fail
  go_fit (rtrim_any b cap l _ (hr.later hal) hl hcap)
  rintro e W1 ⟨⟨m, hm, rfl, hz, ht⟩, rfl⟩
  have HZ := hide hz
  have HT := hide ht
  obtain ⟨⟨x0, g0⟩, ⟨a0, n0, c0, g1⟩, gf⟩ := hbx.cells
  clear hz ht
  cases neg
  · go_wp2
    exact bodyPost_ret (v := .agg #[.bool false, .slice (some ⟨b, 0, none⟩) m cap]) (by simp [results, Tryz.results31, go_sem]) rfl ⟨⟨m, hm, rfl, unhide HZ, unhide HT⟩, below_new w _⟩
  · by_cases hm0 : 0 < m
    · have hmi : (0 : Int) < m := by omega
      go_wp2
      exact bodyPost_ret (v := .agg #[.bool true, .slice (some ⟨b, 0, none⟩) m cap]) (by simp [results, Tryz.results31, go_sem]) rfl ⟨⟨m, hm, by simp [hm0], unhide HZ, unhide HT⟩, below_new w _⟩
    · have hmi : ¬ (0 : Int) < m := by omega
      go_wp2
      exact bodyPost_ret (v := .agg #[.bool false, .slice (some ⟨b, 0, none⟩) m cap]) (by simp [results, Tryz.results31, go_sem]) rfl ⟨⟨m, hm, by simp [hm0], unhide HZ, unhide HT⟩, below_new w _⟩
set_option maxHeartbeats 1000000 in
theorem made_nil (neg : Bool) (w : World) :
    Calls Tryz.prog 31 #[.bool neg, .slice none 0 0] w fun e w' => e = .returned (.agg #[.bool false, .slice none 0 0]) ∧ Below w.heap.size w w' := by
  have hal := below_new w (.cells #[.bool false, .slice none 0 0] 31)
  have hbx := nbox_new w false none 0 0
  go_enter Tryz.func31, Tryz.ntmps31
  go_wp2_with fail
  go_fit (rtrim_nil _)
  rintro e W1 ⟨rfl, rfl⟩
  obtain ⟨⟨x0, g0⟩, ⟨a0, n0, c0, g1⟩, gf⟩ := hbx.cells
  cases neg
  · go_wp2
    exact bodyPost_ret (v := .agg #[.bool false, .slice none 0 0]) (by simp [results, Tryz.results31, go_sem]) rfl ⟨rfl, below_new w _⟩
  · go_wp2
    exact bodyPost_ret (v := .agg #[.bool false, .slice none 0 0]) (by simp [results, Tryz.results31, go_sem]) rfl ⟨rfl, below_new w _⟩
/-- made: a number of its sign and its places. -/
theorem made_any (neg : Bool) (sl : Value) (D : List Int) (N : Nat) (w : World) (hs : Sl w sl D) (hD : P4 D) (hN : D.length ≤ N) :
    Calls Tryz.prog 31 #[.bool neg, sl] w fun e w' => (∃ v, e = .returned v ∧ Nr N w' v (if neg then - v4 D else v4 D)) ∧ Below w.heap.size w w' := by
  rcases hs with ⟨rfl, rfl⟩ | ⟨b, cap, rfl, h2, h3, h4, cur, h5⟩
  · refine (made_nil neg w).mono ?_
    rintro e w' ⟨rfl, hb⟩
    exact ⟨⟨_, rfl, false, _, [], rfl, Or.inl ⟨rfl, rfl⟩, hD, Or.inl rfl, hN, fun _ => rfl, by cases neg <;> simp [v4]⟩, hb⟩
  · refine (made_some neg b cap D w h4 h2 (by unfold maxLen at h3; omega)).mono ?_
    rintro e w' ⟨⟨m, hm, rfl, hz, ht⟩, hb⟩
    refine ⟨⟨_, rfl, _, _, D.take m, rfl, Or.inr ⟨b, cap, by rw [List.length_take, Nat.min_eq_left hm], by rw [List.length_take]; omega, h3, fun k hk => ?_, cur, by rw [hb.block b (Array.getElem?_eq_some_iff.1 h5).1]; exact h5⟩, fun d hd => hD d (List.mem_of_mem_take hd), trim_take hm ht, by rw [List.length_take]; omega, fun he => ?_, ?_⟩, hb⟩
    · rw [List.length_take] at hk
      rw [(h4.later hb) k (by omega)]
      unfold nth
      rw [List.getElem?_take, if_pos (by omega)]
    · have : m = 0 := by
        have h0 : (D.take m).length = 0 := by rw [he]; rfl
        rw [List.length_take, Nat.min_eq_left hm] at h0; exact h0
      simp [this]
    · rw [v4_take hz]
      by_cases hm0 : 0 < m
      · simp [hm0]
      · have : m = 0 := by omega
        have hv : v4 D = 0 := by rw [← v4_take hz, this]; simp [v4]
        simp [this, hv]
end Go.Proofs.YtmdmcmkfhmnbeaaGreatDoor
