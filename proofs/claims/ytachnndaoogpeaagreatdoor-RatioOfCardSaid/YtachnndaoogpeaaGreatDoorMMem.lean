/-
  Memory: rows of words in a block that is written in place: what stays, what turns.
-/
import Derived.Test.YtachnndaoogpeaaGreatDoorMW2
namespace Go.Proofs.YtachnndaoogpeaaGreatDoor
open Go.RowKit

/-- A block of cells, none of them frozen. -/
def Free (w : World) (g : Nat) : Prop := ∃ cur e, w.heap[g]? = some (.cells cur e (0, 0))
/-- Of what was there only cells lo .. lo + n - 1 of block g have turned. -/
structure Edit (g lo n : Nat) (w w' : World) : Prop where
  os : w'.os = w.os
  tape : w'.tape = w.tape
  output : w'.output = w.output
  size : w.heap.size ≤ w'.heap.size
  other : ∀ k, k < w.heap.size → k ≠ g → w'.heap[k]? = w.heap[k]?
  cell : ∀ o, (o < lo ∨ lo + n ≤ o) → w'.cell? ⟨g, o, none⟩ = w.cell? ⟨g, o, none⟩
  free : Free w g → Free w' g

theorem Free.frozen {w : World} {g : Nat} (h : Free w g) (o : Nat) : w.frozen? ⟨g, o, none⟩ = false := by
  obtain ⟨cur, e, h⟩ := h
  simp [World.frozen?, h]
theorem Free.lt {w : World} {g : Nat} (h : Free w g) : g < w.heap.size := by
  obtain ⟨cur, e, h⟩ := h
  exact (Array.getElem?_eq_some_iff.1 h).1
theorem Edit.refl (g lo n : Nat) (w : World) : Edit g lo n w w := ⟨rfl, rfl, rfl, Nat.le_refl _, fun _ _ _ => rfl, fun _ _ => rfl, id⟩
theorem Edit.trans {g lo n : Nat} {a b c : World} (h : Edit g lo n a b) (k : Edit g lo n b c) : Edit g lo n a c :=
  ⟨k.os.trans h.os, k.tape.trans h.tape, k.output.trans h.output, Nat.le_trans h.size k.size, fun i hi hg => (k.other i (Nat.lt_of_lt_of_le hi h.size) hg).trans (h.other i hi hg), fun o ho => (k.cell o ho).trans (h.cell o ho), fun f => k.free (h.free f)⟩
theorem Edit.drewN {g lo n : Nat} {a b : World} (h : Edit g lo n a b) (m : Nat) : Edit g lo n a (b.drewN m) := ⟨h.os, h.tape, h.output, h.size, h.other, h.cell, h.free⟩
theorem Edit.drew {g lo n : Nat} {a b : World} (h : Edit g lo n a b) : Edit g lo n a b.drew := ⟨h.os, h.tape, h.output, h.size, h.other, h.cell, h.free⟩
theorem Edit.undrew {g lo n : Nat} {a b : World} (h : Edit g lo n a.drew b) : Edit g lo n a b := ⟨h.os, h.tape, h.output, h.size, h.other, h.cell, h.free⟩
theorem Edit.undrewN {g lo n m : Nat} {a b : World} (h : Edit g lo n (a.drewN m) b) : Edit g lo n a b := ⟨h.os, h.tape, h.output, h.size, h.other, h.cell, h.free⟩
theorem cell?_setCell_ne (w : World) (g o g' o' : Nat) (v : Value) (h : ¬ (g' = g ∧ o' = o)) : (w.setCell ⟨g, o, none⟩ v).cell? ⟨g', o', none⟩ = w.cell? ⟨g', o', none⟩ := by
  by_cases hg : g' = g
  · subst hg
    have ho : o' ≠ o := fun e => h ⟨rfl, e⟩
    simp only [World.setCell, World.cell?, Array.getElem?_modify]
    rw [if_pos trivial]
    cases hb : w.heap[g']? with
    | none => rfl
    | some ob => cases ob <;> simp [Ne.symm ho]
  · exact World.cell?_of_block (Below.heap_setCell w ⟨g, o, none⟩ v g' hg)
theorem free_setCell {w : World} {g : Nat} (h : Free w g) (a : Addr) (v : Value) : Free (w.setCell a v) g := by
  obtain ⟨cur, e, h⟩ := h
  by_cases hg : g = a.block
  · subst hg
    simp only [Free, World.setCell, Array.getElem?_modify]
    rw [if_pos trivial, h]
    exact ⟨_, _, rfl⟩
  · exact ⟨cur, e, by rw [Below.heap_setCell w a v g hg]; exact h⟩
theorem cell?_setCell_eq {w : World} {g o : Nat} {u v : Value} (h : w.cell? ⟨g, o, none⟩ = some u) : (w.setCell ⟨g, o, none⟩ v).cell? ⟨g, o, none⟩ = some v := by
  simp only [World.setCell, World.cell?, Array.getElem?_modify] at h ⊢
  rw [if_pos trivial]
  cases hb : w.heap[g]? with
  | none => simp [hb] at h
  | some ob =>
    cases ob <;> simp [hb] at h ⊢
    obtain ⟨hlt, _⟩ := Array.getElem?_eq_some_iff.1 h
    rw [Array.getElem?_setIfInBounds, if_pos rfl, if_pos hlt]
theorem Edit.setCell {g lo n : Nat} {a b : World} (h : Edit g lo n a b) {o : Nat} (h1 : lo ≤ o) (h2 : o < lo + n) (v : Value) : Edit g lo n a (b.setCell ⟨g, o, none⟩ v) :=
  h.trans ⟨rfl, rfl, rfl, by simp [World.setCell], fun k _ hk => Below.heap_setCell b ⟨g, o, none⟩ v k hk, fun o' ho => cell?_setCell_ne b g o g o' v (by omega), fun f => free_setCell f _ _⟩
theorem Edit.mono {g lo n lo' n' : Nat} {a b : World} (h : Edit g lo n a b) (h1 : lo' ≤ lo) (h2 : lo + n ≤ lo' + n') : Edit g lo' n' a b :=
  ⟨h.os, h.tape, h.output, h.size, h.other, fun o ho => h.cell o (by omega), h.free⟩
theorem Edit.below {g lo n B : Nat} {a b : World} (h : Edit g lo n a b) (hB : B ≤ g) (hs : B ≤ a.heap.size) : Below B a b :=
  ⟨h.os, h.tape, h.output, h.size, fun k hk => h.other k (by omega) (by omega)⟩
theorem Row.edit {g lo n b off : Nat} {w w' : World} {l : List Int} (hr : Row w b off l) (h : Edit g lo n w w') (hne : b ≠ g) : Row w' b off l := by
  intro k hk
  have h1 := hr k hk
  rw [World.cell?_of_block (w := w) (w' := w') (a := ⟨b, off + k, none⟩) (h.other b (World.block_lt_of_cell? w _ h1) hne)]
  exact h1
/-- A row of the same block beside what turned. -/
theorem Row.beside {g lo n off : Nat} {w w' : World} {l : List Int} (hr : Row w g off l) (h : Edit g lo n w w') (hne : off + l.length ≤ lo ∨ lo + n ≤ off) : Row w' g off l := by
  intro k hk
  rw [h.cell (off + k) (by omega)]
  exact hr k hk
theorem Row.set {b off k : Nat} {w : World} {l : List Int} (hr : Row w b off l) (hk : k < l.length) (x : Int) : Row (w.setCell ⟨b, off + k, none⟩ (.int .u64 x)) b off (l.set k x) := by
  intro j hj
  simp at hj
  by_cases e : j = k
  · subst e
    rw [cell?_setCell_eq (hr j hj)]
    simp [nth, hj]
  · rw [cell?_setCell_ne _ _ _ _ _ _ (by omega), hr j hj]
    simp [nth, Ne.symm e]
theorem Row.drewN {b off : Nat} {w : World} {l : List Int} (hr : Row w b off l) (m : Nat) : Row (w.drewN m) b off l := hr
/-- The list of a row that is written from its low end on. -/
theorem set_mid {out W : List Int} {i : Nat} {o : Int} (hi : out.length = i) (hW : i < W.length) : (out ++ W.drop i).set i o = (out ++ [o]) ++ W.drop (i + 1) := by
  rw [List.set_append_right i o (by omega), hi, Nat.sub_self, List.drop_eq_getElem_cons hW, List.set_cons_zero]; simp
theorem nth_mid {out W : List Int} {i : Nat} (hi : out.length = i) : nth (out ++ W.drop i) i = nth W i := by
  simp [nth, List.getElem?_append, hi]
theorem Row.take {b off : Nat} {w : World} {l : List Int} (hr : Row w b off l) (m : Nat) : Row w b off (l.take m) := by
  intro k hk
  simp at hk
  rw [hr k (by omega)]
  simp [nth, show k < m by omega]
theorem Row.drop {b off : Nat} {w : World} {l : List Int} (hr : Row w b off l) (m : Nat) : Row w b (off + m) (l.drop m) := by
  intro k hk
  simp at hk
  rw [show off + m + k = off + (m + k) by omega, hr (m + k) (by omega)]
  simp [nth]
end Go.Proofs.YtachnndaoogpeaaGreatDoor
