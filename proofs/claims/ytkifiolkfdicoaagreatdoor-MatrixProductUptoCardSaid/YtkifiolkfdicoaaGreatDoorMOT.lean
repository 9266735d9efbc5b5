/-
 Tables of texts that come in: what is read of them, as lists.
-/
import Derived.Test.YtkifiolkfdicoaaGreatDoorMK1
import Derived.Test.YtkifiolkfdicoaaGreatDoorRows
import Derived.Deep.Strs
namespace Go.Proofs.YtkifiolkfdicoaaGreatDoor
open Go.RowKit Go.ChangeShapes Go.WideShapes Go.Deep
theorem bulk_one {H : Type} (d : DataW H) : 1 ≤ Rows.uptoBulk d := by
 cases d with
 | lit l => cases l <;> simp [Rows.uptoBulk]
 | nil => simp [Rows.uptoBulk]
 | ptr d => simp [Rows.uptoBulk]
 | slice elems spare => simp [Rows.uptoBulk]
 | agg parts => simp [Rows.uptoBulk]
 | iface t d => simp [Rows.uptoBulk]
 | map entries => simp [Rows.uptoBulk]
 | held h => simp [Rows.uptoBulk]
theorem bulk_part {H : Type} {d : DataW H} {l : List (DataW H)} (h : d ∈ l) : Rows.uptoBulk d ≤ Rows.uptoBulkAll l := by
 induction l with
 | nil => cases h
 | cons x r ih =>
   simp only [Rows.uptoBulkAll]
   cases List.mem_cons.1 h with
   | inl e => subst e; omega
   | inr e => have := ih e; omega
theorem bulk_len {H : Type} (l : List (DataW H)) : l.length ≤ Rows.uptoBulkAll l := by
 induction l with
 | nil => simp [Rows.uptoBulkAll]
 | cons x r ih => have := bulk_one x; simp only [Rows.uptoBulkAll, List.length_cons]; omega
theorem cell_spot {w : World} {a : Addr} {u : Value} (h : w.cell? a = some u) : a = ⟨a.block, a.off, none⟩ := by
 obtain ⟨_, _, _, _, h, _⟩ := cell_block h
 cases a
 simp_all
theorem add_plain' (b o i : Nat) : (⟨b, o, none⟩ : Addr).add i = ⟨b, o + i, none⟩ := by
 unfold Addr.add; split <;> simp_all
section
variable {H : Type} {enc : TypeId × Value → H} {P : Program} {w : World}
theorem open_texts {t e : TypeId} {fuel : Nat} {v : Value} {x : DataW H × List MemPlace} (ht : P.underlying t = some (.slice e)) (he : P.underlying e = some .string) (hc : P.cellsOf e = 1)
   (h : DataW.trod enc P w 0 (fun _ => true) true fuel t [v] = some x) : ∃ l : List ByteArray, Rows 1 TE w v l ∧ l.length ≤ Rows.uptoBulk x.1 := by
 rcases open_strs ht he hc h with ⟨h1, rfl⟩ | ⟨a, len, cap, m, Sx, h1, _, hl, hm, hmm, rfl, hcell⟩
 · obtain rfl : v = .slice none 0 0 := by simpa using h1
   exact ⟨[], ⟨none, 0, rfl, Nat.le_refl _, Nat.zero_le _, Or.inl rfl⟩, Nat.zero_le _⟩
 · obtain rfl : v = .slice (some a) len cap := by simpa using h1
   simp only [if_true] at hmm
   have hmm' := hmm.symm
   subst hmm'
   refine ⟨(List.range len).map Sx, ⟨some a, cap, by simp, by simpa using hl, hm, ?_⟩, ?_⟩
   · by_cases h0 : len = 0
     · left; subst h0; rfl
     · right
       have ha : a = ⟨a.block, a.off, none⟩ := by
         have := (hcell 0 (by omega)).1
         rw [show a.add 0 = a from rfl] at this
         exact cell_spot this
       refine ⟨a.block, a.off, by rw [← ha], fun i x hx => ?_⟩
       obtain ⟨hi, rfl⟩ : i < len ∧ Sx i = x := by
         rw [List.getElem?_map, Option.map_eq_some_iff] at hx
         obtain ⟨j, hj, rfl⟩ := hx
         obtain ⟨h3, h4⟩ := List.getElem?_eq_some_iff.1 hj
         simp at h3 h4
         subst h4
         exact ⟨h3, rfl⟩
       obtain ⟨k1, k2⟩ := hcell i (by omega)
       refine ⟨[.string (Sx i)], rfl, fun j u hu => ?_, rfl, k2⟩
       obtain ⟨rfl, rfl⟩ : j = 0 ∧ .string (Sx i) = u := by
         cases j with
         | zero => exact ⟨rfl, by simpa using hu⟩
         | succ j => simp at hu
       rw [ha, add_plain'] at k1
       simpa using k1
   · have h2 := bulk_len ((List.range len).map fun i => (DataW.lit (H := H) (.string (Sx i).data.toList)))
     simp only [List.length_map, List.length_range] at h2 ⊢
     simp only [Rows.uptoBulk]
     omega
theorem open_table {t e q : TypeId} {v : Value} {d : DataW H} {p : List MemPlace} {r : Reach} {b0 : Nat} (ht : P.underlying t = some (.slice e)) (he : P.underlying e = some (.slice q)) (hq : P.underlying q = some .string) (ce : P.cellsOf e = 1) (cq : P.cellsOf q = 1)
   (hval : Value.okWide P w r b0 t v) (h : DataW.Trod enc P w 0 (fun _ => true) true t v d p) : ∃ l : List (List ByteArray), Rows 1 (LE 1 TE) w v l ∧ l.length ≤ Rows.uptoBulk d ∧ ∀ r ∈ l, r.length ≤ Rows.uptoBulk d := by
 obtain ⟨a0, n0, c0, rfl⟩ := okWide_slice ht hval
 obtain ⟨fuel, h⟩ := h
 rw [show (Value.slice a0 n0 c0).cells.toList = [.slice a0 n0 c0] from rfl] at h
 rcases open_slice1 ht ce h with ⟨h1, h2⟩ | ⟨a, len, cap, m, n, V, D, Pl, h1, _, hl, hm, hmm, hx, hcell⟩
 · obtain ⟨rfl, rfl, rfl⟩ : a0 = none ∧ n0 = 0 ∧ c0 = 0 := by simpa using h1
   exact ⟨[], ⟨none, 0, rfl, Nat.le_refl _, Nat.zero_le _, Or.inl rfl⟩, Nat.zero_le _, fun r hr => by cases hr⟩
 · obtain ⟨rfl, rfl, rfl⟩ : a0 = some a ∧ n0 = len ∧ c0 = cap := by simpa using h1
   simp only [Prod.mk.injEq] at hx
   obtain ⟨rfl, _⟩ := hx
   simp only [if_true] at hmm
   have hmm' := hmm.symm
   subst hmm'
   obtain ⟨f, hf⟩ := choose_lt (n := n0) (p := fun i (l : List ByteArray) => Rows 1 TE w (V i) l ∧ l.length ≤ Rows.uptoBulk (D i)) (fun i hi => open_texts he hq cq (hcell i (by omega)).2)
   have hb := bulk_len ((List.range n0).map D)
   have hr : ∀ i, i < n0 → Rows.uptoBulk (D i) ≤ Rows.uptoBulkAll ((List.range n0).map D) := fun i hi => bulk_part (List.mem_map.2 ⟨i, List.mem_range.2 hi, rfl⟩)
   simp only [List.length_map, List.length_range] at hb
   refine ⟨(List.range n0).map f, ⟨some a, c0, by simp, by simpa using hl, hm, ?_⟩, ?_, ?_⟩
   · by_cases h0 : n0 = 0
     · left; subst h0; rfl
     · right
       have ha : a = ⟨a.block, a.off, none⟩ := by
         have := (hcell 0 (by omega)).1
         rw [show a.add 0 = a from rfl] at this
         exact cell_spot this
       refine ⟨a.block, a.off, by rw [← ha], fun i x hx => ?_⟩
       obtain ⟨hi, rfl⟩ : i < n0 ∧ f i = x := by
         rw [List.getElem?_map, Option.map_eq_some_iff] at hx
         obtain ⟨j, hj, rfl⟩ := hx
         obtain ⟨h3, h4⟩ := List.getElem?_eq_some_iff.1 hj
         simp at h3 h4
         subst h4
         exact ⟨h3, rfl⟩
       have k1 := (hcell i (by omega)).1
       refine ⟨[V i], rfl, fun j u hu => ?_, V i, rfl, (hf i hi).1⟩
       obtain ⟨rfl, rfl⟩ : j = 0 ∧ V i = u := by
         cases j with
         | zero => exact ⟨rfl, by simpa using hu⟩
         | succ j => simp at hu
       rw [ha, add_plain'] at k1
       simpa using k1
   · simp only [List.length_map, List.length_range, Rows.uptoBulk]
     omega
   · intro r hr'
     obtain ⟨i, hi, rfl⟩ := List.mem_map.1 hr'
     have hi := List.mem_range.1 hi
     have h1 := (hf i hi).2
     have h2 := hr i hi
     simp only [Rows.uptoBulk]
     omega
end
end Go.Proofs.YtkifiolkfdicoaaGreatDoor
