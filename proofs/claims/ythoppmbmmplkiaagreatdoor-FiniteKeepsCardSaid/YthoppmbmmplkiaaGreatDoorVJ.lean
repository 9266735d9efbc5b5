/-
  Puzzles: what the program's rules keep: that all differ.
-/
import Derived.Test.YthoppmbmmplkiaaGreatDoorVI
import Derived.Test.YthoppmbmmplkiaaGreatDoorVS
namespace Go.Proofs.YthoppmbmmplkiaaGreatDoor
open Go.RowKit

/-- Numbers, ascending. -/
def srt (L : List Int) : List Int := L.mergeSort fun x y => decide (x ≤ y)
theorem srt_len (L : List Int) : (srt L).length = L.length := List.length_mergeSort _
theorem srt_perm (L : List Int) : (srt L).Perm L := List.mergeSort_perm _ _
theorem srt_le (L : List Int) : (srt L).Pairwise (fun x y => x ≤ y) := by
  have h := List.pairwise_mergeSort (le := fun x y : Int => decide (x ≤ y)) (fun a b c h1 h2 => by simp at *; omega) (fun a b => by simp; omega) L
  exact h.imp fun h => by simpa using h
theorem nodup_compact {zs : List Int} (hs : zs.Pairwise (fun x y => x ≤ y)) : (Lib.compact zs).length = zs.length ↔ zs.Nodup := by
  constructor
  · intro h
    have hk : ∀ j, j < zs.length → Lib.keeps zs.toArray j = true := by
      have h2 : ((List.range zs.length).filter (Lib.keeps zs.toArray)).length = (List.range zs.length).length := by
        have h4 : (Lib.compact zs).length = ((List.range zs.length).filter (Lib.keeps zs.toArray)).length := by rw [Lib.compact, Lib.compactUpTo, List.length_map]
        rw [← h4, List.length_range, h]
      have h3 := List.filter_eq_self.1 ((List.filter_sublist (p := Lib.keeps zs.toArray) (l := List.range zs.length)).eq_of_length h2)
      exact fun j hj => h3 j (List.mem_range.2 hj)
    rw [List.Nodup, List.pairwise_iff_getElem]
    intro i j hi hj hij
    have h1 := hk j hj
    have hle := List.pairwise_iff_getElem.1 hs
    have hne : zs[j] ≠ zs[j - 1] := by
      intro e
      simp [Lib.keeps, show ¬ j = 0 by omega, hj, show j - 1 < zs.length by omega, e] at h1
    have h4 := hle (j - 1) j (by omega) hj (by omega)
    rcases (by omega : i = j - 1 ∨ i < j - 1) with rfl | h5
    · exact fun e => hne e.symm
    · have := hle i (j - 1) hi (by omega) h5
      intro e
      omega
  · intro h
    rw [Lib.compact_all]
    intro j hj
    by_cases h0 : j = 0
    · simp [Lib.keeps, h0]
    · have := List.pairwise_iff_getElem.1 h (j - 1) j (by omega) hj (by omega)
      simp [Lib.keeps, h0, hj, show j - 1 < zs.length by omega]
      exact fun e => this e.symm
theorem below_put {α : Type} [Inhabited α] (enc : α → Value) (w : World) (n B off : Nat) (d : Array α) (os : Array Obj) (hB : B ≤ w.heap.size) : Below B w (Go.Sort.grow (Go.Sort.putRow enc (Go.Sort.ahead w n) B off d) os) := by
  refine ⟨rfl, rfl, rfl, ?_, fun k hk => ?_⟩
  · simp [Go.Sort.grow, Go.Sort.ahead]
  · simp only [Go.Sort.grow, Go.Sort.putRow, Go.Sort.mapBlock, Go.Sort.ahead]
    rw [Array.getElem?_append_left (by simp; omega), Array.getElem?_modify, if_neg (by omega)]
theorem holds_block {w : World} {B : Nat} {L : List Int} {t : TypeId} (h : w.heap[B]? = some (.cells (intC L).toArray t (0, 0))) : Go.Sort.Holds (Value.int .i64) w B 0 L.toArray := by
  intro j hj
  have hj' : j < L.length := by simpa using hj
  rw [Nat.zero_add]
  refine ⟨block_cell h (by simp [intC, hj']), by simp [World.frozen?, h]⟩
/-- slices.Sort of numbers of one's own. -/
theorem sort_any {w : World} {B n : Nat} {L : List Int} {t : TypeId} (h : w.heap[B]? = some (.cells (intC L).toArray t (0, 0))) (hl : L.length = n) (h8 : n ≤ 100) : Calls Tryz.prog 76 #[.slice (some ⟨B, 0, none⟩) n n] w fun e w' => e = .returned (.tuple #[]) ∧ (Go.Sort.Holds (Value.int .i64) w' B 0 (srt L).toArray ∧ B < w'.heap.size) ∧ Below B w w' := by
  subst hl
  have hB : B < w.heap.size := (Array.getElem?_eq_some_iff.1 h).1
  have hH := holds_block h
  refine (Any.slices_Sort_int Tryz.lays189 B 0 L.length L w hH hB (by omega)).mono fun e w' hh => ?_
  obtain ⟨he, n, os, rfl⟩ := hh
  refine ⟨he, ⟨?_, ?_⟩, below_put _ _ _ _ _ _ _ (by omega)⟩
  · exact Go.Sort.holds_grow _ _ _ _ _ _ (by simpa [Go.Sort.ahead] using hB) (Go.Sort.holds_putRow _ _ _ _ _ _ (Go.Sort.holds_ahead _ _ n _ _ _ hH) (by simp))
  · simp [Go.Sort.grow, Go.Sort.ahead]; omega
/-- slices.Compact of numbers of one's own. -/
theorem comp_any {w : World} {B n : Nat} {zs : List Int} (hH : Go.Sort.Holds (Value.int .i64) w B 0 zs.toArray) (hB : B < w.heap.size) (hl : zs.length = n) (h8 : n ≤ 100) : Calls Tryz.prog 77 #[.slice (some ⟨B, 0, none⟩) n n] w fun e w' => e = .returned (.slice (some ⟨B, 0, none⟩) (Lib.compact zs).length n) ∧ Below B w w' := by
  subst hl
  refine (Any.slices_Compact_int Tryz.laysNm220 B 0 zs.length zs w hH (by omega) (Nat.le_refl _)).mono fun e w' hh => ?_
  obtain ⟨he, q, rfl⟩ := hh
  refine ⟨he, ?_⟩
  have := below_put (Value.int .i64) w q B 0 (Lib.compact zs ++ List.replicate (zs.length - (Lib.compact zs).length) 0).toArray #[] (by omega)
  rwa [Go.Sort.grow_empty] at this
set_option maxHeartbeats 8000000 in
set_option maxRecDepth 8000 in
/-- What a rule keeps by which all differ. -/
theorem diff_any {g : Nat} {xv : Value} {x vars : List Int} {a1 : Option Addr} {c1 : Nat} (w : World) (k0 : w.cell? ⟨g, 0, none⟩ = some (.slice a1 vars.length c1))
    (hv : Rows 1 JE w (.slice a1 vars.length c1) vars) (hx : Rows 1 JE w xv x) (hr : ∀ k ∈ vars, 0 ≤ k ∧ k < (x.length : Int)) (h8 : vars.length ≤ 8) :
    Calls Tryz.prog 71 #[.pointer (some ⟨g, 0, none⟩), xv] w fun e w' => YesP e (pickL x vars).Nodup ∧ Below w.heap.size w w' := by
  have HC := hide (pick_any w hx hv hr h8)
  have HL := hide (show (pickL x vars).length = vars.length from List.length_map _)
  have hgl := World.block_lt_of_cell? w _ k0
  have hgl : g < w.heap.size := hgl
  obtain ⟨xa, xc, rfl⟩ := hx.shape
  clear hv hx hr
  obtain ⟨L, hL⟩ : ∃ L, L = pickL x vars := ⟨_, rfl⟩
  rw [← hL] at HL HC ⊢
  clear hL
  obtain ⟨n, hn⟩ : ∃ n, n = vars.length := ⟨_, rfl⟩
  rw [← hn] at k0 HC HL h8
  clear hn
  go_enter Tryz.func71, Tryz.ntmps71
  go_wp2_with fail
  go_fit (unhide HC)
  rintro e W1 ⟨⟨B, rfl, hB, hh⟩, hb⟩
  have HS := hide (sort_any hh (unhide HL) (by omega))
  have HB := hide hb
  have HBB := hide (And.intro hB hgl)
  have q0 := cell_keep hb k0
  clear hh hb hB hgl HC k0
  go_wp2_with fail
  go_fit (unhide HS)
  rintro e W2 ⟨rfl, ⟨hH, hW⟩, hb⟩
  have q0 : W2.cell? ⟨g, 0, none⟩ = some (.slice a1 n c1) := by
    have := unhide HBB
    rw [hb.cell (p := ⟨g, 0, none⟩) (by show g < B; omega)]; exact q0
  have HB := hide ((unhide HB).trans (hb.mono (unhide HBB).1))
  have HH := hide (And.intro hH hW)
  have HCD := hide (nodup_compact (srt_le L))
  have HQ := hide q0
  clear hH hW hb HS
  go_upto_region 3 with fail
  obtain ⟨V, rfl⟩ : ∃ X, X = W2 := ⟨_, rfl⟩
  have HCC := hide (comp_any (w := V.drew) (n := n) (unhide HH).1 (unhide HH).2 (by rw [srt_len]; exact unhide HL) (by omega))
  have ql : ∀ Y, Below B V.drew Y → Y.cell? ⟨g, 0, none⟩ = some (.slice a1 n c1) := fun Y hb => by
    have := unhide HBB
    rw [hb.cell (p := ⟨g, 0, none⟩) (by show g < B; omega)]; exact unhide HQ
  have HQL := hide ql
  clear ql
  go_region_held3 (fun w' => w'.cell? ⟨g, 0, none⟩ = some (.slice a1 n c1))
    (first | exact q0 | exact (unhide HQL _ hb))
    (first | (go_at_call 77; go_fit (unhide HCC); rintro e9 Y1 ⟨rfl, hb⟩))
  go_wp2
  go_ret
  refine ⟨YesP.of ?_, ?_⟩
  · rw [show L.Nodup ↔ (srt L).Nodup from (srt_perm L).symm.nodup_iff, ← unhide HCD, srt_len, unhide HL]
    simp
    omega
  · exact (unhide HB).trans ((Below.refl _ _).drew.trans (hb.mono (unhide HBB).1))
end Go.Proofs.YthoppmbmmplkiaaGreatDoor
