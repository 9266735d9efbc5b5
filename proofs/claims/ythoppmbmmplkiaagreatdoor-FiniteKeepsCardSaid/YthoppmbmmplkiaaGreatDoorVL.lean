/-
  Puzzles: turns in memory, and how they are put in order.
-/
import Derived.Test.YthoppmbmmplkiaaGreatDoorVJ
import Derived.Test.YthoppmbmmplkiaaGreatDoorVK
namespace Go.Proofs.YthoppmbmmplkiaaGreatDoor
open Go.RowKit

/-- How two numbers lie. -/
def cmpI (x y : Int) : Int := if x < y then -1 else if y < x then 1 else 0
set_option maxHeartbeats 1000000 in
theorem nan_any (x : Int) (w : World) : Calls Tryz.prog 96 #[.int .i64 x] w fun e w' => e = .returned (.bool false) ∧ w' = w := by
  have hx : (x != x) = false := by simp
  go_enter Tryz.func96, Tryz.ntmps96
  go_wp2
  go_ret
  exact ⟨rfl, rfl⟩
set_option maxHeartbeats 1000000 in
/-- cmp.Compare of numbers. -/
theorem cmp_any (x y : Int) (w : World) : Calls Tryz.prog 122 #[.int .i64 x, .int .i64 y] w fun e w' => e = .returned (.int .i64 (cmpI x y)) ∧ w' = w := by
  go_enter Tryz.func122, Tryz.ntmps122
  go_wp2_with fail
  go_fit (nan_any x _)
  rintro e W1 ⟨rfl, rfl⟩
  go_wp2_with fail
  go_fit (nan_any y _)
  rintro e W1 ⟨rfl, rfl⟩
  by_cases h1 : x < y
  · go_wp2
    go_ret
    exact ⟨by rw [cmpI, if_pos h1]; rfl, rfl⟩
  · by_cases h2 : y < x
    · go_wp2
      go_ret
      exact ⟨by rw [cmpI, if_neg (by omega), if_pos h2]; rfl, rfl⟩
    · go_wp2
      go_ret
      exact ⟨by rw [cmpI, if_neg (by omega), if_neg (by omega)]; rfl, rfl⟩
/-- A turn's cells. -/
def encT (t : Int × Int) : List Value := [.int .i64 t.1, .int .i64 t.2]
theorem encT_len (t : Int × Int) : (encT t).length = 2 := rfl
theorem encT_one (t : Int × Int) : ∀ v ∈ encT t, v.oneCell' = true := by
  intro v hv
  simp [encT] at hv
  rcases hv with rfl | rfl <;> rfl
set_option maxHeartbeats 1000000 in
/-- How two turns lie. -/
theorem tog1_any (s t : Int × Int) (W : World) : Calls Tryz.prog 121 #[.agg #[.int .i64 s.1, .int .i64 s.2], .agg #[.int .i64 t.1, .int .i64 t.2]] W fun e w' => e = .returned (.int .i64 (cmpI s.1 t.1)) ∧ ∃ os, w' = Go.Sort.grow W os := by
  obtain ⟨s1, s2⟩ := s
  obtain ⟨t1, t2⟩ := t
  have hz : (W.alloc (.cells #[.int .i64 s1, .int .i64 s2] 173)).heap.size = W.heap.size + 1 := by simp
  have c0 : ((W.alloc (.cells #[.int .i64 s1, .int .i64 s2] 173)).alloc (.cells #[.int .i64 t1, .int .i64 t2] 173)).cell? ⟨W.heap.size, 0, none⟩ = some (.int .i64 s1) := cell_keep (below_new _ _) (two_new W 173 _ _).1
  have c1 : ((W.alloc (.cells #[.int .i64 s1, .int .i64 s2] 173)).alloc (.cells #[.int .i64 t1, .int .i64 t2] 173)).cell? ⟨W.heap.size + 1, 0, none⟩ = some (.int .i64 t1) := by
    rw [← hz]
    exact (two_new _ 173 _ _).1
  have HG := hide (show ((W.alloc (.cells #[.int .i64 s1, .int .i64 s2] 173)).alloc (.cells #[.int .i64 t1, .int .i64 t2] 173)) = Go.Sort.grow W (#[.cells #[.int .i64 s1, .int .i64 s2] 173] ++ #[.cells #[.int .i64 t1, .int .i64 t2] 173]) by rw [Go.Sort.alloc_eq_grow, Go.Sort.alloc_eq_grow, Go.Sort.grow_grow])
  go_enter Tryz.func121, Tryz.ntmps121
  go_wp2_with fail
  go_fit (cmp_any s1 t1 _)
  rintro e W1 ⟨rfl, rfl⟩
  go_wp2
  go_ret
  exact ⟨rfl, _, unhide HG⟩
theorem lt_turn (x y : Int × Int) : ltOf (fun x y : Int × Int => cmpI x.1 y.1) x y = decide (x.1 < y.1) := by
  unfold ltOf cmpI
  by_cases h1 : x.1 < y.1
  · simp [h1]
  · by_cases h2 : y.1 < x.1 <;> simp [h1, h2]
theorem swo_turn : Go.Sort.SWO (ltOf fun x y : Int × Int => cmpI x.1 y.1) where
  irrefl x := by rw [lt_turn]; simp
  trans x y z h1 h2 := by rw [lt_turn] at *; simp at *; omega
  ntrans x y z h1 h2 := by rw [lt_turn] at *; simp at *; omega
theorem cmp_turn (blk off size : Nat) (w : World) : CmpLays Tryz.prog 121 #[] encT 2 (fun x y : Int × Int => cmpI x.1 y.1) blk off size w := fun m os dk _ x y =>
  (tog1_any x y _).mono fun e w' h => ⟨h.1, 0, by
    obtain ⟨os', h2⟩ := h.2
    exact ⟨os', by rw [h2]; rfl⟩⟩
/-- A turn in its cells. -/
def TuE (_w : World) (cs : List Value) (t : Int × Int) : Prop := cs = encT t
/-- The cells of turns. -/
def flatT (l : List (Int × Int)) : List Value := l.flatMap encT
theorem flatT_len (l : List (Int × Int)) : (flatT l).length = l.length * 2 := by
  induction l with
  | nil => rfl
  | cons a l ih => simp [flatT, encT] at *; omega
theorem flatT_at : ∀ {l : List (Int × Int)} {i c : Nat} {t : Int × Int}, l[i]? = some t → c < 2 → (flatT l)[i * 2 + c]? = (encT t)[c]?
  | [], _, _, _, h, _ => by simp at h
  | a :: l, 0, c, t, h, hc => by
    obtain rfl : a = t := by simpa using h
    rw [flatT, List.flatMap_cons, Nat.zero_mul, Nat.zero_add, List.getElem?_append_left (by rw [encT_len]; exact hc)]
  | a :: l, i + 1, c, t, h, hc => by
    rw [flatT, List.flatMap_cons, List.getElem?_append_right (by rw [encT_len]; omega), encT_len, show (i + 1) * 2 + c - 2 = i * 2 + c by omega]
    exact flatT_at (l := l) (by simpa using h) hc
/-- A row of turns of one's own. -/
def OwnT (w : World) (base : Nat) (v : Value) (l : List (Int × Int)) : Prop := w.ownsRow base 173 2 v l.length (flatT l)
theorem eg_tog1 : ∀ args w, (callFunc 121 args).run Tryz.prog w = .ok (.enter 121 args) w := enters_of Tryz.func121 (by kernel_rfl) rfl
theorem agg_turn : ∀ w, (isAgg 173).run Tryz.prog w = .ok true w := Tryz.isAgg173
theorem size_turn : ∀ w, (Go.sizeOf 173).run Tryz.prog w = .ok 2 w := Tryz.sizeOf173
/-- slices.SortFunc of turns of one's own. -/
theorem sortT_any {w : World} {base : Nat} {v : Value} {l : List (Int × Int)} (h : OwnT w base v l) (hl : l.length ≤ 100) : Calls Tryz.prog 120 #[v, .func (.func 121) #[] #[]] w fun e w' => e = .returned (.tuple #[]) ∧ (∃ D : List (Int × Int), D.Perm l ∧ D.Pairwise (fun a b => a.1 ≤ b.1) ∧ Rows 2 TuE w' v D) ∧ Below base w w' := by
  obtain ⟨_, ⟨rfl, h0⟩ | ⟨g, cap, cur, rfl, hg, hh, h1, h2, h3, h4⟩⟩ := h
  · obtain rfl : l = [] := List.eq_nil_of_length_eq_zero h0
    refine (AnyF.slices_SortFunc_none Tryz.l120 none 0 (.func (.func 121) #[] #[]) w).mono fun e w' hh => ?_
    obtain ⟨he, rfl⟩ := hh
    exact ⟨he, ⟨[], List.Perm.refl _, List.Pairwise.nil, rows_nil _⟩, Below.refl _ _⟩
  · have hgl : g < w.heap.size := (Array.getElem?_eq_some_iff.1 hh).1
    have hH : Go.Sort.HoldsK encT 2 w g 0 l.toArray := by
      intro j hj
      rw [Go.Sort.size_flatK] at hj
      have hj' : j < l.length * 2 := by simpa using hj
      obtain ⟨t, ht⟩ : ∃ t, l[j / 2]? = some t := ⟨l[j / 2]'(by omega), by simp⟩
      have hc : (encT t)[j % 2]? = some (encT t)[j % 2]! := by
        rw [getElem!_pos (encT t) (j % 2) (by rw [encT_len]; omega)]
        simp
      have hf := flatT_at ht (show j % 2 < 2 by omega)
      rw [show j / 2 * 2 + j % 2 = j by omega, hc, ← h4, List.getElem?_take, if_pos hj'] at hf
      rw [Go.Sort.get_flatK _ _ _ _ hj, Nat.zero_add, show l.toArray[j / 2]! = t from by simp [getElem!_def, ht]]
      exact ⟨block_cell hh (by simpa using hf), by simp [World.frozen?, hh]⟩
    have hcon := AnyQ.slices_SortFunc Tryz.l120 2 agg_turn size_turn encT encT_len encT_one (fun x y : Int × Int => cmpI x.1 y.1) swo_turn 121 #[] g 0 cap l.toArray w eg_tog1 (cmp_turn g 0 l.toArray.size w) hH hgl (by simp; omega)
    rw [List.size_toArray] at hcon
    refine hcon.mono fun e w' hh2 => ?_
    obtain ⟨he, d', n, os, hp, hs, rfl⟩ := hh2
    have hsz : d'.size = l.length := by have := hp.1; simpa using this
    refine ⟨he, ⟨d'.toList, ?_, ?_, ?_⟩, ?_⟩
    · have := hp.2.2
      rw [show l.length = d'.size from hsz.symm, Array.extract_size] at this
      rw [show (l.toArray.extract 0 d'.size) = l.toArray from by rw [hsz]; exact Array.extract_eq_self_of_le (by simp)] at this
      simpa using this
    · rw [List.pairwise_iff_getElem]
      intro i j hi hj hij
      have := hs i j (Nat.zero_le _) hij (by rw [← hsz]; simpa using hj)
      rw [lt_turn] at this
      simp at hi hj
      rw [getElem!_pos d' i hi, getElem!_pos d' j hj] at this
      simpa using this
    · have hK := holdsK_sortWorldK_c encT 2 w g 0 l.toArray d' n os hH hgl (by simpa using hsz)
      refine ⟨_, cap, (by show Value.slice _ l.length cap = _; rw [← hsz]; simp), by rw [Array.length_toList, hsz]; exact h1, h2, Or.inr ⟨g, 0, rfl, fun i x hx => ⟨encT x, rfl, fun c u hu => ?_, rfl⟩⟩⟩
      have hi : i < d'.size := by have := (List.getElem?_eq_some_iff.1 hx).1; simpa using this
      have hc : c < 2 := by have := (List.getElem?_eq_some_iff.1 hu).1; rwa [encT_len] at this
      have := (hK.cell hi hc).1
      rw [show d'[i]! = x from by rw [Array.getElem?_toList] at hx; simp [getElem!_def, hx], Nat.add_assoc] at this
      rw [this, getElem!_def, hu]
    · exact (below_put id w n g 0 _ os (by omega)).mono hg
end Go.Proofs.YthoppmbmmplkiaaGreatDoor
