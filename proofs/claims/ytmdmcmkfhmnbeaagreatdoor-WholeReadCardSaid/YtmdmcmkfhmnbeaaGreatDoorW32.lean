/-
  Walks over package whole: groups of digits.
-/
import Derived.Test.YtmdmcmkfhmnbeaaGreatDoorW28
import Derived.OwnWalk
namespace Go.Proofs.YtmdmcmkfhmnbeaaGreatDoor
open Go.RowKit

theorem info_u64 : (Tryz.prog.info? 75).map (fun i => (i.zero, i.size, i.bytes)) = some (some (.int .u64 0), 1, 8) := by kernel_rfl
set_option maxRecDepth 8000 in
set_option maxHeartbeats 1000000 in
theorem clone_any (b off cap : Nat) (l : List Int) (w : World) (hr : Row w b off l) (hne : l ≠ []) (hl : l.length ≤ cap) (hcap : cap ≤ 1000000) :
    Calls Tryz.prog 70 #[.slice (some ⟨b, off, none⟩) l.length cap] w fun e w' => (∃ g c, e = .returned (.slice (some ⟨g, 0, none⟩) l.length c) ∧ w.heap.size ≤ g ∧ Row w' g 0 l ∧ Free w' g ∧ l.length ≤ c ∧ c ≤ maxLen) ∧ Below w.heap.size w w' := by
  obtain ⟨i0, hi, hz0, hz1, hz2⟩ := info_parts info_u64
  have hq := eql_any (some ⟨b, off, none⟩) l.length cap
  go_enter Tryz.func70, Tryz.ntmps70
  have hown0 : (w.alloc (.cells #[] 75)).ownsRow w.heap.size 75 1 (.slice (some ⟨w.heap.size, 0, none⟩) 0 0) 0 [] := World.ownsRow_lit w #[] 0 (Nat.le_refl _) (Nat.zero_le _) rfl
  have hk := below_new w (.cells #[] 75)
  have hr' := hr.later hk
  go_wp2_with (at_builtin; refine wpList_append_own _ rfl _ _ 22 rfl w.heap.size 75 i0 (.int .u64 0) 1 8 Tryz.underlying22 hi hz0 hz1 hz2 rfl (by decide) _ _ _ rfl hown0 ⟨b, off, none⟩ l.length cap (l.map (Value.int .u64)) rfl ?hl ?c1 ?c2 ?c3 ?c4 ?c5 ?_)
  case hl => simp
  case c1 =>
    intro j u hj
    have hjl : j < l.length := by
      have := (List.getElem?_eq_some_iff.1 hj).1
      simpa using this
    have hu : u = .int .u64 (nth l j) := by
      rw [List.getElem?_map, List.getElem?_eq_getElem hjl] at hj
      simp only [Option.map_some, Option.some.injEq] at hj
      rw [← hj]
      simp [nth, hjl]
    rw [hu, show (⟨b, off, none⟩ : Addr).add j = ⟨b, off + j, none⟩ by unfold Addr.add; split <;> simp_all]
    exact hr' j hjl
  case c2 =>
    intro u hu
    obtain ⟨x, _, rfl⟩ := List.mem_map.1 hu
    rfl
  case c3 => unfold maxLen; omega
  case c4 => omega
  case c5 => simp
  intro v' w1 hown' hgrow hnil
  have hB : Below w.heap.size w w1 := hk.grown hgrow (by simp) (fun k hk' => by simp [Value.ownBlock] at hk'; omega)
  obtain ⟨q1, ⟨rfl, q2⟩ | ⟨g, c, cur, rfl, q3, q4, q5, q6, q7, q8⟩⟩ := hown'
  · exfalso; exact hne (List.eq_nil_of_length_eq_zero (by omega))
  · have hrow : Row w1 g 0 l := by
      intro k hk'
      have e : cur[k]? = (cur.toList.take (l.length * 1))[k]? := by
        rw [List.getElem?_take, if_pos (by omega)]; simp
      simp only [World.cell?, Nat.zero_add, q4]
      rw [e, q8]
      simp [nth, hk']
    have hfree : Free w1 g := ⟨cur, _, q4⟩
    have hle : l.length ≤ c := by omega
    have hcm := q6
    clear hgrow hnil hown0 hr' hk q1 q4 q5 q6 q7 q8
    go_wp2
    go_ret
    exact ⟨⟨g, c, by simp, q3, hrow, hfree, hle, hcm⟩, hB⟩
/-- Ten to the nineteenth. -/
abbrev p19 : Int := 10000000000000000000
/-- The number of groups of nineteen digits, the lowest first. -/
def v19 : List Int → Int
  | [] => 0
  | d :: l => d + p19 * v19 l
theorem v19_append (a b : List Int) : v19 (a ++ b) = v19 a + p19 ^ a.length * v19 b := by
  induction a with
  | nil => simp [v19]
  | cons d l ih => simp only [List.cons_append, v19, ih, List.length_cons, Int.pow_succ, Int.mul_add]; rw [Int.mul_comm (p19 ^ l.length) p19, Int.mul_assoc]; omega
/-- Groups alone. -/
def P19 (l : List Int) : Prop := ∀ d ∈ l, 0 ≤ d ∧ d < p19
theorem val_zeros {l : List Int} (h : ∀ k, nth l k = 0) : val l = 0 := by
  induction l with
  | nil => simp [val]
  | cons d l ih =>
    have h0 : d = 0 := by have := h 0; simpa [nth] using this
    have h1 := ih (fun k => by have := h (k + 1); simpa [nth] using this)
    simp [val, h0, h1]
theorem val_take {l : List Int} {m : Nat} (hm : m ≤ l.length) (h : ∀ k, m ≤ k → nth l k = 0) : val (l.take m) = val l := by
  rw [val_split l m hm, val_zeros (l := l.drop m) (fun k => by have := h (m + k) (by omega); simpa [nth] using this)]
  omega
theorem trim_cut {l : List Int} {m : Nat} (hm : m ≤ l.length) (h : m = 0 ∨ nth l (m - 1) ≠ 0) : Trim (l.take m) := by
  rcases h with rfl | h
  · exact Or.inl (by simp)
  · by_cases hm0 : m = 0
    · subst hm0; exact Or.inl (by simp)
    · refine Or.inr ?_
      rw [List.length_take, Nat.min_eq_left hm]
      unfold nth at h ⊢
      rw [List.getElem?_take, if_pos (by omega)]; exact h
theorem pow_bound {n k : Nat} {v : Int} (h1 : p19 ^ k ≤ v) (h2 : v < pw n) : k ≤ 2 * n := by
  rcases Nat.lt_or_ge (2 * n) k with h | h
  · exfalso
    have e1 : ∀ n, pw n ≤ p19 ^ (2 * n) := by
      intro n
      induction n with
      | zero => simp [pw]
      | succ n ih =>
        have hp : (0 : Int) < p19 ^ (2 * n) := Int.pow_pos (by decide)
        rw [pw_succ, show 2 * (n + 1) = 2 * n + 1 + 1 by omega, Int.pow_succ, Int.pow_succ]
        unfold p19 at *
        omega
    have e2 : p19 ^ (2 * n) ≤ p19 ^ k := by
      obtain ⟨j, rfl⟩ : ∃ j, k = 2 * n + j := ⟨k - 2 * n, by omega⟩
      rw [Int.pow_add]
      have hp : (0 : Int) < p19 ^ (2 * n) := Int.pow_pos (by decide)
      have hq : (0 : Int) < p19 ^ j := Int.pow_pos (by decide)
      have := Int.mul_le_mul_of_nonneg_left (show (1 : Int) ≤ p19 ^ j by omega) (Int.le_of_lt hp)
      omega
    have := e1 n
    omega
  · exact h

/-- groupsOf, some rounds on. -/
structure GrK (l : List Int) (w : World) (g c : Nat) (L : List Int) (v : Value) (G : List Int) (wr : World) : Prop where
  row : Row wr g 0 L
  free : Free wr g
  words : Ws L
  trim : Trim L
  cap : L.length ≤ c
  less : L.length ≤ l.length
  own : wr.ownsRow (g + 1) 75 1 v G.length (G.map (Value.int .u64))
  groups : P19 G
  sum : val l = v19 G + p19 ^ G.length * val L
  top : G = [] ∨ L ≠ [] ∨ nth G (G.length - 1) ≠ 0
  below : Below w.heap.size w wr
theorem edit_grown {g o n : Nat} {w w' : World} (h : Edit g o n w w') : w.grownBy w' (some g) := ⟨h.os, h.tape, h.output, h.size, fun k hk hne => h.other k hk (fun e => hne (by rw [e]))⟩
theorem v19_nonneg {l : List Int} (h : P19 l) : 0 ≤ v19 l := by
  induction l with
  | nil => simp [v19]
  | cons d l ih =>
    have h1 := h d (List.mem_cons_self ..)
    have h2 := ih (fun x hx => h x (List.mem_cons_of_mem _ hx))
    simp only [v19]; unfold p19 at *; omega
theorem GrK.count {l : List Int} {w : World} {g c : Nat} {L : List Int} {v : Value} {G : List Int} {wr : World} (h : GrK l w g c L v G wr) (hl : Ws l) (hne : L ≠ []) : G.length ≤ 2 * l.length := by
  have h1 : 0 < val L := by
    have := val_ge h.words h.trim hne
    have := pw_pos (L.length - 1)
    omega
  have h2 := v19_nonneg h.groups
  have h3 : (p19 : Int) ^ G.length * 1 ≤ p19 ^ G.length * val L := Int.mul_le_mul_of_nonneg_left (by omega) (Int.le_of_lt (Int.pow_pos (by decide)))
  have h4 := h.sum
  exact pow_bound (v := val l) (by omega) (val_lt hl)
end Go.Proofs.YtmdmcmkfhmnbeaaGreatDoor
