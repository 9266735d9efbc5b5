/-
  Puzzles: the program's small questions: what is too great, below 0, too long, in a list; whether a list fits.
-/
import Derived.Test.YthoppmbmmplkiaaGreatDoorVA
import Derived.Test.YthoppmbmmplkiaaGreatDoorYA
import Derived.Shelf.Abstract
namespace Go.Proofs.YthoppmbmmplkiaaGreatDoor
open Go.RowKit

theorem below_same {w w' : World} (h : w' = w) : Below w.heap.size w w' := by rw [h]; exact Below.refl _ _
theorem JE.one {w : World} {u : Value} {x : Int} (h : JE w [u] x) : u = .int .i64 x := by simpa using h.1
theorem LE.one {α : Type} {k : Nat} {E : World → List Value → α → Prop} {w : World} {u : Value} {L : List α} (h : LE k E w [u] L) : Rows k E w u L := by
  obtain ⟨v, h1, h2⟩ := h
  obtain rfl : u = v := by simpa using h1
  exact h2
set_option maxHeartbeats 1000000 in
/-- isGreat. -/
theorem great_any (n : Int) (w : World) : Calls Tryz.prog 27 #[.int .i64 n] w fun e w' => e = .returned (.bool (bigI n)) ∧ w' = w := by
  go_enter Tryz.func27, Tryz.ntmps27
  by_cases h1 : 100000000 < n
  · go_wp2
    go_ret
    exact ⟨by simp [bigI, h1], rfl⟩
  · go_wp2
    go_ret
    refine ⟨?_, rfl⟩
    have h2 : decide (100000000 < n) = false := by simpa using h1
    rw [show bigI n = decide (n < -100000000) by simp only [bigI, h2, Bool.false_or]]
    rfl
theorem eg_great : ∀ args w, (callFunc 27 args).run Tryz.prog w = .ok (.enter 27 args) w := enters_of Tryz.func27 (by kernel_rfl) rfl
theorem pred_great (w : World) : PredE JE 27 #[] bigI w := fun W u x _ he => by
  obtain rfl := he.one
  exact (great_any x W).mono fun _ _ h => ⟨h.1, below_same h.2⟩
set_option maxHeartbeats 1000000 in
/-- isBelow. -/
theorem bel_any (n : Int) (w : World) : Calls Tryz.prog 40 #[.int .i64 n] w fun e w' => e = .returned (.bool (decide (n < 0))) ∧ w' = w := by
  go_enter Tryz.func40, Tryz.ntmps40
  go_wp2
  go_ret
  exact ⟨rfl, rfl⟩
theorem eg_bel : ∀ args w, (callFunc 40 args).run Tryz.prog w = .ok (.enter 40 args) w := enters_of Tryz.func40 (by kernel_rfl) rfl
theorem pred_bel (w : World) : PredE JE 40 #[] (fun x => decide (x < 0)) w := fun W u x _ he => by
  obtain rfl := he.one
  exact (bel_any x W).mono fun _ _ h => ⟨h.1, below_same h.2⟩
set_option maxHeartbeats 1000000 in
/-- The question of isLong. -/
theorem long1_any (a : Option Addr) (n c : Nat) (hn : n ≤ 9223372036854775807) (w : World) : Calls Tryz.prog 35 #[.slice a n c] w fun e w' => e = .returned (.bool (decide (60 < n))) ∧ w' = w := by
  go_enter Tryz.func35, Tryz.ntmps35
  go_wp2
  go_ret
  refine ⟨?_, rfl⟩
  rw [show decide (60 < n) = decide ((60 : Int) < (n : Int)) from decide_eq_decide.2 (by omega)]
  rfl
theorem eg_long1 : ∀ args w, (callFunc 35 args).run Tryz.prog w = .ok (.enter 35 args) w := enters_of Tryz.func35 (by kernel_rfl) rfl
theorem pred_long (w : World) : PredE (LE 1 JE) 35 #[] (fun r : List Int => decide (60 < r.length)) w := fun W u x _ he => by
  have hr := he.one
  obtain ⟨a, c, rfl⟩ := hr.shape
  have hs := hr.small
  unfold maxLen at hs
  exact (long1_any a x.length c (by omega) W).mono fun _ _ h => ⟨h.1, below_same h.2⟩
set_option maxHeartbeats 1000000 in
/-- The question of hasGreat. -/
theorem great1_any {v : Value} {l : List Int} (w : World) (h : Rows 1 JE w v l) : Calls Tryz.prog 37 #[v] w fun e w' => e = .returned (.bool (anyBigI l)) ∧ Below w.heap.size w w' := by
  have HC := hide (hasI_any w eg_great lastJ h (pred_great w))
  obtain ⟨a, c, rfl⟩ := h.shape
  clear h
  go_enter Tryz.func37, Tryz.ntmps37
  go_wp2_with fail
  go_fit (unhide HC)
  rintro e W1 ⟨rfl, hb⟩
  go_wp2
  go_ret
  exact ⟨rfl, hb⟩
theorem eg_great1 : ∀ args w, (callFunc 37 args).run Tryz.prog w = .ok (.enter 37 args) w := enters_of Tryz.func37 (by kernel_rfl) rfl
theorem pred_great1 (w : World) : PredE (LE 1 JE) 37 #[] anyBigI w := fun W _ _ _ he => great1_any W he.one
set_option maxHeartbeats 1000000 in
/-- The question of validCon. -/
theorem none_any (n x : Int) (B : Nat) (w : World) (hc : w.cell? ⟨B, 0, none⟩ = some (.int .i64 n)) : Calls Tryz.prog 30 #[.int .i64 x, .pointer (some ⟨B, 0, none⟩)] w fun e w' => e = .returned (.bool (decide (x < 0) || decide (n ≤ x))) ∧ w' = w := by
  go_enter Tryz.func30, Tryz.ntmps30
  by_cases h1 : x < 0
  · go_wp2
    go_ret
    exact ⟨by simp [h1], rfl⟩
  · go_wp2
    go_ret
    refine ⟨?_, rfl⟩
    rw [show decide (x < 0) = false from by simpa using h1, Bool.false_or]
    rfl
theorem eg_none : ∀ args w, (callFunc 30 args).run Tryz.prog w = .ok (.enter 30 args) w := enters_of Tryz.func30 (by kernel_rfl) rfl
theorem pred_none {n : Int} {B : Nat} (w : World) (hc : w.cell? ⟨B, 0, none⟩ = some (.int .i64 n)) : PredE JE 30 #[.pointer (some ⟨B, 0, none⟩)] (fun x => decide (x < 0) || decide (n ≤ x)) w := fun W u x hb he => by
  obtain rfl := he.one
  exact (none_any n x B W (cell_keep hb hc)).mono fun _ _ h => ⟨h.1, below_same h.2⟩
set_option maxHeartbeats 1000000 in
/-- The question of isShaped. -/
theorem shaped1_any (a a1 : Option Addr) (n c m c1 B : Nat) (_hn : n ≤ 9223372036854775807) (hm : m ≤ 9223372036854775807) (w : World) (hc : w.cell? ⟨B, 1, none⟩ = some (.slice a1 m c1)) : Calls Tryz.prog 39 #[.slice a n c, .pointer (some ⟨B, 0, none⟩)] w fun e w' => e = .returned (.bool (decide (n ≠ m))) ∧ w' = w := by
  go_enter Tryz.func39, Tryz.ntmps39
  by_cases h : n = m
  · subst h
    go_wp2
    go_ret
    exact ⟨by simp, rfl⟩
  · have h' : ((n : Int) != (m : Int)) = true := by simp; omega
    have h2 : decide (n ≠ m) = true := by simpa using h
    rw [h2]
    clear h h2
    go_wp2
    go_ret
    exact ⟨rfl, rfl⟩
theorem eg_shaped1 : ∀ args w, (callFunc 39 args).run Tryz.prog w = .ok (.enter 39 args) w := enters_of Tryz.func39 (by kernel_rfl) rfl
theorem pred_shaped {a1 : Option Addr} {m c1 B : Nat} (w : World) (hm : m ≤ 9223372036854775807) (hc : w.cell? ⟨B, 1, none⟩ = some (.slice a1 m c1)) : PredE (LE 1 JE) 39 #[.pointer (some ⟨B, 0, none⟩)] (fun r : List Int => decide (r.length ≠ m)) w := fun W u x hb he => by
  have hr := he.one
  obtain ⟨a, c, rfl⟩ := hr.shape
  have hs := hr.small
  unfold maxLen at hs
  exact (shaped1_any a a1 x.length c m c1 B (by omega) hm W (cell_keep hb hc)).mono fun _ _ h => ⟨h.1, below_same h.2⟩
set_option maxHeartbeats 1000000 in
/-- fits. -/
theorem fits_any (a a1 : Option Addr) (n c m c1 : Nat) (t : Bool) (_hn : n ≤ 9223372036854775807) (_hm : m ≤ 9223372036854775807) (w : World) : Calls Tryz.prog 41 #[.slice a n c, .slice a1 m c1, .bool t] w fun e w' => e = .returned (.bool (if t then decide (n = m) else decide (n = 0))) ∧ w' = w := by
  go_enter Tryz.func41, Tryz.ntmps41
  cases t
  · go_wp2
    go_ret
    refine ⟨?_, rfl⟩
    rw [← natz]
    rfl
  · go_wp2
    go_ret
    refine ⟨?_, rfl⟩
    rw [← nateq]
    rfl
set_option maxHeartbeats 4000000 in
set_option maxRecDepth 8000 in
/-- slices.Index of numbers. -/
theorem at_any {v : Value} {l : List Int} {x : Int} (w : World) (h : Rows 1 JE w v l) : Calls Tryz.prog 22 #[v, .int .i64 x] w fun e w' => (∃ i : Int, e = .returned (.int .i64 i) ∧ (x ∈ l ↔ 0 ≤ i)) ∧ w' = w := by
  obtain ⟨sa, sc, rfl⟩ := h.shape
  have HR := hide h
  have hsm := h.small
  unfold maxLen at hsm
  clear h
  go_enter Tryz.func22, Tryz.ntmps22
  go_wp2_with fail
  go_loopg [5, 8] l.length (fun gk _ iv wr => ∃ (i : Nat), i ≤ l.length ∧ gk = l.length - i ∧ iv = .int .i64 (i : Int) ∧ wr = w ∧ Hid (x ∉ l.take i))
  case atStart => exact ⟨0, by omega, by omega, rfl, rfl, hide (by simp)⟩
  case round =>
    obtain ⟨i, hi, hgk, rfl, rfl, HN⟩ := hrel
    by_cases hil : i < l.length
    · obtain ⟨s, hs⟩ : ∃ s, l[i]? = some s := ⟨l[i], by simp [hil]⟩
      obtain ⟨b, o, rfl, c0, _⟩ := (unhide HR).int hs
      have hil' : (i : Int) < (l.length : Int) := by omega
      have HS := hide hs
      clear hs
      by_cases hx : x = s
      · subst hx
        go_wp2
        go_ret
        exact ⟨⟨_, rfl, (fun _ => by omega), fun _ => List.mem_of_getElem? (unhide HS)⟩, rfl⟩
      · go_wp2
        go_roundg (l.length - (i + 1))
        case measure => omega
        case rel => exact ⟨i + 1, by omega, rfl, by go_num, rfl, hide (by rw [take_next (unhide HS)]; simp only [List.mem_append, List.mem_singleton, not_or]; exact ⟨unhide HN, fun h => hx h⟩)⟩
    · obtain rfl : i = l.length := by omega
      clear hil hi hgk
      go_wp2
      go_ret
      have := unhide HN
      rw [List.take_length] at this
      exact ⟨⟨_, rfl, (fun h => absurd h this), fun h => by omega⟩, rfl⟩
set_option maxHeartbeats 1000000 in
/-- slices.Contains of numbers. -/
theorem con_any {v : Value} {l : List Int} {x : Int} (w : World) (h : Rows 1 JE w v l) : Calls Tryz.prog 11 #[v, .int .i64 x] w fun e w' => e = .returned (.bool (decide (x ∈ l))) ∧ w' = w := by
  have HC := hide (at_any (x := x) w h)
  obtain ⟨sa, sc, rfl⟩ := h.shape
  clear h
  go_enter Tryz.func11, Tryz.ntmps11
  go_wp2_with fail
  go_fit (unhide HC)
  rintro e W1 ⟨⟨i, rfl, hi⟩, rfl⟩
  have HI := hide hi
  clear hi
  go_wp2
  go_ret
  exact ⟨by rw [decide_eq_decide.2 (unhide HI)]; rfl, rfl⟩
end Go.Proofs.YthoppmbmmplkiaaGreatDoor
