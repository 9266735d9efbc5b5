/-
  Puzzles: what the program's rules keep: tables.
-/
import Derived.Test.YthoppmbmmplkiaaGreatDoorVH
namespace Go.Proofs.YthoppmbmmplkiaaGreatDoor
open Go.RowKit

theorem rows_block {w : World} {B : Nat} {L : List Int} {t : TypeId} {f : Nat × Nat} (h : w.heap[B]? = some (.cells (intC L).toArray t f)) (hb : ∀ x ∈ L, I64 x) (hl : L.length ≤ 100) : Rows 1 JE w (.slice (some ⟨B, 0, none⟩) L.length L.length) L := by
  refine ⟨_, _, rfl, Nat.le_refl _, by unfold maxLen; omega, Or.inr ⟨_, _, rfl, fun i x hx => ⟨[.int .i64 x], rfl, fun j u hu => ?_, rfl, hb x (List.mem_of_getElem? hx)⟩⟩⟩
  rcases j with _ | j
  · obtain rfl : Value.int .i64 x = u := by simpa using hu
    exact block_cell h (by simp [intC, hx])
  · simp at hu
theorem pickL_bound {w : World} {xv : Value} {x vars : List Int} (hx : Rows 1 JE w xv x) : ∀ y ∈ pickL x vars, I64 y := by
  intro y hy
  obtain ⟨k, _, rfl⟩ := List.mem_map.1 hy
  rcases Nat.lt_or_ge k.toNat x.length with h | h
  · exact hx.bound _ (by rw [List.getD_eq_getElem?_getD, List.getElem?_eq_getElem h]; simp)
  · rw [List.getD_eq_getElem?_getD, List.getElem?_eq_none h]
    exact ⟨by decide, by decide⟩
set_option maxHeartbeats 4000000 in
set_option maxRecDepth 8000 in
/-- slices.Equal of numbers. -/
theorem eq_any {v1 v2 : Value} {l1 l2 : List Int} (w : World) (h1 : Rows 1 JE w v1 l1) (h2 : Rows 1 JE w v2 l2) : Calls Tryz.prog 107 #[v1, v2] w fun e w' => e = .returned (.bool (decide (l1 = l2))) ∧ Below w.heap.size w w' := by
  obtain ⟨a1, c1, rfl⟩ := h1.shape
  obtain ⟨a2, c2, rfl⟩ := h2.shape
  have H1 := hide h1
  have H2 := hide h2
  have s1 : l1.length ≤ 9223372036854775807 := by have := h1.small; unfold maxLen at this; omega
  have s2 : l2.length ≤ 9223372036854775807 := by have := h2.small; unfold maxLen at this; omega
  clear h1 h2
  obtain ⟨n, hn⟩ : ∃ n, n = l1.length := ⟨_, rfl⟩
  obtain ⟨m, hm⟩ : ∃ n, n = l2.length := ⟨_, rfl⟩
  rw [← hn] at s1 H1 ⊢
  rw [← hm] at s2 H2 ⊢
  have HN := hide (And.intro hn hm)
  clear hn hm
  go_enter Tryz.func107, Tryz.ntmps107
  by_cases hnm : n = m
  rotate_left
  · have hne : ((n : Int) != (m : Int)) = true := by simp; omega
    have HD := hide (decide_eq_false (show ¬ l1 = l2 from fun e => hnm (by have := unhide HN; rw [this.1, this.2, e])))
    clear hnm
    go_wp2
    go_ret
    exact ⟨by rw [unhide HD]; rfl, Below.refl _ _⟩
  subst hnm
  go_wp2_with fail
  go_loopg [5, 13] n (fun gk _ iv wr => ∃ i : Nat, i ≤ n ∧ gk = n - i ∧ iv = .int .i64 (i : Int) ∧ Hid (Below w.heap.size w wr) ∧ Hid (l1.take i = l2.take i))
  case atStart => exact ⟨0, by omega, by omega, rfl, hide (Below.refl _ _), hide rfl⟩
  case round =>
    obtain ⟨i, hi, hgk, rfl, HB, HA⟩ := hrel
    by_cases hin : i < n
    · obtain ⟨x, hx⟩ : ∃ x, l1[i]? = some x := ⟨l1[i]'(by have := unhide HN; omega), by simp⟩
      obtain ⟨y, hy⟩ : ∃ x, l2[i]? = some x := ⟨l2[i]'(by have := unhide HN; omega), by simp⟩
      obtain ⟨b, o, rfl, d0, _⟩ := (unhide H1).int hx
      obtain ⟨b', o', rfl, d1, _⟩ := (unhide H2).int hy
      have d0 := cell_keep (unhide HB) d0
      have d1 := cell_keep (unhide HB) d1
      have hin' : (i : Int) < (n : Int) := by omega
      have HX := hide (And.intro hx hy)
      clear hx hy
      go_upto_region 6 with fail
      by_cases hz : x = y
      · subst hz
        have hz' : (x != x) = false := by simp
        go_quiet (fail)
        have HB' := hide (below_drewN (unhide HB) nq)
        go_wp2
        go_roundg (n - (i + 1))
        case measure => omega
        case rel => exact ⟨i + 1, by omega, rfl, by go_num, HB', hide (by rw [take_next (unhide HX).1, take_next (unhide HX).2, unhide HA])⟩
      · have hz' : (x != y) = true := by simpa using hz
        have HD := hide (decide_eq_false (show ¬ l1 = l2 from fun e => hz (by have h := unhide HX; rw [e, h.2] at h; exact (Option.some.inj h.1).symm)))
        clear hz
        go_quiet (fail)
        have HB' := hide (below_drewN (unhide HB) nq)
        go_wp2
        go_ret
        exact ⟨by rw [unhide HD]; rfl, unhide HB'⟩
    · obtain rfl : n = i := by omega
      have hA := unhide HA
      rw [show l1.take n = l1 from by rw [(unhide HN).1, List.take_length], show l2.take n = l2 from by rw [(unhide HN).2, List.take_length]] at hA
      have HD := hide (decide_eq_true hA)
      clear hin hi hgk hA HA
      go_wp2
      go_ret
      exact ⟨by rw [unhide HD]; rfl, unhide HB⟩
set_option maxHeartbeats 4000000 in
/-- The question of a table. -/
theorem tab1_any {v u : Value} {r l : List Int} {B : Nat} (w : World) (hc : w.cell? ⟨B, 0, none⟩ = some u) (hr : Rows 1 JE w v r) (hl : Rows 1 JE w u l) : Calls Tryz.prog 106 #[v, .pointer (some ⟨B, 0, none⟩)] w fun e w' => e = .returned (.bool (decide (r = l))) ∧ Below w.heap.size w w' := by
  have HC := hide (eq_any w hr hl)
  obtain ⟨a1, c1, rfl⟩ := hr.shape
  obtain ⟨a2, c2, rfl⟩ := hl.shape
  clear hr hl
  go_enter Tryz.func106, Tryz.ntmps106
  go_wp2_with fail
  go_fit (unhide HC)
  rintro e W1 ⟨rfl, hb⟩
  go_wp2
  go_ret
  exact ⟨rfl, hb⟩
theorem eg_tab1 : ∀ args w, (callFunc 106 args).run Tryz.prog w = .ok (.enter 106 args) w := enters_of Tryz.func106 (by kernel_rfl) rfl
theorem pred_tab {B : Nat} {u : Value} {l : List Int} (w : World) (hc : w.cell? ⟨B, 0, none⟩ = some u) (hl : Rows 1 JE w u l) : PredE (LE 1 JE) 106 #[.pointer (some ⟨B, 0, none⟩)] (fun r : List Int => decide (r = l)) w := fun W _ _ hb he =>
  tab1_any W (cell_keep hb hc) he.one (hl.later (JE.stays IsSl 0) hb)
set_option maxHeartbeats 8000000 in
set_option maxRecDepth 8000 in
/-- What a table keeps. -/
theorem tab_any {g : Nat} {xv : Value} {x vars : List Int} {rows : List (List Int)} {a1 : Option Addr} {c1 : Nat} {a2 : Option Addr} {c2 : Nat} (w : World) (k0 : w.cell? ⟨g, 0, none⟩ = some (.slice a1 vars.length c1)) (k1 : w.cell? ⟨g, 1, none⟩ = some (.slice a2 rows.length c2))
    (hv : Rows 1 JE w (.slice a1 vars.length c1) vars) (hn : Rows 1 (LE 1 JE) w (.slice a2 rows.length c2) rows) (hx : Rows 1 JE w xv x) (hr : ∀ k ∈ vars, 0 ≤ k ∧ k < (x.length : Int)) (h8 : vars.length ≤ 8) :
    Calls Tryz.prog 102 #[.pointer (some ⟨g, 0, none⟩), xv] w fun e w' => YesP e (pickL x vars ∈ rows) ∧ Below w.heap.size w w' := by
  have HC := hide (pick_any w hx hv hr h8)
  have HBD := hide (pickL_bound (vars := vars) hx)
  have HL := hide (show (pickL x vars).length = vars.length from List.length_map _)
  have H8 := hide h8
  have HT := hide hn
  obtain ⟨xa, xc, rfl⟩ := hx.shape
  clear hv hn hx hr h8
  go_enter Tryz.func102, Tryz.ntmps102
  go_wp2_with fail
  go_fit (unhide HC)
  rintro e W1 ⟨⟨B, rfl, hB, hh⟩, hb⟩
  have hp := rows_block hh (unhide HBD) (by rw [unhide HL]; have := unhide H8; omega)
  rw [unhide HL] at hp
  have kn := below_new W1 (.cells #[.slice (some ⟨B, 0, none⟩) vars.length vars.length] 26)
  have q1 := cell_keep (below_keep kn hb) k1
  have q2 := one_new W1 26 (.slice (some ⟨B, 0, none⟩) vars.length vars.length)
  have HP := hide (hp.later (JE.stays IsSl 0) kn)
  have HT := hide ((unhide HT).later (jss_stays 0) (below_keep kn hb))
  have HB := hide (below_keep kn hb)
  clear hh hp hb hB kn k0 k1 HC
  obtain ⟨g2, hg2⟩ : ∃ X, X = W1.heap.size := ⟨_, rfl⟩
  obtain ⟨W, hW⟩ : ∃ X, X = W1.alloc (.cells #[.slice (some ⟨B, 0, none⟩) vars.length vars.length] 26) := ⟨_, rfl⟩
  go_upto_region 2 with fail
  rw [← hW, ← hg2]
  rw [← hW] at q1 q2 HP HT HB
  rw [← hg2] at q2
  clear hW hg2
  go_wp2_with fail
  go_fit (hasR_any _ eg_tab1 lastR (unhide HT) (pred_tab _ q2 (unhide HP)))
  rintro e W2 ⟨rfl, hb⟩
  go_wp2
  go_ret
  refine ⟨YesP.of ?_, below_keep hb (unhide HB)⟩
  simp
end Go.Proofs.YthoppmbmmplkiaaGreatDoor
