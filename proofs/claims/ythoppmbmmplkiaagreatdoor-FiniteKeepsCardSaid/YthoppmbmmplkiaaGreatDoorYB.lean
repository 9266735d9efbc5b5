/-
  Puzzles: constraints, and whether one has just what its kind has.
-/
import Derived.Test.YthoppmbmmplkiaaGreatDoorYA
namespace Go.Proofs.YthoppmbmmplkiaaGreatDoor
open Go.RowKit

/-- A constraint. -/
structure Cn where
  kind : Int
  vars : List Int
  nums : List Int
  uses : List Int
  limit : Int
  rows : List (List Int)
/-- A constraint's rows in memory. -/
structure CnM (w : World) (c : Cn) (a1 : Option Addr) (c1 : Nat) (a2 : Option Addr) (c2 : Nat) (a3 : Option Addr) (c3 : Nat) (a4 : Option Addr) (c4 : Nat) : Prop where
  r1 : Rows 1 JE w (.slice a1 c.vars.length c1) c.vars
  r2 : Rows 1 JE w (.slice a2 c.nums.length c2) c.nums
  r3 : Rows 1 JE w (.slice a3 c.uses.length c3) c.uses
  r4 : Rows 1 (LE 1 JE) w (.slice a4 c.rows.length c4) c.rows
  k : I64 c.kind
  l : I64 c.limit
theorem CnM.later {w w' : World} {c : Cn} {a1 : Option Addr} {c1 : Nat} {a2 : Option Addr} {c2 : Nat} {a3 : Option Addr} {c3 : Nat} {a4 : Option Addr} {c4 : Nat} (h : CnM w c a1 c1 a2 c2 a3 c3 a4 c4) (hb : Below w.heap.size w w') : CnM w' c a1 c1 a2 c2 a3 c3 a4 c4 :=
  ⟨h.r1.later (JE.stays IsSl 0) hb, h.r2.later (JE.stays IsSl 0) hb, h.r3.later (JE.stays IsSl 0) hb, h.r4.later (jss_stays 0) hb, h.k, h.l⟩
/-- A constraint's cells. -/
def cnCells (c : Cn) (a1 : Option Addr) (c1 : Nat) (a2 : Option Addr) (c2 : Nat) (a3 : Option Addr) (c3 : Nat) (a4 : Option Addr) (c4 : Nat) : List Value := [.int .i64 c.kind, .slice a1 c.vars.length c1, .slice a2 c.nums.length c2, .slice a3 c.uses.length c3, .int .i64 c.limit, .slice a4 c.rows.length c4]
/-- A constraint in its cells. -/
def CnE (w : World) (cs : List Value) (c : Cn) : Prop := ∃ a1 c1 a2 c2 a3 c3 a4 c4, cs = cnCells c a1 c1 a2 c2 a3 c3 a4 c4 ∧ CnM w c a1 c1 a2 c2 a3 c3 a4 c4
/-- A constraint as a value. -/
def CnV (w : World) (v : Value) (c : Cn) : Prop := ∃ a1 c1 a2 c2 a3 c3 a4 c4, v = .agg #[.int .i64 c.kind, .slice a1 c.vars.length c1, .slice a2 c.nums.length c2, .slice a3 c.uses.length c3, .int .i64 c.limit, .slice a4 c.rows.length c4] ∧ CnM w c a1 c1 a2 c2 a3 c3 a4 c4
/-- Has a constraint just what its kind has? -/
def formedC (c : Cn) : Bool :=
  if c.kind = 1 then decide (c.nums.length = 0) && decide (c.uses.length = 0) && decide (c.rows.length = 0) && decide (c.limit = 0)
  else if c.kind = 2 then c.nums.all (fun x => decide (x ≠ 0)) && decide (c.nums.length = c.vars.length) && decide (c.uses.length = 0) && decide (c.rows.length = 0)
  else if c.kind = 3 then c.rows.all (fun r => decide (r.length = c.vars.length)) && decide (c.nums.length = 0) && decide (c.uses.length = 0) && decide (c.limit = 0)
  else if c.kind = 4 then decide (2 ≤ c.vars.length) && decide (c.nums.length = 0) && decide (c.uses.length = 0) && decide (c.rows.length = 0) && decide (c.limit = 0)
  else if c.kind = 5 then decide (c.nums.length = c.vars.length) && decide (c.uses.length = c.vars.length) && decide (c.rows.length = 0) && decide (0 ≤ c.limit) && c.nums.all (fun x => decide (0 ≤ x)) && c.uses.all (fun x => decide (0 ≤ x))
  else false
/-- A box with six cells. -/
theorem six_new (w : World) (t : TypeId) (u0 u1 u2 u3 u4 u5 : Value) : (w.alloc (.cells #[u0, u1, u2, u3, u4, u5] t)).cell? ⟨w.heap.size, 0, none⟩ = some u0 ∧ (w.alloc (.cells #[u0, u1, u2, u3, u4, u5] t)).cell? ⟨w.heap.size, 1, none⟩ = some u1 ∧ (w.alloc (.cells #[u0, u1, u2, u3, u4, u5] t)).cell? ⟨w.heap.size, 2, none⟩ = some u2 ∧ (w.alloc (.cells #[u0, u1, u2, u3, u4, u5] t)).cell? ⟨w.heap.size, 3, none⟩ = some u3 ∧ (w.alloc (.cells #[u0, u1, u2, u3, u4, u5] t)).cell? ⟨w.heap.size, 4, none⟩ = some u4 ∧ (w.alloc (.cells #[u0, u1, u2, u3, u4, u5] t)).cell? ⟨w.heap.size, 5, none⟩ = some u5 := by
  refine ⟨?_, ?_, ?_, ?_, ?_, ?_⟩ <;> rw [new_cell rfl] <;> rfl
set_option maxHeartbeats 8000000 in
set_option maxRecDepth 8000 in
/-- formed. -/
theorem rformed_any {v : Value} {c : Cn} (w : World) (h : CnV w v c) : Calls Tryz.prog 26 #[v] w fun e w' => e = .returned (.bool (formedC c)) ∧ Below w.heap.size w w' := by
  obtain ⟨a1, c1, a2, c2, a3, c3, a4, c4, rfl, hM⟩ := h
  obtain ⟨kind, vars, nums, uses, limit, rows⟩ := c
  obtain ⟨k0, k1, k2, k3, k4, k5⟩ := six_new w 46 (.int .i64 kind) (.slice a1 vars.length c1) (.slice a2 nums.length c2) (.slice a3 uses.length c3) (.int .i64 limit) (.slice a4 rows.length c4)
  have kn := below_new w (.cells #[.int .i64 kind, .slice a1 vars.length c1, .slice a2 nums.length c2, .slice a3 uses.length c3, .int .i64 limit, .slice a4 rows.length c4] 46)
  have HM := hide (hM.later kn)
  have HK := hide kn
  have s1 : vars.length ≤ 9223372036854775807 := by have := hM.r1.small; unfold maxLen at this; omega
  have s2 : nums.length ≤ 9223372036854775807 := by have := hM.r2.small; unfold maxLen at this; omega
  have s3 : uses.length ≤ 9223372036854775807 := by have := hM.r3.small; unfold maxLen at this; omega
  have s4 : rows.length ≤ 9223372036854775807 := by have := hM.r4.small; unfold maxLen at this; omega
  clear hM kn
  obtain ⟨nv, hnv⟩ : ∃ n, n = vars.length := ⟨_, rfl⟩
  obtain ⟨nn, hnn⟩ : ∃ n, n = nums.length := ⟨_, rfl⟩
  obtain ⟨nu, hnu⟩ : ∃ n, n = uses.length := ⟨_, rfl⟩
  obtain ⟨nr, hnr⟩ : ∃ n, n = rows.length := ⟨_, rfl⟩
  rw [← hnv] at s1
  rw [← hnn] at s2
  rw [← hnu] at s3
  rw [← hnr] at s4
  obtain ⟨g, hg⟩ : ∃ X, X = w.heap.size := ⟨_, rfl⟩
  obtain ⟨W, hW⟩ : ∃ X, X = w.alloc (.cells #[.int .i64 kind, .slice a1 vars.length c1, .slice a2 nums.length c2, .slice a3 uses.length c3, .int .i64 limit, .slice a4 rows.length c4] 46) := ⟨_, rfl⟩
  go_enter Tryz.func26, Tryz.ntmps26
  go_upto_region 1 with fail
  rw [← hW] at HM HK k0 k1 k2 k3 k4 k5 ⊢
  rw [← hg] at k0 k1 k2 k3 k4 k5 ⊢
  rw [← hnv] at k1
  rw [← hnn] at k2
  rw [← hnu] at k3
  rw [← hnr] at k5
  rw [← hnv, ← hnn, ← hnu, ← hnr]
  have HN := hide (And.intro hnv (And.intro hnn (And.intro hnu hnr)))
  clear hW hg hnv hnn hnu hnr
  by_cases e1 : kind = 1
  · subst e1
    go_wp2
    all_goals
      go_ret
      refine ⟨ret_bool ?_, unhide HK⟩
      have hN := unhide HN
      clear HM HK HN k0 k1 k2 k3 k4 k5
      simp_all [formedC]
      try rfl
  by_cases e2 : kind = 2
  · subst e2
    clear e1
    go_wp2_with fail
    go_loopg [7] nn (fun gk iv wr => ∃ i : Nat, i ≤ nn ∧ gk = nn - i ∧ iv = .int .i64 (i : Int) ∧ wr = W ∧ Hid (∀ x ∈ nums.take i, ¬ x = 0))
    case atStart => exact ⟨0, by omega, by omega, rfl, rfl, hide (by simp)⟩
    case round =>
      obtain ⟨i, hi, hgk, rfl, rfl, HA⟩ := hrel
      by_cases hin : i < nn
      · obtain ⟨x, hx⟩ : ∃ x, nums[i]? = some x := ⟨nums[i]'(by have := unhide HN; omega), by simp⟩
        obtain ⟨b, o, rfl, c0, _⟩ := (unhide HM).r2.int hx
        have HX := hide hx
        have hin' : (i : Int) < (nn : Int) := by omega
        clear hx
        by_cases hz : x = 0
        · subst hz
          go_wp2
          go_ret
          refine ⟨ret_bool ?_, unhide HK⟩
          have hm := List.mem_of_getElem? (unhide HX)
          simp only [formedC]
          rw [show nums.all (fun x => decide (x ≠ 0)) = false from by rw [List.all_eq_false]; exact ⟨0, hm, by simp⟩]
          rfl
        · go_wp2
          go_roundg (nn - (i + 1))
          case measure => omega
          case rel => exact ⟨i + 1, by omega, rfl, by go_num, rfl, hide (by rw [take_next (unhide HX)]; intro y hy; rcases List.mem_append.1 hy with h | h; exact unhide HA y h; simp at h; rw [h]; exact hz)⟩
      · obtain rfl : nn = i := by omega
        have hA := unhide HA
        rw [show nums.take nn = nums from by rw [(unhide HN).2.1, List.take_length]] at hA
        have hall : nums.all (fun x => decide (x ≠ 0)) = true := by simpa using hA
        have HALL := hide hall
        clear hin hi hgk hA hall HA
        go_wp2
        all_goals
          go_ret
          refine ⟨ret_bool ?_, unhide HK⟩
          have hN := unhide HN
          simp only [formedC]
          rw [unhide HALL]
          clear HM HK HN k0 k1 k2 k3 k4 k5 HALL
          simp_all [natz, Int.ofNat_inj]
          try rfl
          try (intro h1; exfalso; omega)
  by_cases e3 : kind = 3
  · subst e3
    clear e1 e2
    go_wp2_with fail
    go_loopg [8] nr (fun gk iv wr => ∃ i : Nat, i ≤ nr ∧ gk = nr - i ∧ iv = .int .i64 (i : Int) ∧ wr = W ∧ Hid (∀ r ∈ rows.take i, r.length = nv))
    case atStart => exact ⟨0, by omega, by omega, rfl, rfl, hide (by simp)⟩
    case round =>
      obtain ⟨i, hi, hgk, rfl, rfl, HA⟩ := hrel
      by_cases hin : i < nr
      · obtain ⟨x, hx⟩ : ∃ x, rows[i]? = some x := ⟨rows[i]'(by have := unhide HN; omega), by simp⟩
        obtain ⟨b, o, ra, rc, rfl, c0, hr⟩ := (unhide HM).r4.row hx
        have hsx : x.length ≤ 9223372036854775807 := by have := hr.small; unfold maxLen at this; omega
        have HX := hide hx
        have hin' : (i : Int) < (nr : Int) := by omega
        obtain ⟨nx, hnx⟩ : ∃ n, n = x.length := ⟨_, rfl⟩
        rw [← hnx] at c0 hsx
        have HNX := hide hnx
        clear hx hr hnx
        by_cases hz : nx = nv
        · have hz' : ((nx : Int) != (nv : Int)) = false := by simp; omega
          have HZ := hide hz
          clear hz
          go_wp2
          go_roundg (nr - (i + 1))
          case measure => omega
          case rel => exact ⟨i + 1, by omega, rfl, by go_num, rfl, hide (by rw [take_next (unhide HX)]; intro y hy; rcases List.mem_append.1 hy with h | h; exact unhide HA y h; simp at h; rw [h, ← unhide HNX]; exact unhide HZ)⟩
        · have hz' : ((nx : Int) != (nv : Int)) = true := by simp; omega
          have HZ := hide hz
          clear hz
          go_wp2
          go_ret
          refine ⟨ret_bool ?_, unhide HK⟩
          have hm := List.mem_of_getElem? (unhide HX)
          have hne : ¬ x.length = vars.length := by rw [← unhide HNX, ← (unhide HN).1]; exact unhide HZ
          simp only [formedC]
          rw [show rows.all (fun r => decide (r.length = vars.length)) = false from by rw [List.all_eq_false]; exact ⟨x, hm, by simpa using hne⟩]
          rfl
      · obtain rfl : nr = i := by omega
        have hA := unhide HA
        rw [show rows.take nr = rows from by rw [(unhide HN).2.2.2, List.take_length]] at hA
        have hall : rows.all (fun r => decide (r.length = vars.length)) = true := by simp; intro r hr; rw [hA r hr]; exact (unhide HN).1
        have HALL := hide hall
        clear hin hi hgk hA hall HA
        go_wp2
        all_goals
          go_ret
          refine ⟨ret_bool ?_, unhide HK⟩
          have hN := unhide HN
          simp only [formedC]
          rw [unhide HALL]
          clear HM HK HN k0 k1 k2 k3 k4 k5 HALL
          simp_all
          try rfl
          try (intro h1; exfalso; omega)
  by_cases e4 : kind = 4
  · subst e4
    clear e1 e2 e3
    by_cases h2 : (2 : Int) ≤ (nv : Int)
    · go_wp2
      all_goals
        go_ret
        refine ⟨ret_bool ?_, unhide HK⟩
        have hN := unhide HN
        have h2' : 2 ≤ vars.length := by rw [← hN.1]; omega
        clear HM HK HN k0 k1 k2 k3 k4 k5
        simp_all [formedC]
        try rfl
    · go_wp2
      go_ret
      refine ⟨ret_bool ?_, unhide HK⟩
      have h2' : ¬ 2 ≤ vars.length := by rw [← (unhide HN).1]; omega
      simp only [formedC]
      rw [show decide (2 ≤ vars.length) = false from by simpa using h2']
      rfl
  by_cases e5 : kind = 5
  · subst e5
    clear e1 e2 e3 e4
    by_cases hpre : nn = nv ∧ nu = nv ∧ nr = 0 ∧ 0 ≤ limit
    · have q1 : ((nn : Int) != (nv : Int)) = false := by simp; omega
      have q2 : ((nu : Int) != (nv : Int)) = false := by simp; omega
      have q3 : ¬ (0 : Int) < (nr : Int) := by omega
      have q4 : ¬ limit < 0 := by omega
      have HPRE := hide hpre
      clear hpre
      go_wp2_with fail
      go_loopg [9] nv (fun gk iv wr => ∃ i : Nat, i ≤ nv ∧ gk = nv - i ∧ iv = .int .i64 (i : Int) ∧ wr = W ∧ Hid ((∀ x ∈ nums.take i, 0 ≤ x) ∧ ∀ x ∈ uses.take i, 0 ≤ x))
      case atStart => exact ⟨0, by omega, by omega, rfl, rfl, hide (by simp)⟩
      case round =>
        obtain ⟨i, hi, hgk, rfl, rfl, HA⟩ := hrel
        by_cases hin : i < nv
        · obtain ⟨x, hx⟩ : ∃ x, nums[i]? = some x := ⟨nums[i]'(by have := unhide HN; have := unhide HPRE; omega), by simp⟩
          obtain ⟨y, hy⟩ : ∃ x, uses[i]? = some x := ⟨uses[i]'(by have := unhide HN; have := unhide HPRE; omega), by simp⟩
          obtain ⟨b, o, rfl, c0, _⟩ := (unhide HM).r2.int hx
          obtain ⟨b', o', rfl, d0, _⟩ := (unhide HM).r3.int hy
          have HX := hide (And.intro hx hy)
          have hin1 : (i : Int) < (nn : Int) := by have := unhide HPRE; omega
          have hin2 : (i : Int) < (nu : Int) := by have := unhide HPRE; omega
          have hin' : (i : Int) < (nv : Int) := by omega
          clear hx hy
          by_cases hz : x < 0
          · go_wp2
            go_ret
            refine ⟨ret_bool ?_, unhide HK⟩
            have hm := List.mem_of_getElem? (unhide HX).1
            simp only [formedC]
            rw [show nums.all (fun x => decide (0 ≤ x)) = false from by rw [List.all_eq_false]; exact ⟨x, hm, by simpa using hz⟩]
            simp
          · by_cases hz2 : y < 0
            · go_wp2
              go_ret
              refine ⟨ret_bool ?_, unhide HK⟩
              have hm := List.mem_of_getElem? (unhide HX).2
              simp only [formedC]
              rw [show uses.all (fun x => decide (0 ≤ x)) = false from by rw [List.all_eq_false]; exact ⟨y, hm, by simpa using hz2⟩]
              simp
            · go_wp2
              go_roundg (nv - (i + 1))
              case measure => omega
              case rel => exact ⟨i + 1, by omega, rfl, by go_num, rfl, hide (by rw [take_next (unhide HX).1, take_next (unhide HX).2]; exact ⟨fun y hy => by rcases List.mem_append.1 hy with h | h; exact (unhide HA).1 y h; simp at h; omega, fun y hy => by rcases List.mem_append.1 hy with h | h; exact (unhide HA).2 y h; simp at h; omega⟩)⟩
        · obtain rfl : nv = i := by omega
          have hA := unhide HA
          have hN := unhide HN
          have hP := unhide HPRE
          rw [show nums.take nv = nums from by rw [List.take_of_length_le]; omega, show uses.take nv = uses from by rw [List.take_of_length_le]; omega] at hA
          have hall : formedC ⟨5, vars, nums, uses, limit, rows⟩ = true := by
            have g1 : nums.all (fun x => decide (0 ≤ x)) = true := by simpa using hA.1
            have g2 : uses.all (fun x => decide (0 ≤ x)) = true := by simpa using hA.2
            have g3 : nums.length = vars.length := by omega
            have g4 : uses.length = vars.length := by omega
            have g5 : rows.length = 0 := by omega
            simp only [formedC, g1, g2, g3, g4, g5, hP.2.2.2]
            simp
          have HALL := hide hall
          clear hin hi hgk hA hall HA hN hP
          go_wp2
          go_ret
          exact ⟨ret_bool (unhide HALL).symm, unhide HK⟩
    · have hall : formedC ⟨5, vars, nums, uses, limit, rows⟩ = false := by
        have hN := unhide HN
        simp only [formedC]
        simp
        intro h1 h2 h3 h4
        exact absurd ⟨by omega, by omega, by simp_all, h4⟩ hpre
      have HALL := hide hall
      clear hall
      by_cases q1 : nn = nv
      · have q1' : ((nn : Int) != (nv : Int)) = false := by simp; omega
        by_cases q2 : nu = nv
        · have q2' : ((nu : Int) != (nv : Int)) = false := by simp; omega
          by_cases q3 : (0 : Int) < (nr : Int)
          · clear q1 q2 hpre
            go_wp2
            go_ret
            exact ⟨ret_bool (unhide HALL).symm, unhide HK⟩
          · have q4 : limit < 0 := by omega
            clear q1 q2 hpre
            go_wp2
            go_ret
            exact ⟨ret_bool (unhide HALL).symm, unhide HK⟩
        · have q2' : ((nu : Int) != (nv : Int)) = true := by simp; omega
          clear q1 q2 hpre
          go_wp2
          go_ret
          exact ⟨ret_bool (unhide HALL).symm, unhide HK⟩
      · have q1' : ((nn : Int) != (nv : Int)) = true := by simp; omega
        clear q1 hpre
        go_wp2
        go_ret
        exact ⟨ret_bool (unhide HALL).symm, unhide HK⟩
  go_wp2
  go_ret
  refine ⟨ret_bool ?_, unhide HK⟩
  simp [formedC, e1, e2, e3, e4, e5]
end Go.Proofs.YthoppmbmmplkiaaGreatDoor
