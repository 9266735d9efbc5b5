/-
  Puzzles: whether a puzzle is small.
-/
import Derived.Test.YthoppmbmmplkiaaGreatDoorYH
namespace Go.Proofs.YthoppmbmmplkiaaGreatDoor
open Go.RowKit

theorem pvalid_codes (p : Pz) : pvalid p = 0 ∨ pvalid p = 2 ∨ pvalid p = 4 := by
  unfold pvalid
  split
  · exact Or.inr (Or.inl rfl)
  · have hall : ∀ e ∈ p.vals.map valV ++ p.cons.map (conV p.vals.length), e = 0 ∨ e = 2 ∨ e = 4 := by
      intro e he
      rcases List.mem_append.1 he with he | he
      · obtain ⟨l, _, rfl⟩ := List.mem_map.1 he
        unfold valV
        split
        · exact Or.inr (Or.inl rfl)
        · have : ∀ (l : List Int) (p : Option Int), goV p l = 0 ∨ goV p l = 2 ∨ goV p l = 4 := by
            intro l
            induction l with
            | nil => intro p; cases p <;> exact Or.inl rfl
            | cons a l ih =>
              intro p
              rw [goV_cons]
              split
              · exact Or.inr (Or.inl rfl)
              · cases p with
                | none => simpa using ih (some a)
                | some y =>
                  by_cases h : a ≤ y
                  · simp [h]
                  · simpa [h] using ih (some a)
          exact this l none
      · obtain ⟨c, _, rfl⟩ := List.mem_map.1 he
        exact conV_codes _ _
    have hf : ∀ l : List Int, (∀ e ∈ l, e = 0 ∨ e = 2 ∨ e = 4) → firstE l = 0 ∨ firstE l = 2 ∨ firstE l = 4 := by
      intro l
      induction l with
      | nil => intro _; exact Or.inl rfl
      | cons a l ih =>
        intro h
        rw [firstE]
        split
        · exact ih fun e he => h e (by simp [he])
        · exact h a (by simp)
    exact hf _ hall
/-- A puzzle that is small. -/
structure FewP (p : Pz) : Prop where
  n : p.vals.length ≤ 6
  m : p.cons.length ≤ 8
  v : ∀ l ∈ p.vals, l.length ≤ 12
  c : ∀ c ∈ p.cons, c.vars.length ≤ 8 ∧ c.nums.length ≤ 8 ∧ c.uses.length ≤ 8 ∧ c.rows.length ≤ 12 ∧ ∀ r ∈ c.rows, r.length ≤ 8
set_option maxHeartbeats 8000000 in
set_option maxRecDepth 8000 in
/-- fewPuzzle. -/
theorem few_any {v : Value} {p : Pz} (w : World) (h : PzV w v p) :
    Calls Tryz.prog 6 #[v] w fun e w' => (∃ b, e = .returned b ∧ (b = .bool false ∨ (b = .bool true ∧ FewP p))) ∧ Below w.heap.size w w' := by
  obtain ⟨va, vc, qa, qc, rfl, hM⟩ := h
  obtain ⟨vals, cons⟩ := p
  have kn := below_new w (.cells #[.slice va vals.length vc, .slice qa cons.length qc] 25)
  obtain ⟨p0, p1⟩ := two_new w 25 (.slice va vals.length vc) (.slice qa cons.length qc)
  have HM := hide (hM.later kn)
  have HK := hide kn
  clear hM kn
  obtain ⟨nv, hnv⟩ : ∃ n, n = vals.length := ⟨_, rfl⟩
  obtain ⟨nc, hnc⟩ : ∃ n, n = cons.length := ⟨_, rfl⟩
  obtain ⟨g, hg⟩ : ∃ X, X = w.heap.size := ⟨_, rfl⟩
  obtain ⟨W, hW⟩ : ∃ X, X = w.alloc (.cells #[.slice va vals.length vc, .slice qa cons.length qc] 25) := ⟨_, rfl⟩
  go_enter Tryz.func6, Tryz.ntmps6
  go_upto_region 1 with fail
  rw [← hW, ← hg]
  rw [← hW] at HM HK p0 p1
  rw [← hg] at p0 p1
  rw [← hnv] at p0
  rw [← hnc] at p1
  rw [← hnv, ← hnc]
  have HN := hide (And.intro hnv hnc)
  clear hW hg hnv hnc
  by_cases b1 : (6 : Int) < (nv : Int)
  · go_wp2
    go_ret
    exact ⟨⟨_, rfl, Or.inl rfl⟩, unhide HK⟩
  by_cases b2 : (8 : Int) < (nc : Int)
  · go_wp2
    go_ret
    exact ⟨⟨_, rfl, Or.inl rfl⟩, unhide HK⟩
  have n6 : nv ≤ 6 := by omega
  have n8 : nc ≤ 8 := by omega
  go_wp2_with fail
  go_loopg [3, 4] nv (fun gk av iv wr => ∃ (i : Nat) (a : Int), i ≤ nv ∧ gk = nv - i ∧ av = .int .i64 a ∧ iv = .int .i64 (i : Int) ∧ wr = W ∧ Hid ((∀ l ∈ vals.take i, l.length ≤ 12) ∧ 0 ≤ a ∧ a ≤ 13 ^ i))
  case atStart => exact ⟨0, 1, by omega, by omega, rfl, rfl, rfl, hide ⟨by simp, by decide, by decide⟩⟩
  case round =>
    obtain ⟨i, a, hi, hgk, rfl, rfl, rfl, HA⟩ := hrel
    by_cases hin : i < nv
    · obtain ⟨l, hl⟩ : ∃ x, vals[i]? = some x := ⟨vals[i]'(by have := unhide HN; omega), by simp⟩
      obtain ⟨b, o, ra, rc, rfl, c0, hr⟩ := (unhide HM).v.row hl
      have HL := hide hl
      have sl : l.length ≤ 9223372036854775807 := by have := hr.small; unfold maxLen at this; omega
      have hin' : (i : Int) < (nv : Int) := by omega
      clear hl hr
      by_cases b3 : (12 : Int) < (l.length : Int)
      · go_wp2
        go_ret
        exact ⟨⟨_, rfl, Or.inl rfl⟩, unhide HK⟩
      · obtain ⟨nl, hnl⟩ : ∃ n, n = l.length := ⟨_, rfl⟩
        rw [← hnl] at c0 b3 sl
        have HNL := hide hnl
        have hA := unhide HA
        have h13 : (13 : Int) ^ i ≤ 13 ^ 6 := by exact_mod_cast Nat.pow_le_pow_right (n := 13) (by decide) (show i ≤ 6 by omega)
        have hm : 0 ≤ a * (1 + (nl : Int)) ∧ a * (1 + (nl : Int)) ≤ 13 ^ (i + 1) := by
          refine ⟨Int.mul_nonneg hA.2.1 (by omega), ?_⟩
          rw [Int.pow_succ]
          exact Int.mul_le_mul hA.2.2 (by omega) (by omega) (Int.le_trans hA.2.1 hA.2.2)
        have h13' : (13 : Int) ^ (i + 1) ≤ 13 ^ 7 := by exact_mod_cast Nat.pow_le_pow_right (n := 13) (by decide) (show i + 1 ≤ 7 by omega)
        have h7 : (13 : Int) ^ 7 = 62748517 := by decide
        rw [h7] at h13'
        obtain ⟨z, hz⟩ : ∃ z, z = a * (1 + (nl : Int)) := ⟨_, rfl⟩
        have e1 : wrap64 (a * (1 + (nl : Int))) = z := by rw [← hz]; rw [← hz] at hm; unfold wrap64; omega
        have HZ := hide (show 0 ≤ z ∧ z ≤ 13 ^ (i + 1) by rw [hz]; exact hm)
        clear hnl hA h13 hm h13' h7 hz
        go_wp2
        go_roundg (nv - (i + 1))
        case measure => omega
        case rel => exact ⟨i + 1, z, by omega, rfl, (by first | rfl | rw [e1]), by go_num, rfl, hide ⟨by rw [take_next (unhide HL)]; intro y hy; rcases List.mem_append.1 hy with h | h; exact (unhide HA).1 y h; simp at h; rw [h, ← unhide HNL]; omega, unhide HZ⟩⟩
    · obtain rfl : nv = i := by omega
      have hA := (unhide HA).1
      rw [show vals.take nv = vals from by rw [(unhide HN).1, List.take_length]] at hA
      have HAV := hide hA
      have HAB := hide (unhide HA).2
      clear hin hi hgk hA HA
      go_wp2_with fail
      obtain ⟨V, rfl⟩ : ∃ X, X = wr := ⟨_, rfl⟩
      go_loopg [5] nc (fun gk iv wr => ∃ (i : Nat), i ≤ nc ∧ gk = nc - i ∧ iv = .int .i64 (i : Int) ∧ Hid (Below V.heap.size V wr) ∧ Hid (∀ c ∈ cons.take i, c.vars.length ≤ 8 ∧ c.nums.length ≤ 8 ∧ c.uses.length ≤ 8 ∧ c.rows.length ≤ 12 ∧ ∀ r ∈ c.rows, r.length ≤ 8))
      case atStart => exact ⟨0, by omega, by omega, rfl, hide (Below.refl _ _), hide (by simp)⟩
      case round =>
        obtain ⟨i, hi, hgk, rfl, HB, HA⟩ := hrel
        have q0 := cell_keep (unhide HB) p0
        have q1 := cell_keep (unhide HB) p1
        by_cases hin : i < nc
        · obtain ⟨c, hc⟩ : ∃ y, cons[i]? = some y := ⟨cons[i]'(by have := unhide HN; omega), by simp⟩
          obtain ⟨b, o, a1, c1, a2, c2, a3, c3, a4, c4, rfl, ⟨d0, d1, d2, d3, d4, d5⟩, hcm⟩ := (unhide HM).q.con hc
          obtain ⟨kind, vars, nums, uses, limit, rows⟩ := c
          simp only at d0 d1 d2 d3 d4 d5
          have d0 := cell_keep (unhide HB) d0
          have d1 := cell_keep (unhide HB) d1
          have d2 := cell_keep (unhide HB) d2
          have d3 := cell_keep (unhide HB) d3
          have d4 := cell_keep (unhide HB) d4
          have d5 := cell_keep (unhide HB) d5
          obtain ⟨k0, k1, k2, k3, k4, k5⟩ := six_new wr 46 (.int .i64 kind) (.slice a1 vars.length c1) (.slice a2 nums.length c2) (.slice a3 uses.length c3) (.int .i64 limit) (.slice a4 rows.length c4)
          have kn := below_new wr (.cells #[.int .i64 kind, .slice a1 vars.length c1, .slice a2 nums.length c2, .slice a3 uses.length c3, .int .i64 limit, .slice a4 rows.length c4] 46)
          have HB := hide (below_keep kn (unhide HB))
          have HCM := hide (hcm.later (unhide HB))
          have HC := hide hc
          have hin' : (i : Int) < (nc : Int) := by omega
          have HGI := hide (And.intro hgk (And.intro hi hin))
          have s5 : rows.length ≤ 9223372036854775807 := by have := hcm.r4.small; unfold maxLen at this; omega
          clear hc hcm hgk hi hin kn
          go_upto_region 14 with fail
          obtain ⟨g2, hg2⟩ : ∃ X, X = wr.heap.size := ⟨_, rfl⟩
          obtain ⟨V2, hV2⟩ : ∃ X, X = wr.alloc (.cells #[.int .i64 kind, .slice a1 vars.length c1, .slice a2 nums.length c2, .slice a3 uses.length c3, .int .i64 limit, .slice a4 rows.length c4] 46) := ⟨_, rfl⟩
          rw [← hV2] at HB HCM k0 k1 k2 k3 k4 k5 ⊢
          rw [← hg2] at k0 k1 k2 k3 k4 k5 ⊢
          clear hV2 hg2 d0 d1 d2 d3 d4 d5 q0 q1
          by_cases e1 : (8 : Int) < (vars.length : Int)
          · go_wp2
            go_ret
            exact ⟨⟨_, rfl, Or.inl rfl⟩, below_keep (unhide HB) (unhide HK)⟩
          by_cases e2 : (8 : Int) < (nums.length : Int)
          · go_wp2
            go_ret
            exact ⟨⟨_, rfl, Or.inl rfl⟩, below_keep (unhide HB) (unhide HK)⟩
          by_cases e3 : (8 : Int) < (uses.length : Int)
          · go_wp2
            go_ret
            exact ⟨⟨_, rfl, Or.inl rfl⟩, below_keep (unhide HB) (unhide HK)⟩
          by_cases e4 : (12 : Int) < (rows.length : Int)
          · go_wp2
            go_ret
            exact ⟨⟨_, rfl, Or.inl rfl⟩, below_keep (unhide HB) (unhide HK)⟩
          go_wp2_with fail
          go_loopg [7] rows.length (fun gk kv wr => ∃ (k : Nat), k ≤ rows.length ∧ gk = rows.length - k ∧ kv = .int .i64 (k : Int) ∧ wr = V2 ∧ Hid (∀ r ∈ rows.take k, r.length ≤ 8))
          case atStart => exact ⟨0, by omega, by omega, rfl, rfl, hide (by simp)⟩
          case round =>
            obtain ⟨k, hk, hgk, rfl, rfl, HS⟩ := hrel
            by_cases hkn : k < rows.length
            · obtain ⟨r, hr⟩ : ∃ x, rows[k]? = some x := ⟨rows[k], by simp [hkn]⟩
              obtain ⟨b4, o4, ra, rc, rfl, f0, hrr⟩ := (unhide HCM).r4.row hr
              have sr : r.length ≤ 9223372036854775807 := by have := hrr.small; unfold maxLen at this; omega
              have HR := hide hr
              have hkn' : (k : Int) < (rows.length : Int) := by omega
              clear hr hrr
              by_cases e5 : (8 : Int) < (r.length : Int)
              · go_wp2
                go_ret
                exact ⟨⟨_, rfl, Or.inl rfl⟩, below_keep (unhide HB) (unhide HK)⟩
              · go_wp2
                go_roundg (rows.length - (k + 1))
                case measure => omega
                case rel => exact ⟨k + 1, by omega, rfl, by go_num, rfl, hide (by rw [take_next (unhide HR)]; intro y hy; rcases List.mem_append.1 hy with h | h; exact unhide HS y h; simp at h; rw [h]; omega)⟩
            · obtain rfl : k = rows.length := by omega
              have hS := unhide HS
              rw [List.take_length] at hS
              have HSS := hide (show vars.length ≤ 8 ∧ nums.length ≤ 8 ∧ uses.length ≤ 8 ∧ rows.length ≤ 12 ∧ ∀ r ∈ rows, r.length ≤ 8 from ⟨by omega, by omega, by omega, by omega, hS⟩)
              obtain ⟨hgk2, hi, hin⟩ := unhide HGI
              clear hS HS hkn hk hgk
              go_wp2
              go_roundg (nc - (i + 1))
              case measure => omega
              case rel => exact ⟨i + 1, by omega, rfl, by go_num, HB, hide (by rw [take_next (unhide HC)]; intro y hy; rcases List.mem_append.1 hy with h | h; exact unhide HA y h; simp at h; rw [h]; exact unhide HSS)⟩
        · obtain rfl : nc = i := by omega
          have hA := unhide HA
          rw [show cons.take nc = cons from by rw [(unhide HN).2, List.take_length]] at hA
          have HFW := hide (show FewP ⟨vals, cons⟩ from ⟨by have := unhide HN; simp only; omega, by have := unhide HN; simp only; omega, unhide HAV, hA⟩)
          clear hin hi hgk hA HA
          by_cases e9 : a < 40000
          · go_wp2
            go_ret
            exact ⟨⟨_, rfl, Or.inr ⟨rfl, unhide HFW⟩⟩, below_keep (unhide HB) (unhide HK)⟩
          · go_wp2
            go_ret
            exact ⟨⟨_, rfl, Or.inl rfl⟩, below_keep (unhide HB) (unhide HK)⟩
end Go.Proofs.YthoppmbmmplkiaaGreatDoor
