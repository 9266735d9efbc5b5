/-
  Puzzles: whether a constraint is right.
-/
import Derived.Test.YthoppmbmmplkiaaGreatDoorYB
namespace Go.Proofs.YthoppmbmmplkiaaGreatDoor
open Go.RowKit

/-- What is wrong with a constraint over n variables. -/
def conV (n : Nat) (c : Cn) : Int :=
  if 60 < c.vars.length ∨ 60 < c.nums.length ∨ 60 < c.uses.length ∨ 200 < c.rows.length then 2
  else if c.rows.any (fun r => decide (60 < r.length)) then 2
  else if anyBigI c.nums then 2
  else if anyBigI c.uses then 2
  else if bigI c.limit || c.rows.any anyBigI then 2
  else if c.vars.any (fun x => decide (x < 0) || decide ((n : Int) ≤ x)) then 4
  else if formedC c then 0 else 4
set_option maxHeartbeats 8000000 in
set_option maxRecDepth 8000 in
/-- conValid. -/
theorem rconvalid_any {v : Value} {c : Cn} {n : Nat} (va : Option Addr) (vc : Nat) (qa : Option Addr) (qn qc : Nat) (w : World) (h : CnV w v c) (_hn : n ≤ 9223372036854775807) :
    Calls Tryz.prog 16 #[.agg #[.slice va n vc, .slice qa qn qc], v] w fun e w' => e = .returned (.int .i64 (conV n c)) ∧ Below w.heap.size w w' := by
  obtain ⟨a1, c1, a2, c2, a3, c3, a4, c4, rfl, hM⟩ := h
  obtain ⟨kind, vars, nums, uses, limit, rows⟩ := c
  have kn0 := below_new w (.cells #[.slice va n vc, .slice qa qn qc] 25)
  obtain ⟨p0, _⟩ := two_new w 25 (.slice va n vc) (.slice qa qn qc)
  obtain ⟨g0, hg0⟩ : ∃ X, X = w.heap.size := ⟨_, rfl⟩
  obtain ⟨W0, hW0⟩ : ∃ X, X = w.alloc (.cells #[.slice va n vc, .slice qa qn qc] 25) := ⟨_, rfl⟩
  rw [← hW0] at kn0 p0
  rw [← hg0] at p0
  obtain ⟨k0, k1, k2, k3, k4, k5⟩ := six_new W0 46 (.int .i64 kind) (.slice a1 vars.length c1) (.slice a2 nums.length c2) (.slice a3 uses.length c3) (.int .i64 limit) (.slice a4 rows.length c4)
  have kn := below_new W0 (.cells #[.int .i64 kind, .slice a1 vars.length c1, .slice a2 nums.length c2, .slice a3 uses.length c3, .int .i64 limit, .slice a4 rows.length c4] 46)
  have p0 := cell_keep kn p0
  have HM := hide ((hM.later kn0).later kn)
  have HK := hide (below_keep kn kn0)
  have s1 : vars.length ≤ 9223372036854775807 := by have := hM.r1.small; unfold maxLen at this; omega
  have s2 : nums.length ≤ 9223372036854775807 := by have := hM.r2.small; unfold maxLen at this; omega
  have s3 : uses.length ≤ 9223372036854775807 := by have := hM.r3.small; unfold maxLen at this; omega
  have s4 : rows.length ≤ 9223372036854775807 := by have := hM.r4.small; unfold maxLen at this; omega
  clear hM kn kn0
  obtain ⟨nv, hnv⟩ : ∃ n, n = vars.length := ⟨_, rfl⟩
  obtain ⟨nn, hnn⟩ : ∃ n, n = nums.length := ⟨_, rfl⟩
  obtain ⟨nu, hnu⟩ : ∃ n, n = uses.length := ⟨_, rfl⟩
  obtain ⟨nr, hnr⟩ : ∃ n, n = rows.length := ⟨_, rfl⟩
  rw [← hnv] at s1
  rw [← hnn] at s2
  rw [← hnu] at s3
  rw [← hnr] at s4
  obtain ⟨g, hg⟩ : ∃ X, X = W0.heap.size := ⟨_, rfl⟩
  have hgg : g = g0 + 1 := by rw [hg, hW0, hg0]; simp
  obtain ⟨W, hW⟩ : ∃ X, X = W0.alloc (.cells #[.int .i64 kind, .slice a1 vars.length c1, .slice a2 nums.length c2, .slice a3 uses.length c3, .int .i64 limit, .slice a4 rows.length c4] 46) := ⟨_, rfl⟩
  go_enter Tryz.func16, Tryz.ntmps16
  go_upto_region 1 with fail
  rw [← hW0, ← hW, ← hg0, ← hgg]
  rw [← hW] at HM HK k0 k1 k2 k3 k4 k5 p0
  rw [← hg] at k0 k1 k2 k3 k4 k5
  rw [← hnv] at k1
  rw [← hnn] at k2
  rw [← hnu] at k3
  rw [← hnr] at k5
  rw [← hnv, ← hnn, ← hnu, ← hnr]
  have HN := hide (And.intro hnv (And.intro hnn (And.intro hnu hnr)))
  clear hW hg hgg hnv hnn hnu hnr hW0 hg0
  by_cases b1 : (60 : Int) < (nv : Int)
  · go_wp2
    go_ret
    refine ⟨?_, unhide HK⟩
    rw [conV, if_pos (Or.inl (by simp only; have := unhide HN; omega))]
    rfl
  by_cases b2 : (60 : Int) < (nn : Int)
  · go_wp2
    go_ret
    refine ⟨?_, unhide HK⟩
    rw [conV, if_pos (Or.inr (Or.inl (by simp only; have := unhide HN; omega)))]
    rfl
  by_cases b3 : (60 : Int) < (nu : Int)
  · go_wp2
    go_ret
    refine ⟨?_, unhide HK⟩
    rw [conV, if_pos (Or.inr (Or.inr (Or.inl (by simp only; have := unhide HN; omega))))]
    rfl
  by_cases b4 : (200 : Int) < (nr : Int)
  · go_wp2
    go_ret
    refine ⟨?_, unhide HK⟩
    rw [conV, if_pos (Or.inr (Or.inr (Or.inr (by simp only; have := unhide HN; omega))))]
    rfl
  have HE1 := hide (show ¬ (60 < vars.length ∨ 60 < nums.length ∨ 60 < uses.length ∨ 200 < rows.length) by have := unhide HN; omega)
  go_wp2_with fail
  go_loopg [6] nr (fun gk iv wr => ∃ i : Nat, i ≤ nr ∧ gk = nr - i ∧ iv = .int .i64 (i : Int) ∧ wr = W ∧ Hid ((rows.take i).any (fun r => decide (60 < r.length)) = false))
  case atStart => exact ⟨0, by omega, by omega, rfl, rfl, hide rfl⟩
  case round =>
    obtain ⟨i, hi, hgk, rfl, rfl, HA⟩ := hrel
    by_cases hin : i < nr
    · obtain ⟨x, hx⟩ : ∃ x, rows[i]? = some x := ⟨rows[i]'(by have := unhide HN; omega), by simp⟩
      obtain ⟨b, o, ra, rc, rfl, c0, hr⟩ := (unhide HM).r4.row hx
      have hsx : x.length ≤ 9223372036854775807 := by have := hr.small; unfold maxLen at this; omega
      have HX := hide hx
      have hin' : (i : Int) < (nr : Int) := by omega
      clear hx hr
      by_cases hz : (60 : Int) < (x.length : Int)
      · go_wp2
        go_ret
        refine ⟨?_, unhide HK⟩
        rw [conV, if_neg (unhide HE1), if_pos (List.any_eq_true.2 ⟨x, List.mem_of_getElem? (unhide HX), by simp; omega⟩)]
        rfl
      · go_wp2
        go_roundg (nr - (i + 1))
        case measure => omega
        case rel => exact ⟨i + 1, by omega, rfl, by go_num, rfl, hide (by rw [take_next (unhide HX), List.any_append, unhide HA]; simp; omega)⟩
    · obtain rfl : nr = i := by omega
      have hA := unhide HA
      rw [show rows.take nr = rows from by rw [(unhide HN).2.2.2, List.take_length]] at hA
      have HE2 := hide hA
      clear hin hi hgk hA HA
      go_wp2_with fail
      go_fit (ranybig_any _ (by have := (unhide HM).r2; rw [← (unhide HN).2.1] at this; exact this))
      rintro e W1 ⟨rfl, rfl⟩
      cases e3 : anyBigI nums
      rotate_left
      · go_wp2
        go_ret
        refine ⟨?_, unhide HK⟩
        rw [conV, if_neg (unhide HE1), if_neg (by simp only; rw [unhide HE2]; decide), if_pos e3]
        rfl
      go_wp2_with fail
      go_fit (ranybig_any _ (by have := (unhide HM).r3; rw [← (unhide HN).2.2.1] at this; exact this))
      rintro e W1 ⟨rfl, rfl⟩
      cases e4 : anyBigI uses
      rotate_left
      · go_wp2
        go_ret
        refine ⟨?_, unhide HK⟩
        rw [conV, if_neg (unhide HE1), if_neg (by simp only; rw [unhide HE2]; decide), if_neg (by simp only; rw [e3]; decide), if_pos e4]
        rfl
      have HE34 := hide (And.intro e3 e4)
      clear e3 e4
      go_wp2_with fail
      go_fit (rbig_any limit _)
      rintro e W1 ⟨rfl, rfl⟩
      go_wp2_with fail
      go_loopg [7, 8] nr (fun gk bv iv wr => ∃ (i : Nat) (bad : Bool), i ≤ nr ∧ gk = nr - i ∧ bv = .bool bad ∧ iv = .int .i64 (i : Int) ∧ wr = W1 ∧ Hid (bad = (bigI limit || (rows.take i).any anyBigI)))
      case atStart => exact ⟨0, _, by omega, by omega, rfl, rfl, rfl, hide (by simp)⟩
      case round =>
        obtain ⟨i, bad, hi, hgk, rfl, rfl, rfl, HA⟩ := hrel
        by_cases hgo : i < nr ∧ bad = false
        · obtain ⟨hin, rfl⟩ := hgo
          obtain ⟨x, hx⟩ : ∃ x, rows[i]? = some x := ⟨rows[i]'(by have := unhide HN; omega), by simp⟩
          obtain ⟨b, o, ra, rc, rfl, c0, hr⟩ := (unhide HM).r4.row hx
          have HX := hide hx
          have HR := hide hr
          have hin' : (i : Int) < (nr : Int) := by omega
          clear hx hr
          go_wp2_with fail
          go_fit (ranybig_any _ (unhide HR))
          rintro e W2 ⟨rfl, rfl⟩
          go_wp2
          go_roundg (nr - (i + 1))
          case measure => omega
          case rel => exact ⟨i + 1, _, by omega, rfl, rfl, by go_num, rfl, hide (by rw [take_next (unhide HX), List.any_append, ← Bool.or_assoc, ← unhide HA]; simp)⟩
        · have hbad : bad = (bigI limit || rows.any anyBigI) := by
            have hA := unhide HA
            by_cases hin : i < nr
            · have hb : bad = true := by
                cases bad
                · exact absurd ⟨hin, rfl⟩ hgo
                · rfl
              rw [hb] at hA ⊢
              symm
              rcases Bool.or_eq_true_iff.1 hA.symm with h | h
              · rw [h]; rfl
              · obtain ⟨y, hy, h⟩ := List.any_eq_true.1 h
                rw [show rows.any anyBigI = true from List.any_eq_true.2 ⟨y, List.mem_of_mem_take hy, h⟩, Bool.or_true]
            · rw [hA, show rows.take i = rows from by rw [List.take_of_length_le]; have := unhide HN; omega]
          have HBD := hide hbad
          cases bad
          rotate_left
          · by_cases hin' : (i : Int) < (nr : Int)
            · clear hgo hbad
              go_wp2
              go_ret
              refine ⟨?_, unhide HK⟩
              rw [conV, if_neg (unhide HE1), if_neg (by simp only; rw [unhide HE2]; decide), if_neg (by simp only; rw [(unhide HE34).1]; decide), if_neg (by simp only; rw [(unhide HE34).2]; decide), if_pos (unhide HBD).symm]
              rfl
            · clear hgo hbad
              go_wp2
              go_ret
              refine ⟨?_, unhide HK⟩
              rw [conV, if_neg (unhide HE1), if_neg (by simp only; rw [unhide HE2]; decide), if_neg (by simp only; rw [(unhide HE34).1]; decide), if_neg (by simp only; rw [(unhide HE34).2]; decide), if_pos (unhide HBD).symm]
              rfl
          have hin' : ¬ (i : Int) < (nr : Int) := by
            intro h
            exact hgo ⟨by omega, rfl⟩
          clear hgo hbad HA hi hgk
          go_wp2_with fail
          obtain ⟨V, rfl⟩ : ∃ X, X = wr := ⟨_, rfl⟩
          go_loopg [9] nv (fun gk iv wr => ∃ i : Nat, i ≤ nv ∧ gk = nv - i ∧ iv = .int .i64 (i : Int) ∧ Hid (Below V.heap.size V wr) ∧ Hid ((vars.take i).any (fun x => decide (x < 0) || decide ((n : Int) ≤ x)) = false))
          case atStart => exact ⟨0, by omega, by omega, rfl, hide (Below.refl _ _), hide rfl⟩
          case round =>
            obtain ⟨j, hj, hgk, rfl, HB, HA⟩ := hrel
            have k0 := cell_keep (unhide HB) k0
            have k1 := cell_keep (unhide HB) k1
            have k2 := cell_keep (unhide HB) k2
            have k3 := cell_keep (unhide HB) k3
            have k4 := cell_keep (unhide HB) k4
            have k5 := cell_keep (unhide HB) k5
            have p0 := cell_keep (unhide HB) p0
            by_cases hjn : j < nv
            · obtain ⟨x, hx⟩ : ∃ x, vars[j]? = some x := ⟨vars[j]'(by have := unhide HN; omega), by simp⟩
              obtain ⟨b, o, rfl, c0, _⟩ := (unhide HM).r1.int hx
              have c0 := cell_keep (unhide HB) c0
              have HX := hide hx
              have hjn' : (j : Int) < (nv : Int) := by omega
              clear hx
              go_upto_region 25 with fail
              by_cases hz : x < 0
              · have hd : decide (x < 0) = true := by simpa using hz
                go_quiet (fail)
                have HB' := hide (below_drewN (unhide HB) nq)
                go_wp2
                go_ret
                refine ⟨?_, below_keep (unhide HB') (unhide HK)⟩
                rw [conV, if_neg (unhide HE1), if_neg (by simp only; rw [unhide HE2]; decide), if_neg (by simp only; rw [(unhide HE34).1]; decide), if_neg (by simp only; rw [(unhide HE34).2]; decide), if_neg (by simp only; rw [← unhide HBD]; decide), if_pos (List.any_eq_true.2 ⟨x, List.mem_of_getElem? (unhide HX), by rw [hd]; rfl⟩)]
                rfl
              · have hd : decide (x < 0) = false := by simpa using hz
                by_cases hz2 : (n : Int) ≤ x
                · go_quiet (fail)
                  have HB' := hide (below_drewN (unhide HB) nq)
                  go_wp2
                  go_ret
                  refine ⟨?_, below_keep (unhide HB') (unhide HK)⟩
                  rw [conV, if_neg (unhide HE1), if_neg (by simp only; rw [unhide HE2]; decide), if_neg (by simp only; rw [(unhide HE34).1]; decide), if_neg (by simp only; rw [(unhide HE34).2]; decide), if_neg (by simp only; rw [← unhide HBD]; decide), if_pos (List.any_eq_true.2 ⟨x, List.mem_of_getElem? (unhide HX), by rw [show decide ((n : Int) ≤ x) = true from by simpa using hz2, Bool.or_true]⟩)]
                  rfl
                · go_quiet (fail)
                  have HB' := hide (below_drewN (unhide HB) nq)
                  go_wp2
                  go_roundg (nv - (j + 1))
                  case measure => omega
                  case rel => exact ⟨j + 1, by omega, rfl, by go_num, HB', hide (by rw [take_next (unhide HX), List.any_append, unhide HA]; simp; omega)⟩
            · obtain rfl : nv = j := by omega
              have hA := unhide HA
              rw [show vars.take nv = vars from by rw [(unhide HN).1, List.take_length]] at hA
              have HE6 := hide hA
              clear hjn hj hgk hA HA
              go_wp2_with fail
              go_fit (rformed_any (c := ⟨kind, vars, nums, uses, limit, rows⟩) _ (by obtain ⟨h1, h2, h3, h4⟩ := unhide HN; subst h1 h2 h3 h4; exact ⟨a1, c1, a2, c2, a3, c3, _, c4, rfl, (unhide HM).later (unhide HB)⟩))
              rintro e W2 ⟨rfl, B2⟩
              have HB := hide (below_keep B2 (unhide HB))
              clear B2
              have hend : conV n ⟨kind, vars, nums, uses, limit, rows⟩ = if formedC ⟨kind, vars, nums, uses, limit, rows⟩ then 0 else 4 := by
                rw [conV, if_neg (unhide HE1), if_neg (by simp only; rw [unhide HE2]; decide), if_neg (by simp only; rw [(unhide HE34).1]; decide), if_neg (by simp only; rw [(unhide HE34).2]; decide), if_neg (by simp only; rw [← unhide HBD]; decide), if_neg (by simp only; rw [unhide HE6]; decide)]
              have HEND := hide hend
              clear hend
              cases hf : formedC ⟨kind, vars, nums, uses, limit, rows⟩
              · go_wp2
                go_ret
                refine ⟨?_, below_keep (unhide HB) (unhide HK)⟩
                rw [unhide HEND, hf]
                rfl
              · go_wp2
                go_ret
                refine ⟨?_, below_keep (unhide HB) (unhide HK)⟩
                rw [unhide HEND, hf]
                rfl
end Go.Proofs.YthoppmbmmplkiaaGreatDoor
