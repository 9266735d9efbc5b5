/-
  Jobs: the law's pieces: whether a plan is small, and the plan that the law begins with.
-/
import Derived.Test.YtgckgkllpkkpeaaDoorUB
namespace Go.Proofs.YtgckgkllpkkpeaaDoor
open Go.RowKit

/-- A plan that is small. -/
structure FewL (p : Pl) : Prop where
  n : p.jobs.length ≤ 9
  m : p.caps.length ≤ 9
  j : ∀ j ∈ p.jobs, j.after.length ≤ 10 ∧ j.uses.length ≤ 10 ∧ j.long ≤ 40
set_option maxHeartbeats 8000000 in
set_option maxRecDepth 8000 in
/-- fewPlan. -/
theorem fewl_any {v : Value} {p : Pl} (w : World) (h : PlV w v p) :
    Calls Tryd.prog 7 #[v] w fun e w' => (∃ b, e = .returned b ∧ (b = .bool false ∨ (b = .bool true ∧ FewL p))) ∧ Below w.heap.size w w' := by
  obtain ⟨ja, jc, ca, cc, rfl, hM⟩ := h
  obtain ⟨jobs, caps⟩ := p
  have kn := below_new w (.cells #[.slice ja jobs.length jc, .slice ca caps.length cc] 25)
  obtain ⟨p0, p1⟩ := two_new w 25 (.slice ja jobs.length jc) (.slice ca caps.length cc)
  have HM := hide (hM.later kn)
  have HK := hide kn
  clear hM kn
  obtain ⟨nj, hnj⟩ : ∃ n, n = jobs.length := ⟨_, rfl⟩
  obtain ⟨nc, hnc⟩ : ∃ n, n = caps.length := ⟨_, rfl⟩
  obtain ⟨g, hg⟩ : ∃ X, X = w.heap.size := ⟨_, rfl⟩
  obtain ⟨W, hW⟩ : ∃ X, X = w.alloc (.cells #[.slice ja jobs.length jc, .slice ca caps.length cc] 25) := ⟨_, rfl⟩
  go_enter Tryd.func7, Tryd.ntmps7
  go_upto_region 1 with fail
  rw [← hW, ← hg]
  rw [← hW] at HM HK p0 p1
  rw [← hg] at p0 p1
  rw [← hnj] at p0
  rw [← hnc] at p1
  rw [← hnj, ← hnc]
  have HN := hide (And.intro hnj hnc)
  clear hW hg hnj hnc
  by_cases b1 : (9 : Int) < (nj : Int)
  · go_wp2
    go_ret
    exact ⟨⟨_, rfl, Or.inl rfl⟩, unhide HK⟩
  by_cases b2 : (9 : Int) < (nc : Int)
  · go_wp2
    go_ret
    exact ⟨⟨_, rfl, Or.inl rfl⟩, unhide HK⟩
  have n9 : nj ≤ 9 := by omega
  go_wp2_with fail
  go_loopg [3, 4] nj (fun gk av iv wr => ∃ (i : Nat) (a : Int), i ≤ nj ∧ gk = nj - i ∧ av = .int .i64 a ∧ iv = .int .i64 (i : Int) ∧ Hid (Below W.heap.size W wr) ∧ Hid (∀ j ∈ jobs.take i, j.after.length ≤ 10 ∧ j.uses.length ≤ 10 ∧ j.long ≤ 40))
  case atStart => exact ⟨0, 0, by omega, by omega, rfl, rfl, hide (Below.refl _ _), hide (by simp)⟩
  case round =>
    obtain ⟨i, a, hi, hgk, rfl, rfl, HB, HA⟩ := hrel
    have q0 := cell_keep (unhide HB) p0
    by_cases hin : i < nj
    · obtain ⟨j, hj⟩ : ∃ y, jobs[i]? = some y := at_some (by have := unhide HN; omega)
      obtain ⟨b, o, a1, c1, a2, c2, rfl, ⟨d0, d1, d2⟩, hjm⟩ := (unhide HM).j.job hj
      obtain ⟨long, after, uses⟩ := j
      simp only at d0 d1 d2
      have d0 := cell_keep (unhide HB) d0
      have d1 := cell_keep (unhide HB) d1
      have d2 := cell_keep (unhide HB) d2
      obtain ⟨k0, k1, k2⟩ := three_cells wr 50 (.int .i64 long) (.slice a1 after.length c1) (.slice a2 uses.length c2)
      have kn := below_new wr (.cells #[.int .i64 long, .slice a1 after.length c1, .slice a2 uses.length c2] 50)
      have HB := hide (below_keep kn (unhide HB))
      have HJ := hide hj
      have hin' : (i : Int) < (nj : Int) := by omega
      have s5 : after.length ≤ 9223372036854775807 := by have := hjm.r1.small; unfold maxLen at this; omega
      have s6 : uses.length ≤ 9223372036854775807 := by have := hjm.r2.small; unfold maxLen at this; omega
      clear hj hjm kn
      go_upto_region 8 with fail
      obtain ⟨g2, hg2⟩ : ∃ X, X = wr.heap.size := ⟨_, rfl⟩
      obtain ⟨V2, hV2⟩ : ∃ X, X = wr.alloc (.cells #[.int .i64 long, .slice a1 after.length c1, .slice a2 uses.length c2] 50) := ⟨_, rfl⟩
      rw [← hV2] at HB k0 k1 k2 ⊢
      rw [← hg2] at k0 k1 k2 ⊢
      clear hV2 hg2 d0 d1 d2 q0
      by_cases e1 : (10 : Int) < (after.length : Int)
      · go_wp2
        go_ret
        exact ⟨⟨_, rfl, Or.inl rfl⟩, below_keep (unhide HB) (unhide HK)⟩
      by_cases e2 : (10 : Int) < (uses.length : Int)
      · go_wp2
        go_ret
        exact ⟨⟨_, rfl, Or.inl rfl⟩, below_keep (unhide HB) (unhide HK)⟩
      by_cases e3 : (40 : Int) < long
      · go_wp2
        go_ret
        exact ⟨⟨_, rfl, Or.inl rfl⟩, below_keep (unhide HB) (unhide HK)⟩
      go_wp2
      go_roundg (nj - (i + 1))
      case measure => omega
      case rel => exact ⟨i + 1, _, by omega, rfl, rfl, by go_num, HB, hide (by rw [take_next (unhide HJ)]; intro y hy; rcases List.mem_append.1 hy with h | h; exact unhide HA y h; simp at h; rw [h]; exact ⟨by simp only; omega, by simp only; omega, by simp only; omega⟩)⟩
    · obtain rfl : nj = i := by omega
      have hA := unhide HA
      rw [show jobs.take nj = jobs from by rw [(unhide HN).1, List.take_length]] at hA
      have HFW := hide (show FewL ⟨jobs, caps⟩ from ⟨by have := unhide HN; simp only; omega, by have := unhide HN; simp only; omega, hA⟩)
      clear hin hi hgk hA HA
      by_cases e8 : (nj : Int) ≤ 4
      · go_wp2
        go_ret
        exact ⟨⟨_, rfl, Or.inr ⟨rfl, unhide HFW⟩⟩, below_keep (unhide HB) (unhide HK)⟩
      by_cases e9 : a ≤ 12
      · go_wp2
        go_ret
        exact ⟨⟨_, rfl, Or.inr ⟨rfl, unhide HFW⟩⟩, below_keep (unhide HB) (unhide HK)⟩
      · go_wp2
        go_ret
        exact ⟨⟨_, rfl, Or.inl rfl⟩, below_keep (unhide HB) (unhide HK)⟩
/-- The plan that the law begins with. -/
def jbs : Pl := ⟨[⟨2, [], [1]⟩, ⟨1, [0], [1]⟩], [1]⟩
theorem jbs_few : FewL jbs := ⟨by decide, by decide, by decide⟩
theorem one_over {u c : Int} (h : 0 ≤ u ∧ u ≤ c) : ¬ overU [u] [c] := by
  rintro ⟨k, u', c', h1, h2, h3⟩
  cases k with
  | zero =>
    obtain rfl : u = u' := by simpa using h1
    obtain rfl : c = c' := by simpa using h2
    omega
  | succ k => simp at h1
theorem jbs_valid : plvalid jbs = 0 := by
  have h0 : jobV [1] 0 ⟨2, [], [1]⟩ = 0 := by rw [jobV, if_neg (by decide), if_neg (by decide), if_neg (one_over (by decide)), if_neg (by simp)]
  have h1 : jobV [1] 1 ⟨1, [0], [1]⟩ = 0 := by rw [jobV, if_neg (by decide), if_neg (by decide), if_neg (one_over (by decide)), if_neg (by simp)]
  have hg : goJ [1] 0 [⟨2, [], [1]⟩, ⟨1, [0], [1]⟩] = 0 := by rw [goJ, if_pos h0, goJ, if_pos h1, goJ]
  rw [plvalid, jbs, if_neg (by decide), if_neg (by simp), if_neg (by rw [hg]; simp), if_neg (by decide)]
theorem jbs_ends : ends jbs [0, 2] = (3, true) := by
  have hn : ¬ ∃ i, badA jbs [0, 2] i ∨ badC jbs [0, 2] i := by
    rintro ⟨i, ⟨s, j, k, a, sa, ja, h1, h2, h3, h4, h5, h6⟩ | ⟨s, c, cap, h1, h2, h3⟩⟩
    · rcases i with _ | _ | i
      · obtain rfl : ⟨2, [], [1]⟩ = j := by simpa [jbs] using h2
        simp at h3
      · obtain rfl : ⟨1, [0], [1]⟩ = j := by simpa [jbs] using h2
        rcases k with _ | k
        · obtain rfl : a = 0 := by have : (0 : Int) = (a : Int) := by simpa using h3
                                   omega
          obtain rfl : 2 = s := by simpa using h1
          obtain rfl : 0 = sa := by simpa using h4
          obtain rfl : ⟨2, [], [1]⟩ = ja := by simpa [jbs] using h5
          revert h6; decide
        · simp at h3
      · simp at h1
    · rcases c with _ | c
      · obtain rfl : 1 = cap := by simpa [jbs] using h2
        rcases i with _ | _ | i
        · obtain rfl : 0 = s := by simpa using h1
          revert h3; decide
        · obtain rfl : 2 = s := by simpa using h1
          revert h3; decide
        · simp at h1
      · simp [jbs] at h2
  rw [ends_good (by rintro ⟨s, hs, h⟩; simp at hs; omega) hn]
  rfl
end Go.Proofs.YtgckgkllpkkpeaaDoor
