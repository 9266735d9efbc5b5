/-
  Jobs: the program's isWithin, validCaps, validJob.
-/
import Derived.Test.YtgckgkllpkkpeaaDoorUB
import Derived.Test.YtgckgkllpkkpeaaDoorEC
namespace Go.Proofs.YtgckgkllpkkpeaaDoor
open Go.RowKit

theorem errL2 (A : Nat → Addr) : errV A 2 = .iface 114 (.pointer (some (A 1))) := rfl
theorem errL4 (A : Nat → Addr) : errV A 4 = .iface 114 (.pointer (some (A 3))) := rfl
theorem errL0 (A : Nat → Addr) : errV A 0 = .nilIface := rfl
/-- Whether a number lies between two. -/
def inB (n l h : Int) : Bool := decide (l ≤ n) && decide (n ≤ h)
theorem inB_yes {n l h : Int} (h1 : l ≤ n) (h2 : n ≤ h) : inB n l h = true := by simp [inB, h1, h2]
theorem inB_no {n l h : Int} (h1 : n < l ∨ h < n) : inB n l h = false := by
  cases e : inB n l h
  · rfl
  · simp [inB] at e; omega
theorem inB_iff {n l h : Int} : inB n l h = true ↔ l ≤ n ∧ n ≤ h := by simp [inB]
set_option maxHeartbeats 1000000 in
/-- isWithin. -/
theorem within_any (n l h : Int) (w : World) : Calls Tryd.prog 25 #[.int .i64 n, .int .i64 l, .int .i64 h] w fun e w' => e = .returned (.bool (inB n l h)) ∧ w' = w := by
  go_enter Tryd.func25, Tryd.ntmps25
  by_cases h1 : l ≤ n
  · go_wp2
    go_ret
    refine ⟨?_, rfl⟩
    have h2 : decide (l ≤ n) = true := decide_eq_true h1
    rw [inB, h2, Bool.true_and]
    rfl
  · go_wp2
    go_ret
    refine ⟨?_, rfl⟩
    rw [inB_no (Or.inl (by omega))]
    rfl
open Classical in
/-- What is wrong with the caps. -/
noncomputable def capsV (p : Pl) : Int :=
  if 7 < p.jobs.length ∨ 7 < p.caps.length then 2 else if (∃ c ∈ p.caps, c < 0 ∨ 100000000 < c) then 2 else 0
theorem capsV_codes (p : Pl) : capsV p = 0 ∨ capsV p = 2 := by
  unfold capsV
  split
  · exact Or.inr rfl
  split
  · exact Or.inr rfl
  · exact Or.inl rfl
theorem plvalid_caps {p : Pl} (h : capsV p = 2) : plvalid p = 2 := by
  unfold capsV at h
  unfold plvalid
  split
  · rfl
  split
  · rfl
  rename_i h1 h2
  rw [if_neg h1, if_neg h2] at h
  cases h
theorem capsV_ok {p : Pl} (h : capsV p = 0) : (¬ (7 < p.jobs.length ∨ 7 < p.caps.length)) ∧ ¬ ∃ c ∈ p.caps, c < 0 ∨ 100000000 < c := by
  unfold capsV at h
  split at h
  · cases h
  split at h
  · cases h
  rename_i h1 h2
  exact ⟨h1, h2⟩
set_option maxHeartbeats 8000000 in
set_option maxRecDepth 8000 in
/-- validCaps. -/
theorem validcaps_any {A : Nat → Addr} {v : Value} {p : Pl} (w : World) (hS : Sents w A) (h : PlV w v p) :
    Calls Tryd.prog 17 #[v] w fun e w' => e = .returned (errV A (capsV p)) ∧ Below w.heap.size w w' := by
  obtain ⟨ja, jc, ca, cc, rfl, hM⟩ := h
  obtain ⟨jobs, caps⟩ := p
  have kn := below_new w (.cells #[.slice ja jobs.length jc, .slice ca caps.length cc] 25)
  obtain ⟨p0, p1⟩ := two_new w 25 (.slice ja jobs.length jc) (.slice ca caps.length cc)
  have HM := hide (hM.later kn)
  have HS := hide (hS.later kn)
  have HK := hide kn
  have s1 : jobs.length ≤ 9223372036854775807 := by have := hM.j.small; unfold maxLen at this; omega
  have s2 : caps.length ≤ 9223372036854775807 := by have := hM.c.small; unfold maxLen at this; omega
  clear hM kn hS
  obtain ⟨nj, hnj⟩ : ∃ n, n = jobs.length := ⟨_, rfl⟩
  obtain ⟨nc, hnc⟩ : ∃ n, n = caps.length := ⟨_, rfl⟩
  rw [← hnj] at s1
  rw [← hnc] at s2
  obtain ⟨g, hg⟩ : ∃ X, X = w.heap.size := ⟨_, rfl⟩
  obtain ⟨W, hW⟩ : ∃ X, X = w.alloc (.cells #[.slice ja jobs.length jc, .slice ca caps.length cc] 25) := ⟨_, rfl⟩
  go_enter Tryd.func17, Tryd.ntmps17
  go_upto_region 1 with fail
  rw [← hW, ← hg]
  rw [← hW] at HM HS HK p0 p1
  rw [← hg] at p0 p1
  rw [← hnj] at p0
  rw [← hnc] at p1
  rw [← hnj, ← hnc]
  have HN := hide (And.intro hnj hnc)
  clear hW hg hnj hnc
  have e1 := (unhide HS).h1
  by_cases b1 : (7 : Int) < (nj : Int)
  · go_wp2
    go_ret
    refine ⟨?_, unhide HK⟩
    rw [capsV, if_pos (Or.inl (by simp only; have := unhide HN; omega))]
    rfl
  by_cases b2 : (7 : Int) < (nc : Int)
  · go_wp2
    go_ret
    refine ⟨?_, unhide HK⟩
    rw [capsV, if_pos (Or.inr (by simp only; have := unhide HN; omega))]
    rfl
  have HE1 := hide (show ¬ (7 < jobs.length ∨ 7 < caps.length) by have := unhide HN; omega)
  go_wp2_with fail
  go_loopg [4, 19] nc (fun gk _ iv wr => ∃ i : Nat, i ≤ nc ∧ gk = nc - i ∧ iv = .int .i64 (i : Int) ∧ wr = W ∧ Hid (∀ c ∈ caps.take i, ¬ (c < 0 ∨ 100000000 < c)))
  case atStart => exact ⟨0, by omega, by omega, rfl, rfl, hide (by simp)⟩
  case round =>
    obtain ⟨i, hi, hgk, rfl, rfl, HA⟩ := hrel
    by_cases hin : i < nc
    · obtain ⟨x, hx⟩ : ∃ x, caps[i]? = some x := ⟨caps[i]'(by have := unhide HN; omega), by simp⟩
      obtain ⟨b, o, rfl, c0, _⟩ := (unhide HM).c.int hx
      have HX := hide hx
      have hin' : (i : Int) < (nc : Int) := by omega
      clear hx
      go_wp2_with fail
      go_fit (within_any _ _ _ _)
      rintro e W1 ⟨rfl, rfl⟩
      by_cases hz : x < 0 ∨ 100000000 < x
      · rw [inB_no hz]
        go_wp2
        go_ret
        refine ⟨?_, unhide HK⟩
        rw [capsV, if_neg (unhide HE1), if_pos ⟨x, List.mem_of_getElem? (unhide HX), hz⟩]
        rfl
      · rw [inB_yes (by omega) (by omega)]
        go_wp2
        go_roundg (nc - (i + 1))
        case measure => omega
        case rel => exact ⟨i + 1, by omega, rfl, by go_num, rfl, hide (by rw [take_next (unhide HX)]; intro y hy; rcases List.mem_append.1 hy with h | h; exact unhide HA y h; simp at h; rw [h]; omega)⟩
    · obtain rfl : nc = i := by omega
      have hA := unhide HA
      rw [show caps.take nc = caps from by rw [(unhide HN).2, List.take_length]] at hA
      have HE2 := hide (show ¬ ∃ c ∈ caps, c < 0 ∨ 100000000 < c from fun ⟨c, h1, h2⟩ => hA c h1 h2)
      clear hin hi hgk hA HA
      go_wp2
      go_ret
      exact ⟨by rw [capsV, if_neg (unhide HE1), if_neg (unhide HE2)]; rfl, unhide HK⟩
theorem jobV_codes (caps : List Int) (i : Nat) (j : Jb) : jobV caps i j = 0 ∨ jobV caps i j = 2 ∨ jobV caps i j = 4 := by
  unfold jobV
  split
  · exact Or.inr (Or.inl rfl)
  split
  · exact Or.inr (Or.inr rfl)
  split
  · exact Or.inr (Or.inr rfl)
  split
  · exact Or.inr (Or.inr rfl)
  · exact Or.inl rfl
set_option maxHeartbeats 8000000 in
set_option maxRecDepth 8000 in
/-- validJob. -/
theorem validjob_any {A : Nat → Addr} {i : Nat} {j : Jb} {a1 a2 ca : Option Addr} {c1 c2 cc nc : Nat} {caps : List Int} (w : World) (hS : Sents w A) (h : JbM w j a1 c1 a2 c2) (hC : Rows 1 JE w (.slice ca nc cc) caps) (hnc : nc = caps.length) (hi7 : i ≤ 7) :
    Calls Tryd.prog 18 #[.agg #[.int .i64 j.long, .slice a1 j.after.length c1, .slice a2 j.uses.length c2], .int .i64 (i : Int), .slice ca nc cc] w fun e w' => e = .returned (errV A (jobV caps i j)) ∧ Below w.heap.size w w' := by
  obtain ⟨long, after, uses⟩ := j
  simp only at h ⊢
  have kn := below_new w (.cells #[.int .i64 long, .slice a1 after.length c1, .slice a2 uses.length c2] 50)
  obtain ⟨k0, k1, k2⟩ := three_cells w 50 (.int .i64 long) (.slice a1 after.length c1) (.slice a2 uses.length c2)
  have HJM := hide (h.later kn)
  have HC := hide (hC.later (JE.stays IsSl 0) kn)
  have HS := hide (hS.later kn)
  have HK := hide kn
  have s5 : after.length ≤ 9223372036854775807 := by have := h.r1.small; unfold maxLen at this; omega
  have s6 : uses.length ≤ 9223372036854775807 := by have := h.r2.small; unfold maxLen at this; omega
  have s7 : nc ≤ 9223372036854775807 := by have := hC.small; unfold maxLen at this; omega
  have HNC := hide hnc
  clear h hC hS kn hnc
  obtain ⟨na, hna⟩ : ∃ n, n = after.length := ⟨_, rfl⟩
  obtain ⟨nu, hnu⟩ : ∃ n, n = uses.length := ⟨_, rfl⟩
  rw [← hna] at s5
  rw [← hnu] at s6
  obtain ⟨g, hg⟩ : ∃ X, X = w.heap.size := ⟨_, rfl⟩
  obtain ⟨W, hW⟩ : ∃ X, X = w.alloc (.cells #[.int .i64 long, .slice a1 after.length c1, .slice a2 uses.length c2] 50) := ⟨_, rfl⟩
  go_enter Tryd.func18, Tryd.ntmps18
  go_upto_region 1 with fail
  rw [← hW, ← hg]
  rw [← hW] at HJM HC HS HK k0 k1 k2
  rw [← hg] at k0 k1 k2
  rw [← hna] at k1
  rw [← hnu] at k2
  rw [← hna, ← hnu]
  have HN := hide (And.intro hna hnu)
  clear hW hg hna hnu
  have e1 := (unhide HS).h1
  have e3 := (unhide HS).h3
  go_wp2_with fail
  go_fit (within_any _ _ _ _)
  rintro e W1 ⟨rfl, rfl⟩
  by_cases z1 : long < 0 ∨ 30 < long
  · rw [inB_no z1]
    go_wp2
    go_ret
    refine ⟨?_, unhide HK⟩
    rw [jobV, if_pos (by rcases z1 with h | h; exact Or.inl h; exact Or.inr (Or.inl h))]
    rfl
  rw [inB_yes (by omega) (by omega)]
  by_cases z2 : (7 : Int) < (na : Int)
  · go_wp2
    go_ret
    refine ⟨?_, unhide HK⟩
    rw [jobV, if_pos (Or.inr (Or.inr (by simp only; have := unhide HN; omega)))]
    rfl
  have HF1 := hide (show ¬ (long < 0 ∨ 30 < long ∨ 7 < after.length) by have := unhide HN; omega)
  clear z1
  by_cases e4 : nu = nc
  rotate_left
  · have e4' : ((nu : Int) != (nc : Int)) = true := by simp; omega
    go_wp2
    go_ret
    refine ⟨?_, unhide HK⟩
    rw [jobV, if_neg (unhide HF1), if_pos (by simp only; have := unhide HN; have := unhide HNC; omega)]
    rfl
  have e4' : ((nu : Int) != (nc : Int)) = false := by simp; omega
  have HF2 := hide (show ¬ (uses.length ≠ caps.length) by have := unhide HN; have := unhide HNC; omega)
  have HE4 := hide e4
  clear e4
  go_wp2_with fail
  go_loopg [7, 8, 32] nu (fun gk _ _ kv wr => ∃ k : Nat, k ≤ nu ∧ gk = nu - k ∧ kv = .int .i64 (k : Int) ∧ wr = W1 ∧ Hid (∀ (k' : Nat) (u c : Int), k' < k → uses[k']? = some u → caps[k']? = some c → ¬ (u < 0 ∨ c < u)))
  case atStart => exact ⟨0, by omega, by omega, rfl, rfl, hide (by intro k' u c hk; omega)⟩
  case round =>
    obtain ⟨k, hk, hgk, rfl, rfl, HA⟩ := hrel
    by_cases hkn : k < nu
    · obtain ⟨u, hu⟩ : ∃ x, uses[k]? = some x := ⟨uses[k]'(by have := unhide HN; omega), by simp⟩
      obtain ⟨c, hc⟩ : ∃ x, caps[k]? = some x := ⟨caps[k]'(by have := unhide HNC; have := unhide HE4; omega), by simp⟩
      obtain ⟨b1, o1, rfl, f0, _⟩ := (unhide HJM).r2.int hu
      obtain ⟨b2, o2, rfl, f1, _⟩ := (unhide HC).int hc
      have HUC := hide (And.intro hu hc)
      have hkn' : (k : Int) < (nu : Int) := by omega
      have hkn2 : (k : Int) < (nc : Int) := by have := unhide HE4; omega
      clear hu hc
      go_wp2_with fail
      go_fit (within_any _ _ _ _)
      rintro e W1 ⟨rfl, rfl⟩
      by_cases hz : u < 0 ∨ c < u
      · rw [inB_no hz]
        go_wp2
        go_ret
        refine ⟨?_, unhide HK⟩
        rw [jobV, if_neg (unhide HF1), if_neg (unhide HF2), if_pos ⟨k, u, c, (unhide HUC).1, (unhide HUC).2, hz⟩]
        rfl
      · rw [inB_yes (by omega) (by omega)]
        go_wp2
        go_roundg (nu - (k + 1))
        case measure => omega
        case rel => exact ⟨k + 1, by omega, rfl, by go_num, rfl, hide (by
          intro k' u' c' hk' h1 h2
          by_cases e : k' = k
          · subst e
            rw [(unhide HUC).1] at h1
            rw [(unhide HUC).2] at h2
            obtain rfl := Option.some.inj h1
            obtain rfl := Option.some.inj h2
            exact hz
          · exact unhide HA k' u' c' (by omega) h1 h2)⟩
    · obtain rfl : nu = k := by omega
      have HF3 := hide (show ¬ overU uses caps by
        rintro ⟨k', u, c, h1, h2, h3⟩
        exact unhide HA k' u c (by have := (List.getElem?_eq_some_iff.1 h1).1; have := unhide HN; omega) h1 h2 h3)
      clear hkn hk hgk HA
      go_wp2_with fail
      obtain ⟨V, rfl⟩ : ∃ X, X = wr := ⟨_, rfl⟩
      go_loopg [10, 49] na (fun gk _ kv wr => ∃ k : Nat, k ≤ na ∧ gk = na - k ∧ kv = .int .i64 (k : Int) ∧ wr = V ∧ Hid (∀ a ∈ after.take k, ¬ (a < 0 ∨ (i : Int) ≤ a)))
      case atStart => exact ⟨0, by omega, by omega, rfl, rfl, hide (by simp)⟩
      case round =>
        obtain ⟨k, hk, hgk, rfl, rfl, HA⟩ := hrel
        by_cases hkn : k < na
        · obtain ⟨x, hx⟩ : ∃ x, after[k]? = some x := ⟨after[k]'(by have := unhide HN; omega), by simp⟩
          obtain ⟨b, o, rfl, f0, _⟩ := (unhide HJM).r1.int hx
          have HX := hide hx
          have hkn' : (k : Int) < (na : Int) := by omega
          have ew : wrap64 ((i : Int) - 1) = (i : Int) - 1 := by unfold wrap64; omega
          clear hx
          go_wp2_with fail
          go_fit (within_any _ _ _ _)
          rintro e W1 ⟨rfl, rfl⟩
          by_cases hz : x < 0 ∨ (i : Int) ≤ x
          · rw [inB_no (by omega)]
            go_wp2
            go_ret
            refine ⟨?_, unhide HK⟩
            rw [jobV, if_neg (unhide HF1), if_neg (unhide HF2), if_neg (unhide HF3), if_pos ⟨x, List.mem_of_getElem? (unhide HX), hz⟩]
            rfl
          · rw [inB_yes (by omega) (by omega)]
            go_wp2
            go_roundg (na - (k + 1))
            case measure => omega
            case rel => exact ⟨k + 1, by omega, rfl, by go_num, rfl, hide (by rw [take_next (unhide HX)]; intro y hy; rcases List.mem_append.1 hy with h | h; exact unhide HA y h; simp at h; rw [h]; exact hz)⟩
        · obtain rfl : na = k := by omega
          have hA := unhide HA
          rw [show after.take na = after from by rw [(unhide HN).1, List.take_length]] at hA
          have HF4 := hide (show ¬ ∃ a ∈ after, a < 0 ∨ (i : Int) ≤ a from fun ⟨c, h1, h2⟩ => hA c h1 h2)
          clear hkn hk hgk hA HA
          go_wp2
          go_ret
          exact ⟨by rw [jobV, if_neg (unhide HF1), if_neg (unhide HF2), if_neg (unhide HF3), if_neg (unhide HF4)]; rfl, unhide HK⟩
end Go.Proofs.YtgckgkllpkkpeaaDoor
