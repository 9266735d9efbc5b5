/-
  Jobs: the program's Valid.
-/
import Derived.Test.YtgckgkllpkkpeaaDoorUL
namespace Go.Proofs.YtgckgkllpkkpeaaDoor
open Go.RowKit

theorem plvalid_rest {p : Pl} (h : capsV p = 0) : plvalid p = if goJ p.caps 0 p.jobs ≠ 0 then goJ p.caps 0 p.jobs else if 30 < longs p.jobs then 2 else 0 := by
  obtain ⟨h1, h2⟩ := capsV_ok h
  rw [plvalid, if_neg h1, if_neg h2]
set_option maxHeartbeats 8000000 in
set_option maxRecDepth 8000 in
/-- Valid. -/
theorem planvalid_any {A : Nat → Addr} {v : Value} {p : Pl} (w : World) (hS : Sents w A) (h : PlV w v p) :
    Calls Tryd.prog 12 #[v] w fun e w' => e = .returned (errV A (plvalid p)) ∧ Below w.heap.size w w' := by
  obtain ⟨ja, jc, ca, cc, rfl, hM⟩ := h
  obtain ⟨jobs, caps⟩ := p
  have kn := below_new w (.cells #[.slice ja jobs.length jc, .slice ca caps.length cc] 25)
  obtain ⟨p0, p1⟩ := two_new w 25 (.slice ja jobs.length jc) (.slice ca caps.length cc)
  have HM := hide (hM.later kn)
  have HS := hide (hS.later kn)
  have HK := hide kn
  clear hM kn hS
  obtain ⟨nj, hnj⟩ : ∃ n, n = jobs.length := ⟨_, rfl⟩
  obtain ⟨nc, hnc⟩ : ∃ n, n = caps.length := ⟨_, rfl⟩
  obtain ⟨g, hg⟩ : ∃ X, X = w.heap.size := ⟨_, rfl⟩
  obtain ⟨W, hW⟩ : ∃ X, X = w.alloc (.cells #[.slice ja jobs.length jc, .slice ca caps.length cc] 25) := ⟨_, rfl⟩
  go_enter Tryd.func12, Tryd.ntmps12
  go_upto_region 1 with fail
  rw [← hW, ← hg]
  rw [← hW] at HM HS HK p0 p1
  rw [← hg] at p0 p1
  rw [← hnj] at p0
  rw [← hnc] at p1
  rw [← hnj, ← hnc]
  have HN := hide (And.intro hnj hnc)
  have HPV := hide (show PlV W (.agg #[.slice ja nj jc, .slice ca nc cc]) ⟨jobs, caps⟩ by rw [hnj, hnc]; exact ⟨ja, jc, ca, cc, rfl, unhide HM⟩)
  clear hW hg hnj hnc
  go_wp2_with fail
  go_fit (validcaps_any _ (unhide HS) (unhide HPV))
  rintro e W1 ⟨rfl, hb⟩
  have HK := hide (below_keep hb (unhide HK))
  have HS := hide ((unhide HS).later hb)
  have HM := hide ((unhide HM).later hb)
  have p0 := cell_keep hb p0
  have p1 := cell_keep hb p1
  clear hb HPV
  obtain ⟨e, he⟩ : ∃ e, e = capsV ⟨jobs, caps⟩ := ⟨_, rfl⟩
  rw [← he]
  have hcod := capsV_codes ⟨jobs, caps⟩
  rw [← he] at hcod
  rcases hcod with rfl | rfl
  rotate_left
  · rw [errL2]
    go_wp2
    go_ret
    exact ⟨by rw [plvalid_caps he.symm]; rfl, unhide HK⟩
  have HP := hide (plvalid_rest he.symm)
  have HO := hide (capsV_ok he.symm)
  have n7 : nj ≤ 7 := by have := (unhide HO).1; have := unhide HN; simp only at *; omega
  clear he
  rw [errL0]
  go_wp2_with fail
  obtain ⟨V, rfl⟩ : ∃ X, X = W1 := ⟨_, rfl⟩
  go_loopg [4, 5, 6, 7, 16] nj (fun gk av _ _ _ iv wr => ∃ (i : Nat) (a : Int), i ≤ nj ∧ gk = nj - i ∧ av = .int .i64 a ∧ iv = .int .i64 (i : Int) ∧ Hid (Below V.heap.size V wr) ∧ Hid ((∀ k j, k < i → jobs[k]? = some j → jobV caps k j = 0) ∧ a = longs (jobs.take i) ∧ 0 ≤ a ∧ a ≤ 30 * (i : Int)))
  case atStart => exact ⟨0, 0, by omega, by omega, rfl, rfl, hide (Below.refl _ _), hide ⟨by intro k j hk; omega, by simp [longs], by decide, by decide⟩⟩
  case round =>
    obtain ⟨i, a, hi, hgk, rfl, rfl, HB, HA⟩ := hrel
    have q0 := cell_keep (unhide HB) p0
    have q1 := cell_keep (unhide HB) p1
    by_cases hin : i < nj
    · obtain ⟨j, hj⟩ : ∃ y, jobs[i]? = some y := ⟨jobs[i]'(by have := unhide HN; omega), by simp⟩
      obtain ⟨b, o, a1, c1, a2, c2, rfl, ⟨d0, d1, d2⟩, hjm⟩ := (unhide HM).j.job hj
      have d0 := cell_keep (unhide HB) d0
      have d1 := cell_keep (unhide HB) d1
      have d2 := cell_keep (unhide HB) d2
      obtain ⟨k0, k1, k2⟩ := three_cells wr 50 (.int .i64 j.long) (.slice a1 j.after.length c1) (.slice a2 j.uses.length c2)
      have kn := below_new wr (.cells #[.int .i64 j.long, .slice a1 j.after.length c1, .slice a2 j.uses.length c2] 50)
      have HB := hide (below_keep kn (unhide HB))
      have HJM := hide (hjm.later (unhide HB))
      have HJ := hide hj
      have hin' : (i : Int) < (nj : Int) := by omega
      have HGI := hide (And.intro hgk (And.intro hi hin))
      clear hj hjm hgk hi hin kn
      go_upto_region 8 with fail
      obtain ⟨g2, hg2⟩ : ∃ X, X = wr.heap.size := ⟨_, rfl⟩
      obtain ⟨V2, hV2⟩ : ∃ X, X = wr.alloc (.cells #[.int .i64 j.long, .slice a1 j.after.length c1, .slice a2 j.uses.length c2] 50) := ⟨_, rfl⟩
      rw [← hV2] at HB HJM k0 k1 k2 ⊢
      rw [← hg2] at k0 k1 k2 ⊢
      clear hV2 hg2 d0 d1 d2 q0 q1
      have q0 := cell_keep (unhide HB) p0
      have q1 := cell_keep (unhide HB) p1
      have HC := hide (show Rows 1 JE V2 (.slice ca nc cc) caps by rw [(unhide HN).2]; exact (unhide HM).c.later (JE.stays IsSl 0) (unhide HB))
      go_wp2_with fail
      go_fit (validjob_any (i := i) _ ((unhide HS).later (unhide HB)) (unhide HJM) (unhide HC) (unhide HN).2 (by have := unhide HGI; omega))
      rintro e W2 ⟨rfl, hb⟩
      have HB := hide (below_keep hb (unhide HB))
      have k0 := cell_keep hb k0
      clear hb q0 q1 HC HJM k1 k2
      have HHIT := hide (show jobV caps i j ≠ 0 → plvalid ⟨jobs, caps⟩ = jobV caps i j from fun hne => by
        have hg := goJ_hit (caps := caps) (l := jobs) (n := 0) (i := i) (fun k j' hk hj' => by rw [Nat.zero_add]; exact (unhide HA).1 k j' hk hj') (unhide HJ) (by rw [Nat.zero_add]; exact hne)
        rw [Nat.zero_add] at hg
        rw [unhide HP, if_pos (by rw [hg]; exact hne)]
        exact hg)
      obtain ⟨e, he⟩ : ∃ e, e = jobV caps i j := ⟨_, rfl⟩
      have hcod := jobV_codes caps i j
      rw [← he] at hcod HHIT ⊢
      have HE := hide he.symm
      clear he
      rcases hcod with rfl | rfl | rfl
      · have hl := (jobV_ok (unhide HE)).1
        obtain ⟨ll, hll⟩ : ∃ x, x = j.long := ⟨_, rfl⟩
        have hA := unhide HA
        have HAN := hide (show (∀ k j, k < i + 1 → jobs[k]? = some j → jobV caps k j = 0) ∧ a + ll = longs (jobs.take (i + 1)) ∧ 0 ≤ a + ll ∧ a + ll ≤ 30 * ((i + 1 : Nat) : Int) from ⟨fun k j' hk hj' => by
          by_cases e : k = i
          · subst e
            rw [unhide HJ] at hj'
            obtain rfl := Option.some.inj hj'
            exact unhide HE
          · exact hA.1 k j' (by omega) hj', by rw [take_next (unhide HJ), longs_snoc, ← hA.2.1, hll], by omega, by omega⟩)
        have ew : wrap64 (a + ll) = a + ll := by have := unhide HGI; unfold wrap64; omega
        rw [← hll] at k0
        clear hA hl hll HHIT HE
        rw [errL0]
        go_wp2
        go_roundg (nj - (i + 1))
        case measure => have := unhide HGI; omega
        case rel => exact ⟨i + 1, a + ll, by have := unhide HGI; omega, rfl, (by first | rfl | rw [ew]), by go_num, HB, HAN⟩
      · rw [errL2]
        go_wp2
        go_ret
        exact ⟨by rw [unhide HHIT (by decide)]; rfl, below_keep (unhide HB) (unhide HK)⟩
      · rw [errL4]
        go_wp2
        go_ret
        exact ⟨by rw [unhide HHIT (by decide)]; rfl, below_keep (unhide HB) (unhide HK)⟩
    · obtain rfl : nj = i := by omega
      have hA := unhide HA
      rw [show jobs.take nj = jobs from by rw [(unhide HN).1, List.take_length]] at hA
      have hg0 : goJ caps 0 jobs = 0 := goJ_none fun k j hj => by rw [Nat.zero_add]; exact hA.1 k j (by have := (List.getElem?_eq_some_iff.1 hj).1; have := unhide HN; omega) hj
      have HP2 := hide (show plvalid ⟨jobs, caps⟩ = if 30 < a then 2 else 0 by rw [unhide HP, if_neg (by rw [hg0]; exact fun h => h rfl), hA.2.1])
      clear hin hi hgk hA HA hg0
      have e1 := (unhide HS).h1
      have e1 := cell_older (unhide HB) e1
      by_cases hz : 30 < a
      · go_wp2
        go_ret
        exact ⟨by rw [unhide HP2, if_pos hz]; rfl, below_keep (unhide HB) (unhide HK)⟩
      · go_wp2
        go_ret
        exact ⟨by rw [unhide HP2, if_neg (by omega)]; rfl, below_keep (unhide HB) (unhide HK)⟩
end Go.Proofs.YtgckgkllpkkpeaaDoor
