/-
  Jobs: the program's Span.
-/
import Derived.Test.YtmknlbldgjaagaaDoorUQ
import Derived.Test.YtmknlbldgjaagaaDoorUD
namespace Go.Proofs.YtmknlbldgjaagaaDoor
open Go.RowKit

theorem inT_iff {p : Pl} {st : List Int} (hR : PlR p) (hl : st.length = p.jobs.length) : inT p st p.jobs.length ↔ ¬ bigS st ∧ ∀ i, ¬ badA p st i := by
  constructor
  · intro h
    refine ⟨fun ⟨s, hs, hb⟩ => ?_, fun i ⟨s, j, k, a, sa, ja, h1, h2, h3, h4, h5, h6⟩ => ?_⟩
    · obtain ⟨k, hk, e⟩ := List.getElem_of_mem hs
      obtain ⟨j, hj⟩ : ∃ x, p.jobs[k]? = some x := at_some (by omega)
      have := h k s j (by omega) (by rw [List.getElem?_eq_getElem hk, e]) hj
      omega
    · have hi := (List.getElem?_eq_some_iff.1 h2).1
      have := ((rdy_le_iff st p.jobs j.after s).1 (h i s j hi h1 h2).2.2).2 (a : Int) (List.mem_of_getElem? h3)
      rw [endOf_eq h4 h5] at this
      omega
  · rintro ⟨h1, h2⟩ k s j hk hs hj
    have hb : ¬ (s < 0 ∨ 100000000 < s) := fun h => h1 ⟨s, List.mem_of_getElem? hs, h⟩
    refine ⟨by omega, by omega, (rdy_le_iff st p.jobs j.after s).2 ⟨by omega, fun a ha => ?_⟩⟩
    obtain ⟨h3, h4⟩ := (hR.j k j hj).2.2.2.2 a ha
    obtain ⟨a, rfl⟩ : ∃ a' : Nat, a = (a' : Int) := ⟨a.toNat, by omega⟩
    obtain ⟨q, hq, e⟩ := List.getElem_of_mem ha
    obtain ⟨sa, hsa⟩ : ∃ x, st[a]? = some x := at_some (by omega)
    obtain ⟨ja, hja⟩ : ∃ x, p.jobs[a]? = some x := at_some (by omega)
    rw [endOf_eq hsa hja]
    have : ¬ s < sa + ja.long := fun h => h2 k ⟨s, j, q, a, sa, ja, hs, hj, by rw [List.getElem?_eq_getElem hq, e], hsa, hja, h⟩
    omega
set_option maxHeartbeats 8000000 in
set_option maxRecDepth 8000 in
/-- Span. -/
theorem span_any (A : Nat → Addr) : SpanL A := by
  intro w pv xv p st hS hp hT hf hx20
  obtain ⟨ja, jc, ca, cc, rfl, hM⟩ := hp
  obtain ⟨sa, sc, rfl⟩ := hT.shape
  obtain ⟨jobs, caps⟩ := p
  simp only at hM ⊢
  obtain ⟨nj, hnj⟩ : ∃ n, n = jobs.length := ⟨_, rfl⟩
  obtain ⟨nc, hnc⟩ : ∃ n, n = caps.length := ⟨_, rfl⟩
  obtain ⟨ns, hns⟩ : ∃ n, n = st.length := ⟨_, rfl⟩
  have kn := below_new w (.cells #[.slice ja jobs.length jc, .slice ca caps.length cc] 25)
  obtain ⟨p0, p1⟩ := two_new w 25 (.slice ja jobs.length jc) (.slice ca caps.length cc)
  have HM := hide (hM.later kn)
  have HS := hide (hS.later kn)
  have HT := hide (hT.later (JE.stays IsSl 0) kn)
  have HK := hide kn
  have s1 : nj ≤ 9223372036854775807 := by have := hM.j.small; unfold maxLen at this; simp only at this; omega
  clear hM kn hS hT hf
  obtain ⟨g, hg⟩ : ∃ X, X = w.heap.size := ⟨_, rfl⟩
  obtain ⟨W, hW⟩ : ∃ X, X = w.alloc (.cells #[.slice ja jobs.length jc, .slice ca caps.length cc] 25) := ⟨_, rfl⟩
  rw [← hns]
  go_enter Tryd.func4, Tryd.ntmps4
  go_upto_region 1 with fail
  rw [← hW, ← hg]
  rw [← hW] at HM HS HT HK p0 p1
  rw [← hg] at p0 p1
  rw [← hnj] at p0
  rw [← hnc] at p1
  rw [← hns] at HT hx20
  rw [← hnj, ← hnc]
  have HN := hide (And.intro hnj (And.intro hnc hns))
  have HPV := hide (show PlV W (.agg #[.slice ja nj jc, .slice ca nc cc]) ⟨jobs, caps⟩ by rw [hnj, hnc]; exact ⟨ja, jc, ca, cc, rfl, unhide HM⟩)
  clear hW hg hnj hnc hns
  go_wp2_with fail
  go_fit (planvalid_any _ (unhide HS) (unhide HPV))
  rintro e W1 ⟨rfl, hb⟩
  have HK := hide (below_keep hb (unhide HK))
  have HS := hide ((unhide HS).later hb)
  have HM := hide ((unhide HM).later hb)
  have HT := hide ((unhide HT).later (JE.stays IsSl 0) hb)
  have p0 := cell_keep hb p0
  have p1 := cell_keep hb p1
  clear hb HPV
  obtain ⟨e, he⟩ : ∃ e, e = plvalid ⟨jobs, caps⟩ := ⟨_, rfl⟩
  rw [← he]
  have hcod := plvalid_codes ⟨jobs, caps⟩
  rw [← he] at hcod
  have HE := hide he.symm
  clear he
  rcases hcod with rfl | rfl | rfl
  rotate_left
  · rw [errL2]
    go_wp2
    go_ret3
    exact ⟨by rw [spn, if_pos (by rw [unhide HE]; decide), unhide HE]; rfl, unhide HK⟩
  · rw [errL4]
    go_wp2
    go_ret3
    exact ⟨by rw [spn, if_pos (by rw [unhide HE]; decide), unhide HE]; rfl, unhide HK⟩
  rw [errL0]
  by_cases hln : ns = nj
  rotate_left
  · have hln' : ((ns : Int) != (nj : Int)) = true := by simp; omega
    have e3 := (unhide HS).h3
    go_upto_region 5 with fail
    go_quiet (fail)
    have HK := hide (below_drewN (unhide HK) nq)
    go_wp2
    go_ret3
    exact ⟨by rw [spn, if_neg (by rw [unhide HE]; decide), if_pos (by have := unhide HN; simp only; omega)]; rfl, unhide HK⟩
  have hln' : ((ns : Int) != (nj : Int)) = false := by simp; omega
  have HL := hide (show st.length = jobs.length by have := unhide HN; omega)
  have HP := hide (plr_of (unhide HE))
  have HSP := hide (show spn ⟨jobs, caps⟩ st = ((ends ⟨jobs, caps⟩ st).1, (ends ⟨jobs, caps⟩ st).2, 0) by rw [spn, if_neg (by rw [unhide HE]; decide), if_neg (by have := unhide HN; simp only; omega)])
  have n7 : nj ≤ 7 := by have := (unhide HP).nj; have := unhide HN; simp only at *; omega
  have HLN := hide hln
  clear hln HE
  go_wp2_with fail
  go_fit (intime_any (p := ⟨jobs, caps⟩) _ (unhide HM) (unhide HT) (unhide HN).1 (unhide HN).2.1 (unhide HN).2.2 (unhide HP) (unhide HL))
  rintro e W2 ⟨⟨bb, rfl, hbb⟩, hb⟩
  have HK := hide (below_keep hb (unhide HK))
  have HM := hide ((unhide HM).later hb)
  have HT := hide ((unhide HT).later (JE.stays IsSl 0) hb)
  have p0 := cell_keep hb p0
  have p1 := cell_keep hb p1
  rw [(unhide HN).1, inT_iff (unhide HP) (unhide HL)] at hbb
  have HBB := hide hbb
  clear hb hbb
  cases bb
  · have HE0 := hide (show ends ⟨jobs, caps⟩ st = (0, false) by
      by_cases h1 : bigS st
      · exact ends_big h1
      · by_cases h2 : ∃ i, badA ⟨jobs, caps⟩ st i
        · obtain ⟨i, h2⟩ := h2
          exact ends_bad (Or.inl h2)
        · have := (unhide HBB).2 ⟨h1, fun i h => h2 ⟨i, h⟩⟩
          cases this)
    go_wp2
    go_ret3
    exact ⟨by rw [unhide HSP, unhide HE0]; rfl, unhide HK⟩
  have HA := hide ((unhide HBB).1 rfl)
  have HSS := hide (show SmallS st from fun s hs => by have : ¬ (s < 0 ∨ 100000000 < s) := fun h => (unhide HA).1 ⟨s, hs, h⟩; omega)
  clear HBB
  go_wp2_with fail
  go_fit (enough_any (p := ⟨jobs, caps⟩) _ (unhide HM) (unhide HT) (unhide HN).1 (unhide HN).2.1 (unhide HN).2.2 (unhide HP) (unhide HL) (unhide HSS))
  rintro e W3 ⟨⟨bb, rfl, hbb⟩, hb⟩
  have HK := hide (below_keep hb (unhide HK))
  have HM := hide ((unhide HM).later hb)
  have HT := hide ((unhide HT).later (JE.stays IsSl 0) hb)
  have p0 := cell_keep hb p0
  have HBB := hide hbb
  clear hb hbb p1
  cases bb
  · have HE0 := hide (show ends ⟨jobs, caps⟩ st = (0, false) by
      by_cases h2 : ∃ i, badC ⟨jobs, caps⟩ st i
      · obtain ⟨i, h2⟩ := h2
        exact ends_bad (Or.inr h2)
      · have := (unhide HBB).2 fun i h => h2 ⟨i, h⟩
        cases this)
    go_wp2
    go_ret3
    exact ⟨by rw [unhide HSP, unhide HE0]; rfl, unhide HK⟩
  have HC := hide ((unhide HBB).1 rfl)
  have HE1 := hide (show ends ⟨jobs, caps⟩ st = (lastN st jobs jobs.length, true) from ends_good (unhide HA).1 (fun ⟨i, h⟩ => h.elim ((unhide HA).2 i) (unhide HC i)))
  clear HBB HC HA
  go_wp2_with fail
  obtain ⟨V, rfl⟩ : ∃ X, X = W3 := ⟨_, rfl⟩
  go_loopg [8, 9, 10, 36] nj (fun gk av _ _ iv wr => ∃ (i : Nat) (a : Int), i ≤ nj ∧ gk = nj - i ∧ av = .int .i64 a ∧ iv = .int .i64 (i : Int) ∧ Hid (Below V.heap.size V wr) ∧ Hid (a = lastN st jobs i))
  case atStart => exact ⟨0, 0, by omega, by omega, rfl, rfl, hide (Below.refl _ _), hide rfl⟩
  case round =>
    obtain ⟨i, a, hi, hgk, rfl, rfl, HB, HA⟩ := hrel
    have q0 := cell_keep (unhide HB) p0
    by_cases hin : i < nj
    · obtain ⟨j, hj⟩ : ∃ y, jobs[i]? = some y := at_some (by have := unhide HN; omega)
      obtain ⟨s, hs⟩ : ∃ y, st[i]? = some y := at_some (by have := unhide HN; have := unhide HL; omega)
      have hJR := (unhide HP).j i j hj
      obtain ⟨b, o, a1, c1, a2, c2, rfl, ⟨d0, d1, d2⟩, hjm⟩ := (unhide HM).j.job hj
      obtain ⟨sb, so, rfl, f0, _⟩ := (unhide HT).int hs
      have hb1 := unhide HSS s (List.mem_of_getElem? hs)
      have hb2 := hJR.1
      obtain ⟨ll, hll⟩ : ∃ x, x = j.long := ⟨_, rfl⟩
      rw [← hll] at d0 hb2
      have d0 := cell_keep (unhide HB) d0
      have d1 := cell_keep (unhide HB) d1
      have d2 := cell_keep (unhide HB) d2
      obtain ⟨k0, k1, k2⟩ := three_cells wr 39 (.int .i64 ll) (.slice a1 j.after.length c1) (.slice a2 j.uses.length c2)
      have kn := below_new wr (.cells #[.int .i64 ll, .slice a1 j.after.length c1, .slice a2 j.uses.length c2] 39)
      have HB := hide (below_keep kn (unhide HB))
      have hin' : (i : Int) < (nj : Int) := by omega
      have hin2 : (i : Int) < (ns : Int) := by have := unhide HLN; omega
      have ew : wrap64 (s + ll) = s + ll := by unfold wrap64; omega
      have ew2 : IntKind.i64.wrap (s + ll) = s + ll := by rw [wrapI64]; exact ew
      have HUS := hide (show lastN st jobs (i + 1) = if a < s + ll then s + ll else a by rw [lastN_succ hs hj, ← unhide HA, hll])
      have HGI := hide (And.intro hgk (And.intro hi hin))
      clear hj hs hJR hb1 hb2 hll hgk hi hin hjm
      go_upto_region 12 with fail
      obtain ⟨g2, hg2⟩ : ∃ X, X = wr.heap.size := ⟨_, rfl⟩
      obtain ⟨V1, hV⟩ : ∃ X, X = wr.alloc (.cells #[.int .i64 ll, .slice a1 j.after.length c1, .slice a2 j.uses.length c2] 39) := ⟨_, rfl⟩
      rw [← hV] at HB k0 k1 k2 kn ⊢
      rw [← hg2] at k0 k1 k2 ⊢
      have f0 := cell_keep (unhide HB) f0
      clear hV hg2 d0 d1 d2 kn q0
      by_cases hm : a < s + ll
      · go_quiet (fail)
        have HB' := hide (below_drewN (unhide HB) nq)
        go_wp2
        go_roundg (nj - (i + 1))
        case measure => have := unhide HGI; omega
        case rel => exact ⟨i + 1, s + ll, by have := unhide HGI; omega, rfl, rfl, by go_num, HB', hide (by rw [unhide HUS, if_pos hm])⟩
      · go_quiet (fail)
        have HB' := hide (below_drewN (unhide HB) nq)
        go_wp2
        go_roundg (nj - (i + 1))
        case measure => have := unhide HGI; omega
        case rel => exact ⟨i + 1, a, by have := unhide HGI; omega, rfl, rfl, by go_num, HB', hide (by rw [unhide HUS, if_neg (by omega)])⟩
    · obtain rfl : nj = i := by omega
      clear hin hi hgk
      go_wp2
      go_ret3
      exact ⟨by rw [unhide HSP, unhide HE1, ← (unhide HN).1, ← unhide HA]; rfl, below_keep (unhide HB) (unhide HK)⟩
theorem validL_any (A : Nat → Addr) : ValidL A := fun w _ _ hS hp _ => planvalid_any w hS hp
end Go.Proofs.YtmknlbldgjaagaaDoor
