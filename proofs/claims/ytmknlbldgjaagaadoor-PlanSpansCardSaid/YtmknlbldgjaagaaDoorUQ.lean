/-
  Jobs: the program's usedAt, haveEnough.
-/
import Derived.Test.YtmknlbldgjaagaaDoorUP
namespace Go.Proofs.YtmknlbldgjaagaaDoor
open Go.RowKit

/-- All starts are moments that there are. -/
def SmallS (st : List Int) : Prop := ∀ s ∈ st, 0 ≤ s ∧ s ≤ 100000000
set_option maxHeartbeats 8000000 in
set_option maxRecDepth 8000 in
/-- usedAt. -/
theorem usedat_any {p : Pl} {ja ca sa : Option Addr} {cc jc sc nj nc ns c : Nat} {st : List Int} {t : Int} (w : World) (hM : PlM w p ja jc ca cc) (hT : Rows 1 JE w (.slice sa ns sc) st) (hnj : nj = p.jobs.length) (hns : ns = st.length) (hR : PlR p) (hl : st.length = p.jobs.length) (hS : SmallS st) (hc : c < p.caps.length) :
    Calls Tryd.prog 18 #[.agg #[.slice ja nj jc, .slice ca nc cc], .slice sa ns sc, .int .i64 (c : Int), .int .i64 t] w fun e w' => e = .returned (.int .i64 (useN st p.jobs t c nj)) ∧ Below w.heap.size w w' := by
  obtain ⟨jobs, caps⟩ := p
  simp only at hnj hl hc ⊢
  have kn := below_new w (.cells #[.slice ja nj jc, .slice ca nc cc] 25)
  obtain ⟨p0, p1⟩ := two_new w 25 (.slice ja nj jc) (.slice ca nc cc)
  have HM := hide (hM.later kn)
  have HT := hide (hT.later (JE.stays IsSl 0) kn)
  have HR := hide hR
  have HSS := hide hS
  have HK := hide kn
  have HN := hide (And.intro hnj (And.intro hns (And.intro hl hc)))
  have n7 : nj ≤ 7 := by have := hR.nj; simp only at this; omega
  have hsn : ns = nj := by omega
  have HSN := hide hsn
  clear hM hT hR kn hnj hns hl hc hS hsn
  obtain ⟨g, hg⟩ : ∃ X, X = w.heap.size := ⟨_, rfl⟩
  obtain ⟨W, hW⟩ : ∃ X, X = w.alloc (.cells #[.slice ja nj jc, .slice ca nc cc] 25) := ⟨_, rfl⟩
  go_enter Tryd.func18, Tryd.ntmps18
  go_upto_region 2 with fail
  rw [← hW, ← hg]
  rw [← hW] at HM HT HK p0 p1
  rw [← hg] at p0 p1
  clear hW hg p1
  go_wp2_with fail
  go_loopg [9, 10, 11, 15] nj (fun gk av _ _ iv wr => ∃ (i : Nat) (a : Int), i ≤ nj ∧ gk = nj - i ∧ av = .int .i64 a ∧ iv = .int .i64 (i : Int) ∧ Hid (Below W.heap.size W wr) ∧ Hid (a = useN st jobs t c i ∧ 0 ≤ a ∧ a ≤ 100000000 * (i : Int)))
  case atStart => exact ⟨0, 0, by omega, by omega, rfl, rfl, hide (Below.refl _ _), hide ⟨rfl, by decide, by decide⟩⟩
  case round =>
    obtain ⟨i, a, hi, hgk, rfl, rfl, HB, HA⟩ := hrel
    by_cases hin : i < nj
    · obtain ⟨j, hj⟩ : ∃ y, jobs[i]? = some y := at_some (by have := unhide HN; omega)
      obtain ⟨s, hs⟩ : ∃ y, st[i]? = some y := at_some (by have := unhide HN; omega)
      have hJR := (unhide HR).j i j hj
      obtain ⟨u, hu⟩ : ∃ x, j.uses[c]? = some x := at_some (by have h1 := hJR.2.2.1; have := unhide HN; simp only at h1; omega)
      obtain ⟨cap, hcap⟩ : ∃ x, caps[c]? = some x := at_some (by have := unhide HN; omega)
      obtain ⟨b, o, a1, c1, a2, c2, rfl, ⟨d0, d1, d2⟩, hjm⟩ := (unhide HM).j.job hj
      obtain ⟨sb, so, rfl, f0, _⟩ := (unhide HT).int hs
      obtain ⟨ub, uo, rfl, f1, _⟩ := hjm.r2.int hu
      have hb1 := unhide HSS s (List.mem_of_getElem? hs)
      have hb2 := hJR.1
      have hb3 := hJR.2.2.2.1 c u cap hu hcap
      have hb4 := (unhide HR).c cap (List.mem_of_getElem? hcap)
      have hA := unhide HA
      obtain ⟨ll, hll⟩ : ∃ x, x = j.long := ⟨_, rfl⟩
      rw [← hll] at d0 hb2
      obtain ⟨nu, hnu⟩ : ∃ x, x = j.uses.length := ⟨_, rfl⟩
      rw [← hnu] at d2
      have hcu : (c : Int) < (nu : Int) := by have := (List.getElem?_eq_some_iff.1 hu).1; omega
      have d0 := cell_keep (unhide HB) d0
      have d1 := cell_keep (unhide HB) d1
      have d2 := cell_keep (unhide HB) d2
      obtain ⟨k0, k1, k2⟩ := three_cells wr 39 (.int .i64 ll) (.slice a1 j.after.length c1) (.slice (some ⟨ub, uo, none⟩) nu c2)
      have kn := below_new wr (.cells #[.int .i64 ll, .slice a1 j.after.length c1, .slice (some ⟨ub, uo, none⟩) nu c2] 39)
      have q0 := cell_keep (unhide HB) p0
      have HB := hide (below_keep kn (unhide HB))
      have hin' : (i : Int) < (nj : Int) := by omega
      have hin2 : (i : Int) < (ns : Int) := by have := unhide HSN; omega
      have ew : wrap64 (s + ll) = s + ll := by unfold wrap64; omega
      have ew2 : IntKind.i64.wrap (s + ll) = s + ll := by rw [wrapI64]; exact ew
      have eu : wrap64 (a + u) = a + u := by unfold wrap64; omega
      have HUS := hide (show useN st jobs t c (i + 1) = if s ≤ t ∧ t < s + ll then a + u else a by rw [useN_succ hs hj hu, ← hA.1, hll])
      have HUB := hide (show 0 ≤ a + u ∧ a + u ≤ 100000000 * ((i + 1 : Nat) : Int) ∧ 0 ≤ a ∧ a ≤ 100000000 * ((i + 1 : Nat) : Int) by omega)
      have HGI := hide (And.intro hgk (And.intro hi hin))
      clear hj hs hJR hu hcap hb1 hb2 hb3 hb4 hA hll hnu hgk hi hin hjm
      go_upto_region 5 with fail
      obtain ⟨g2, hg2⟩ : ∃ X, X = wr.heap.size := ⟨_, rfl⟩
      obtain ⟨V, hV⟩ : ∃ X, X = wr.alloc (.cells #[.int .i64 ll, .slice a1 j.after.length c1, .slice (some ⟨ub, uo, none⟩) nu c2] 39) := ⟨_, rfl⟩
      rw [← hV] at HB k0 k1 k2 kn ⊢
      rw [← hg2] at k0 k1 k2 ⊢
      have f0 := cell_keep (unhide HB) f0
      have f1 := cell_keep (unhide HB) f1
      clear hV hg2 d0 d1 d2 kn q0
      by_cases hz : s ≤ t
      · have hd : decide (s ≤ t) = true := decide_eq_true hz
        by_cases hz2 : t < s + ll
        · have hd2 : decide (t < s + ll) = true := decide_eq_true hz2
          go_quiet (fail)
          have HB' := hide (below_drewN (unhide HB) nq)
          go_wp2
          go_roundg (nj - (i + 1))
          case measure => have := unhide HGI; omega
          case rel => exact ⟨i + 1, a + u, by have := unhide HGI; omega, rfl, (by first | rfl | rw [eu]), by go_num, HB', hide ⟨by rw [unhide HUS, if_pos ⟨hz, hz2⟩], (unhide HUB).1, (unhide HUB).2.1⟩⟩
        · have hd2 : decide (t < s + ll) = false := decide_eq_false hz2
          go_quiet (fail)
          have HB' := hide (below_drewN (unhide HB) nq)
          go_wp2
          go_roundg (nj - (i + 1))
          case measure => have := unhide HGI; omega
          case rel => exact ⟨i + 1, a, by have := unhide HGI; omega, rfl, rfl, by go_num, HB', hide ⟨by rw [unhide HUS, if_neg (fun h => by omega)], (unhide HUB).2.2⟩⟩
      · have hd : decide (s ≤ t) = false := decide_eq_false hz
        go_quiet (fail)
        have HB' := hide (below_drewN (unhide HB) nq)
        go_wp2
        go_roundg (nj - (i + 1))
        case measure => have := unhide HGI; omega
        case rel => exact ⟨i + 1, a, by have := unhide HGI; omega, rfl, rfl, by go_num, HB', hide ⟨by rw [unhide HUS, if_neg (fun h => by omega)], (unhide HUB).2.2⟩⟩
    · obtain rfl : nj = i := by omega
      clear hin hi hgk
      go_wp2
      go_ret
      exact ⟨by rw [← (unhide HA).1]; rfl, below_keep (unhide HB) (unhide HK)⟩
set_option maxHeartbeats 8000000 in
set_option maxRecDepth 8000 in
/-- haveEnough. -/
theorem enough_any {p : Pl} {ja ca sa : Option Addr} {cc jc sc nj nc ns : Nat} {st : List Int} (w : World) (hM : PlM w p ja jc ca cc) (hT : Rows 1 JE w (.slice sa ns sc) st) (hnj : nj = p.jobs.length) (hnc : nc = p.caps.length) (hns : ns = st.length) (hR : PlR p) (hl : st.length = p.jobs.length) (hS : SmallS st) :
    Calls Tryd.prog 12 #[.agg #[.slice ja nj jc, .slice ca nc cc], .slice sa ns sc] w fun e w' => YesP e (∀ i, ¬ badC p st i) ∧ Below w.heap.size w w' := by
  obtain ⟨jobs, caps⟩ := p
  simp only at hnj hnc hl
  have kn := below_new w (.cells #[.slice ja nj jc, .slice ca nc cc] 25)
  obtain ⟨p0, p1⟩ := two_new w 25 (.slice ja nj jc) (.slice ca nc cc)
  have HM := hide (hM.later kn)
  have HT := hide (hT.later (JE.stays IsSl 0) kn)
  have HR := hide hR
  have HSS := hide hS
  have HK := hide kn
  have HN := hide (And.intro hnj (And.intro hnc (And.intro hns hl)))
  have n7 : nj ≤ 7 := by have := hR.nj; simp only at this; omega
  have c7 : nc ≤ 7 := by have := hR.nc; simp only at this; omega
  have hsn : ns = nj := by omega
  have HSN := hide hsn
  have s7 : ns ≤ 7 := by omega
  clear hM hT hR kn hnj hnc hns hl hS hsn
  obtain ⟨g, hg⟩ : ∃ X, X = w.heap.size := ⟨_, rfl⟩
  obtain ⟨W, hW⟩ : ∃ X, X = w.alloc (.cells #[.slice ja nj jc, .slice ca nc cc] 25) := ⟨_, rfl⟩
  go_enter Tryd.func12, Tryd.ntmps12
  go_upto_region 1 with fail
  rw [← hW, ← hg]
  rw [← hW] at HM HT HK p0 p1
  rw [← hg] at p0 p1
  clear hW hg
  go_wp2_with fail
  go_loopg [6, 7, 8, 11] ns (fun gk _ _ _ iv wr => ∃ (i : Nat), i ≤ ns ∧ gk = ns - i ∧ iv = .int .i64 (i : Int) ∧ Hid (Below W.heap.size W wr) ∧ Hid (∀ i', i' < i → ¬ badC ⟨jobs, caps⟩ st i'))
  case atStart => exact ⟨0, by omega, by omega, rfl, hide (Below.refl _ _), hide (by intro k hk; omega)⟩
  case round =>
    obtain ⟨i, hi, hgk, rfl, HB, HA⟩ := hrel
    by_cases hin : i < ns
    · obtain ⟨s, hs⟩ : ∃ y, st[i]? = some y := at_some (by have := unhide HN; omega)
      obtain ⟨sb, so, rfl, f0, _⟩ := (unhide HT).int hs
      have f0 := cell_keep (unhide HB) f0
      have q1 := cell_keep (unhide HB) p1
      have HX := hide hs
      have hin' : (i : Int) < (ns : Int) := by omega
      have HGI := hide (And.intro hgk (And.intro hi hin))
      clear hs hgk hi hin
      go_wp2_with fail
      go_loopg [7, 8, 18] nc (fun gk _ _ cv wr => ∃ c : Nat, c ≤ nc ∧ gk = nc - c ∧ cv = .int .i64 (c : Int) ∧ Hid (Below W.heap.size W wr) ∧ Hid (∀ (c' : Nat) (cap : Int), c' < c → caps[c']? = some cap → ¬ cap < useN st jobs s c' jobs.length))
      case atStart => exact ⟨0, by omega, by omega, rfl, HB, hide (by intro c' _ h; omega)⟩
      case round =>
        clear HB q1 f0
        obtain ⟨c, hk, hgk, rfl, HB, HK2⟩ := hrel
        have q0 := cell_keep (unhide HB) p0
        have q1 := cell_keep (unhide HB) p1
        by_cases hkn : c < nc
        · obtain ⟨cap, hcap⟩ : ∃ x, caps[c]? = some x := at_some (by have := unhide HN; omega)
          obtain ⟨cb, co, rfl, g0, _⟩ := (unhide HM).c.int hcap
          have g0 := cell_keep (unhide HB) g0
          have HCAP := hide hcap
          have hkn' : (c : Int) < (nc : Int) := by omega
          have HGC := hide (And.intro hgk (And.intro hk hkn))
          clear hcap hgk hk hkn
          go_wp2_with fail
          go_fit (usedat_any (c := c) (p := ⟨jobs, caps⟩) _ ((unhide HM).later (unhide HB)) ((unhide HT).later (JE.stays IsSl 0) (unhide HB)) (unhide HN).1 (unhide HN).2.2.1 (unhide HR) (unhide HN).2.2.2 (unhide HSS) (by have := unhide HN; have := unhide HGC; simp only; omega))
          rintro e W2 ⟨rfl, hb⟩
          have HB := hide (below_keep hb (unhide HB))
          clear hb q0 q1 g0
          obtain ⟨u, hu⟩ : ∃ x, x = useN st jobs s c nj := ⟨_, rfl⟩
          rw [← hu]
          have HUE := hide (show u = useN st jobs s c jobs.length by rw [← (unhide HN).1]; exact hu)
          clear hu
          by_cases hz : cap < u
          · go_wp2
            go_ret
            refine ⟨YesP.no fun h => ?_, below_keep (unhide HB) (unhide HK)⟩
            exact h i ⟨s, c, cap, unhide HX, unhide HCAP, by rw [unhide HUE] at hz; exact hz⟩
          · go_wp2
            go_roundg (nc - (c + 1))
            case measure => have := unhide HGC; omega
            case rel => exact ⟨c + 1, by have := unhide HGC; omega, rfl, by go_num, HB, hide (by
              intro c' cap' hc' h1
              by_cases e : c' = c
              · subst e
                rw [unhide HCAP] at h1
                obtain rfl := Option.some.inj h1
                rw [← unhide HUE]
                omega
              · exact unhide HK2 c' cap' (by omega) h1)⟩
        · obtain rfl : nc = c := by omega
          have HNC := hide (show ¬ badC ⟨jobs, caps⟩ st i by
            rintro ⟨s', c', cap', h1, h2, h3⟩
            rw [unhide HX] at h1
            obtain rfl := Option.some.inj h1
            exact unhide HK2 c' cap' (by have h4 : c' < caps.length := (List.getElem?_eq_some_iff.1 h2).1; have := unhide HN; omega) h2 h3)
          clear hkn hk hgk HK2
          obtain ⟨hgk, hi, hin⟩ := unhide HGI
          go_wp2
          go_roundg (ns - (i + 1))
          case measure => omega
          case rel => exact ⟨i + 1, by omega, rfl, by go_num, HB, hide (by
            intro i' hi' h
            by_cases e : i' = i
            · subst e
              exact unhide HNC h
            · exact unhide HA i' (by omega) h)⟩
    · obtain rfl : ns = i := by omega
      clear hin hi hgk
      go_wp2
      go_ret
      refine ⟨YesP.yes fun i h => ?_, below_keep (unhide HB) (unhide HK)⟩
      refine unhide HA i ?_ h
      obtain ⟨s, _, _, h1, _⟩ := h
      have := (List.getElem?_eq_some_iff.1 h1).1
      have := unhide HN
      omega
end Go.Proofs.YtmknlbldgjaagaaDoor
