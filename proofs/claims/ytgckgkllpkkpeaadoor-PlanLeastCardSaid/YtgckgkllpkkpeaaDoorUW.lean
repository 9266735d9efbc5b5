/-
  Jobs: the program's hasRoom.
-/
import Derived.Test.YtgckgkllpkkpeaaDoorUV
namespace Go.Proofs.YtgckgkllpkkpeaaDoor
open Go.RowKit

/-- What there is of a kind. -/
def capN (p : Pl) (k : Nat) : Int := (p.caps[k]?).getD 0
/-- There is enough for a job that begins at a moment. -/
def Room (p : Pl) (u : Nat → Nat → Int) (j a : Nat) : Prop := ∀ m k, a ≤ m → m < a + lgN p j → k < p.caps.length → u m k + usN p j k ≤ capN p k
set_option maxHeartbeats 8000000 in
set_option maxRecDepth 8000 in
/-- hasRoom. -/
theorem room_any {q : Rq} {S : Nat} {x : Nat → Nat} {b : Nat → Bool} {u : Nat → Nat → Int} (w : World) (hq : q.Ok) (h : Ros q w S x b u) {j a : Nat} (hj : j < q.p.jobs.length) (ha : a + lgN q.p j ≤ 30) (hu : ∀ m k, m < 30 → k < 7 → 0 ≤ u m k ∧ u m k ≤ 1000000000) :
    Calls Tryd.prog 38 #[.pointer (some ⟨q.R, 0, none⟩), .int .i64 (j : Int), .int .i64 (a : Int)] w fun e w' => YesP e (Room q.p u j a) ∧ Below w.heap.size w w' := by
  obtain ⟨jb, hjb⟩ : ∃ y, q.p.jobs[j]? = some y := at_some hj
  have hlg := lgN_eq hq.r hjb
  obtain ⟨jA, jo, a1, d1, a2, d2, hja, ⟨e0, e1, e2⟩, hjm⟩ := (hq.pl.later h.bel).j.job hjb
  have c0 := h.c0
  rw [hja] at c0
  have c1 := h.c1
  have HC := hide (hq.pl.later h.bel).c
  have HJM := hide hjm
  have HU := hide h.cu
  have HUB := hide hu
  have HJR := hide (hq.r.j j jb hjb)
  have HJB := hide hjb
  have HCP := hide hq.r.c
  have n7 := hq.r.nj
  have c7 := hq.r.nc
  obtain ⟨L, hL⟩ : ∃ n, n = lgN q.p j := ⟨_, rfl⟩
  rw [hlg, ← hL] at e0
  rw [← hL] at ha
  obtain ⟨n, hnn⟩ : ∃ n, n = q.p.jobs.length := ⟨_, rfl⟩
  obtain ⟨nc, hnc⟩ : ∃ n, n = q.p.caps.length := ⟨_, rfl⟩
  obtain ⟨nu, hnu⟩ : ∃ n, n = jb.uses.length := ⟨_, rfl⟩
  obtain ⟨R, hR⟩ : ∃ n, n = q.R := ⟨_, rfl⟩
  rw [← hR, ← hnn] at c0
  rw [← hR, ← hnc] at c1
  rw [← hR] at HU
  rw [← hnn] at n7 hj
  rw [← hnc] at c7 HC
  rw [← hnu] at e2
  rw [← hR]
  have HN := hide (And.intro hL (And.intro hnn (And.intro hnc hnu)))
  have hj' : (j : Int) < (n : Int) := by omega
  have k3 := three_cells w 50 (.int .i64 (L : Int)) (.slice a1 jb.after.length d1) (.slice a2 nu d2)
  have kn := below_new w (.cells #[.int .i64 (L : Int), .slice a1 jb.after.length d1, .slice a2 nu d2] 50)
  have ew : wrap64 ((a : Int) + (L : Int)) = (a : Int) + (L : Int) := by unfold wrap64; omega
  have ew2 : IntKind.i64.wrap ((a : Int) + (L : Int)) = (a : Int) + (L : Int) := by rw [wrapI64]; exact ew
  clear hL hnn hnc hnu hR hjm hjb hlg hja h hq hu
  go_enter Tryd.func38, Tryd.ntmps38
  go_upto_region 2 with fail
  obtain ⟨g, hg⟩ : ∃ X, X = w.heap.size := ⟨_, rfl⟩
  obtain ⟨W, hW⟩ : ∃ X, X = w.alloc (.cells #[.int .i64 (L : Int), .slice a1 jb.after.length d1, .slice a2 nu d2] 50) := ⟨_, rfl⟩
  rw [← hW, ← hg]
  rw [← hW, ← hg] at k3
  rw [← hW] at kn
  have HK := hide kn
  have HG := hide hg
  obtain ⟨k0, k1, k2⟩ := k3
  have c0 := cell_keep kn c0
  have c1 := cell_keep kn c1
  clear hg hW kn e0 e1 e2
  have h1 : (0 : Int) ≤ (a : Int) := by omega
  have h2 : (a : Int) ≤ (a : Int) + (L : Int) := by omega
  have h3 : (a : Int) + (L : Int) ≤ 30 := by omega
  by_cases a30 : a = 30
  · subst a30
    obtain rfl : L = 0 := by omega
    go_quiet (fail)
    have HK := hide (below_drewN (unhide HK) nq)
    obtain ⟨V, hV⟩ : ∃ X, X = W.drewN nq := ⟨_, rfl⟩
    rw [← hV]
    rw [← hV] at HK
    clear hV
    go_wp2_with fail
    go_loopg [9, 10, 11, 30] 0 (fun gk _ _ _ iv wr => gk = 0 ∧ iv = .int .i64 0 ∧ wr = V)
    case atStart => exact ⟨rfl, rfl, rfl⟩
    case round =>
      obtain ⟨_, rfl, rfl⟩ := hrel
      go_wp2
      go_ret
      exact ⟨YesP.yes fun m k hm1 hm2 _ => absurd hm2 (by have := (unhide HN).1; omega), unhide HK⟩
  have a31 : ¬ (a : Int) = 30 := by omega
  go_quiet (fail)
  rw [show a + L - a = L by omega]
  have HK := hide (below_drewN (unhide HK) nq)
  have HWV := hide (below_drewN (Below.refl W.heap.size W) nq)
  obtain ⟨V, hV⟩ : ∃ X, X = W.drewN nq := ⟨_, rfl⟩
  rw [← hV]
  rw [← hV] at HK HWV
  have c1 := cell_keep (unhide HWV) c1
  have k2 := cell_keep (unhide HWV) k2
  clear hV h1 h2 h3 c0 k0 k1
  go_wp2_with fail
  go_loopg [9, 10, 11, 30] L (fun gk _ _ _ iv wr => ∃ i : Nat, i ≤ L ∧ gk = L - i ∧ iv = .int .i64 (i : Int) ∧ Hid (Below V.heap.size V wr) ∧ Hid (∀ m k, a ≤ m → m < a + i → k < q.p.caps.length → u m k + usN q.p j k ≤ capN q.p k))
  case atStart => exact ⟨0, by omega, by omega, rfl, hide (Below.refl _ _), hide (by intro m k h1 h2; omega)⟩
  case round =>
    obtain ⟨i, hi, hgk, rfl, HB, HA⟩ := hrel
    by_cases hin : i < L
    · have hin' : (i : Int) < (L : Int) := by omega
      have HF := hide (show ∀ k, k < 7 → wr.cell? ⟨R, 6 + a * 7 + i * 7 + k, none⟩ = some (.int .i64 (u (a + i) k)) from fun k hk => by
        have := unhide HU (a + i) k (by omega) hk
        rw [show 6 + (a + i) * 7 + k = 6 + a * 7 + i * 7 + k by omega] at this
        exact cell_keep (below_keep (unhide HB) (unhide HK)) this)
      have f0 := unhide HF 0 (by decide)
      have f1 := unhide HF 1 (by decide)
      have f2 := unhide HF 2 (by decide)
      have f3 := unhide HF 3 (by decide)
      have f4 := unhide HF 4 (by decide)
      have f5 := unhide HF 5 (by decide)
      have f6 := unhide HF 6 (by decide)
      rw [Nat.add_zero] at f0
      have kn := below_new wr (.cells #[.int .i64 (u (a + i) 0), .int .i64 (u (a + i) 1), .int .i64 (u (a + i) 2), .int .i64 (u (a + i) 3), .int .i64 (u (a + i) 4), .int .i64 (u (a + i) 5), .int .i64 (u (a + i) 6)] 45)
      have HB := hide (below_keep kn (unhide HB))
      have HGI := hide (And.intro hgk (And.intro hi hin))
      clear hgk hi hin kn
      have k2 := cell_keep (unhide HB) k2
      go_upto_region 5 with fail
      have HC7 := hide (new_cell (X := wr) rfl #[.int .i64 (u (a + i) 0), .int .i64 (u (a + i) 1), .int .i64 (u (a + i) 2), .int .i64 (u (a + i) 3), .int .i64 (u (a + i) 4), .int .i64 (u (a + i) 5), .int .i64 (u (a + i) 6)] 45)
      obtain ⟨g2, hg2⟩ : ∃ X, X = wr.heap.size := ⟨_, rfl⟩
      obtain ⟨V1, hV1⟩ : ∃ X, X = wr.alloc (.cells #[.int .i64 (u (a + i) 0), .int .i64 (u (a + i) 1), .int .i64 (u (a + i) 2), .int .i64 (u (a + i) 3), .int .i64 (u (a + i) 4), .int .i64 (u (a + i) 5), .int .i64 (u (a + i) 6)] 45) := ⟨_, rfl⟩
      rw [← hV1, ← hg2] at HC7
      rw [← hV1, ← hg2]
      rw [← hV1] at HB k2
      have HC7 := hide (show ∀ k, k < 7 → V1.cell? ⟨g2, k, none⟩ = some (.int .i64 (u (a + i) k)) from fun k hk => by
        rw [unhide HC7 k]
        rcases k with _ | _ | _ | _ | _ | _ | _ | k
        · rfl
        · rfl
        · rfl
        · rfl
        · rfl
        · rfl
        · rfl
        · omega)
      clear hV1 hg2 f0 f1 f2 f3 f4 f5 f6 HF
      have c1 := cell_keep (unhide HB) c1
      go_wp2_with fail
      go_loopg [10, 11, 37] nu (fun gk _ _ kv wr => ∃ k : Nat, k ≤ nu ∧ gk = nu - k ∧ kv = .int .i64 (k : Int) ∧ Hid (Below V1.heap.size V1 wr) ∧ Hid (∀ k', k' < k → u (a + i) k' + usN q.p j k' ≤ capN q.p k'))
      case atStart => exact ⟨0, by omega, by omega, rfl, hide (Below.refl _ _), hide (by intro k h1; omega)⟩
      case round =>
        obtain ⟨k, hk, hgk, rfl, HB2, HA2⟩ := hrel
        have c1 := cell_keep (unhide HB2) c1
        by_cases hkn : k < nu
        · have hnuc : nu = nc := by have h1 := (unhide HJR).2.2.1; have h2 := unhide HN; omega
          obtain ⟨v, hv⟩ : ∃ x, jb.uses[k]? = some x := at_some (by have := unhide HN; omega)
          obtain ⟨c, hc⟩ : ∃ x, q.p.caps[k]? = some x := at_some (by have := unhide HN; omega)
          obtain ⟨ub, uo, rfl, r0, _⟩ := (unhide HJM).r2.int hv
          obtain ⟨cb, co, hca, r1, _⟩ := (unhide HC).int hc
          have r0 := cell_keep (unhide HB2) (cell_keep (unhide HB) (cell_keep (unhide HK) r0))
          have r1 := cell_keep (unhide HB2) (cell_keep (unhide HB) (cell_keep (unhide HK) r1))
          have r2 := cell_keep (unhide HB2) (unhide HC7 k (by omega))
          rw [hca] at c1
          have hb1 := (unhide HJR).2.2.2.1 k v c hv hc
          have hb2 := unhide HCP c (List.mem_of_getElem? hc)
          have hb3 := unhide HUB (a + i) k (by have := unhide HGI; omega) (by omega)
          have HUS := hide (And.intro (usN_eq (unhide HJB) hv) (show capN q.p k = c by simp [capN, hc]))
          obtain ⟨uu, huu⟩ : ∃ x, x = u (a + i) k := ⟨_, rfl⟩
          rw [← huu] at r2 hb3
          have HUU := hide huu
          have hk1 : (k : Int) < (nu : Int) := by omega
          have hk2 : (k : Int) < (nc : Int) := by omega
          have hk3 : (k : Int) < 7 := by omega
          have ew : wrap64 (uu + v) = uu + v := by unfold wrap64; omega
          have ew2 : IntKind.i64.wrap (uu + v) = uu + v := by rw [wrapI64]; exact ew
          have HGK := hide (And.intro hgk (And.intro hk hkn))
          clear hv hc hca hb1 hb2 hb3 huu hgk hk hkn hnuc
          go_upto_region 8 with fail
          by_cases hz : c < uu + v
          · go_quiet (fail)
            have HB2 := hide (below_drewN (unhide HB2) nq)
            go_wp2
            go_ret
            refine ⟨YesP.no fun h => ?_, below_keep (unhide HB2) (below_keep (unhide HB) (unhide HK))⟩
            have h1 := unhide HGK
            have h2 := unhide HGI
            have h3 := unhide HN
            have h4 := (unhide HJR).2.2.1
            have := h (a + i) k (by omega) (by omega) (by omega)
            rw [(unhide HUS).1, (unhide HUS).2, ← unhide HUU] at this
            omega
          · go_quiet (fail)
            have HB2 := hide (below_drewN (unhide HB2) nq)
            go_wp2
            go_roundg (nu - (k + 1))
            case measure => have := unhide HGK; omega
            case rel => exact ⟨k + 1, by have := unhide HGK; omega, rfl, by go_num, HB2, hide (by
              intro k' hk'
              by_cases e : k' = k
              · subst e
                rw [(unhide HUS).1, (unhide HUS).2, ← unhide HUU]
                omega
              · exact unhide HA2 k' (by omega))⟩
        · obtain rfl : nu = k := by omega
          have HB := hide (below_keep (unhide HB2) (unhide HB))
          clear hkn hk hgk HB2
          go_wp2
          go_roundg (L - (i + 1))
          case measure => have := unhide HGI; omega
          case rel => exact ⟨i + 1, by have := unhide HGI; omega, rfl, by go_num, HB, hide (by
            intro m k h1 h2 h3
            by_cases e : m = a + i
            · subst e
              exact unhide HA2 k (by have h4 := (unhide HJR).2.2.1; have h5 := unhide HN; omega)
            · exact unhide HA m k h1 (by omega) h3)⟩
    · obtain rfl : L = i := by omega
      clear hin hi hgk
      go_wp2
      go_ret
      refine ⟨YesP.yes fun m k h1 h2 h3 => ?_, below_keep (unhide HB) (unhide HK)⟩
      exact unhide HA m k h1 (by have := (unhide HN).1; omega) h3
end Go.Proofs.YtgckgkllpkkpeaaDoor
