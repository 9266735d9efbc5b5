/-
  Jobs: the program's canBoth.
-/
import Derived.Test.YtgckgkllpkkpeaaDoorZE
namespace Go.Proofs.YtgckgkllpkkpeaaDoor
open Go.RowKit

/-- A job can run while another one behind it does. -/
def CanB (p : Pl) (i j : Nat) : Prop := ¬ Aft p j i ∧ ∀ k, k < p.caps.length → usN p i k + usN p j k ≤ capN p k
set_option maxHeartbeats 8000000 in
set_option maxRecDepth 8000 in
/-- canBoth. -/
theorem both_any {p : Pl} {ja ca : Option Addr} {jc cc : Nat} (w : World) (hM : PlM w p ja jc ca cc) (hR : PlR p) {i j : Nat} (hi : i < p.jobs.length) (hj : j < p.jobs.length) :
    Calls Tryd.prog 27 #[.agg #[.slice ja p.jobs.length jc, .slice ca p.caps.length cc], .int .i64 (i : Int), .int .i64 (j : Int)] w fun e w' => YesP e (CanB p i j) ∧ Below w.heap.size w w' := by
  obtain ⟨x, hx⟩ : ∃ y, p.jobs[i]? = some y := at_some hi
  obtain ⟨y, hy⟩ : ∃ y, p.jobs[j]? = some y := at_some hj
  have kn := below_new w (.cells #[.slice ja p.jobs.length jc, .slice ca p.caps.length cc] 25)
  obtain ⟨p0, p1⟩ := two_new w 25 (.slice ja p.jobs.length jc) (.slice ca p.caps.length cc)
  have hM := hM.later kn
  obtain ⟨jA, jo, a1, d1, a2, d2, hja, ⟨e0, e1, e2⟩, hjx⟩ := hM.j.job hx
  obtain ⟨jA', jo', a3, d3, a4, d4, hja', ⟨f0, f1, f2⟩, hjy⟩ := hM.j.job hy
  rw [hja] at hja'
  obtain ⟨rfl, rfl⟩ : jA = jA' ∧ jo = jo' := by simpa using hja'
  have HC := hide hM.c
  have HJX := hide hjx
  have HJY := hide hjy
  have HXY := hide (And.intro hx hy)
  have HRX := hide (hR.j i x hx)
  have HRY := hide (hR.j j y hy)
  have HCB := hide hR.c
  have n7 := hR.nj
  have c7 := hR.nc
  rw [hja] at p0
  rw [hja] at kn p1
  have HAF := hide (show (Aft p j i ↔ (i : Int) ∈ y.after) from ⟨fun ⟨y', h1, h2⟩ => by rw [hy] at h1; obtain rfl := Option.some.inj h1; exact h2, fun h => ⟨y, hy, h⟩⟩)
  obtain ⟨n, hnn⟩ : ∃ n, n = p.jobs.length := ⟨_, rfl⟩
  obtain ⟨nc, hnc⟩ : ∃ n, n = p.caps.length := ⟨_, rfl⟩
  obtain ⟨nx, hnx⟩ : ∃ n, n = x.uses.length := ⟨_, rfl⟩
  obtain ⟨ny, hny⟩ : ∃ n, n = y.uses.length := ⟨_, rfl⟩
  rw [← hnn, ← hnc] at p0 p1 kn
  rw [← hnn] at n7 hi hj
  rw [← hnc] at c7
  rw [← hnx] at e2
  rw [← hny] at f2
  rw [hja, ← hnn, ← hnc]
  obtain ⟨g, hg⟩ : ∃ X, X = w.heap.size := ⟨_, rfl⟩
  obtain ⟨W, hW⟩ : ∃ X, X = w.alloc (.cells #[.slice (some ⟨jA, jo, none⟩) n jc, .slice ca nc cc] 25) := ⟨_, rfl⟩
  rw [hja, ← hnn, ← hnc, ← hW] at e0 e1 e2 f0 f1 f2 HJX HJY HC
  rw [← hW] at p0 p1 kn
  rw [← hg] at p0 p1
  have HK := hide kn
  have HN := hide (And.intro hnn (And.intro hnc (And.intro hnx hny)))
  have hi' : (i : Int) < (n : Int) := by omega
  have hj' : (j : Int) < (n : Int) := by omega
  clear hjx hjy hM hja hja' hnn hnc hnx hny kn hx hy hR
  go_enter Tryd.func27, Tryd.ntmps27
  go_upto_region 1 with fail
  rw [← hW, ← hg]
  clear hW hg
  have hco := con_any (x := (i : Int)) W (unhide HJY).r1
  go_wp2_with fail
  go_fit hco
  rintro e W1 ⟨rfl, rfl⟩
  clear hco
  by_cases hin : (i : Int) ∈ y.after
  · have hd : decide ((i : Int) ∈ y.after) = true := decide_eq_true hin
    rw [hd]
    have HIN := hide hin
    clear hin hd
    go_wp2
    go_ret
    exact ⟨YesP.no fun h => h.1 ((unhide HAF).2 (unhide HIN)), unhide HK⟩
  have hd : decide ((i : Int) ∈ y.after) = false := decide_eq_false hin
  rw [hd]
  have HIN := hide hin
  clear hin hd
  go_wp2_with fail
  go_loopg [7, 8, 20] nc (fun gk _ _ kv wr => ∃ k : Nat, k ≤ nc ∧ gk = nc - k ∧ kv = .int .i64 (k : Int) ∧ Hid (Below W1.heap.size W1 wr) ∧ Hid (∀ k', k' < k → usN p i k' + usN p j k' ≤ capN p k'))
  case atStart => exact ⟨0, by omega, by omega, rfl, hide (Below.refl _ _), hide (by intro k h1; omega)⟩
  case round =>
    obtain ⟨k, hk, hgk, rfl, HB, HA⟩ := hrel
    by_cases hkn : k < nc
    · have hnx : nx = nc := by have h1 := (unhide HRX).2.2.1; have h2 := unhide HN; omega
      have hny : ny = nc := by have h1 := (unhide HRY).2.2.1; have h2 := unhide HN; omega
      obtain ⟨u, hu⟩ : ∃ z, x.uses[k]? = some z := at_some (by have := unhide HN; omega)
      obtain ⟨v, hv⟩ : ∃ z, y.uses[k]? = some z := at_some (by have := unhide HN; omega)
      obtain ⟨c, hc⟩ : ∃ z, p.caps[k]? = some z := at_some (by have := unhide HN; omega)
      obtain ⟨ub, uo, rfl, r0, _⟩ := (unhide HJX).r2.int hu
      obtain ⟨vb, vo, rfl, r1, _⟩ := (unhide HJY).r2.int hv
      obtain ⟨cb, co, rfl, r2, _⟩ := (unhide HC).int hc
      have r0 := cell_keep (unhide HB) r0
      have r1 := cell_keep (unhide HB) r1
      have r2 := cell_keep (unhide HB) r2
      have p0 := cell_keep (unhide HB) p0
      have e2 := cell_keep (unhide HB) e2
      have f2 := cell_keep (unhide HB) f2
      have b1 := (unhide HRX).2.2.2.1 k u c hu hc
      have b2 := (unhide HRY).2.2.2.1 k v c hv hc
      have b3 := unhide HCB c (List.mem_of_getElem? hc)
      have HU := hide (show usN p i k = u ∧ usN p j k = v ∧ capN p k = c from ⟨usN_eq (unhide HXY).1 hu, usN_eq (unhide HXY).2 hv, by simp [capN, hc]⟩)
      have hkc : (k : Int) < (nc : Int) := by omega
      have hkx : (k : Int) < (nx : Int) := by omega
      have hky : (k : Int) < (ny : Int) := by omega
      have ew : IntKind.i64.wrap (u + v) = u + v := by rw [wrapI64]; unfold wrap64; omega
      have ew2 : wrap64 (u + v) = u + v := by unfold wrap64; omega
      clear hu hv hc b1 b2 b3 hnx hny
      go_upto_region 6 with fail
      obtain ⟨bb, hbb⟩ : ∃ bb, decide (u + v > c) = bb := ⟨_, rfl⟩
      have HBB := hide hbb
      go_quiet (fail)
      have HB' := hide (below_drewN (unhide HB) nq)
      clear hbb
      cases bb
      · go_wp2
        go_roundg (nc - (k + 1))
        case measure => omega
        case rel => exact ⟨k + 1, by omega, rfl, by go_num, HB', hide (by
          intro k' h1
          by_cases e : k' = k
          · subst e
            have h2 := unhide HU
            have h3 := of_decide_eq_false (unhide HBB)
            omega
          · exact unhide HA k' (by omega))⟩
      · go_wp2
        go_ret
        refine ⟨YesP.no fun h => ?_, below_keep (unhide HB') (unhide HK)⟩
        have h1 := h.2 k (by have := unhide HN; omega)
        have h2 := unhide HU
        have h3 := of_decide_eq_true (unhide HBB)
        omega
    · obtain rfl : nc = k := by omega
      clear hkn hk hgk
      go_wp2
      go_ret
      exact ⟨YesP.yes ⟨fun h => unhide HIN ((unhide HAF).1 h), fun k' h1 => unhide HA k' (by have := unhide HN; omega)⟩, below_keep (unhide HB) (unhide HK)⟩
end Go.Proofs.YtgckgkllpkkpeaaDoor
