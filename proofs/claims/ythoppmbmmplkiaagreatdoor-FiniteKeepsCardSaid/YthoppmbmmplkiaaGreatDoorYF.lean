/-
  Puzzles: whether values keep a constraint, the other kinds.
-/
import Derived.Test.YthoppmbmmplkiaaGreatDoorYE
namespace Go.Proofs.YthoppmbmmplkiaaGreatDoor
open Go.RowKit

set_option maxHeartbeats 8000000 in
set_option maxRecDepth 8000 in
theorem rkept3 {cv vv : Value} {c : Cn} {v : List Int} (w : World) (h : CnV w cv c) (hv : Rows 1 JE w vv v) (hk : c.kind = 3) (hl : ∀ r ∈ c.rows, r.length = v.length) :
    Calls Tryz.prog 21 #[cv, vv] w fun e w' => YesP e (v ∈ c.rows) ∧ Below w.heap.size w w' := by
  have HO := hide hl
  clear hl
  obtain ⟨a1, c1, a2, c2, a3, c3, a4, c4, rfl, hM⟩ := h
  obtain ⟨kind, vars, nums, uses, limit, rows⟩ := c
  obtain rfl : kind = 3 := hk
  obtain ⟨sa, sc, rfl⟩ := hv.shape
  obtain ⟨k0, k1, k2, k3, k4, k5⟩ := six_new w 46 (.int .i64 3) (.slice a1 vars.length c1) (.slice a2 nums.length c2) (.slice a3 uses.length c3) (.int .i64 limit) (.slice a4 rows.length c4)
  have kn := below_new w (.cells #[.int .i64 3, .slice a1 vars.length c1, .slice a2 nums.length c2, .slice a3 uses.length c3, .int .i64 limit, .slice a4 rows.length c4] 46)
  have HM := hide (hM.later kn)
  have HV := hide (hv.later (JE.stays IsSl 0) kn)
  have HK := hide kn
  have sm : v.length ≤ sc ∧ sc ≤ 9223372036854775807 := by obtain ⟨a, c, e, h1, h2, _⟩ := hv; simp at e; unfold maxLen at h2; omega
  have s2 : nums.length ≤ 9223372036854775807 := by have := hM.r2.small; unfold maxLen at this; omega
  have s3 : uses.length ≤ 9223372036854775807 := by have := hM.r3.small; unfold maxLen at this; omega
  have s4 : rows.length ≤ 9223372036854775807 := by have := hM.r4.small; unfold maxLen at this; omega
  clear hM hv kn
  obtain ⟨m, hm⟩ : ∃ n, n = v.length := ⟨_, rfl⟩
  obtain ⟨nn, hnn⟩ : ∃ n, n = nums.length := ⟨_, rfl⟩
  obtain ⟨nu, hnu⟩ : ∃ n, n = uses.length := ⟨_, rfl⟩
  obtain ⟨nr, hnr⟩ : ∃ n, n = rows.length := ⟨_, rfl⟩
  rw [← hm] at sm HV ⊢
  rw [← hnn] at s2
  rw [← hnu] at s3
  rw [← hnr] at s4
  obtain ⟨g, hg⟩ : ∃ X, X = w.heap.size := ⟨_, rfl⟩
  obtain ⟨W, hW⟩ : ∃ X, X = w.alloc (.cells #[.int .i64 3, .slice a1 vars.length c1, .slice a2 nums.length c2, .slice a3 uses.length c3, .int .i64 limit, .slice a4 rows.length c4] 46) := ⟨_, rfl⟩
  go_enter Tryz.func21, Tryz.ntmps21
  go_upto_region 1 with fail
  rw [← hW, ← hg]
  rw [← hW] at HM HV HK k0 k1 k2 k3 k4 k5
  rw [← hg] at k0 k1 k2 k3 k4 k5
  rw [← hnn] at k2
  rw [← hnu] at k3
  rw [← hnr] at k5
  rw [← hnn, ← hnu, ← hnr]
  have HN := hide (And.intro hm (And.intro hnn (And.intro hnu hnr)))
  clear hW hg hm hnn hnu hnr
  simp only at HO
  go_wp2_with fail
  go_loopg [9] nr (fun gk iv wr => ∃ i : Nat, i ≤ nr ∧ gk = nr - i ∧ iv = .int .i64 (i : Int) ∧ Hid (Below W.heap.size W wr) ∧ Hid (v ∉ rows.take i))
  case atStart => exact ⟨0, by omega, by omega, rfl, hide (Below.refl _ _), hide (by simp)⟩
  case round =>
    obtain ⟨i, hi, hgk, rfl, HB, HA⟩ := hrel
    have q5 := cell_keep (unhide HB) k5
    by_cases hin : i < nr
    · obtain ⟨r, hr⟩ : ∃ x, rows[i]? = some x := ⟨rows[i]'(by have := unhide HN; omega), by simp⟩
      obtain ⟨b, o, ra, rc, rfl, d0, hrr⟩ := (unhide HM).r4.row hr
      have HRR := hide hrr
      have HX := hide hr
      have hrl : r.length = m := by rw [(unhide HN).1]; exact unhide HO r (List.mem_of_getElem? hr)
      rw [hrl] at d0 HRR
      have HRL := hide hrl
      have D0 := hide d0
      have hin' : (i : Int) < (nr : Int) := by omega
      have HGI := hide (And.intro hgk (And.intro hi hin))
      clear hr hrr hrl d0 hgk hi hin
      go_wp2_with fail
      go_loopg [10, 11] m (fun gk sv kv wr => ∃ (k : Nat) (same : Bool), k ≤ m ∧ gk = m - k ∧ sv = .bool same ∧ kv = .int .i64 (k : Int) ∧ Hid (Below W.heap.size W wr) ∧ Hid (same = true ↔ r.take k = v.take k))
      case atStart => exact ⟨0, true, by omega, by omega, rfl, rfl, HB, hide (by simp)⟩
      case round =>
        clear HB q5
        obtain ⟨k, same, hk, hgk, rfl, rfl, HB, HS⟩ := hrel
        have q5 := cell_keep (unhide HB) k5
        have d0 := cell_keep (unhide HB) (unhide D0)
        by_cases hkn : k < m
        · obtain ⟨x, hx⟩ : ∃ x, v[k]? = some x := ⟨v[k]'(by have := unhide HN; omega), by simp⟩
          obtain ⟨y, hy⟩ : ∃ x, r[k]? = some x := ⟨r[k]'(by have := unhide HRL; omega), by simp⟩
          obtain ⟨b1, o1, rfl, d1, _⟩ := (unhide HV).int hx
          obtain ⟨b2, o2, rfl, d2, _⟩ := (unhide HRR).int hy
          have d1 := cell_keep (unhide HB) d1
          have d2 := cell_keep (unhide HB) d2
          have HXY := hide (And.intro hx hy)
          have hkn' : (k : Int) < (m : Int) := by omega
          have HST := hide (show (r.take (k + 1) = v.take (k + 1)) ↔ (r.take k = v.take k ∧ y = x) by
            rw [take_next hx, take_next hy]
            constructor
            · intro h
              have h1 := List.append_inj' h rfl
              exact ⟨h1.1, by simpa using h1.2⟩
            · rintro ⟨h1, h2⟩
              rw [h1, h2])
          clear hx hy
          go_upto_region 25 with fail
          cases same
          · go_quiet (fail)
            have HB' := hide (below_drewN (unhide HB) nq)
            go_wp2
            go_roundg (m - (k + 1))
            case measure => omega
            case rel => exact ⟨k + 1, false, by omega, rfl, rfl, by go_num, HB', hide ⟨(fun h => by cases h), fun h => (unhide HS).2 ((unhide HST).1 h).1⟩⟩
          · obtain ⟨bb, HBB⟩ : ∃ bb : Bool, Hid ((y == x) = bb) := ⟨_, hide rfl⟩
            have hbb := unhide HBB
            go_quiet (fail)
            have HB' := hide (below_drewN (unhide HB) nq)
            go_wp2
            go_roundg (m - (k + 1))
            case measure => omega
            case rel => exact ⟨k + 1, bb, by omega, rfl, rfl, by go_num, HB', hide (by
              rw [unhide HST, ← unhide HBB]
              have hs := (unhide HS).1 (by simp)
              simp [hs])⟩
        · obtain rfl : m = k := by omega
          have hS := unhide HS
          rw [show v.take m = v from by rw [(unhide HN).1, List.take_length], show r.take m = r from by rw [← unhide HRL, List.take_length]] at hS
          have HSS := hide hS
          obtain ⟨hgk2, hi, hin⟩ := unhide HGI
          clear hS HS hkn hk hgk
          cases same
          · go_wp2
            go_roundg (nr - (i + 1))
            case measure => omega
            case rel => exact ⟨i + 1, by omega, rfl, by go_num, HB, hide (by rw [take_next (unhide HX)]; simp only [List.mem_append, List.mem_singleton, not_or]; exact ⟨unhide HA, fun h => by cases (unhide HSS).2 h.symm⟩)⟩
          · go_wp2
            go_ret
            exact ⟨YesP.yes (show v ∈ rows by rw [← (unhide HSS).1 (by simp)]; exact List.mem_of_getElem? (unhide HX)), below_keep (unhide HB) (unhide HK)⟩
    · obtain rfl : nr = i := by omega
      have hA := unhide HA
      rw [show rows.take nr = rows from by rw [(unhide HN).2.2.2, List.take_length]] at hA
      have HAA := hide hA
      clear hin hi hgk hA HA
      go_wp2
      go_ret
      exact ⟨YesP.no (unhide HAA), below_keep (unhide HB) (unhide HK)⟩
/-- The value at the place that the first value tells. -/
def elemP (v : List Int) : Prop := ∃ k : Nat, v[0]? = some (k : Int) ∧ k + 2 < v.length ∧ v[k + 2]? = v[1]?
set_option maxHeartbeats 8000000 in
set_option maxRecDepth 8000 in
theorem rkept4 {cv vv : Value} {c : Cn} {v : List Int} (w : World) (h : CnV w cv c) (hv : Rows 1 JE w vv v) (hk : c.kind = 4) (hl : 2 ≤ v.length) :
    Calls Tryz.prog 21 #[cv, vv] w fun e w' => YesP e (elemP v) ∧ Below w.heap.size w w' := by
  have HO := hide hl
  clear hl
  obtain ⟨a1, c1, a2, c2, a3, c3, a4, c4, rfl, hM⟩ := h
  obtain ⟨kind, vars, nums, uses, limit, rows⟩ := c
  obtain rfl : kind = 4 := hk
  obtain ⟨sa, sc, rfl⟩ := hv.shape
  obtain ⟨k0, k1, k2, k3, k4, k5⟩ := six_new w 46 (.int .i64 4) (.slice a1 vars.length c1) (.slice a2 nums.length c2) (.slice a3 uses.length c3) (.int .i64 limit) (.slice a4 rows.length c4)
  have kn := below_new w (.cells #[.int .i64 4, .slice a1 vars.length c1, .slice a2 nums.length c2, .slice a3 uses.length c3, .int .i64 limit, .slice a4 rows.length c4] 46)
  have HM := hide (hM.later kn)
  have HV := hide (hv.later (JE.stays IsSl 0) kn)
  have HK := hide kn
  have sm : v.length ≤ sc ∧ sc ≤ 9223372036854775807 := by obtain ⟨a, c, e, h1, h2, _⟩ := hv; simp at e; unfold maxLen at h2; omega
  have s2 : nums.length ≤ 9223372036854775807 := by have := hM.r2.small; unfold maxLen at this; omega
  have s3 : uses.length ≤ 9223372036854775807 := by have := hM.r3.small; unfold maxLen at this; omega
  have s4 : rows.length ≤ 9223372036854775807 := by have := hM.r4.small; unfold maxLen at this; omega
  clear hM hv kn
  obtain ⟨m, hm⟩ : ∃ n, n = v.length := ⟨_, rfl⟩
  obtain ⟨nn, hnn⟩ : ∃ n, n = nums.length := ⟨_, rfl⟩
  obtain ⟨nu, hnu⟩ : ∃ n, n = uses.length := ⟨_, rfl⟩
  obtain ⟨nr, hnr⟩ : ∃ n, n = rows.length := ⟨_, rfl⟩
  rw [← hm] at sm HV ⊢
  rw [← hnn] at s2
  rw [← hnu] at s3
  rw [← hnr] at s4
  obtain ⟨g, hg⟩ : ∃ X, X = w.heap.size := ⟨_, rfl⟩
  obtain ⟨W, hW⟩ : ∃ X, X = w.alloc (.cells #[.int .i64 4, .slice a1 vars.length c1, .slice a2 nums.length c2, .slice a3 uses.length c3, .int .i64 limit, .slice a4 rows.length c4] 46) := ⟨_, rfl⟩
  go_enter Tryz.func21, Tryz.ntmps21
  go_upto_region 1 with fail
  rw [← hW, ← hg]
  rw [← hW] at HM HV HK k0 k1 k2 k3 k4 k5
  rw [← hg] at k0 k1 k2 k3 k4 k5
  rw [← hnn] at k2
  rw [← hnu] at k3
  rw [← hnr] at k5
  rw [← hnn, ← hnu, ← hnr]
  have HN := hide (And.intro hm (And.intro hnn (And.intro hnu hnr)))
  clear hW hg hm hnn hnu hnr
  have h2 : 2 ≤ m := by rw [(unhide HN).1]; exact unhide HO
  obtain ⟨x, hx⟩ : ∃ x, v[0]? = some x := ⟨v[0]'(by have := unhide HN; omega), by simp⟩
  obtain ⟨y, hy⟩ : ∃ x, v[1]? = some x := ⟨v[1]'(by have := unhide HN; omega), by simp⟩
  obtain ⟨b, o, rfl, d0, hxb⟩ := (unhide HV).int hx
  obtain ⟨b', o', e', d1, _⟩ := (unhide HV).int hy
  obtain ⟨rfl, rfl⟩ : b = b' ∧ o = o' := by simpa using e'
  rw [Nat.add_zero] at d0
  have g0 : (0 : Int) < (m : Int) := by omega
  have g1 : (1 : Int) < (m : Int) := by omega
  have gm0 : 0 < m := by omega
  have gm1 : 1 < m := by omega
  have e1 : wrap64 ((m : Int) - 2) = (m : Int) - 2 := by unfold wrap64; omega
  have e1' : IntKind.i64.wrap ((m : Int) - 2) = (m : Int) - 2 := by rw [wrapI64]; exact e1
  go_upto_region 30 with fail
  by_cases hx0 : 0 ≤ x
  · by_cases hx1 : x < (m : Int) - 2
    · obtain ⟨k, hkx⟩ : ∃ k : Nat, x = (k : Int) := ⟨x.toNat, by omega⟩
      obtain ⟨z, hz⟩ : ∃ z, v[k + 2]? = some z := ⟨v[k + 2]'(by have := unhide HN; omega), by simp⟩
      obtain ⟨b2, o2, e2, d2, _⟩ := (unhide HV).int hz
      obtain ⟨rfl, rfl⟩ : b = b2 ∧ o = o2 := by simpa using e2
      have e3 : wrap64 (2 + x) = ((k + 2 : Nat) : Int) := by unfold wrap64; omega
      have e3' : IntKind.i64.wrap (2 + x) = ((k + 2 : Nat) : Int) := by rw [wrapI64]; exact e3
      have g2 : ((k + 2 : Nat) : Int) < (m : Int) := by omega
      have HIFF := hide (show (z == y) = true ↔ elemP v by
        constructor
        · intro h
          exact ⟨k, by rw [hx, hkx], by have := unhide HN; omega, by rw [hz, hy]; simpa using h⟩
        · rintro ⟨k', h1, _, h3⟩
          rw [hx] at h1
          have h4 : x = (k' : Int) := by simpa using h1
          obtain rfl : k = k' := by omega
          rw [hz, hy] at h3
          simpa using h3)
      obtain ⟨bb, HBB⟩ : ∃ bb : Bool, Hid ((z == y) = bb) := ⟨_, hide rfl⟩
      have hbb := unhide HBB
      have hd0 : decide (0 ≤ x) = true := decide_eq_true hx0
      have hd1 : decide (x < (m : Int) - 2) = true := decide_eq_true hx1
      clear hx hy hz e' e2 hkx
      go_quiet (fail)
      have HB' := hide (below_drewN (Below.refl W.heap.size W) nq)
      go_wp2
      go_ret
      exact ⟨YesP.of (by rw [← unhide HIFF, unhide HBB]), below_keep (unhide HB') (unhide HK)⟩
    · have HNO := hide (show ¬ elemP v by
        rintro ⟨k', h1, h2', _⟩
        rw [hx] at h1
        have h3 : x = (k' : Int) := by simpa using h1
        have := unhide HN
        omega)
      have hd0 : decide (0 ≤ x) = true := decide_eq_true hx0
      have hd1 : decide (x < (m : Int) - 2) = false := decide_eq_false hx1
      clear hx hy e'
      go_quiet (fail)
      have HB' := hide (below_drewN (Below.refl W.heap.size W) nq)
      go_wp2
      go_ret
      exact ⟨YesP.no (unhide HNO), below_keep (unhide HB') (unhide HK)⟩
  · have HNO := hide (show ¬ elemP v by
      rintro ⟨k', h1, h2', _⟩
      rw [hx] at h1
      have h3 : x = (k' : Int) := by simpa using h1
      omega)
    have hd0 : decide (0 ≤ x) = false := decide_eq_false hx0
    clear hx hy e'
    go_quiet (fail)
    have HB' := hide (below_drewN (Below.refl W.heap.size W) nq)
    go_wp2
    go_ret
    exact ⟨YesP.no (unhide HNO), below_keep (unhide HB') (unhide HK)⟩
end Go.Proofs.YthoppmbmmplkiaaGreatDoor
