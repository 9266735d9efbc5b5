/-
  Puzzles: whether values keep a constraint, the last kind.
-/
import Derived.Test.YthoppmbmmplkiaaGreatDoorYF
namespace Go.Proofs.YthoppmbmmplkiaaGreatDoor
open Go.RowKit

/-- What runs at a moment uses, of the first ones. -/
def loadS (t : Int) : List Int → List Int → List Int → Int
  | v :: vs, n :: ns, u :: us => (if v ≤ t ∧ t < v + n then u else 0) + loadS t vs ns us
  | _, _, _ => 0
theorem loadS_snoc (t : Int) : ∀ {vs ns us : List Int} {v n u : Int}, vs.length = ns.length → vs.length = us.length → loadS t (vs ++ [v]) (ns ++ [n]) (us ++ [u]) = loadS t vs ns us + (if v ≤ t ∧ t < v + n then u else 0)
  | [], [], [], v, n, u, _, _ => by simp [loadS]
  | a :: vs, b :: ns, c :: us, v, n, u, h1, h2 => by
    have := loadS_snoc t (vs := vs) (ns := ns) (us := us) (v := v) (n := n) (u := u) (by simpa using h1) (by simpa using h2)
    simp only [List.cons_append, loadS, this]
    omega
  | [], _ :: _, _, _, _, _, h, _ => by simp at h
  | [], [], _ :: _, _, _, _, _, h => by simp at h
  | _ :: _, [], _, _, _, _, h, _ => by simp at h
  | _ :: _, _ :: _, [], _, _, _, _, h => by simp at h
/-- At no beginning of what takes time is more used than there is. -/
def shareP (v nums uses : List Int) (limit : Int) : Prop := ∀ (i : Nat) (t n : Int), v[i]? = some t → nums[i]? = some n → 0 < n → loadS t v nums uses ≤ limit
set_option maxHeartbeats 8000000 in
set_option maxRecDepth 8000 in
theorem rkept5 {cv vv : Value} {c : Cn} {v : List Int} (w : World) (h : CnV w cv c) (hv : Rows 1 JE w vv v) (hk : c.kind = 5) (hl : c.nums.length = v.length) (hl2 : c.uses.length = v.length) (h60 : v.length ≤ 60) (ho : ∀ x ∈ v, Ok8 x) (hq : ∀ x ∈ c.nums, Ok8 x) (hu : ∀ x ∈ c.uses, Ok8 x) :
    Calls Tryz.prog 21 #[cv, vv] w fun e w' => YesP e (shareP v c.nums c.uses c.limit) ∧ Below w.heap.size w w' := by
  have HO := hide (And.intro ho (And.intro hq hu))
  have HL := hide (And.intro hl (And.intro hl2 h60))
  clear ho hq hu hl hl2 h60
  obtain ⟨a1, c1, a2, c2, a3, c3, a4, c4, rfl, hM⟩ := h
  obtain ⟨kind, vars, nums, uses, limit, rows⟩ := c
  obtain rfl : kind = 5 := hk
  obtain ⟨sa, sc, rfl⟩ := hv.shape
  obtain ⟨k0, k1, k2, k3, k4, k5⟩ := six_new w 46 (.int .i64 5) (.slice a1 vars.length c1) (.slice a2 nums.length c2) (.slice a3 uses.length c3) (.int .i64 limit) (.slice a4 rows.length c4)
  have kn := below_new w (.cells #[.int .i64 5, .slice a1 vars.length c1, .slice a2 nums.length c2, .slice a3 uses.length c3, .int .i64 limit, .slice a4 rows.length c4] 46)
  have HM := hide (hM.later kn)
  have HV := hide (hv.later (JE.stays IsSl 0) kn)
  have HK := hide kn
  have sm : v.length ≤ sc ∧ sc ≤ 9223372036854775807 := by obtain ⟨a, c, e, h1, h2, _⟩ := hv; simp at e; unfold maxLen at h2; omega
  have s2 : nums.length ≤ 9223372036854775807 := by have := hM.r2.small; unfold maxLen at this; omega
  have s3 : uses.length ≤ 9223372036854775807 := by have := hM.r3.small; unfold maxLen at this; omega
  have s4 : rows.length ≤ 9223372036854775807 := by have := hM.r4.small; unfold maxLen at this; omega
  clear hM hv kn
  obtain ⟨m, hm⟩ : ∃ n, n = v.length := ⟨_, rfl⟩
  obtain ⟨nn, hnn⟩ : ∃ n, n = nums.length := ⟨_, rfl⟩
  obtain ⟨nu, hnu⟩ : ∃ n, n = uses.length := ⟨_, rfl⟩
  obtain ⟨nr, hnr⟩ : ∃ n, n = rows.length := ⟨_, rfl⟩
  rw [← hm] at sm HV ⊢
  rw [← hnn] at s2
  rw [← hnu] at s3
  rw [← hnr] at s4
  obtain ⟨g, hg⟩ : ∃ X, X = w.heap.size := ⟨_, rfl⟩
  obtain ⟨W, hW⟩ : ∃ X, X = w.alloc (.cells #[.int .i64 5, .slice a1 vars.length c1, .slice a2 nums.length c2, .slice a3 uses.length c3, .int .i64 limit, .slice a4 rows.length c4] 46) := ⟨_, rfl⟩
  go_enter Tryz.func21, Tryz.ntmps21
  go_upto_region 1 with fail
  rw [← hW, ← hg]
  rw [← hW] at HM HV HK k0 k1 k2 k3 k4 k5
  rw [← hg] at k0 k1 k2 k3 k4 k5
  rw [← hnn] at k2
  rw [← hnu] at k3
  rw [← hnr] at k5
  rw [← hnn, ← hnu, ← hnr]
  have HN := hide (And.intro hm (And.intro hnn (And.intro hnu hnr)))
  clear hW hg hm hnn hnu hnr
  simp only at HO HL
  have HLM := hide (show nn = m ∧ nu = m ∧ m ≤ 60 by have := unhide HN; have := unhide HL; omega)
  go_wp2_with fail
  go_loopg [12] m (fun gk iv wr => ∃ i : Nat, i ≤ m ∧ gk = m - i ∧ iv = .int .i64 (i : Int) ∧ Hid (Below W.heap.size W wr) ∧ Hid (∀ (j : Nat) (t n : Int), j < i → v[j]? = some t → nums[j]? = some n → 0 < n → loadS t v nums uses ≤ limit))
  case atStart => exact ⟨0, by omega, by omega, rfl, hide (Below.refl _ _), hide (by intro j t n hj; omega)⟩
  case round =>
    obtain ⟨i, hi, hgk, rfl, HB, HA⟩ := hrel
    by_cases hin : i < m
    · obtain ⟨t, ht⟩ : ∃ x, v[i]? = some x := ⟨v[i]'(by have := unhide HN; omega), by simp⟩
      obtain ⟨d, hd⟩ : ∃ x, nums[i]? = some x := ⟨nums[i]'(by have := unhide HN; have := unhide HLM; omega), by simp⟩
      obtain ⟨b, o, rfl, d0, _⟩ := (unhide HV).int ht
      obtain ⟨b', o', rfl, d1, _⟩ := (unhide HM).r2.int hd
      have D0 := hide d0
      have D1 := hide d1
      have HTD := hide (And.intro ht hd)
      have HT8 := hide ((unhide HO).1 t (List.mem_of_getElem? ht))
      have hin' : (i : Int) < (m : Int) := by omega
      have hin2 : (i : Int) < (nn : Int) := by have := unhide HLM; omega
      have hi60 : (i : Int) + 1 ≤ 100 := by have := unhide HLM; omega
      have HGI := hide (And.intro hgk (And.intro hi hin))
      clear ht hd d0 d1 hgk hi hin
      go_wp2_with fail
      go_loopg [13, 14] m (fun gk sv kv wr => ∃ (k : Nat) (s : Int), k ≤ m ∧ gk = m - k ∧ sv = .int .i64 s ∧ kv = .int .i64 (k : Int) ∧ Hid (Below W.heap.size W wr) ∧ Hid (s = loadS t (v.take k) (nums.take k) (uses.take k) ∧ -100000000 * (k : Int) ≤ s ∧ s ≤ 100000000 * (k : Int)))
      case atStart => exact ⟨0, 0, by omega, by omega, rfl, rfl, HB, hide ⟨by simp [loadS], by decide, by decide⟩⟩
      case round =>
        clear HB
        obtain ⟨k, s, hk, hgk, rfl, rfl, HB, HS⟩ := hrel
        have q2 := cell_keep (unhide HB) k2
        have q3 := cell_keep (unhide HB) k3
        have q4 := cell_keep (unhide HB) k4
        have d0 := cell_keep (unhide HB) (unhide D0)
        have d1 := cell_keep (unhide HB) (unhide D1)
        by_cases hkn : k < m
        · obtain ⟨x, hx⟩ : ∃ x, v[k]? = some x := ⟨v[k]'(by have := unhide HN; omega), by simp⟩
          obtain ⟨y, hy⟩ : ∃ x, nums[k]? = some x := ⟨nums[k]'(by have := unhide HN; have := unhide HLM; omega), by simp⟩
          obtain ⟨z, hz⟩ : ∃ x, uses[k]? = some x := ⟨uses[k]'(by have := unhide HN; have := unhide HLM; omega), by simp⟩
          obtain ⟨b1, o1, e1, d2, _⟩ := (unhide HV).int hx
          obtain ⟨rfl, rfl⟩ : b = b1 ∧ o = o1 := by simpa using e1
          obtain ⟨b2, o2, e2, d3, _⟩ := (unhide HM).r2.int hy
          obtain ⟨rfl, rfl⟩ : b' = b2 ∧ o' = o2 := by simpa using e2
          obtain ⟨b3, o3, rfl, d4, _⟩ := (unhide HM).r3.int hz
          have d2 := cell_keep (unhide HB) d2
          have d3 := cell_keep (unhide HB) d3
          have d4 := cell_keep (unhide HB) d4
          have w1 := (unhide HO).1 x (List.mem_of_getElem? hx)
          have w2 := (unhide HO).2.1 y (List.mem_of_getElem? hy)
          have w3 := (unhide HO).2.2 z (List.mem_of_getElem? hz)
          have hS := unhide HS
          have hlm := unhide HLM
          unfold Ok8 at w1 w2 w3
          have f1 : IntKind.i64.wrap (x + y) = x + y := by rw [wrapI64]; unfold wrap64; omega
          have f1' : wrap64 (x + y) = x + y := by unfold wrap64; omega
          have f2 : wrap64 (s + z) = s + z := by unfold wrap64; omega
          have HXYZ := hide (And.intro hx (And.intro hy hz))
          have HW := hide w3
          have HSN := hide (show loadS t (v.take (k + 1)) (nums.take (k + 1)) (uses.take (k + 1)) = s + (if x ≤ t ∧ t < x + y then z else 0) by
            rw [take_next hx, take_next hy, take_next hz, loadS_snoc t (by have := unhide HN; rw [List.length_take, List.length_take]; omega) (by have := unhide HN; rw [List.length_take, List.length_take]; omega), ← hS.1])
          have hkn' : (k : Int) < (m : Int) := by omega
          have hkn2 : (k : Int) < (nn : Int) := by omega
          have hkn3 : (k : Int) < (nu : Int) := by omega
          have hk60 : (k : Int) + 1 ≤ 100 := by omega
          clear hx hy hz e1 e2 hS hlm w1 w2 w3
          go_upto_region 38 with fail
          by_cases hc1 : x ≤ t
          · have hd1 : decide (x ≤ t) = true := decide_eq_true hc1
            by_cases hc2 : t < x + y
            · have hd2 : decide (t < x + y) = true := decide_eq_true hc2
              go_quiet (fail)
              have HB' := hide (below_drewN (unhide HB) nq)
              have q3 := cell_keep (below_drewN (Below.refl _ _) nq) q3
              have d4 := cell_keep (below_drewN (Below.refl _ _) nq) d4
              go_wp2
              go_roundg (m - (k + 1))
              case measure => omega
              case rel => exact ⟨k + 1, s + z, by omega, rfl, (by first | rfl | (rw [f2])), by go_num, HB', hide ⟨by rw [unhide HSN, if_pos ⟨hc1, hc2⟩], by have := unhide HS; have := unhide HW; omega, by have := unhide HS; have := unhide HW; omega⟩⟩
            · have hd2 : decide (t < x + y) = false := decide_eq_false hc2
              go_quiet (fail)
              have HB' := hide (below_drewN (unhide HB) nq)
              go_wp2
              go_roundg (m - (k + 1))
              case measure => omega
              case rel => exact ⟨k + 1, s, by omega, rfl, rfl, by go_num, HB', hide ⟨by rw [unhide HSN, if_neg (fun h => by omega), Int.add_zero], by have := unhide HS; omega, by have := unhide HS; omega⟩⟩
          · have hd1 : decide (x ≤ t) = false := decide_eq_false hc1
            go_quiet (fail)
            have HB' := hide (below_drewN (unhide HB) nq)
            go_wp2
            go_roundg (m - (k + 1))
            case measure => omega
            case rel => exact ⟨k + 1, s, by omega, rfl, rfl, by go_num, HB', hide ⟨by rw [unhide HSN, if_neg (fun h => by omega), Int.add_zero], by have := unhide HS; omega, by have := unhide HS; omega⟩⟩
        · obtain rfl : m = k := by omega
          have hS := (unhide HS).1
          rw [show v.take m = v from by rw [(unhide HN).1, List.take_length], show nums.take m = nums from by rw [List.take_of_length_le]; have := unhide HN; have := unhide HLM; omega, show uses.take m = uses from by rw [List.take_of_length_le]; have := unhide HN; have := unhide HLM; omega] at hS
          have HSS := hide hS
          obtain ⟨hgk2, hi, hin⟩ := unhide HGI
          clear hS HS hkn hk hgk
          by_cases hc1 : 0 < d
          · by_cases hc2 : limit < s
            · go_wp2
              go_ret
              refine ⟨YesP.no fun h => ?_, below_keep (unhide HB) (unhide HK)⟩
              have := h i t d (unhide HTD).1 (unhide HTD).2 hc1
              have e := unhide HSS
              omega
            · go_wp2
              go_roundg (m - (i + 1))
              case measure => omega
              case rel => exact ⟨i + 1, by omega, rfl, by go_num, HB, hide (by
                intro j t' n' hj h1 h2 h3
                by_cases e : j = i
                · subst e
                  rw [(unhide HTD).1] at h1
                  obtain rfl : t = t' := by simpa using h1
                  have e := unhide HSS
                  omega
                · exact unhide HA j t' n' (by omega) h1 h2 h3)⟩
          · go_wp2
            go_roundg (m - (i + 1))
            case measure => omega
            case rel => exact ⟨i + 1, by omega, rfl, by go_num, HB, hide (by
              intro j t' n' hj h1 h2 h3
              by_cases e : j = i
              · subst e
                rw [(unhide HTD).2] at h2
                obtain rfl : d = n' := by simpa using h2
                omega
              · exact unhide HA j t' n' (by omega) h1 h2 h3)⟩
    · obtain rfl : m = i := by omega
      have hA : shareP v nums uses limit := fun j t n h1 h2 h3 => unhide HA j t n (by have := (List.getElem?_eq_some_iff.1 h1).1; have := unhide HN; omega) h1 h2 h3
      have HAA := hide hA
      clear hin hi hgk hA HA
      go_wp2
      go_ret
      exact ⟨YesP.yes (unhide HAA), below_keep (unhide HB) (unhide HK)⟩
end Go.Proofs.YthoppmbmmplkiaaGreatDoor
