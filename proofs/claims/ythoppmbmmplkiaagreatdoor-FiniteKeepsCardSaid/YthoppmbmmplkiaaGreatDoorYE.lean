/-
  Puzzles: whether values keep a constraint.
-/
import Derived.Test.YthoppmbmmplkiaaGreatDoorYD
namespace Go.Proofs.YthoppmbmmplkiaaGreatDoor
open Go.RowKit

theorem nodup_take {v : List Int} {i : Nat} {x : Int} (hx : v[i]? = some x) : (v.take (i + 1)).Nodup ↔ (v.take i).Nodup ∧ x ∉ v.take i := by
  rw [take_next hx, List.nodup_append]
  constructor
  · rintro ⟨h1, _, h3⟩
    exact ⟨h1, fun h => h3 x h x (by simp) rfl⟩
  · rintro ⟨h1, h2⟩
    exact ⟨h1, by simp, fun a ha b hb e => by simp at hb; rw [e, hb] at ha; exact h2 ha⟩
theorem nodup_pre {v : List Int} {i : Nat} (h : v.Nodup) : (v.take i).Nodup := h.sublist (List.take_sublist _ _)
set_option maxHeartbeats 8000000 in
set_option maxRecDepth 8000 in
theorem rkept1 {cv vv : Value} {c : Cn} {v : List Int} (w : World) (h : CnV w cv c) (hv : Rows 1 JE w vv v) (hk : c.kind = 1) :
    Calls Tryz.prog 21 #[cv, vv] w fun e w' => YesP e (v.Nodup) ∧ Below w.heap.size w w' := by
  obtain ⟨a1, c1, a2, c2, a3, c3, a4, c4, rfl, hM⟩ := h
  obtain ⟨kind, vars, nums, uses, limit, rows⟩ := c
  obtain rfl : kind = 1 := hk
  obtain ⟨sa, sc, rfl⟩ := hv.shape
  obtain ⟨k0, k1, k2, k3, k4, k5⟩ := six_new w 46 (.int .i64 1) (.slice a1 vars.length c1) (.slice a2 nums.length c2) (.slice a3 uses.length c3) (.int .i64 limit) (.slice a4 rows.length c4)
  have kn := below_new w (.cells #[.int .i64 1, .slice a1 vars.length c1, .slice a2 nums.length c2, .slice a3 uses.length c3, .int .i64 limit, .slice a4 rows.length c4] 46)
  have HM := hide (hM.later kn)
  have HV := hide (hv.later (JE.stays IsSl 0) kn)
  have HK := hide kn
  have sm : v.length ≤ sc ∧ sc ≤ 9223372036854775807 := by obtain ⟨a, c, e, h1, h2, _⟩ := hv; simp at e; unfold maxLen at h2; omega
  have s2 : nums.length ≤ 9223372036854775807 := by have := hM.r2.small; unfold maxLen at this; omega
  have s3 : uses.length ≤ 9223372036854775807 := by have := hM.r3.small; unfold maxLen at this; omega
  have s4 : rows.length ≤ 9223372036854775807 := by have := hM.r4.small; unfold maxLen at this; omega
  clear hM hv kn
  obtain ⟨m, hm⟩ : ∃ n, n = v.length := ⟨_, rfl⟩
  obtain ⟨nn, hnn⟩ : ∃ n, n = nums.length := ⟨_, rfl⟩
  obtain ⟨nu, hnu⟩ : ∃ n, n = uses.length := ⟨_, rfl⟩
  obtain ⟨nr, hnr⟩ : ∃ n, n = rows.length := ⟨_, rfl⟩
  rw [← hm] at sm HV ⊢
  rw [← hnn] at s2
  rw [← hnu] at s3
  rw [← hnr] at s4
  obtain ⟨g, hg⟩ : ∃ X, X = w.heap.size := ⟨_, rfl⟩
  obtain ⟨W, hW⟩ : ∃ X, X = w.alloc (.cells #[.int .i64 1, .slice a1 vars.length c1, .slice a2 nums.length c2, .slice a3 uses.length c3, .int .i64 limit, .slice a4 rows.length c4] 46) := ⟨_, rfl⟩
  go_enter Tryz.func21, Tryz.ntmps21
  go_upto_region 1 with fail
  rw [← hW, ← hg]
  rw [← hW] at HM HV HK k0 k1 k2 k3 k4 k5
  rw [← hg] at k0 k1 k2 k3 k4 k5
  rw [← hnn] at k2
  rw [← hnu] at k3
  rw [← hnr] at k5
  rw [← hnn, ← hnu, ← hnr]
  have HN := hide (And.intro hm (And.intro hnn (And.intro hnu hnr)))
  clear hW hg hm hnn hnu hnr
  go_wp2_with fail
  go_loopg [5] m (fun gk iv wr => ∃ i : Nat, i ≤ m ∧ gk = m - i ∧ iv = .int .i64 (i : Int) ∧ Hid (Below W.heap.size W wr) ∧ Hid ((v.take i).Nodup))
  case atStart => exact ⟨0, by omega, by omega, rfl, hide (Below.refl _ _), hide (by simp)⟩
  case round =>
    obtain ⟨i, hi, hgk, rfl, HB, HA⟩ := hrel
    by_cases hin : i < m
    · obtain ⟨x, hx⟩ : ∃ x, v[i]? = some x := ⟨v[i]'(by have := unhide HN; omega), by simp⟩
      obtain ⟨b, o, rfl, d0, _⟩ := (unhide HV).int hx
      have d0 := cell_keep (unhide HB) d0
      have HX := hide hx
      have HP := hide (((unhide HV).later (JE.stays IsSl 0) (unhide HB).drew).prefix i (by omega))
      have hin' : (i : Int) < (m : Int) := by omega
      have hic : (i : Int) ≤ (sc : Int) := by omega
      have hi0 : (0 : Int) ≤ (i : Int) := by omega
      clear hx
      go_upto_region 6 with fail
      obtain ⟨V, rfl⟩ : ∃ X, X = wr := ⟨_, rfl⟩
      go_region_held3 (fun w' => w'.cell? ⟨b, o + i, none⟩ = some (.int .i64 x))
        (first | exact d0)
        (first | (go_at_call 20; go_fit (rin_any (l := v.take i) (x := x) _ (unhide HP)); rintro e9 Y1 ⟨⟨bb, rfl, hbb⟩, rfl⟩; have HBB := hide hbb; clear hbb))
      have HB := hide (unhide HB).drew
      obtain ⟨V1, hV1⟩ : ∃ X, X = V.drew := ⟨_, rfl⟩
      rw [← hV1] at HB ⊢
      clear hV1 d0 HP
      cases bb
      · go_wp2
        go_roundg (m - (i + 1))
        case measure => omega
        case rel => exact ⟨i + 1, by omega, rfl, by go_num, HB, hide ((nodup_take (unhide HX)).2 ⟨unhide HA, fun h => by cases (unhide HBB).2 h⟩)⟩
      · go_wp2
        go_ret
        refine ⟨YesP.no fun h => ?_, below_keep (unhide HB) (unhide HK)⟩
        have := ((nodup_take (unhide HX)).1 (nodup_pre (i := i + 1) h)).2
        exact absurd ((unhide HBB).1 (by simp)) this
    · obtain rfl : m = i := by omega
      have hA := unhide HA
      rw [show v.take m = v from by rw [(unhide HN).1, List.take_length]] at hA
      have HAA := hide hA
      clear hin hi hgk hA HA
      go_wp2
      go_ret
      exact ⟨YesP.yes (unhide HAA), below_keep (unhide HB) (unhide HK)⟩
/-- Numbers times values, together. -/
def dotS : List Int → List Int → Int
  | x :: l, y :: m => x * y + dotS l m
  | _, _ => 0
theorem dotS_snoc : ∀ {l m : List Int} {x y : Int}, l.length = m.length → dotS (l ++ [x]) (m ++ [y]) = dotS l m + x * y
  | [], [], x, y, _ => by simp [dotS]
  | a :: l, b :: m, x, y, h => by
    have := dotS_snoc (l := l) (m := m) (x := x) (y := y) (by simpa using h)
    simp only [List.cons_append, dotS, this]
    omega
  | [], _ :: _, _, _, h => by simp at h
  | _ :: _, [], _, _, h => by simp at h
set_option maxHeartbeats 8000000 in
set_option maxRecDepth 8000 in
theorem rkept2 {cv vv : Value} {c : Cn} {v : List Int} (w : World) (h : CnV w cv c) (hv : Rows 1 JE w vv v) (hk : c.kind = 2) (hl : c.nums.length = v.length) (h60 : v.length ≤ 60) (ho : ∀ x ∈ v, Ok8 x) (hq : ∀ x ∈ c.nums, Ok8 x) :
    Calls Tryz.prog 21 #[cv, vv] w fun e w' => YesP e (dotS c.nums v = c.limit) ∧ Below w.heap.size w w' := by
  have HO := hide (And.intro ho (And.intro hq (And.intro hl h60)))
  clear ho hq hl h60
  obtain ⟨a1, c1, a2, c2, a3, c3, a4, c4, rfl, hM⟩ := h
  obtain ⟨kind, vars, nums, uses, limit, rows⟩ := c
  obtain rfl : kind = 2 := hk
  obtain ⟨sa, sc, rfl⟩ := hv.shape
  obtain ⟨k0, k1, k2, k3, k4, k5⟩ := six_new w 46 (.int .i64 2) (.slice a1 vars.length c1) (.slice a2 nums.length c2) (.slice a3 uses.length c3) (.int .i64 limit) (.slice a4 rows.length c4)
  have kn := below_new w (.cells #[.int .i64 2, .slice a1 vars.length c1, .slice a2 nums.length c2, .slice a3 uses.length c3, .int .i64 limit, .slice a4 rows.length c4] 46)
  have HM := hide (hM.later kn)
  have HV := hide (hv.later (JE.stays IsSl 0) kn)
  have HK := hide kn
  have sm : v.length ≤ sc ∧ sc ≤ 9223372036854775807 := by obtain ⟨a, c, e, h1, h2, _⟩ := hv; simp at e; unfold maxLen at h2; omega
  have s2 : nums.length ≤ 9223372036854775807 := by have := hM.r2.small; unfold maxLen at this; omega
  have s3 : uses.length ≤ 9223372036854775807 := by have := hM.r3.small; unfold maxLen at this; omega
  have s4 : rows.length ≤ 9223372036854775807 := by have := hM.r4.small; unfold maxLen at this; omega
  clear hM hv kn
  obtain ⟨m, hm⟩ : ∃ n, n = v.length := ⟨_, rfl⟩
  obtain ⟨nn, hnn⟩ : ∃ n, n = nums.length := ⟨_, rfl⟩
  obtain ⟨nu, hnu⟩ : ∃ n, n = uses.length := ⟨_, rfl⟩
  obtain ⟨nr, hnr⟩ : ∃ n, n = rows.length := ⟨_, rfl⟩
  rw [← hm] at sm HV ⊢
  rw [← hnn] at s2
  rw [← hnu] at s3
  rw [← hnr] at s4
  obtain ⟨g, hg⟩ : ∃ X, X = w.heap.size := ⟨_, rfl⟩
  obtain ⟨W, hW⟩ : ∃ X, X = w.alloc (.cells #[.int .i64 2, .slice a1 vars.length c1, .slice a2 nums.length c2, .slice a3 uses.length c3, .int .i64 limit, .slice a4 rows.length c4] 46) := ⟨_, rfl⟩
  go_enter Tryz.func21, Tryz.ntmps21
  go_upto_region 1 with fail
  rw [← hW, ← hg]
  rw [← hW] at HM HV HK k0 k1 k2 k3 k4 k5
  rw [← hg] at k0 k1 k2 k3 k4 k5
  rw [← hnn] at k2
  rw [← hnu] at k3
  rw [← hnr] at k5
  rw [← hnn, ← hnu, ← hnr]
  have HN := hide (And.intro hm (And.intro hnn (And.intro hnu hnr)))
  clear hW hg hm hnn hnu hnr
  simp only at HO
  have HLM := hide (show nn = m ∧ m ≤ 60 by have := unhide HN; have := (unhide HO).2.2; omega)
  go_wp2_with fail
  go_loopg [7, 8] m (fun gk sv iv wr => ∃ (i : Nat) (s : Int), i ≤ m ∧ gk = m - i ∧ sv = .int .i64 s ∧ iv = .int .i64 (i : Int) ∧ Hid (Below W.heap.size W wr) ∧ Hid (s = dotS (nums.take i) (v.take i) ∧ -10000000000000000 * (i : Int) ≤ s ∧ s ≤ 10000000000000000 * (i : Int)))
  case atStart => exact ⟨0, 0, by omega, by omega, rfl, rfl, hide (Below.refl _ _), hide ⟨by simp [dotS], by decide, by decide⟩⟩
  case round =>
    obtain ⟨i, s, hi, hgk, rfl, rfl, HB, HA⟩ := hrel
    have q2 := cell_keep (unhide HB) k2
    have q4 := cell_keep (unhide HB) k4
    by_cases hin : i < m
    · obtain ⟨x, hx⟩ : ∃ x, v[i]? = some x := ⟨v[i]'(by have := unhide HN; omega), by simp⟩
      obtain ⟨y, hy⟩ : ∃ x, nums[i]? = some x := ⟨nums[i]'(by have := unhide HN; have := unhide HLM; omega), by simp⟩
      obtain ⟨b, o, rfl, d0, _⟩ := (unhide HV).int hx
      obtain ⟨b', o', rfl, d1, _⟩ := (unhide HM).r2.int hy
      have d0 := cell_keep (unhide HB) d0
      have d1 := cell_keep (unhide HB) d1
      have hb := mul_ok ((unhide HO).2.1 y (List.mem_of_getElem? hy)) ((unhide HO).1 x (List.mem_of_getElem? hx))
      have HX := hide (And.intro hx hy)
      obtain ⟨z, hz⟩ : ∃ z, z = y * x := ⟨_, rfl⟩
      rw [← hz] at hb
      have hA := unhide HA
      have hlm := unhide HLM
      have e1 : wrap64 (y * x) = z := by rw [← hz]; unfold wrap64; omega
      have e2 : wrap64 (s + z) = s + z := by unfold wrap64; omega
      have HZ := hide (And.intro hz hb)
      have hin' : (i : Int) < (m : Int) := by omega
      have hin2 : (i : Int) < (nn : Int) := by omega
      have hi60 : (i : Int) + 1 ≤ 100 := by omega
      clear hx hy hz hb hA hlm
      go_upto_region 15 with fail
      go_quiet (fail)
      have HB' := hide (below_drewN (unhide HB) nq)
      go_wp2
      go_roundg (m - (i + 1))
      case measure => omega
      case rel => exact ⟨i + 1, s + z, by omega, rfl, (by first | rfl | (rw [e1, e2]) | simp [e2]), by go_num, HB', hide ⟨by
          rw [take_next (unhide HX).1, take_next (unhide HX).2, dotS_snoc (by have := unhide HN; have := unhide HLM; rw [List.length_take, List.length_take]; omega), ← (unhide HA).1, (unhide HZ).1], by have := unhide HA; have := unhide HZ; omega, by have := unhide HA; have := unhide HZ; omega⟩⟩
    · obtain rfl : m = i := by omega
      have hA := (unhide HA).1
      rw [show v.take m = v from by rw [(unhide HN).1, List.take_length], show nums.take m = nums from by rw [List.take_of_length_le]; have := unhide HN; have := unhide HLM; omega] at hA
      have HAA := hide hA
      clear hin hi hgk hA HA
      go_wp2
      go_ret
      refine ⟨YesP.of ?_, below_keep (unhide HB) (unhide HK)⟩
      show _ ↔ dotS nums v = limit
      rw [← unhide HAA]
      simp
end Go.Proofs.YthoppmbmmplkiaaGreatDoor
