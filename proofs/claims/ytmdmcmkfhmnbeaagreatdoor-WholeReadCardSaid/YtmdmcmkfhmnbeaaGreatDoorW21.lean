/-
  Walks over package whole: cutOff of two int64; cutOff of any two numbers.
-/
import Derived.Test.YtmdmcmkfhmnbeaaGreatDoorW20
namespace Go.Proofs.YtmdmcmkfhmnbeaaGreatDoor
open Go.RowKit

theorem tdiv_num {x y : Int} (hy : y ≠ 0) (hx0 : -9223372036854775808 ≤ x) (hx1 : x ≤ 9223372036854775807) (hm : y ≠ -1) (hy0 : -9223372036854775808 ≤ y) (hy1 : y ≤ 9223372036854775807) :
    x.tdiv y * y + x.tmod y = x ∧ iabs (x.tmod y) < iabs y ∧ -9223372036854775808 ≤ x.tdiv y ∧ x.tdiv y ≤ 9223372036854775807 ∧ -9223372036854775808 ≤ x.tmod y ∧ x.tmod y ≤ 9223372036854775807 := by
  have e := Int.tmod_add_mul_tdiv x y
  have hq : iabs (x.tdiv y) ≤ iabs x := by
    have h1 : (x.tdiv y).natAbs = x.natAbs / y.natAbs := Int.natAbs_tdiv x y
    have h2 := Nat.div_le_self x.natAbs y.natAbs
    have c : ∀ t : Int, iabs t = (t.natAbs : Int) := by intro t; unfold iabs; split <;> omega
    rw [c, c, h1]; omega
  have hr : iabs (x.tmod y) < iabs y := by
    have h1 : (x.tmod y).natAbs = x.natAbs % y.natAbs := Int.natAbs_tmod x y
    have h2 := Nat.mod_lt x.natAbs (show 0 < y.natAbs by omega)
    have c : ∀ t : Int, iabs t = (t.natAbs : Int) := by intro t; unfold iabs; split <;> omega
    rw [c, c, h1]; omega
  have hq2 : x = -9223372036854775808 → iabs (x.tdiv y) ≤ 9223372036854775807 ∨ y = 1 := by
    intro hx
    by_cases h1 : y = 1
    · exact Or.inr h1
    · left
      have h1 : (x.tdiv y).natAbs = x.natAbs / y.natAbs := Int.natAbs_tdiv x y
      have h2 : x.natAbs / y.natAbs ≤ x.natAbs / 2 := Nat.div_le_div_left (by omega) (by decide)
      have c : ∀ t : Int, iabs t = (t.natAbs : Int) := by intro t; unfold iabs; split <;> omega
      rw [c, h1]; omega
  have e2 : x.tdiv y * y + x.tmod y = x := by rw [Int.mul_comm]; omega
  refine ⟨e2, hr, ?_, ?_, ?_, ?_⟩
  · unfold iabs at hq; split at hq <;> split at hq <;> omega
  · by_cases hx : x = -9223372036854775808
    · rcases hq2 hx with h | h
      · unfold iabs at h; split at h <;> omega
      · subst h; rw [Int.tdiv_one]; omega
    · unfold iabs at hq; split at hq <;> split at hq <;> omega
  · unfold iabs at hr; split at hr <;> split at hr <;> omega
  · unfold iabs at hr; split at hr <;> split at hr <;> omega

set_option maxHeartbeats 2000000 in
theorem cutOff_near (x y : Int) (w : World) (hy : y ≠ 0) (hm : y ≠ -1) (hx0 : -9223372036854775808 ≤ x) (hx1 : x ≤ 9223372036854775807) (hy0 : -9223372036854775808 ≤ y) (hy1 : y ≤ 9223372036854775807) :
    Calls Tryz.prog 60 #[.agg #[.int .i64 x, .slice none 0 0], .agg #[.int .i64 y, .slice none 0 0]] w fun e w' => (∃ vq vr q r, e = .returned (.tuple #[vq, vr]) ∧ Zr 1 w' vq q ∧ Zr 1 w' vr r ∧ q * y + r = x ∧ iabs r < iabs y) ∧ Below w.heap.size w w' := by
  obtain ⟨d1, d2, d3, d4, d5, d6⟩ := tdiv_num hy hx0 hx1 hm hy0 hy1
  obtain ⟨tq, htq⟩ : ∃ tq, x.tdiv y = tq := ⟨_, rfl⟩
  obtain ⟨tr, htr⟩ : ∃ tr, x.tmod y = tr := ⟨_, rfl⟩
  rw [htq] at d1 d3 d4
  rw [htr] at d1 d2 d5 d6
  have m1 : (y == -1) = false := by simpa using hm
  have m2 : (y == 0) = false := by simpa using hy
  have D1 := hide d1
  have D2 := hide d2
  have tok1 : True := trivial
  have HHY := hide hy
  have q1 : IntKind.i64.wrap tq = tq := by rw [IntKind.wrap_i64]; omega
  have q2 : wrap64 tq = tq := by unfold wrap64; omega
  clear d1 d2 hm
  go_enter Tryz.func60, Tryz.ntmps60
  go_wp2_with fail
  go_fit (bothNear_any x y none none 0 0 0 0 _)
  rintro e W1 ⟨rfl, hb0⟩
  simp only [Option.isNone_none, Bool.and_self]
  have hT := keep22 hb0 (start22 w (.int .i64 x) (.slice none 0 0) (.int .i64 y) (.slice none 0 0))
  clear hb0
  have hT' := hT
  obtain ⟨hbW, hbox, hbox2, hc0, hc1, hc2, hc3⟩ := hT'
  go_wp2_with fail
  go_region_held3 (fun w' => Two w (.int .i64 x) (.slice none 0 0) (.int .i64 y) (.slice none 0 0) w' ∧ w'.cell? ⟨w.heap.size, 0, none⟩ = some (.int .i64 x) ∧ w'.cell? ⟨w.heap.size, 1, none⟩ = some (.slice none 0 0) ∧ w'.cell? ⟨w.heap.size + 1, 0, none⟩ = some (.int .i64 y) ∧ w'.cell? ⟨w.heap.size + 1, 1, none⟩ = some (.slice none 0 0))
    (first | exact ⟨hT.drew, hc0, hc1, hc2, hc3⟩ | exact keep22c (by assumption) (And.left (by assumption)) | exact store22c (And.left (by assumption)) (by first | exact Or.inl rfl | exact Or.inr rfl))
    (first | (go_at_call 42; have _t := tok1; go_fit (of_any tq _); rintro e w7 ⟨rfl, hb7⟩; clear tok1) | (go_at_call 42; go_fit (of_any tr _); rintro e w8 ⟨rfl, hb8⟩; have hT8 : Two w (.int .i64 x) (.slice none 0 0) (.int .i64 y) (.slice none 0 0) w8 := keep22 hb8 (And.left (show Two w (.int .i64 x) (.slice none 0 0) (.int .i64 y) (.slice none 0 0) _ ∧ _ from by assumption)); obtain ⟨x0, a0, n0, c0, x1, a1', n1', c1', g0, g1, g2, g3, gf, gf2⟩ := boxes22 (Below.refl _ _) hT8))
  go_wp2
  obtain ⟨b1, b2, b3, b4, b5, b6, b7⟩ := both22 hT8 (Zr.near 1 d3 d4) (Zr.near 1 d5 d6)
  exact bodyPost_ret (v := .tuple #[.agg #[.int .i64 tq, .slice none 0 0], .agg #[.int .i64 tr, .slice none 0 0]]) (by simp [results, Tryz.results60, go_sem, b1, b2, b3, b4]) rfl ⟨⟨_, _, _, _, rfl, b5, b6, unhide D1, unhide D2⟩, b7.1⟩

set_option maxHeartbeats 2000000 in
theorem cutOff_one (x : Int) (w : World) (hx0 : -9223372036854775808 ≤ x) (hx1 : x ≤ 9223372036854775807) :
    Calls Tryz.prog 60 #[.agg #[.int .i64 x, .slice none 0 0], .agg #[.int .i64 (-1), .slice none 0 0]] w fun e w' => (∃ vq vr, e = .returned (.tuple #[vq, vr]) ∧ Zr 1 w' vq (-x) ∧ Zr 1 w' vr 0) ∧ Below w.heap.size w w' := by
  go_enter Tryz.func60, Tryz.ntmps60
  go_wp2_with fail
  go_fit (bothNear_any x (-1) none none 0 0 0 0 _)
  rintro e W1 ⟨rfl, hb0⟩
  simp only [Option.isNone_none, Bool.and_self]
  have hT := keep22 hb0 (start22 w (.int .i64 x) (.slice none 0 0) (.int .i64 (-1)) (.slice none 0 0))
  clear hb0
  have hT' := hT
  obtain ⟨hbW, hbox, hbox2, hc0, hc1, hc2, hc3⟩ := hT'
  go_wp2_with fail
  go_fit (neg_any (N := 0) (z := x) _ (Zr.near 1 hx0 hx1))
  rintro e w8 ⟨⟨v8, rfl, hZ8⟩, hb8⟩
  obtain ⟨u8, a8, n8, c8, hv8⟩ := hZ8.shape
  subst hv8
  have hT8 := keep22 hb8 hT
  obtain ⟨x0, a0, n0, c0, x1, a1', n1', c1', g0, g1, g2, g3, gf, gf2⟩ := boxes22 (Below.refl _ _) hT8
  go_wp2
  obtain ⟨b1, b2, b3, b4, b5, b6, b7⟩ := both22 (u2 := 0) (a2 := none) (n2 := 0) (c2 := 0) (M := 1) (z2 := 0) hT8 hZ8 (Zr.near 1 (by decide) (by decide))
  exact bodyPost_ret (v := .tuple #[.agg #[.int .i64 u8, .slice a8 n8 c8], .agg #[.int .i64 0, .slice none 0 0]]) (by simp [results, Tryz.results60, go_sem, b1, b2, b3, b4]) rfl ⟨⟨_, _, rfl, b5, b6⟩, b7.1⟩

/-- cutOff: of any two numbers, the second not 0. -/
theorem cutOff_any {N : Nat} {v u : Value} {z o : Int} (w : World) (hz : Zr (N + 1) w v z) (ho : Zr (N + 1) w u o) (ho0 : o ≠ 0) (hlim : N ≤ 800000) :
    Calls Tryz.prog 60 #[v, u] w fun e w' => (∃ vq vr q r, e = .returned (.tuple #[vq, vr]) ∧ Zr (N + 2) w' vq q ∧ Zr (N + 2) w' vr r ∧ q * o + r = z ∧ iabs r < iabs o) ∧ Below w.heap.size w w' := by
  obtain ⟨x, a1, n1, c1, rfl, h1, h2, h3⟩ := hz.sgn
  obtain ⟨y, a2, n2, c2, rfl, k1, k2, k3⟩ := ho.sgn
  cases hbn : (a1.isNone && a2.isNone)
  · exact cutOff_far x y a1 a2 n1 c1 n2 c2 z o w hz ho ho0 hbn hlim
  · simp at hbn
    obtain ⟨rfl, rfl, rfl, b0, b1⟩ := h2 hbn.1
    obtain ⟨rfl, rfl, rfl, d0, d1⟩ := k2 hbn.2
    obtain ⟨rfl, rfl⟩ := hbn
    by_cases hm : y = -1
    · subst hm
      refine (cutOff_one x w b0 b1).mono ?_
      rintro e w' ⟨⟨vq, vr, rfl, hq, hr⟩, hb⟩
      exact ⟨⟨vq, vr, _, _, rfl, hq.mono (by omega), hr.mono (by omega), by omega, by decide⟩, hb⟩
    · refine (cutOff_near x y w ho0 hm b0 b1 d0 d1).mono ?_
      rintro e w' ⟨⟨vq, vr, q, r, rfl, hq, hr, e1, e2⟩, hb⟩
      exact ⟨⟨vq, vr, q, r, rfl, hq.mono (by omega), hr.mono (by omega), e1, e2⟩, hb⟩
end Go.Proofs.YtmdmcmkfhmnbeaaGreatDoor
