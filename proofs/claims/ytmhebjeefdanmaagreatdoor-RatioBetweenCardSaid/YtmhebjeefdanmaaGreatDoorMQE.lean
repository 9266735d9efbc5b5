/-
  Walks over the fractions of the document: QMul, QQuo.
  Walks over the fractions of the document: QCmp.
-/
import Derived.Test.YtmhebjeefdanmaaGreatDoorMRF
import Derived.Test.YtmhebjeefdanmaaGreatDoorMQD
import Derived.Test.YtmhebjeefdanmaaGreatDoorMTB
namespace Go.Proofs.YtmhebjeefdanmaaGreatDoor
open Go.RowKit

theorem W8.store {w w1 : World} {r b1 b2 : Nat} {v0 v1 v2 v3 u0 u1 u2 u3 t0 t1 t2 t3 : Value} (h : Below w.heap.size w w1 ∧ w1.cell? ⟨b1, 0, none⟩ = some v0 ∧ w1.cell? ⟨b1, 1, none⟩ = some v1 ∧ w1.cell? ⟨b1, 2, none⟩ = some v2 ∧ w1.cell? ⟨b1, 3, none⟩ = some v3 ∧ w1.cell? ⟨b2, 0, none⟩ = some u0 ∧ w1.cell? ⟨b2, 1, none⟩ = some u1 ∧ w1.cell? ⟨b2, 2, none⟩ = some u2 ∧ w1.cell? ⟨b2, 3, none⟩ = some u3) (hr : w.heap.size ≤ r) (hb1 : b1 ≠ r) (hb2 : b2 ≠ r) :
    let w2 := (((w1.setCell ⟨r, 0, none⟩ t0).setCell ⟨r, 1, none⟩ t1).setCell ⟨r, 2, none⟩ t2).setCell ⟨r, 3, none⟩ t3
    Below w.heap.size w w2 ∧ w2.cell? ⟨b1, 0, none⟩ = some v0 ∧ w2.cell? ⟨b1, 1, none⟩ = some v1 ∧ w2.cell? ⟨b1, 2, none⟩ = some v2 ∧ w2.cell? ⟨b1, 3, none⟩ = some v3 ∧ w2.cell? ⟨b2, 0, none⟩ = some u0 ∧ w2.cell? ⟨b2, 1, none⟩ = some u1 ∧ w2.cell? ⟨b2, 2, none⟩ = some u2 ∧ w2.cell? ⟨b2, 3, none⟩ = some u3 := by
  intro w2
  obtain ⟨k0, k1, k2, k3, k4, k5, k6, k7, k8⟩ := h
  have hc : ∀ b o v, b ≠ r → w1.cell? ⟨b, o, none⟩ = some v → w2.cell? ⟨b, o, none⟩ = some v := fun b o v hb hv => by
    show (World.setCell _ _ _).cell? _ = _
    rw [cell?_setCell_ne _ _ _ _ _ _ (by omega), cell?_setCell_ne _ _ _ _ _ _ (by omega), cell?_setCell_ne _ _ _ _ _ _ (by omega), cell?_setCell_ne _ _ _ _ _ _ (by omega)]
    exact hv
  exact ⟨below_rstored k0 hr _ _ _ _, hc _ _ _ hb1 k1, hc _ _ _ hb1 k2, hc _ _ _ hb1 k3, hc _ _ _ hb1 k4, hc _ _ _ hb2 k5, hc _ _ _ hb2 k6, hc _ _ _ hb2 k7, hc _ _ _ hb2 k8⟩
theorem W9.start (w : World) (x y x' y' : Bool) (a b a' b' : Option Addr) (n c m k n' c' m' k' : Nat) :
    let w2 := ((w.alloc (.cells #[.bool x, .slice a n c, .bool y, .slice b m k] 56)).alloc (.cells #[.bool x', .slice a' n' c', .bool y', .slice b' m' k'] 56)).alloc (.cells #[.bool false, .slice none 0 0, .bool false, .slice none 0 0] 56)
    QBox w2 (w.heap.size + 2) ∧ Below w.heap.size w w2 ∧ w2.cell? ⟨w.heap.size, 0, none⟩ = some (.bool x) ∧ w2.cell? ⟨w.heap.size, 1, none⟩ = some (.slice a n c) ∧ w2.cell? ⟨w.heap.size, 2, none⟩ = some (.bool y) ∧ w2.cell? ⟨w.heap.size, 3, none⟩ = some (.slice b m k) ∧ w2.cell? ⟨w.heap.size + 1, 0, none⟩ = some (.bool x') ∧ w2.cell? ⟨w.heap.size + 1, 1, none⟩ = some (.slice a' n' c') ∧ w2.cell? ⟨w.heap.size + 1, 2, none⟩ = some (.bool y') ∧ w2.cell? ⟨w.heap.size + 1, 3, none⟩ = some (.slice b' m' k') := by
  intro w2
  have h := K1.start w x y a b n c m k
  have g := K1.start (w.alloc (.cells #[.bool x, .slice a n c, .bool y, .slice b m k] 56)) x' y' a' b' n' c' m' k'
  have h := h.keep (below_new2 _ (.cells #[.bool x', .slice a' n' c', .bool y', .slice b' m' k'] 56) (.cells #[.bool false, .slice none 0 0, .bool false, .slice none 0 0] 56))
  have g := g.keep (below_new _ (.cells #[.bool false, .slice none 0 0, .bool false, .slice none 0 0] 56))
  have hq := qbox_new ((w.alloc (.cells #[.bool x, .slice a n c, .bool y, .slice b m k] 56)).alloc (.cells #[.bool x', .slice a' n' c', .bool y', .slice b' m' k'] 56)) false none 0 0 false none 0 0
  rw [show ((w.alloc (.cells #[.bool x, .slice a n c, .bool y, .slice b m k] 56)).alloc (.cells #[.bool x', .slice a' n' c', .bool y', .slice b' m' k'] 56)).heap.size = w.heap.size + 2 by simp] at hq
  obtain ⟨_, g0, g1, g2, g3⟩ := g
  rw [show (w.alloc (.cells #[.bool x, .slice a n c, .bool y, .slice b m k] 56)).heap.size = w.heap.size + 1 by simp] at g0 g1 g2 g3
  exact ⟨hq, h.below, h.c0, h.c1, h.c2, h.c3, g0, g1, g2, g3⟩

set_option maxHeartbeats 4000000 in
set_option maxRecDepth 4000 in
/-- QMul. -/
theorem rqmul_any {N : Nat} {v v' : Value} {p d p' d' : Int} (w : World) (h : Qr N w v p d) (h' : Qr N w v' p' d') (hN : N ≤ 400) :
    Calls Tryz.prog 43 #[v, v'] w fun e w' => (∃ v P D, e = .returned v ∧ Qr (N + N) w' v P D ∧ P * (d * d') = p * p' * D) ∧ Below w.heap.size w w' := by
  obtain ⟨x, a, n, c, y, b, m, k, rfl, h2, h3, d0, hg⟩ := h
  obtain ⟨x', a', n', c', y', b', m', k', rfl, h2', h3', d0', hg'⟩ := h'
  have hst := W9.start w x y x' y' a b a' b' n c m k n' c' m' k'
  go_enter Tryz.func43, Tryz.ntmps43
  go_wp2_with fail
  obtain ⟨W0, hW0⟩ : ∃ W0, W0 = ((w.alloc (.cells #[.bool x, .slice a n c, .bool y, .slice b m k] 56)).alloc (.cells #[.bool x', .slice a' n' c', .bool y', .slice b' m' k'] 56)).alloc (.cells #[.bool false, .slice none 0 0, .bool false, .slice none 0 0] 56) := ⟨_, rfl⟩
  rw [← hW0] at hst ⊢
  clear hW0
  obtain ⟨hq, hB, e0, e1, e2, e3, f0, f1, f2, f3⟩ := hst
  have tok1 : True := trivial
  go_region_held3 (fun w' => Below w.heap.size w w' ∧ w'.cell? ⟨w.heap.size, 0, none⟩ = some (.bool x) ∧ w'.cell? ⟨w.heap.size, 1, none⟩ = some (.slice a n c) ∧ w'.cell? ⟨w.heap.size, 2, none⟩ = some (.bool y) ∧ w'.cell? ⟨w.heap.size, 3, none⟩ = some (.slice b m k) ∧ w'.cell? ⟨w.heap.size + 1, 0, none⟩ = some (.bool x') ∧ w'.cell? ⟨w.heap.size + 1, 1, none⟩ = some (.slice a' n' c') ∧ w'.cell? ⟨w.heap.size + 1, 2, none⟩ = some (.bool y') ∧ w'.cell? ⟨w.heap.size + 1, 3, none⟩ = some (.slice b' m' k'))
    (first | exact ⟨hB.drew, e0, e1, e2, e3, f0, f1, f2, f3⟩ | exact unhide S3 | exact unhide S2 | exact unhide S1 | exact W8.store (unhide S3) (by omega) (by omega) (by omega))
    (first | (go_at_call 21; have _t := tok1; go_fit (rmul_any (N := N) (M := N) _ (h2.later hB.drew) (h2'.later hB.drew) (by omega)); rintro e q1 ⟨⟨v1, rfl, hN1⟩, hb1⟩; clear tok1; obtain ⟨i1, i2, i3, i4, rfl⟩ := hN1.shape; have S1 := hide (keepW8 hb1 ⟨hB.drew, e0, e1, e2, e3, f0, f1, f2, f3⟩)) | (go_at_call 21; go_fit (rmul_any (N := N) (M := N) _ (h3.later (unhide S1).1) (h3'.later (unhide S1).1) (by omega)); rintro e q2 ⟨⟨v2, rfl, hN2⟩, hb2⟩; obtain ⟨i5, i6, i7, i8, rfl⟩ := hN2.shape; have S2 := hide (keepW8 hb2 (unhide S1))) | (go_at_call 60; go_fit (over_any (N := N + N) _ (hN1.later hb2) hN2 (Int.ne_of_gt (Int.mul_pos d0 d0')) (by omega)); rintro e q3 ⟨⟨v3, P, D, rfl, hQ3, hE⟩, hb3⟩; have HE := hide hE; clear hE; obtain ⟨i9, i10, i11, i12, i13, i14, i15, i16, rfl, hP3, hD3, D0, hG3⟩ := hQ3; have HG3 := hide hG3; clear hG3; have S3 := hide (keepW8 hb3 (unhide S2)); have hbx := hq.later (w := W0.drew) (below_keep hb3 (below_keep hb2 hb1)); obtain ⟨⟨j0, g0⟩, ⟨j1, j2, j3, g1⟩, ⟨j4, g2⟩, ⟨j5, j6, j7, g3⟩, gf⟩ := hbx.cells; have hlt := hbx.lt))
  have hB3 := (unhide S3).1
  have hbx := hq.later (w := W0.drew) (below_keep hb3 (below_keep hb2 hb1))
  go_wp2
  obtain ⟨st0, st1, st2, st3⟩ := hbx.stored (.bool i9) (.slice i10 i11 i12) (.bool i13) (.slice i14 i15 i16)
  exact bodyPost_ret (v := .agg #[.bool i9, .slice i10 i11 i12, .bool i13, .slice i14 i15 i16]) (by simp [results, Tryz.results43, go_sem, st0, st1, st2, st3]) rfl ⟨⟨_, P, D, rfl, ⟨_, _, _, _, _, _, _, _, rfl, hP3.qstored hbx _ _ _ _, hD3.qstored hbx _ _ _ _, D0, unhide HG3⟩, unhide HE⟩, below_rstored hB3 (by omega) _ _ _ _⟩

set_option maxHeartbeats 4000000 in
set_option maxRecDepth 4000 in
/-- QQuo. -/
theorem rqquo_any {N : Nat} {v v' : Value} {p d p' d' : Int} (w : World) (h : Qr N w v p d) (h' : Qr N w v' p' d') (hN : N ≤ 400) (hp : p' ≠ 0) :
    Calls Tryz.prog 56 #[v, v'] w fun e w' => (∃ v P D, e = .returned v ∧ Qr (N + N) w' v P D ∧ P * (d * p') = p * d' * D) ∧ Below w.heap.size w w' := by
  obtain ⟨x, a, n, c, y, b, m, k, rfl, h2, h3, d0, hg⟩ := h
  obtain ⟨x', a', n', c', y', b', m', k', rfl, h2', h3', d0', hg'⟩ := h'
  have hst := W9.start w x y x' y' a b a' b' n c m k n' c' m' k'
  go_enter Tryz.func56, Tryz.ntmps56
  go_wp2_with fail
  obtain ⟨W0, hW0⟩ : ∃ W0, W0 = ((w.alloc (.cells #[.bool x, .slice a n c, .bool y, .slice b m k] 56)).alloc (.cells #[.bool x', .slice a' n' c', .bool y', .slice b' m' k'] 56)).alloc (.cells #[.bool false, .slice none 0 0, .bool false, .slice none 0 0] 56) := ⟨_, rfl⟩
  rw [← hW0] at hst ⊢
  clear hW0
  obtain ⟨hq, hB, e0, e1, e2, e3, f0, f1, f2, f3⟩ := hst
  have tok1 : True := trivial
  go_region_held3 (fun w' => Below w.heap.size w w' ∧ w'.cell? ⟨w.heap.size, 0, none⟩ = some (.bool x) ∧ w'.cell? ⟨w.heap.size, 1, none⟩ = some (.slice a n c) ∧ w'.cell? ⟨w.heap.size, 2, none⟩ = some (.bool y) ∧ w'.cell? ⟨w.heap.size, 3, none⟩ = some (.slice b m k) ∧ w'.cell? ⟨w.heap.size + 1, 0, none⟩ = some (.bool x') ∧ w'.cell? ⟨w.heap.size + 1, 1, none⟩ = some (.slice a' n' c') ∧ w'.cell? ⟨w.heap.size + 1, 2, none⟩ = some (.bool y') ∧ w'.cell? ⟨w.heap.size + 1, 3, none⟩ = some (.slice b' m' k'))
    (first | exact ⟨hB.drew, e0, e1, e2, e3, f0, f1, f2, f3⟩ | exact unhide S3 | exact unhide S2 | exact unhide S1 | exact W8.store (unhide S3) (by omega) (by omega) (by omega))
    (first | (go_at_call 21; have _t := tok1; go_fit (rmul_any (N := N) (M := N) _ (h2.later hB.drew) (h3'.later hB.drew) (by omega)); rintro e q1 ⟨⟨v1, rfl, hN1⟩, hb1⟩; clear tok1; obtain ⟨i1, i2, i3, i4, rfl⟩ := hN1.shape; have S1 := hide (keepW8 hb1 ⟨hB.drew, e0, e1, e2, e3, f0, f1, f2, f3⟩)) | (go_at_call 21; go_fit (rmul_any (N := N) (M := N) _ (h3.later (unhide S1).1) (h2'.later (unhide S1).1) (by omega)); rintro e q2 ⟨⟨v2, rfl, hN2⟩, hb2⟩; obtain ⟨i5, i6, i7, i8, rfl⟩ := hN2.shape; have S2 := hide (keepW8 hb2 (unhide S1))) | (go_at_call 60; go_fit (over_any (N := N + N) _ (hN1.later hb2) hN2 (Int.mul_ne_zero (Int.ne_of_gt d0) hp) (by omega)); rintro e q3 ⟨⟨v3, P, D, rfl, hQ3, hE⟩, hb3⟩; have HE := hide hE; clear hE; obtain ⟨i9, i10, i11, i12, i13, i14, i15, i16, rfl, hP3, hD3, D0, hG3⟩ := hQ3; have HG3 := hide hG3; clear hG3; have S3 := hide (keepW8 hb3 (unhide S2)); have hbx := hq.later (w := W0.drew) (below_keep hb3 (below_keep hb2 hb1)); obtain ⟨⟨j0, g0⟩, ⟨j1, j2, j3, g1⟩, ⟨j4, g2⟩, ⟨j5, j6, j7, g3⟩, gf⟩ := hbx.cells; have hlt := hbx.lt))
  have hB3 := (unhide S3).1
  have hbx := hq.later (w := W0.drew) (below_keep hb3 (below_keep hb2 hb1))
  go_wp2
  obtain ⟨st0, st1, st2, st3⟩ := hbx.stored (.bool i9) (.slice i10 i11 i12) (.bool i13) (.slice i14 i15 i16)
  exact bodyPost_ret (v := .agg #[.bool i9, .slice i10 i11 i12, .bool i13, .slice i14 i15 i16]) (by simp [results, Tryz.results56, go_sem, st0, st1, st2, st3]) rfl ⟨⟨_, P, D, rfl, ⟨_, _, _, _, _, _, _, _, rfl, hP3.qstored hbx _ _ _ _, hD3.qstored hbx _ _ _ _, D0, unhide HG3⟩, unhide HE⟩, below_rstored hB3 (by omega) _ _ _ _⟩
end Go.Proofs.YtmhebjeefdanmaaGreatDoor
namespace Go.Proofs.YtmhebjeefdanmaaGreatDoor
open Go.RowKit

theorem W8.start (w : World) (x y x' y' : Bool) (a b a' b' : Option Addr) (n c m k n' c' m' k' : Nat) :
    let w2 := (w.alloc (.cells #[.bool x, .slice a n c, .bool y, .slice b m k] 56)).alloc (.cells #[.bool x', .slice a' n' c', .bool y', .slice b' m' k'] 56)
    Below w.heap.size w w2 ∧ w2.cell? ⟨w.heap.size, 0, none⟩ = some (.bool x) ∧ w2.cell? ⟨w.heap.size, 1, none⟩ = some (.slice a n c) ∧ w2.cell? ⟨w.heap.size, 2, none⟩ = some (.bool y) ∧ w2.cell? ⟨w.heap.size, 3, none⟩ = some (.slice b m k) ∧ w2.cell? ⟨w.heap.size + 1, 0, none⟩ = some (.bool x') ∧ w2.cell? ⟨w.heap.size + 1, 1, none⟩ = some (.slice a' n' c') ∧ w2.cell? ⟨w.heap.size + 1, 2, none⟩ = some (.bool y') ∧ w2.cell? ⟨w.heap.size + 1, 3, none⟩ = some (.slice b' m' k') := by
  intro w2
  have h := K1.start w x y a b n c m k
  have g := K1.start (w.alloc (.cells #[.bool x, .slice a n c, .bool y, .slice b m k] 56)) x' y' a' b' n' c' m' k'
  have h := h.keep (below_new _ (.cells #[.bool x', .slice a' n' c', .bool y', .slice b' m' k'] 56))
  obtain ⟨_, g0, g1, g2, g3⟩ := g
  rw [show (w.alloc (.cells #[.bool x, .slice a n c, .bool y, .slice b m k] 56)).heap.size = w.heap.size + 1 by simp] at g0 g1 g2 g3
  exact ⟨h.below, h.c0, h.c1, h.c2, h.c3, g0, g1, g2, g3⟩

set_option maxHeartbeats 4000000 in
set_option maxRecDepth 4000 in
/-- QCmp. -/
theorem rqcmp_any {N : Nat} {v v' : Value} {p d p' d' : Int} (w : World) (h : Qr N w v p d) (h' : Qr N w v' p' d') (hN : N ≤ 400) :
    Calls Tryz.prog 46 #[v, v'] w fun e w' => e = .returned (.int .i64 (sgn (p * d' - p' * d))) ∧ Below w.heap.size w w' := by
  obtain ⟨x, a, n, c, y, b, m, k, rfl, h2, h3, d0, hg⟩ := h
  obtain ⟨x', a', n', c', y', b', m', k', rfl, h2', h3', d0', hg'⟩ := h'
  have hst := W8.start w x y x' y' a b a' b' n c m k n' c' m' k'
  go_enter Tryz.func46, Tryz.ntmps46
  go_wp2_with fail
  obtain ⟨W0, hW0⟩ : ∃ W0, W0 = (w.alloc (.cells #[.bool x, .slice a n c, .bool y, .slice b m k] 56)).alloc (.cells #[.bool x', .slice a' n' c', .bool y', .slice b' m' k'] 56) := ⟨_, rfl⟩
  rw [← hW0] at hst ⊢
  clear hW0
  obtain ⟨hB, e0, e1, e2, e3, f0, f1, f2, f3⟩ := hst
  go_wp2_with fail
  go_fit (rmul_any (N := N) (M := N) _ (h2.later hB) (h3'.later hB) (by omega))
  rintro e W1 ⟨⟨v1, rfl, hN1⟩, hb1⟩
  obtain ⟨i1, i2, i3, i4, rfl⟩ := hN1.shape
  have hS := keepW8 hb1 ⟨hB, e0, e1, e2, e3, f0, f1, f2, f3⟩
  have hX := NB.new hN1
  obtain ⟨hB, e0, e1, e2, e3, f0, f1, f2, f3⟩ := keepW8 (below_new _ (.cells #[.bool i1, .slice i2 i3 i4] 24)) hS
  clear hb1 hS hN1
  go_wp2_with fail
  obtain ⟨W3, hW3⟩ : ∃ W3, W3 = W1.alloc (.cells #[.bool i1, .slice i2 i3 i4] 24) := ⟨_, rfl⟩
  rw [← hW3] at hX hB ⊢
  clear hW3 e0 e1 e2 e3 f0 f1 f2 f3
  go_fit (rmul_any (N := N) (M := N) _ (h2'.later hB) (h3.later hB) (by omega))
  rintro e W4 ⟨⟨v4, rfl, hN4⟩, hb4⟩
  obtain ⟨i5, i6, i7, i8, rfl⟩ := hN4.shape
  have hY := NB.new hN4
  have k4 := below_new W4 (.cells #[.bool i5, .slice i6 i7 i8] 24)
  have hX := (hX.keep hb4).keep k4
  have hB := below_keep k4 (below_keep hb4 hB)
  clear hb4 k4 hN4
  have e1 := hX.c0
  have e2 := hX.c1
  have e3 := hY.c0
  have e4 := hY.c1
  go_wp2_with fail
  go_fit (rcmp_any (N := N + N) (M := N + N) _ hX.nr hY.nr (by omega) (by omega))
  rintro e W5 ⟨rfl, hb5⟩
  have hB5 := below_keep hb5 hB
  clear hX hY hb5 hB e1 e2 e3 e4
  go_wp2
  go_ret
  first | exact hB5 | exact ⟨rfl, hB5⟩
end Go.Proofs.YtmhebjeefdanmaaGreatDoor
