/-
  Walks over the fractions of the document: QMul, QQuo.
  Walks over the fractions of the document: QCmp.
  Walks over the fractions of the document: QAdd.
  Walks over the fractions of the document: QSub.
  Walks over the fractions of the document: Floor, Ceil.
  Walks over package ratio: turned.
-/
import Derived.Test.YtpecanpbkbanhaaGreatDoorMRE
import Derived.Test.YtpecanpbkbanhaaGreatDoorMQD
import Derived.Test.YtpecanpbkbanhaaGreatDoorMTB
namespace Go.Proofs.YtpecanpbkbanhaaGreatDoor
open Go.RowKit
theorem W8.store {w w1 : World} {r b1 b2 : Nat} {v0 v1 v2 v3 u0 u1 u2 u3 t0 t1 t2 t3 : Value} (h : Below w.heap.size w w1 ∧ w1.cell? ⟨b1, 0, none⟩ = some v0 ∧ w1.cell? ⟨b1, 1, none⟩ = some v1 ∧ w1.cell? ⟨b1, 2, none⟩ = some v2 ∧ w1.cell? ⟨b1, 3, none⟩ = some v3 ∧ w1.cell? ⟨b2, 0, none⟩ = some u0 ∧ w1.cell? ⟨b2, 1, none⟩ = some u1 ∧ w1.cell? ⟨b2, 2, none⟩ = some u2 ∧ w1.cell? ⟨b2, 3, none⟩ = some u3) (hr : w.heap.size ≤ r) (hb1 : b1 ≠ r) (hb2 : b2 ≠ r) :
    let w2 := (((w1.setCell ⟨r, 0, none⟩ t0).setCell ⟨r, 1, none⟩ t1).setCell ⟨r, 2, none⟩ t2).setCell ⟨r, 3, none⟩ t3
    Below w.heap.size w w2 ∧ w2.cell? ⟨b1, 0, none⟩ = some v0 ∧ w2.cell? ⟨b1, 1, none⟩ = some v1 ∧ w2.cell? ⟨b1, 2, none⟩ = some v2 ∧ w2.cell? ⟨b1, 3, none⟩ = some v3 ∧ w2.cell? ⟨b2, 0, none⟩ = some u0 ∧ w2.cell? ⟨b2, 1, none⟩ = some u1 ∧ w2.cell? ⟨b2, 2, none⟩ = some u2 ∧ w2.cell? ⟨b2, 3, none⟩ = some u3 := by
  intro w2
  obtain ⟨k0, k1, k2, k3, k4, k5, k6, k7, k8⟩ := h
  have hc : ∀ b o v, b ≠ r → w1.cell? ⟨b, o, none⟩ = some v → w2.cell? ⟨b, o, none⟩ = some v := fun b o v hb hv => by
    show (World.setCell _ _ _).cell? _ = _
    rw [cell?_setCell_ne _ _ _ _ _ _ (by omega), cell?_setCell_ne _ _ _ _ _ _ (by omega), cell?_setCell_ne _ _ _ _ _ _ (by omega), cell?_setCell_ne _ _ _ _ _ _ (by omega)]
    exact hv
  exact ⟨below_rstored k0 hr _ _ _ _, hc _ _ _ hb1 k1, hc _ _ _ hb1 k2, hc _ _ _ hb1 k3, hc _ _ _ hb1 k4, hc _ _ _ hb2 k5, hc _ _ _ hb2 k6, hc _ _ _ hb2 k7, hc _ _ _ hb2 k8⟩
theorem W9.start (w : World) (x y x' y' : Bool) (a b a' b' : Option Addr) (n c m k n' c' m' k' : Nat) :
    let w2 := ((w.alloc (.cells #[.bool x, .slice a n c, .bool y, .slice b m k] 56)).alloc (.cells #[.bool x', .slice a' n' c', .bool y', .slice b' m' k'] 56)).alloc (.cells #[.bool false, .slice none 0 0, .bool false, .slice none 0 0] 56)
    QBox w2 (w.heap.size + 2) ∧ Below w.heap.size w w2 ∧ w2.cell? ⟨w.heap.size, 0, none⟩ = some (.bool x) ∧ w2.cell? ⟨w.heap.size, 1, none⟩ = some (.slice a n c) ∧ w2.cell? ⟨w.heap.size, 2, none⟩ = some (.bool y) ∧ w2.cell? ⟨w.heap.size, 3, none⟩ = some (.slice b m k) ∧ w2.cell? ⟨w.heap.size + 1, 0, none⟩ = some (.bool x') ∧ w2.cell? ⟨w.heap.size + 1, 1, none⟩ = some (.slice a' n' c') ∧ w2.cell? ⟨w.heap.size + 1, 2, none⟩ = some (.bool y') ∧ w2.cell? ⟨w.heap.size + 1, 3, none⟩ = some (.slice b' m' k') := by
  intro w2
  have h := K1.start w x y a b n c m k
  have g := K1.start (w.alloc (.cells #[.bool x, .slice a n c, .bool y, .slice b m k] 56)) x' y' a' b' n' c' m' k'
  have h := h.keep (below_new2 _ (.cells #[.bool x', .slice a' n' c', .bool y', .slice b' m' k'] 56) (.cells #[.bool false, .slice none 0 0, .bool false, .slice none 0 0] 56))
  have g := g.keep (below_new _ (.cells #[.bool false, .slice none 0 0, .bool false, .slice none 0 0] 56))
  have hq := qbox_new ((w.alloc (.cells #[.bool x, .slice a n c, .bool y, .slice b m k] 56)).alloc (.cells #[.bool x', .slice a' n' c', .bool y', .slice b' m' k'] 56)) false none 0 0 false none 0 0
  rw [show ((w.alloc (.cells #[.bool x, .slice a n c, .bool y, .slice b m k] 56)).alloc (.cells #[.bool x', .slice a' n' c', .bool y', .slice b' m' k'] 56)).heap.size = w.heap.size + 2 by simp] at hq
  obtain ⟨_, g0, g1, g2, g3⟩ := g
  rw [show (w.alloc (.cells #[.bool x, .slice a n c, .bool y, .slice b m k] 56)).heap.size = w.heap.size + 1 by simp] at g0 g1 g2 g3
  exact ⟨hq, h.below, h.c0, h.c1, h.c2, h.c3, g0, g1, g2, g3⟩
set_option maxHeartbeats 4000000 in
set_option maxRecDepth 4000 in
/-- QQuo. -/
theorem rqquo_any {N : Nat} {v v' : Value} {p d p' d' : Int} (w : World) (h : Qr N w v p d) (h' : Qr N w v' p' d') (hN : N ≤ 38000) (hp : p' ≠ 0) :
    Calls Tryz.prog 59 #[v, v'] w fun e w' => (∃ v P D, e = .returned v ∧ Qr (N + N) w' v P D ∧ P * (d * p') = p * d' * D) ∧ Below w.heap.size w w' := by
  obtain ⟨x, a, n, c, y, b, m, k, rfl, h2, h3, d0, hg⟩ := h
  obtain ⟨x', a', n', c', y', b', m', k', rfl, h2', h3', d0', hg'⟩ := h'
  have hst := W9.start w x y x' y' a b a' b' n c m k n' c' m' k'
  go_enter Tryz.func59, Tryz.ntmps59
  go_wp2_with fail
  obtain ⟨W0, hW0⟩ : ∃ W0, W0 = ((w.alloc (.cells #[.bool x, .slice a n c, .bool y, .slice b m k] 56)).alloc (.cells #[.bool x', .slice a' n' c', .bool y', .slice b' m' k'] 56)).alloc (.cells #[.bool false, .slice none 0 0, .bool false, .slice none 0 0] 56) := ⟨_, rfl⟩
  rw [← hW0] at hst ⊢
  clear hW0
  obtain ⟨hq, hB, e0, e1, e2, e3, f0, f1, f2, f3⟩ := hst
  have tok1 : True := trivial
  go_region_held3 (fun w' => Below w.heap.size w w' ∧ w'.cell? ⟨w.heap.size, 0, none⟩ = some (.bool x) ∧ w'.cell? ⟨w.heap.size, 1, none⟩ = some (.slice a n c) ∧ w'.cell? ⟨w.heap.size, 2, none⟩ = some (.bool y) ∧ w'.cell? ⟨w.heap.size, 3, none⟩ = some (.slice b m k) ∧ w'.cell? ⟨w.heap.size + 1, 0, none⟩ = some (.bool x') ∧ w'.cell? ⟨w.heap.size + 1, 1, none⟩ = some (.slice a' n' c') ∧ w'.cell? ⟨w.heap.size + 1, 2, none⟩ = some (.bool y') ∧ w'.cell? ⟨w.heap.size + 1, 3, none⟩ = some (.slice b' m' k'))
    (first | exact ⟨hB.drew, e0, e1, e2, e3, f0, f1, f2, f3⟩ | exact unhide S3 | exact unhide S2 | exact unhide S1 | exact W8.store (unhide S3) (by omega) (by omega) (by omega))
    (first | (go_at_call 24; have _t := tok1; go_fit (rmul_any (N := N) (M := N) _ (h2.later hB.drew) (h3'.later hB.drew) (by omega)); rintro e q1 ⟨⟨v1, rfl, hN1⟩, hb1⟩; clear tok1; obtain ⟨i1, i2, i3, i4, rfl⟩ := hN1.shape; have S1 := hide (keepW8 hb1 ⟨hB.drew, e0, e1, e2, e3, f0, f1, f2, f3⟩)) | (go_at_call 24; go_fit (rmul_any (N := N) (M := N) _ (h3.later (unhide S1).1) (h2'.later (unhide S1).1) (by omega)); rintro e q2 ⟨⟨v2, rfl, hN2⟩, hb2⟩; obtain ⟨i5, i6, i7, i8, rfl⟩ := hN2.shape; have S2 := hide (keepW8 hb2 (unhide S1))) | (go_at_call 63; go_fit (over_any (N := N + N) _ (hN1.later hb2) hN2 (Int.mul_ne_zero (Int.ne_of_gt d0) hp) (by omega)); rintro e q3 ⟨⟨v3, P, D, rfl, hQ3, hE⟩, hb3⟩; have HE := hide hE; clear hE; obtain ⟨i9, i10, i11, i12, i13, i14, i15, i16, rfl, hP3, hD3, D0, hG3⟩ := hQ3; have HG3 := hide hG3; clear hG3; have S3 := hide (keepW8 hb3 (unhide S2)); have hbx := hq.later (w := W0.drew) (below_keep hb3 (below_keep hb2 hb1)); obtain ⟨⟨j0, g0⟩, ⟨j1, j2, j3, g1⟩, ⟨j4, g2⟩, ⟨j5, j6, j7, g3⟩, gf⟩ := hbx.cells; have hlt := hbx.lt))
  have hB3 := (unhide S3).1
  have hbx := hq.later (w := W0.drew) (below_keep hb3 (below_keep hb2 hb1))
  go_wp2
  obtain ⟨st0, st1, st2, st3⟩ := hbx.stored (.bool i9) (.slice i10 i11 i12) (.bool i13) (.slice i14 i15 i16)
  exact bodyPost_ret (v := .agg #[.bool i9, .slice i10 i11 i12, .bool i13, .slice i14 i15 i16]) (by simp [results, Tryz.results59, go_sem, st0, st1, st2, st3]) rfl ⟨⟨_, P, D, rfl, ⟨_, _, _, _, _, _, _, _, rfl, hP3.qstored hbx _ _ _ _, hD3.qstored hbx _ _ _ _, D0, unhide HG3⟩, unhide HE⟩, below_rstored hB3 (by omega) _ _ _ _⟩
end Go.Proofs.YtpecanpbkbanhaaGreatDoor
namespace Go.Proofs.YtpecanpbkbanhaaGreatDoor
open Go.RowKit
theorem W8.start (w : World) (x y x' y' : Bool) (a b a' b' : Option Addr) (n c m k n' c' m' k' : Nat) :
    let w2 := (w.alloc (.cells #[.bool x, .slice a n c, .bool y, .slice b m k] 56)).alloc (.cells #[.bool x', .slice a' n' c', .bool y', .slice b' m' k'] 56)
    Below w.heap.size w w2 ∧ w2.cell? ⟨w.heap.size, 0, none⟩ = some (.bool x) ∧ w2.cell? ⟨w.heap.size, 1, none⟩ = some (.slice a n c) ∧ w2.cell? ⟨w.heap.size, 2, none⟩ = some (.bool y) ∧ w2.cell? ⟨w.heap.size, 3, none⟩ = some (.slice b m k) ∧ w2.cell? ⟨w.heap.size + 1, 0, none⟩ = some (.bool x') ∧ w2.cell? ⟨w.heap.size + 1, 1, none⟩ = some (.slice a' n' c') ∧ w2.cell? ⟨w.heap.size + 1, 2, none⟩ = some (.bool y') ∧ w2.cell? ⟨w.heap.size + 1, 3, none⟩ = some (.slice b' m' k') := by
  intro w2
  have h := K1.start w x y a b n c m k
  have g := K1.start (w.alloc (.cells #[.bool x, .slice a n c, .bool y, .slice b m k] 56)) x' y' a' b' n' c' m' k'
  have h := h.keep (below_new _ (.cells #[.bool x', .slice a' n' c', .bool y', .slice b' m' k'] 56))
  obtain ⟨_, g0, g1, g2, g3⟩ := g
  rw [show (w.alloc (.cells #[.bool x, .slice a n c, .bool y, .slice b m k] 56)).heap.size = w.heap.size + 1 by simp] at g0 g1 g2 g3
  exact ⟨h.below, h.c0, h.c1, h.c2, h.c3, g0, g1, g2, g3⟩
set_option maxHeartbeats 4000000 in
set_option maxRecDepth 4000 in
/-- QCmp. -/
theorem rqcmp_any {N : Nat} {v v' : Value} {p d p' d' : Int} (w : World) (h : Qr N w v p d) (h' : Qr N w v' p' d') (hN : N ≤ 38000) :
    Calls Tryz.prog 49 #[v, v'] w fun e w' => e = .returned (.int .i64 (sgn (p * d' - p' * d))) ∧ Below w.heap.size w w' := by
  obtain ⟨x, a, n, c, y, b, m, k, rfl, h2, h3, d0, hg⟩ := h
  obtain ⟨x', a', n', c', y', b', m', k', rfl, h2', h3', d0', hg'⟩ := h'
  have hst := W8.start w x y x' y' a b a' b' n c m k n' c' m' k'
  go_enter Tryz.func49, Tryz.ntmps49
  go_wp2_with fail
  obtain ⟨W0, hW0⟩ : ∃ W0, W0 = (w.alloc (.cells #[.bool x, .slice a n c, .bool y, .slice b m k] 56)).alloc (.cells #[.bool x', .slice a' n' c', .bool y', .slice b' m' k'] 56) := ⟨_, rfl⟩
  rw [← hW0] at hst ⊢
  clear hW0
  obtain ⟨hB, e0, e1, e2, e3, f0, f1, f2, f3⟩ := hst
  go_wp2_with fail
  go_fit (rmul_any (N := N) (M := N) _ (h2.later hB) (h3'.later hB) (by omega))
  rintro e W1 ⟨⟨v1, rfl, hN1⟩, hb1⟩
  obtain ⟨i1, i2, i3, i4, rfl⟩ := hN1.shape
  have hS := keepW8 hb1 ⟨hB, e0, e1, e2, e3, f0, f1, f2, f3⟩
  have hX := NB.new hN1
  obtain ⟨hB, e0, e1, e2, e3, f0, f1, f2, f3⟩ := keepW8 (below_new _ (.cells #[.bool i1, .slice i2 i3 i4] 24)) hS
  clear hb1 hS hN1
  go_wp2_with fail
  obtain ⟨W3, hW3⟩ : ∃ W3, W3 = W1.alloc (.cells #[.bool i1, .slice i2 i3 i4] 24) := ⟨_, rfl⟩
  rw [← hW3] at hX hB ⊢
  clear hW3 e0 e1 e2 e3 f0 f1 f2 f3
  go_fit (rmul_any (N := N) (M := N) _ (h2'.later hB) (h3.later hB) (by omega))
  rintro e W4 ⟨⟨v4, rfl, hN4⟩, hb4⟩
  obtain ⟨i5, i6, i7, i8, rfl⟩ := hN4.shape
  have hY := NB.new hN4
  have k4 := below_new W4 (.cells #[.bool i5, .slice i6 i7 i8] 24)
  have hX := (hX.keep hb4).keep k4
  have hB := below_keep k4 (below_keep hb4 hB)
  clear hb4 k4 hN4
  have e1 := hX.c0
  have e2 := hX.c1
  have e3 := hY.c0
  have e4 := hY.c1
  go_wp2_with fail
  go_fit (rcmp_any (N := N + N) (M := N + N) _ hX.nr hY.nr (by omega) (by omega))
  rintro e W5 ⟨rfl, hb5⟩
  have hB5 := below_keep hb5 hB
  clear hX hY hb5 hB e1 e2 e3 e4
  go_wp2
  go_ret
  first | exact hB5 | exact ⟨rfl, hB5⟩
end Go.Proofs.YtpecanpbkbanhaaGreatDoor
namespace Go.Proofs.YtpecanpbkbanhaaGreatDoor
open Go.RowKit
theorem keep8 {w w1 w2 : World} {b0 b1 b2 b3 b4 b5 b6 b7 o0 o1 o2 o3 o4 o5 o6 o7 : Nat} {v0 v1 v2 v3 v4 v5 v6 v7 : Value} (hb : Below w1.heap.size w1 w2) (h : Below w.heap.size w w1 ∧ w1.cell? ⟨b0, o0, none⟩ = some v0 ∧ w1.cell? ⟨b1, o1, none⟩ = some v1 ∧ w1.cell? ⟨b2, o2, none⟩ = some v2 ∧ w1.cell? ⟨b3, o3, none⟩ = some v3 ∧ w1.cell? ⟨b4, o4, none⟩ = some v4 ∧ w1.cell? ⟨b5, o5, none⟩ = some v5 ∧ w1.cell? ⟨b6, o6, none⟩ = some v6 ∧ w1.cell? ⟨b7, o7, none⟩ = some v7) : Below w.heap.size w w2 ∧ w2.cell? ⟨b0, o0, none⟩ = some v0 ∧ w2.cell? ⟨b1, o1, none⟩ = some v1 ∧ w2.cell? ⟨b2, o2, none⟩ = some v2 ∧ w2.cell? ⟨b3, o3, none⟩ = some v3 ∧ w2.cell? ⟨b4, o4, none⟩ = some v4 ∧ w2.cell? ⟨b5, o5, none⟩ = some v5 ∧ w2.cell? ⟨b6, o6, none⟩ = some v6 ∧ w2.cell? ⟨b7, o7, none⟩ = some v7 := by
  obtain ⟨k, k0, k1, k2, k3, k4, k5, k6, k7⟩ := h
  exact ⟨below_keep hb k, cell_keep hb k0, cell_keep hb k1, cell_keep hb k2, cell_keep hb k3, cell_keep hb k4, cell_keep hb k5, cell_keep hb k6, cell_keep hb k7⟩
theorem store8 {w w1 : World} {r b0 b1 b2 b3 b4 b5 b6 b7 o0 o1 o2 o3 o4 o5 o6 o7 : Nat} {v0 v1 v2 v3 v4 v5 v6 v7 t0 t1 t2 t3 : Value} (h : Below w.heap.size w w1 ∧ w1.cell? ⟨b0, o0, none⟩ = some v0 ∧ w1.cell? ⟨b1, o1, none⟩ = some v1 ∧ w1.cell? ⟨b2, o2, none⟩ = some v2 ∧ w1.cell? ⟨b3, o3, none⟩ = some v3 ∧ w1.cell? ⟨b4, o4, none⟩ = some v4 ∧ w1.cell? ⟨b5, o5, none⟩ = some v5 ∧ w1.cell? ⟨b6, o6, none⟩ = some v6 ∧ w1.cell? ⟨b7, o7, none⟩ = some v7) (hr : w.heap.size ≤ r) (h0 : b0 ≠ r) (h1 : b1 ≠ r) (h2 : b2 ≠ r) (h3 : b3 ≠ r) (h4 : b4 ≠ r) (h5 : b5 ≠ r) (h6 : b6 ≠ r) (h7 : b7 ≠ r) :
    let w2 := (((w1.setCell ⟨r, 0, none⟩ t0).setCell ⟨r, 1, none⟩ t1).setCell ⟨r, 2, none⟩ t2).setCell ⟨r, 3, none⟩ t3
    Below w.heap.size w w2 ∧ w2.cell? ⟨b0, o0, none⟩ = some v0 ∧ w2.cell? ⟨b1, o1, none⟩ = some v1 ∧ w2.cell? ⟨b2, o2, none⟩ = some v2 ∧ w2.cell? ⟨b3, o3, none⟩ = some v3 ∧ w2.cell? ⟨b4, o4, none⟩ = some v4 ∧ w2.cell? ⟨b5, o5, none⟩ = some v5 ∧ w2.cell? ⟨b6, o6, none⟩ = some v6 ∧ w2.cell? ⟨b7, o7, none⟩ = some v7 := by
  intro w2
  obtain ⟨k, k0, k1, k2, k3, k4, k5, k6, k7⟩ := h
  have hc : ∀ b o v, b ≠ r → w1.cell? ⟨b, o, none⟩ = some v → w2.cell? ⟨b, o, none⟩ = some v := fun b o v hb hv => by
    show (World.setCell _ _ _).cell? _ = _
    rw [cell?_setCell_ne _ _ _ _ _ _ (by omega), cell?_setCell_ne _ _ _ _ _ _ (by omega), cell?_setCell_ne _ _ _ _ _ _ (by omega), cell?_setCell_ne _ _ _ _ _ _ (by omega)]
    exact hv
  exact ⟨below_rstored k hr _ _ _ _, hc _ _ _ h0 k0, hc _ _ _ h1 k1, hc _ _ _ h2 k2, hc _ _ _ h3 k3, hc _ _ _ h4 k4, hc _ _ _ h5 k5, hc _ _ _ h6 k6, hc _ _ _ h7 k7⟩
set_option maxHeartbeats 8000000 in
set_option maxRecDepth 4000 in
/-- QAdd. -/
theorem rqadd_any {N : Nat} {v v' : Value} {p d p' d' : Int} (w : World) (h : Qr N w v p d) (h' : Qr N w v' p' d') (hN : N ≤ 38000) :
    Calls Tryz.prog 44 #[v, v'] w fun e w' => (∃ v P D, e = .returned v ∧ Qr (N + N + 1) w' v P D ∧ P * (d * d') = (p * d' + p' * d) * D) ∧ Below w.heap.size w w' := by
  obtain ⟨x, a, n, c, y, b, m, k, rfl, h2, h3, d0, hg⟩ := h
  obtain ⟨x', a', n', c', y', b', m', k', rfl, h2', h3', d0', hg'⟩ := h'
  have hst := W9.start w x y x' y' a b a' b' n c m k n' c' m' k'
  go_enter Tryz.func44, Tryz.ntmps44
  go_wp2_with fail
  obtain ⟨W0, hW0⟩ : ∃ W0, W0 = ((w.alloc (.cells #[.bool x, .slice a n c, .bool y, .slice b m k] 56)).alloc (.cells #[.bool x', .slice a' n' c', .bool y', .slice b' m' k'] 56)).alloc (.cells #[.bool false, .slice none 0 0, .bool false, .slice none 0 0] 56) := ⟨_, rfl⟩
  rw [← hW0] at hst ⊢
  clear hW0
  obtain ⟨hq, hB, e0, e1, e2, e3, f0, f1, f2, f3⟩ := hst
  go_wp2_with fail
  go_fit (rmul_any (N := N) (M := N) _ (h2.later hB) (h3'.later hB) (by omega))
  rintro e W1 ⟨⟨v1, rfl, hN1⟩, hb1⟩
  obtain ⟨i1, i2, i3, i4, rfl⟩ := hN1.shape
  have hS := keepW8 hb1 ⟨hB, e0, e1, e2, e3, f0, f1, f2, f3⟩
  have hq := hq.later hb1
  have hbx := hq.lt
  have hX := NB.new hN1
  have hq := hq.later (below_new _ (.cells #[.bool i1, .slice i2 i3 i4] 24))
  obtain ⟨hB, e0, e1, e2, e3, f0, f1, f2, f3⟩ := keepW8 (below_new _ (.cells #[.bool i1, .slice i2 i3 i4] 24)) hS
  clear hb1 hS hN1
  go_wp2_with fail
  obtain ⟨W3, hW3⟩ : ∃ W3, W3 = W1.alloc (.cells #[.bool i1, .slice i2 i3 i4] 24) := ⟨_, rfl⟩
  rw [← hW3] at hX hB hq e2 e3 f2 f3 ⊢
  clear hW3 e0 e1 f0 f1
  go_fit (rmul_any (N := N) (M := N) _ (h2'.later hB) (h3.later hB) (by omega))
  rintro e W4 ⟨⟨v4, rfl, hN4⟩, hb4⟩
  obtain ⟨i5, i6, i7, i8, rfl⟩ := hN4.shape
  have hY := NB.new hN4
  have k4 := below_new W4 (.cells #[.bool i5, .slice i6 i7 i8] 24)
  have hby := (hq.later hb4).lt
  have hq := (hq.later hb4).later k4
  have hX := (hX.keep hb4).keep k4
  have e2 := cell_keep k4 (cell_keep hb4 e2)
  have e3 := cell_keep k4 (cell_keep hb4 e3)
  have f2 := cell_keep k4 (cell_keep hb4 f2)
  have f3 := cell_keep k4 (cell_keep hb4 f3)
  have hB := below_keep k4 (below_keep hb4 hB)
  clear hb4 k4 hN4
  go_wp2_with fail
  obtain ⟨bx, ebx⟩ : ∃ bx, bx = W1.heap.size := ⟨_, rfl⟩
  obtain ⟨by', eby⟩ : ∃ by', by' = W4.heap.size := ⟨_, rfl⟩
  obtain ⟨W5, hW5⟩ : ∃ W5, W5 = W4.alloc (.cells #[.bool i5, .slice i6 i7 i8] 24) := ⟨_, rfl⟩
  rw [← hW5] at hX hY hB hq e2 e3 f2 f3 ⊢
  rw [← ebx] at hX hbx ⊢
  rw [← eby] at hY hby ⊢
  clear hW5 ebx eby
  have x0 := hX.c0
  have x1 := hX.c1
  have y0 := hY.c0
  have y1 := hY.c1
  go_region_held3 (fun w' => Below w.heap.size w w' ∧ w'.cell? ⟨w.heap.size, 2, none⟩ = some (.bool y) ∧ w'.cell? ⟨w.heap.size, 3, none⟩ = some (.slice b m k) ∧ w'.cell? ⟨w.heap.size + 1, 2, none⟩ = some (.bool y') ∧ w'.cell? ⟨w.heap.size + 1, 3, none⟩ = some (.slice b' m' k') ∧ w'.cell? ⟨bx, 0, none⟩ = some (.bool i1) ∧ w'.cell? ⟨bx, 1, none⟩ = some (.slice i2 i3 i4) ∧ w'.cell? ⟨by', 0, none⟩ = some (.bool i5) ∧ w'.cell? ⟨by', 1, none⟩ = some (.slice i6 i7 i8))
    (first | exact ⟨hB.drew, e2, e3, f2, f3, x0, x1, y0, y1⟩ | exact unhide S3 | exact unhide S2 | exact unhide S1 | exact store8 (unhide S3) (by omega) (by omega) (by omega) (by omega) (by omega) (by omega) (by omega) (by omega) (by omega))
    (first | (go_at_call 22; go_fit (radd_any (N := N + N) _ hX.drew.nr hY.drew.nr (by omega)); rintro e q1 ⟨⟨v1, rfl, hN1⟩, hb1⟩; obtain ⟨l1, l2, l3, l4, rfl⟩ := hN1.shape; have S1 := hide (keep8 hb1 ⟨hB.drew, e2, e3, f2, f3, x0, x1, y0, y1⟩)) | (go_at_call 24; go_fit (rmul_any (N := N) (M := N) _ (h3.later (unhide S1).1) (h3'.later (unhide S1).1) (by omega)); rintro e q2 ⟨⟨v2, rfl, hN2⟩, hb2⟩; obtain ⟨l5, l6, l7, l8, rfl⟩ := hN2.shape; have S2 := hide (keep8 hb2 (unhide S1))) | (go_at_call 63; go_fit (over_any (N := N + N + 1) _ (hN1.later hb2) (hN2.mono (by omega)) (Int.ne_of_gt (Int.mul_pos d0 d0')) (by omega)); rintro e q3 ⟨⟨v3, P, D, rfl, hQ3, hE⟩, hb3⟩; have HE := hide hE; clear hE; obtain ⟨i9, i10, i11, i12, i13, i14, i15, i16, rfl, hP3, hD3, D0, hG3⟩ := hQ3; have HG3 := hide hG3; clear hG3; have S3 := hide (keep8 hb3 (unhide S2)); have hbx' := hq.later (w := W5.drew) (below_keep hb3 (below_keep hb2 hb1)); obtain ⟨⟨j0, g0⟩, ⟨j1, j2, j3, g1⟩, ⟨j4, g2⟩, ⟨j5, j6, j7, g3⟩, gf⟩ := hbx'.cells; have hlt := hbx'.lt))
  have hB3 := (unhide S3).1
  have hbx' := hq.later (w := W5.drew) (below_keep hb3 (below_keep hb2 hb1))
  go_wp2
  obtain ⟨st0, st1, st2, st3⟩ := hbx'.stored (.bool i9) (.slice i10 i11 i12) (.bool i13) (.slice i14 i15 i16)
  exact bodyPost_ret (v := .agg #[.bool i9, .slice i10 i11 i12, .bool i13, .slice i14 i15 i16]) (by simp [results, Tryz.results44, go_sem, st0, st1, st2, st3]) rfl ⟨⟨_, P, D, rfl, ⟨_, _, _, _, _, _, _, _, rfl, hP3.qstored hbx' _ _ _ _, hD3.qstored hbx' _ _ _ _, D0, unhide HG3⟩, unhide HE⟩, below_rstored hB3 (by omega) _ _ _ _⟩
end Go.Proofs.YtpecanpbkbanhaaGreatDoor
namespace Go.Proofs.YtpecanpbkbanhaaGreatDoor
open Go.RowKit
set_option maxHeartbeats 8000000 in
set_option maxRecDepth 4000 in
/-- QSub. -/
theorem rqsub_any {N : Nat} {v v' : Value} {p d p' d' : Int} (w : World) (h : Qr N w v p d) (h' : Qr N w v' p' d') (hN : N ≤ 38000) :
    Calls Tryz.prog 45 #[v, v'] w fun e w' => (∃ v P D, e = .returned v ∧ Qr (N + N + 1) w' v P D ∧ P * (d * d') = (p * d' + (-p') * d) * D) ∧ Below w.heap.size w w' := by
  have h0 := h
  have h0' := h'
  obtain ⟨x, a, n, c, y, b, m, k, rfl, h2, h3, d0, hg⟩ := h
  obtain ⟨x', a', n', c', y', b', m', k', rfl, h2', h3', d0', hg'⟩ := h'
  have hst := W9.start w x y x' y' a b a' b' n c m k n' c' m' k'
  go_enter Tryz.func45, Tryz.ntmps45
  go_wp2_with fail
  obtain ⟨W0, hW0⟩ : ∃ W0, W0 = ((w.alloc (.cells #[.bool x, .slice a n c, .bool y, .slice b m k] 56)).alloc (.cells #[.bool x', .slice a' n' c', .bool y', .slice b' m' k'] 56)).alloc (.cells #[.bool false, .slice none 0 0, .bool false, .slice none 0 0] 56) := ⟨_, rfl⟩
  rw [← hW0] at hst ⊢
  clear hW0
  obtain ⟨hq, hB, e0, e1, e2, e3, f0, f1, f2, f3⟩ := hst
  go_wp2_with fail
  go_fit (rqneg_any _ (h0'.later hB))
  rintro e W1 ⟨⟨v1, rfl, hQ1⟩, hb1⟩
  have hQ1' := hQ1
  obtain ⟨i1, i2, i3, i4, i5, i6, i7, i8, rfl, _, _, _, _⟩ := hQ1'
  have hK := K1.start W1 i1 i5 i2 i6 i3 i4 i7 i8
  have k1 := below_new W1 (.cells #[.bool i1, .slice i2 i3 i4, .bool i5, .slice i6 i7 i8] 56)
  have hQ1 := hQ1.later k1
  have hq := (hq.later hb1).later k1
  obtain ⟨hB, e0, e1, e2, e3, f0, f1, f2, f3⟩ := keepW8 k1 (keepW8 hb1 ⟨hB, e0, e1, e2, e3, f0, f1, f2, f3⟩)
  obtain ⟨_, t0, t1, t2, t3⟩ := hK
  clear hb1 k1
  go_wp2_with fail
  obtain ⟨W3, hW3⟩ : ∃ W3, W3 = W1.alloc (.cells #[.bool i1, .slice i2 i3 i4, .bool i5, .slice i6 i7 i8] 56) := ⟨_, rfl⟩
  rw [← hW3] at hQ1 hB hq ⊢
  clear hW3 e0 e1 e2 e3 f0 f1 f2 f3 t0 t1 t2 t3
  go_fit (rqadd_any (N := N) _ (h0.later hB) hQ1 hN)
  rintro e W4 ⟨⟨v4, P, D, rfl, hQ4, hE⟩, hb4⟩
  have HE := hide hE
  clear hE
  obtain ⟨i9, i10, i11, i12, i13, i14, i15, i16, rfl, hP3, hD3, D0, hG3⟩ := hQ4
  have HG3 := hide hG3
  clear hG3
  have hbx := hq.later hb4
  have hB4 := below_keep hb4 hB
  obtain ⟨⟨j0, g0⟩, ⟨j1, j2, j3, g1⟩, ⟨j4, g2⟩, ⟨j5, j6, j7, g3⟩, gf⟩ := hbx.cells
  have hlt := hbx.lt
  clear hb4 hq hB hQ1 h0 h0'
  go_wp2
  obtain ⟨st0, st1, st2, st3⟩ := hbx.stored (.bool i9) (.slice i10 i11 i12) (.bool i13) (.slice i14 i15 i16)
  exact bodyPost_ret (v := .agg #[.bool i9, .slice i10 i11 i12, .bool i13, .slice i14 i15 i16]) (by simp [results, Tryz.results45, go_sem, st0, st1, st2, st3]) rfl ⟨⟨_, P, D, rfl, ⟨_, _, _, _, _, _, _, _, rfl, hP3.qstored hbx _ _ _ _, hD3.qstored hbx _ _ _ _, D0, unhide HG3⟩, unhide HE⟩, below_rstored hB4 (by omega) _ _ _ _⟩
end Go.Proofs.YtpecanpbkbanhaaGreatDoor
namespace Go.Proofs.YtpecanpbkbanhaaGreatDoor
open Go.RowKit
theorem iabs_of_pos {o : Int} (h : 0 < o) : iabs o = o := by
  unfold iabs
  split <;> omega
theorem KN.start (w : World) (x y : Bool) (a b : Option Addr) (n c m k : Nat) :
    let w2 := (w.alloc (.cells #[.bool x, .slice a n c, .bool y, .slice b m k] 56)).alloc (.cells #[.bool false, .slice none 0 0] 24)
    K1 w x a n c y b m k w2 ∧ NBox w2 (w.heap.size + 1) := by
  intro w2
  have h := (K1.start w x y a b n c m k).keep (below_new _ (.cells #[.bool false, .slice none 0 0] 24))
  have hq := nbox_new (w.alloc (.cells #[.bool x, .slice a n c, .bool y, .slice b m k] 56)) false none 0 0
  rw [show (w.alloc (.cells #[.bool x, .slice a n c, .bool y, .slice b m k] 56)).heap.size = w.heap.size + 1 by simp] at hq
  exact ⟨h, hq⟩
set_option maxHeartbeats 4000000 in
set_option maxRecDepth 4000 in
/-- Floor. -/
theorem rfloor_any {N : Nat} {v : Value} {p d : Int} (w : World) (h : Qr N w v p d) (hN : N ≤ 70000) :
    Calls Tryz.prog 56 #[v] w fun e w' => (∃ v, e = .returned v ∧ Nr (N + 1) w' v (p / d)) ∧ Below w.heap.size w w' := by
  obtain ⟨x, a, n, c, y, b, m, k, rfl, h2, h3, d0, hg⟩ := h
  have hst := KN.start w x y a b n c m k
  go_enter Tryz.func56, Tryz.ntmps56
  go_wp2_with fail
  obtain ⟨W0, hW0⟩ : ∃ W0, W0 = (w.alloc (.cells #[.bool x, .slice a n c, .bool y, .slice b m k] 56)).alloc (.cells #[.bool false, .slice none 0 0] 24) := ⟨_, rfl⟩
  rw [← hW0] at hst ⊢
  clear hW0
  obtain ⟨⟨hB, e0, e1, e2, e3⟩, hq⟩ := hst
  go_wp2_with fail
  go_fit (rdivMod_any (N := N) _ (h2.later hB) (h3.later hB) (by omega))
  rintro e W1 ⟨hd1, hb1⟩
  obtain ⟨x9, a9, n9, c9, y1, y2, y3, y4, q9, r9, rfl, hN9, hN10, hq9⟩ := dm_doc hd1
  obtain ⟨hn0, hq9, hr0, hr1⟩ := hq9.resolve_left (fun h => by omega)
  rw [iabs_of_pos d0] at hr1
  obtain rfl := floor_is hq9.symm hr0 hr1
  have hB1 := below_keep hb1 hB
  have hbx := hq.later hb1
  clear hq9 hr0 hr1 hn0 hN10 hd1 e0 e1 e2 e3 hb1 hB hq
  have hX := (NB.new hN9).keep (below_new _ (.cells #[.bool y1, .slice y2 y3 y4] 24))
  have hbx1 := hbx.later (below_new2 _ (.cells #[.bool x9, .slice a9 n9 c9] 24) (.cells #[.bool y1, .slice y2 y3 y4] 24))
  have hB2 := below_keep (below_new2 _ (.cells #[.bool x9, .slice a9 n9 c9] 24) (.cells #[.bool y1, .slice y2 y3 y4] 24)) hB1
  obtain ⟨⟨j0, g0⟩, ⟨j1, j2, j3, g1⟩, gf⟩ := hbx1.cells
  have hlt := World.block_lt_of_cell? _ _ g0
  have e1 := hX.c0
  have e2 := hX.c1
  go_wp2
  obtain ⟨st0, st1⟩ := hbx1.stored (.bool x9) (.slice a9 n9 c9)
  exact bodyPost_ret (v := .agg #[.bool x9, .slice a9 n9 c9]) (by simp [results, Tryz.results56, go_sem, st0, st1]) rfl ⟨⟨_, rfl, hX.nr.stored hbx1 _ _⟩, below_stored hB2 (by omega) _ _⟩
set_option maxHeartbeats 4000000 in
set_option maxRecDepth 4000 in
/-- Ceil. -/
theorem rceil_any {N : Nat} {v : Value} {p d : Int} (w : World) (h : Qr N w v p d) (hN : N ≤ 70000) :
    Calls Tryz.prog 57 #[v] w fun e w' => (∃ v, e = .returned v ∧ Nr (N + 1) w' v (-((-p) / d))) ∧ Below w.heap.size w w' := by
  have h0 := h
  obtain ⟨x, a, n, c, y, b, m, k, rfl, h2, h3, d0, hg⟩ := h
  have hst := KN.start w x y a b n c m k
  go_enter Tryz.func57, Tryz.ntmps57
  go_wp2_with fail
  obtain ⟨W0, hW0⟩ : ∃ W0, W0 = (w.alloc (.cells #[.bool x, .slice a n c, .bool y, .slice b m k] 56)).alloc (.cells #[.bool false, .slice none 0 0] 24) := ⟨_, rfl⟩
  rw [← hW0] at hst ⊢
  clear hW0
  obtain ⟨⟨hB, e0, e1, e2, e3⟩, hq⟩ := hst
  go_wp2_with fail
  go_fit (rqneg_any _ (h0.later hB))
  rintro e W1 ⟨⟨v1, rfl, hQ1⟩, hb1⟩
  have hQ1' := hQ1
  obtain ⟨i1, i2, i3, i4, i5, i6, i7, i8, rfl, _, _, _, _⟩ := hQ1'
  obtain ⟨_, t0, t1, t2, t3⟩ := K1.start W1 i1 i5 i2 i6 i3 i4 i7 i8
  have k1 := below_new W1 (.cells #[.bool i1, .slice i2 i3 i4, .bool i5, .slice i6 i7 i8] 56)
  have hQ1 := hQ1.later k1
  have hq := (hq.later hb1).later k1
  have hB := below_keep k1 (below_keep hb1 hB)
  clear hb1 k1 e0 e1 e2 e3
  go_wp2_with fail
  obtain ⟨W3, hW3⟩ : ∃ W3, W3 = W1.alloc (.cells #[.bool i1, .slice i2 i3 i4, .bool i5, .slice i6 i7 i8] 56) := ⟨_, rfl⟩
  rw [← hW3] at hQ1 hB hq ⊢
  clear hW3 t0 t1 t2 t3
  go_fit (rfloor_any (N := N) _ hQ1 hN)
  rintro e W4 ⟨⟨v4, rfl, hN4⟩, hb4⟩
  obtain ⟨l1, l2, l3, l4, rfl⟩ := hN4.shape
  have hB := below_keep hb4 hB
  have hq := hq.later hb4
  clear hb4 hQ1
  go_wp2_with fail
  go_fit (rneg_any _ hN4)
  rintro e W5 ⟨⟨v5, rfl, hN5⟩, hb5⟩
  obtain ⟨l5, l6, l7, l8, rfl⟩ := hN5.shape
  have hB := below_keep hb5 hB
  have hbx := hq.later hb5
  clear hb5 hN4 hq
  obtain ⟨⟨j0, g0⟩, ⟨j1, j2, j3, g1⟩, gf⟩ := hbx.cells
  have hlt := World.block_lt_of_cell? _ _ g0
  go_wp2
  obtain ⟨st0, st1⟩ := hbx.stored (.bool l5) (.slice l6 l7 l8)
  exact bodyPost_ret (v := .agg #[.bool l5, .slice l6 l7 l8]) (by simp [results, Tryz.results57, go_sem, st0, st1]) rfl ⟨⟨_, rfl, hN5.stored hbx _ _⟩, below_stored hB (by omega) _ _⟩
end Go.Proofs.YtpecanpbkbanhaaGreatDoor
namespace Go.Proofs.YtpecanpbkbanhaaGreatDoor
open Go.RowKit
end Go.Proofs.YtpecanpbkbanhaaGreatDoor
