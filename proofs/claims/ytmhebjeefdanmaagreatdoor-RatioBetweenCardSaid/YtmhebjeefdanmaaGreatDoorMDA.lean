/-
  Four cells of a box.
  The mathematics of the nearest decimal.
  Walks over package ratio: isOdd, nearest.
-/
import Derived.Test.YtmhebjeefdanmaaGreatDoorMQC
import Derived.Test.YtmhebjeefdanmaaGreatDoorMQ20
import Derived.Deep.DeepCutAuto
namespace Go.Proofs.YtmhebjeefdanmaaGreatDoor
open Go.RowKit

theorem c4_keep {w1 w2 : World} {b : Nat} {v0 v1 v2 v3 : Value} (hb : Below w1.heap.size w1 w2) (h : w1.cell? ⟨b, 0, none⟩ = some v0 ∧ w1.cell? ⟨b, 1, none⟩ = some v1 ∧ w1.cell? ⟨b, 2, none⟩ = some v2 ∧ w1.cell? ⟨b, 3, none⟩ = some v3) : w2.cell? ⟨b, 0, none⟩ = some v0 ∧ w2.cell? ⟨b, 1, none⟩ = some v1 ∧ w2.cell? ⟨b, 2, none⟩ = some v2 ∧ w2.cell? ⟨b, 3, none⟩ = some v3 :=
  ⟨cell_keep hb h.1, cell_keep hb h.2.1, cell_keep hb h.2.2.1, cell_keep hb h.2.2.2⟩
theorem c4_new {w : World} (v0 v1 v2 v3 : Value) (t : TypeId) : let w1 := w.alloc (.cells #[v0, v1, v2, v3] t); w1.cell? ⟨w.heap.size, 0, none⟩ = some v0 ∧ w1.cell? ⟨w.heap.size, 1, none⟩ = some v1 ∧ w1.cell? ⟨w.heap.size, 2, none⟩ = some v2 ∧ w1.cell? ⟨w.heap.size, 3, none⟩ = some v3 := by
  intro w1
  refine ⟨?_, ?_, ?_, ?_⟩ <;> (show (World.alloc _ _).cell? _ = _; rw [new_cell rfl]; rfl)
end Go.Proofs.YtmhebjeefdanmaaGreatDoor
namespace Go.Proofs.YtmhebjeefdanmaaGreatDoor
open Go.RowKit

/-- The whole number that is nearest to n by d; of two the even one. -/
def rnd (n d : Int) : Int := if d < 2 * (n % d) ∨ (2 * (n % d) = d ∧ (n / d) % 2 = 1) then n / d + 1 else n / d
theorem rnd_nonneg {n d : Int} (h0 : 0 ≤ n) (d0 : 0 < d) : 0 ≤ rnd n d := by
  have := Int.ediv_nonneg h0 (Int.le_of_lt d0)
  unfold rnd
  split <;> omega
theorem rnd_up {n d q r : Int} (h : q * d + r = n) (r0 : 0 ≤ r) (r1 : r < d) : q = n / d ∧ r = n % d := by
  have e : q = n / d := by
    have h1 : n / d = q := by
      rw [← h, Int.add_comm, Int.add_mul_ediv_right _ _ (by omega), Int.ediv_eq_zero_of_lt r0 r1]; omega
    exact h1.symm
  refine ⟨e, ?_⟩
  have h2 := Int.emod_add_mul_ediv n d
  rw [e, Int.mul_comm] at h
  omega
/-- The digits of q, at least k + 1 of them. -/
def padded (q : Int) (k : Nat) : List UInt8 := List.replicate (k + 1 - (Lib.itoa q).length) 48 ++ Lib.itoa q
theorem padded_length (q : Int) (k : Nat) : k < (padded q k).length := by
  unfold padded
  rw [List.length_append, List.length_replicate]
  omega
/-- The point ahead of the last k digits. -/
def pointed (l : List UInt8) (k : Nat) : List UInt8 := if k = 0 then l else l.take (l.length - k) ++ 46 :: l.drop (l.length - k)
/-- The nearest decimal of p by d with k places. -/
def decimal (p d : Int) (k : Nat) : ByteArray :=
  ⟨(if p < 0 ∧ 0 < rnd (p.natAbs * 10 ^ k) d then 45 :: pointed (padded (rnd (p.natAbs * 10 ^ k) d) k) k else pointed (padded (rnd (p.natAbs * 10 ^ k) d) k) k).toArray⟩
theorem pointed_minus {l : List UInt8} {k : Nat} (h : k < l.length) : pointed (45 :: l) k = 45 :: pointed l k := by
  unfold pointed
  split
  · rfl
  · rw [List.length_cons, show l.length + 1 - k = l.length - k + 1 by omega]
    rfl
/-- How many places are meant. -/
def plc (k : Int) : Nat := (min (max k 0) 60).toNat
theorem plc_le (k : Int) : plc k ≤ 60 := by unfold plc; omega
theorem plc_is (k : Int) : ((plc k : Nat) : Int) = min (max k 0) 60 := by unfold plc; omega
end Go.Proofs.YtmhebjeefdanmaaGreatDoor
namespace Go.Proofs.YtmhebjeefdanmaaGreatDoor
open Go.RowKit

theorem keepK2 {w w1 w2 : World} {x0 : Int} {x1 : Option Addr} {x2 x3 : Nat} (hb : Below w1.heap.size w1 w2) (h : Below w.heap.size w w1 ∧ w1.cell? ⟨w.heap.size, 0, none⟩ = some (.int .i64 x0) ∧ w1.cell? ⟨w.heap.size, 1, none⟩ = some (.slice x1 x2 x3)) : Below w.heap.size w w2 ∧ w2.cell? ⟨w.heap.size, 0, none⟩ = some (.int .i64 x0) ∧ w2.cell? ⟨w.heap.size, 1, none⟩ = some (.slice x1 x2 x3) :=
  ⟨below_keep hb h.1, cell_keep hb h.2.1, cell_keep hb h.2.2⟩
theorem storeK2 {w w1 : World} {x0 : Int} {x1 : Option Addr} {x2 x3 : Nat} (h : Below w.heap.size w w1 ∧ w1.cell? ⟨w.heap.size, 0, none⟩ = some (.int .i64 x0) ∧ w1.cell? ⟨w.heap.size, 1, none⟩ = some (.slice x1 x2 x3)) {q : Nat} (hq : w.heap.size < q) (u u' : Value) : Below w.heap.size w ((w1.setCell ⟨q, 0, none⟩ u).setCell ⟨q, 1, none⟩ u') ∧ ((w1.setCell ⟨q, 0, none⟩ u).setCell ⟨q, 1, none⟩ u').cell? ⟨w.heap.size, 0, none⟩ = some (.int .i64 x0) ∧ ((w1.setCell ⟨q, 0, none⟩ u).setCell ⟨q, 1, none⟩ u').cell? ⟨w.heap.size, 1, none⟩ = some (.slice x1 x2 x3) := by
  have hc : ∀ b o v, b ≠ q → w1.cell? ⟨b, o, none⟩ = some v → ((w1.setCell ⟨q, 0, none⟩ u).setCell ⟨q, 1, none⟩ u').cell? ⟨b, o, none⟩ = some v := fun b o v hb hv => by
    rw [cell?_setCell_ne _ _ _ _ _ _ (by omega), cell?_setCell_ne _ _ _ _ _ _ (by omega)]; exact hv
  exact ⟨below_stored h.1 (by omega) _ _, hc _ _ _ (by omega) h.2.1, hc _ _ _ (by omega) h.2.2⟩
theorem drewK2 {w w1 : World} {x0 : Int} {x1 : Option Addr} {x2 x3 : Nat} {o : Obj} (h : Below w.heap.size w w1.drew ∧ w1.drew.cell? ⟨w.heap.size, 0, none⟩ = some (.int .i64 x0) ∧ w1.drew.cell? ⟨w.heap.size, 1, none⟩ = some (.slice x1 x2 x3)) : Below w.heap.size w (w1.alloc o).drew ∧ (w1.alloc o).drew.cell? ⟨w.heap.size, 0, none⟩ = some (.int .i64 x0) ∧ (w1.alloc o).drew.cell? ⟨w.heap.size, 1, none⟩ = some (.slice x1 x2 x3) := keepK2 (w1 := w1.drew) (w2 := (w1.alloc o).drew) (below_new w1.drew o) h
theorem odd_is {z q r : Int} (h : q * 2 + r = z) (r0 : 0 ≤ r) (r1 : r < iabs 2) : r = z % 2 := by
  have h2 : iabs 2 = 2 := by decide
  rw [h2] at r1
  omega
theorem odd_sign {z : Int} : (sgn (z % 2) != 0) = decide (z % 2 = 1) := by
  rcases (by omega : z % 2 = 0 ∨ z % 2 = 1) with h | h <;> rw [h] <;> decide

set_option maxHeartbeats 4000000 in
set_option maxRecDepth 8000 in
/-- isOdd. -/
theorem isOdd_any {N : Nat} {v : Value} {z : Int} (w : World) (h : Zr (N + 1) w v z) (hN : N ≤ 100000) :
    Calls Tryz.prog 149 #[v] w fun e w' => e = .returned (.bool (decide (z % 2 = 1))) ∧ Below w.heap.size w w' := by
  obtain ⟨x0, x1, x2, x3, rfl⟩ := h.shape
  have k1 := below_new w (.cells #[.int .i64 x0, .slice x1 x2 x3] 31)
  have e0 : (w.alloc (.cells #[.int .i64 x0, .slice x1 x2 x3] 31)).cell? ⟨w.heap.size, 0, none⟩ = some (.int .i64 x0) := by rw [new_cell rfl]; rfl
  have e1 : (w.alloc (.cells #[.int .i64 x0, .slice x1 x2 x3] 31)).cell? ⟨w.heap.size, 1, none⟩ = some (.slice x1 x2 x3) := by rw [new_cell rfl]; rfl
  obtain ⟨bo, HBO⟩ : ∃ b, Hid (decide (z % 2 = 1) = b) := ⟨_, rfl⟩
  rw [show decide (z % 2 = 1) = bo from unhide HBO]
  go_enter Tryz.func149, Tryz.ntmps149
  go_upto_region 1 with fail
  obtain ⟨W0, hW0⟩ : ∃ W0, W0 = w.alloc (.cells #[.int .i64 x0, .slice x1 x2 x3] 31) := ⟨_, rfl⟩
  rw [← hW0] at k1 e0 e1
  first | rw [← hW0] | (change Code.wp _ _ _ _ (w.alloc (.cells #[.int .i64 x0, .slice x1 x2 x3] 31)); rw [← hW0])
  clear hW0
  have hlt0 : w.heap.size < W0.heap.size := World.block_lt_of_cell? _ _ e0
  go_cut [3, 4, 5] (fun v3 v4 v5 wx => ∃ b3 b4 r0 r1 r2 r3, v3 = .pointer (some ⟨b3, 0, none⟩) ∧ v5 = .bool true ∧ v4 = .pointer (some ⟨b4, 0, none⟩) ∧ Vr wx b4 r0 r1 r2 r3 (N + 3) (z % 2) ∧ Below w.heap.size w wx)
  case first =>
    have S0 := hide (show Below w.heap.size w W0.drew ∧ W0.drew.cell? ⟨w.heap.size, 0, none⟩ = some (.int .i64 x0) ∧ W0.drew.cell? ⟨w.heap.size, 1, none⟩ = some (.slice x1 x2 x3) from ⟨k1.drew, e0, e1⟩)
    go_region_held3 (fun w' => Below w.heap.size w w' ∧ w'.cell? ⟨w.heap.size, 0, none⟩ = some (.int .i64 x0) ∧ w'.cell? ⟨w.heap.size, 1, none⟩ = some (.slice x1 x2 x3))
      (first | with_reducible exact unhide S2 | with_reducible exact unhide S1 | with_reducible exact unhide S0 | with_reducible exact keepK2 (below_new _ _) (by assumption) | with_reducible exact drewK2 (by assumption) | with_reducible exact storeK2 (unhide S2) qa _ _ | with_reducible exact storeK2 (unhide S2) qb _ _ | with_reducible exact storeK2 (storeK2 (unhide S2) qa _ _) qb _ _ | with_reducible exact storeK2 (storeK2 (unhide S2) qb _ _) qa _ _ | with_reducible exact keepK2 (below_new _ _) (unhide S2) | with_reducible exact keepK2 (below_new2 _ _ _) (unhide S2) | with_reducible exact keepK2 (below_new _ _) (storeK2 (unhide S2) qa _ _))
      (first
        | (go_at_call 74; go_fit (of_any 2 _); rintro e9 q1 ⟨rfl, hb1⟩; have S1 := hide (keepK2 hb1 (by assumption)); have hq1 := below_keep hb1 (show Below W0.heap.size W0 _ from (by first | exact (Below.refl _ _).drew | exact (below_new _ _).drew | exact (below_new2 _ _ _).drew)); have sz1 : w.heap.size < q1.heap.size := Nat.lt_of_lt_of_le hlt0 hq1.size; (first | (have BXa : Hid (Box q1 W0.heap.size) := (by with_reducible exact hide (bx2ad hb1)); have BXb : Hid (Box q1 (W0.heap.size + 1)) := (by with_reducible exact hide (bx2bd hb1)); have qa : w.heap.size < W0.heap.size := hlt0; have qb : w.heap.size < W0.heap.size + 1 := Nat.lt_succ_of_lt qa; have hab : W0.heap.size < W0.heap.size + 1 := Nat.lt_succ_self _) | (have hab := box_lt (unhide BXa); have BXb : Hid (Box q1 W0.heap.size) := (by with_reducible exact hide (bx1d hb1)); have qb : w.heap.size < W0.heap.size := hlt0; replace BXa := hide ((unhide BXa).later hq1)) | (have BXa : Hid (Box q1 W0.heap.size) := (by with_reducible exact hide (bx1d hb1)); have qa : w.heap.size < W0.heap.size := hlt0) | (replace BXa := hide ((unhide BXa).later hq1); replace BXb := hide ((unhide BXb).later hq1)) | (replace BXa := hide ((unhide BXa).later hq1)) | skip); clear hb1 hq1)
        | (go_at_call 28; go_fit (divMod_any (N := N) _ (h.later (And.left (by assumption))) (Zr.near _ (by decide) (by decide)) (by omega)); rintro e9 q2 ⟨hd2, hb2⟩; obtain ⟨vq, vr, qq, rr, rfl, hZq, hZr, e5, r5, r6⟩ := hd2.resolve_left (fun h => absurd h.1 (by decide)) |>.2; have hrr := odd_is e5 r5 r6; subst hrr; clear e5 r5 r6 hd2; obtain ⟨i1, i2, i3, i4, rfl⟩ := hZq.shape; obtain ⟨i5, i6, i7, i8, rfl⟩ := hZr.shape; have S2 := hide (keepK2 hb2 (by assumption)); have hq2 := below_keep hb2 (show Below q1.heap.size q1 _ from (by first | exact Below.refl _ _ | exact below_new _ _ | exact below_new2 _ _ _)); (first | (have BXa : Hid (Box q2 q1.heap.size) := (by with_reducible exact hide (bx2a hb2)); have BXb : Hid (Box q2 (q1.heap.size + 1)) := (by with_reducible exact hide (bx2b hb2)); have qa : w.heap.size < q1.heap.size := sz1; have qb : w.heap.size < q1.heap.size + 1 := Nat.lt_succ_of_lt qa; have hab : q1.heap.size < q1.heap.size + 1 := Nat.lt_succ_self _) | (have hab := box_lt (unhide BXa); have BXb : Hid (Box q2 q1.heap.size) := (by with_reducible exact hide (bx1 hb2)); have qb : w.heap.size < q1.heap.size := sz1; replace BXa := hide ((unhide BXa).later hq2)) | (have BXa : Hid (Box q2 q1.heap.size) := (by with_reducible exact hide (bx1 hb2)); have qa : w.heap.size < q1.heap.size := sz1) | (replace BXa := hide ((unhide BXa).later hq2); replace BXb := hide ((unhide BXb).later hq2)) | (replace BXa := hide ((unhide BXa).later hq2)) | skip); have ZL := hide hZq; have ZR := hide hZr; (first | (obtain ⟨⟨z0, zz0⟩, ⟨z1, z2, z3, zz1⟩, zzf⟩ := (unhide BXa).cells; obtain ⟨⟨y0, yy0⟩, ⟨y1, y2, y3, yy1⟩, yyf⟩ := (unhide BXb).cells; have hlb := box_lt (unhide BXa); have hrb := box_lt (unhide BXb); have hn1 := Nat.ne_of_lt hab; have hn2 := Nat.ne_of_gt hab) | (obtain ⟨⟨z0, zz0⟩, ⟨z1, z2, z3, zz1⟩, zzf⟩ := (unhide BXa).cells; have hlb := box_lt (unhide BXa); have hn1 := Nat.ne_of_lt hlb; have hn2 := Nat.ne_of_gt hlb) | skip); clear hb2 hq2 hZq hZr))
    all_goals
      go_wp2
      go_meet
      first
        | (have hv := two_new (unhide ZL) (unhide ZR); exact ⟨_, _, _, _, _, _, rfl, rfl, rfl, hv.2, (keepK2 (below_new2 _ _ _) (unhide S2)).1⟩)
        | (have hv := two_new (unhide ZR) (unhide ZL); exact ⟨_, _, _, _, _, _, rfl, rfl, rfl, hv.1, (keepK2 (below_new2 _ _ _) (unhide S2)).1⟩)
        | (have hv := one_in (unhide BXa) (unhide ZL) (unhide ZR); exact ⟨_, _, _, _, _, _, rfl, rfl, rfl, hv.2, (keepK2 (below_new _ _) (storeK2 (unhide S2) qa _ _)).1⟩)
        | (have hv := one_in (unhide BXa) (unhide ZR) (unhide ZL); exact ⟨_, _, _, _, _, _, rfl, rfl, rfl, hv.1, (keepK2 (below_new _ _) (storeK2 (unhide S2) qa _ _)).1⟩)
        | (have hv := two_in (unhide BXa) (unhide BXb) hn1 (unhide ZL) (unhide ZR); exact ⟨_, _, _, _, _, _, rfl, rfl, rfl, hv.2, (storeK2 (storeK2 (unhide S2) qa _ _) qb _ _).1⟩)
        | (have hv := two_in (unhide BXb) (unhide BXa) hn2 (unhide ZL) (unhide ZR); exact ⟨_, _, _, _, _, _, rfl, rfl, rfl, hv.2, (storeK2 (storeK2 (unhide S2) qb _ _) qa _ _).1⟩)
  case rest =>
    obtain ⟨b3, b4, r0, r1, r2, r3, rfl, rfl, rfl, hv, hB⟩ := hcut
    obtain ⟨W1, rfl⟩ : ∃ X, X = wc := ⟨_, rfl⟩
    have c0 := hv.c0
    have c1 := hv.c1
    go_wp2_with fail
    go_fit (sign_zr _ hv.zr)
    rintro e9 W2 ⟨rfl, hb⟩
    have hB := below_keep hb hB
    have HBO2 := odd_sign.trans (unhide HBO)
    obtain ⟨sz, HSZ⟩ : ∃ s, Hid (sgn (z % 2) = s) := ⟨_, rfl⟩
    rw [show sgn (z % 2) = sz from unhide HSZ] at HBO2 ⊢
    clear HSZ HBO hb c0 c1 hv e0 e1 k1
    go_wp2
    go_ret
    exact ⟨rfl, hB⟩

end Go.Proofs.YtmhebjeefdanmaaGreatDoor
