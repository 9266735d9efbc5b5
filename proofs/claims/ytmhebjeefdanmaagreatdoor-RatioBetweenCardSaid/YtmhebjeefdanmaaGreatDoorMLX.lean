/-
  The law RatioBetween, walked: for every two texts it answers true.
  The law RatioBetween, walked: for every two texts it answers true.
-/
import Derived.Test.YtmhebjeefdanmaaGreatDoorMWJ
import Derived.Test.YtmhebjeefdanmaaGreatDoorMS9
import Derived.Test.YtmhebjeefdanmaaGreatDoorMLP
import Derived.Test.YtmhebjeefdanmaaGreatDoorMF5
namespace Go.Proofs.YtmhebjeefdanmaaGreatDoor
open Go.RowKit

/-- Simplest lies between both, and no lesser denominator has a fraction there. -/
theorem simplest_good {p d p' d' : Int} (d0 : 0 < d) (d0' : 0 < d') (h : p * d' ≤ p' * d) :
    0 < (simplest p d p' d').2 ∧ p * (simplest p d p' d').2 ≤ (simplest p d p' d').1 * d ∧ (simplest p d p' d').1 * d' ≤ p' * (simplest p d p' d').2 ∧ ∀ x y : Int, 0 < y → p * y ≤ x * d → x * d' ≤ p' * y → (simplest p d p' d').2 ≤ y := by
  unfold simplest
  by_cases hp : 0 < p
  · rw [if_pos hp]
    obtain ⟨g1, g2, g3, g4, g5, g6⟩ := sq_good (d + d').toNat p d p' d' hp d0 d0' h (by omega)
    exact ⟨g2, g4, g5, fun x y y0 h1 h2 => (g6 x y y0 h1 h2).1⟩
  · rw [if_neg hp]
    by_cases hq : p' < 0
    · rw [if_pos hq]
      obtain ⟨g1, g2, g3, g4, g5, g6⟩ := sq_good (d' + d).toNat (-p') d' (-p) d (by omega) d0' d0 (by rw [Int.neg_mul, Int.neg_mul]; omega) (by omega)
      generalize (sq (d' + d).toNat (-p') d' (-p) d).1 = P at *
      generalize (sq (d' + d).toNat (-p') d' (-p) d).2 = Q at *
      refine ⟨g2, ?_, ?_, fun x y y0 h1 h2 => (g6 (-x) y y0 (by rw [Int.neg_mul, Int.neg_mul]; omega) (by rw [Int.neg_mul, Int.neg_mul]; omega)).1⟩
      · show p * Q ≤ -P * d
        rw [Int.neg_mul] at g5 ⊢
        omega
      · show -P * d' ≤ p' * Q
        rw [Int.neg_mul] at g4 ⊢
        omega
    · rw [if_neg hq]
      refine ⟨Int.one_pos, ?_, ?_, fun x y y0 h1 h2 => ?_⟩
      · show p * 1 ≤ 0 * d
        omega
      · show 0 * d' ≤ p' * 1
        omega
      · show (1 : Int) ≤ y
        omega
theorem ceil_above {P D L K i : Int} (hD : 0 < D) (hK : 0 < K) (h : L * (D * 1) = P * i * K) : P * i ≤ -((-L) / K) * D := by
  have h1 : (-L) / K * K ≤ -L := Int.ediv_mul_le _ (by omega)
  rw [Int.mul_one] at h
  have h2 : ((-L) / K * K) * D ≤ (-L) * D := Int.mul_le_mul_of_nonneg_right h1 (by omega)
  have e1 : (-L) * D = -(P * i * K) := by rw [Int.neg_mul, h]
  have e2 : ((-L) / K * K) * D = ((-L) / K * D) * K := by grind
  have e3 : (P * i) * K ≤ (-((-L) / K) * D) * K := by
    have e4 : (-((-L) / K) * D) * K = -(((-L) / K * D) * K) := by grind
    omega
  exact Int.le_of_mul_le_mul_right e3 hK
theorem floor_below {P D L K i : Int} (hD : 0 < D) (hK : 0 < K) (h : L * (D * 1) = P * i * K) : L / K * D ≤ P * i := by
  have h1 : L / K * K ≤ L := Int.ediv_mul_le _ (by omega)
  rw [Int.mul_one] at h
  have h2 : (L / K * K) * D ≤ L * D := Int.mul_le_mul_of_nonneg_right h1 (by omega)
  have e2 : (L / K * K) * D = (L / K * D) * K := by grind
  have e3 : (L / K * D) * K ≤ (P * i) * K := by omega
  exact Int.le_of_mul_le_mul_right e3 hK
theorem lowest_is {N : Nat} {w : World} {v : Value} {P D p d o z : Int} (h : Rr N w v P D) (ho : o ≠ 0) (e : P * o = z * D) (d0 : 0 < d) (hg : Int.gcd p d = 1) (e' : p * o = z * d) : P = p ∧ D = d := by
  obtain ⟨_, _, _, _, _, _, _, _, _, _, _, _, D0, hG, _⟩ := h
  exact lowest_one ho e e' D0 d0 hG hg

/-- Two fractions in their boxes. -/
structure XY (w : World) (bx bz : Nat) (x1 : Int) (x2 : Option Addr) (x3 x4 : Nat) (x5 : Int) (x6 : Option Addr) (x7 x8 : Nat) (y1 : Int) (y2 : Option Addr) (y3 y4 : Nat) (y5 : Int) (y6 : Option Addr) (y7 y8 : Nat) (P D P' D' : Int) (wr : World) : Prop where
  below : Below w.heap.size w wr
  cx : wr.cell? ⟨bx, 0, none⟩ = some (.int .i64 x1) ∧ wr.cell? ⟨bx, 1, none⟩ = some (.slice x2 x3 x4) ∧ wr.cell? ⟨bx, 2, none⟩ = some (.int .i64 x5) ∧ wr.cell? ⟨bx, 3, none⟩ = some (.slice x6 x7 x8)
  cy : wr.cell? ⟨bz, 0, none⟩ = some (.int .i64 y1) ∧ wr.cell? ⟨bz, 1, none⟩ = some (.slice y2 y3 y4) ∧ wr.cell? ⟨bz, 2, none⟩ = some (.int .i64 y5) ∧ wr.cell? ⟨bz, 3, none⟩ = some (.slice y6 y7 y8)
  rx : Rr 78 wr (.agg #[.int .i64 x1, .slice x2 x3 x4, .int .i64 x5, .slice x6 x7 x8]) P D
  ry : Rr 78 wr (.agg #[.int .i64 y1, .slice y2 y3 y4, .int .i64 y5, .slice y6 y7 y8]) P' D'
theorem XY.keep {w : World} {bx bz : Nat} {x1 : Int} {x2 : Option Addr} {x3 x4 : Nat} {x5 : Int} {x6 : Option Addr} {x7 x8 : Nat} {y1 : Int} {y2 : Option Addr} {y3 y4 : Nat} {y5 : Int} {y6 : Option Addr} {y7 y8 : Nat} {P D P' D' : Int} {wr w1 : World} (h : XY w bx bz x1 x2 x3 x4 x5 x6 x7 x8 y1 y2 y3 y4 y5 y6 y7 y8 P D P' D' wr) (hb : Below wr.heap.size wr w1) : XY w bx bz x1 x2 x3 x4 x5 x6 x7 x8 y1 y2 y3 y4 y5 y6 y7 y8 P D P' D' w1 :=
  ⟨below_keep hb h.below, c4_keep hb h.cx, c4_keep hb h.cy, h.rx.later hb, h.ry.later hb⟩

set_option maxHeartbeats 4000000 in
/-- third. -/
theorem third_any (w : World) (hT : Tab64 w) : Calls Tryz.prog 65 #[] w fun e w' => (∃ v, e = .returned v ∧ Rr 10 w' v 1 3) ∧ Below w.heap.size w w' := by
  have hr := rbox_new w 0 none 0 0 0 none 0 0
  have hB := below_new w (.cells #[.int .i64 0, .slice none 0 0, .int .i64 0, .slice none 0 0] 52)
  have HTT := hide hT
  clear hT
  go_enter Tryz.func65, Tryz.ntmps65
  go_wp2_with fail
  go_fit (rint_any 1 _ (by decide) (by decide))
  rintro e W1 ⟨⟨v1, rfl, hR1⟩, hb⟩
  obtain ⟨a1, a2, a3, a4, a5, a6, a7, a8, rfl⟩ := hR1.shape
  have hB := below_keep hb hB
  have hr := hr.later hb
  clear hb
  go_wp2_with fail
  go_fit (rint_any 3 _ (by decide) (by decide))
  rintro e W2 ⟨⟨v2, rfl, hR2⟩, hb⟩
  obtain ⟨b1, b2, b3, b4, b5, b6, b7, b8, rfl⟩ := hR2.shape
  have hB := below_keep hb hB
  have hr := hr.later hb
  have hR1 := hR1.later hb
  clear hb
  go_wp2_with fail
  go_fit (qquo_any (N := 0) _ hR1 hR2 (by omega) ((unhide HTT).later hB))
  rintro e W3 ⟨hq, hb⟩
  rcases hq with ⟨h, _⟩ | ⟨_, v3, P, D, rfl, hR, hE⟩
  · exact absurd h (by decide)
  obtain ⟨hP, hD⟩ := lowest_is (p := 1) (d := 3) hR (by decide) hE (by decide) (by decide) (by decide)
  subst hP hD
  have hlt3 := (hr.later hb).lt
  obtain ⟨u0, u1, u2, u3, u4, u5, u6, u7, e8, rfl, hP2, hD2, DD0, hG2, hE2⟩ := hR
  have hB := below_keep hb hB
  have hr := hr.later hb
  obtain ⟨q0, q1, q2, q3⟩ := c4_new (w := W3) (.int .i64 u0) (.slice u1 u2 u3) (.int .i64 u4) (.slice u5 u6 u7) 52
  have HF := hide (And.intro hG2 hE2)
  obtain ⟨⟨j0, g0⟩, ⟨j1, j2, j3, g1⟩, ⟨j4, g2⟩, ⟨j5, j6, j7, g3⟩, gf⟩ := hr.cells
  have hne : w.heap.size ≠ W3.heap.size := Nat.ne_of_lt hlt3
  clear hb hE hG2 hE2 hR1 hR2
  go_wp2
  obtain ⟨st0, st1, st2, st3⟩ := hr.stored (.int .i64 u0) (.slice u1 u2 u3) (.int .i64 u4) (.slice u5 u6 u7)
  have kk := below_new ((((W3.setCell ⟨w.heap.size, 0, none⟩ (.int .i64 u0)).setCell ⟨w.heap.size, 1, none⟩ (.slice u1 u2 u3)).setCell ⟨w.heap.size, 2, none⟩ (.int .i64 u4)).setCell ⟨w.heap.size, 3, none⟩ (.slice u5 u6 u7)) (.cells #[.int .i64 u0, .slice u1 u2 u3, .int .i64 u4, .slice u5 u6 u7] 52)
  have st0 := cell_keep kk st0
  have st1 := cell_keep kk st1
  have st2 := cell_keep kk st2
  have st3 := cell_keep kk st3
  exact bodyPost_ret (v := .agg #[.int .i64 u0, .slice u1 u2 u3, .int .i64 u4, .slice u5 u6 u7]) (by simp [results, Tryz.results65, go_sem, st0, st1, st2, st3]) rfl ⟨⟨_, rfl, ⟨_, _, _, _, _, _, _, _, e8, rfl, (hP2.rstored hr _ _ _ _).later kk, (hD2.rstored hr _ _ _ _).later kk, DD0, (unhide HF).1, (unhide HF).2⟩⟩, below_keep kk (below_rstored hB (Nat.le_refl _) _ _ _ _)⟩
end Go.Proofs.YtmhebjeefdanmaaGreatDoor
namespace Go.Proofs.YtmhebjeefdanmaaGreatDoor
open Go.RowKit

/-- What the program's reader answers, in one form. -/
theorem RdP.form {s : ByteArray} {A : Nat → Addr} {e : Ending} {w' : World} (h : RdP s A e w') : ∃ j1 j2 j3 j4 j5 j6 j7 j8 er, e = .returned (.tuple #[.agg #[.int .i64 j1, .slice j2 j3 j4, .int .i64 j5, .slice j6 j7 j8], er]) ∧ ((∃ T q, er = .iface T q) ∨ (er = .nilIface ∧ ∃ P D, Rr 78 w' (.agg #[.int .i64 j1, .slice j2 j3 j4, .int .i64 j5, .slice j6 j7 j8]) P D)) := by
  rcases h with ⟨c, k, pb, _, _, rfl, _⟩ | ⟨p, q, v, P, D, _, _, rfl, hR, _⟩
  · exact ⟨_, _, _, _, _, _, _, _, _, rfl, Or.inl ⟨_, _, rfl⟩⟩
  · obtain ⟨j1, j2, j3, j4, j5, j6, j7, j8, rfl⟩ := hR.shape
    exact ⟨_, _, _, _, _, _, _, _, _, rfl, Or.inr ⟨rfl, P, D, hR⟩⟩
theorem Rr.pos {N : Nat} {w : World} {v : Value} {p d : Int} (h : Rr N w v p d) : 0 < d := by
  obtain ⟨_, _, _, _, _, _, _, _, _, _, _, _, h1, _⟩ := h
  exact h1
theorem itoa_one : Lib.itoa 1 = [49] := by rw [Lib.itoa, if_neg (by decide), show (1 : Int).toNat = 1 from rfl, Lib.decDigits, dif_pos (by decide)]; rfl
theorem itoa_two : Lib.itoa 2 = [50] := by rw [Lib.itoa, if_neg (by decide), show (2 : Int).toNat = 2 from rfl, Lib.decDigits, dif_pos (by decide)]; rfl
theorem qtext_half : qtext 1 2 = ⟨#[49, 47, 50]⟩ := by unfold qtext; rw [if_neg (by decide), itoa_one, itoa_two]; rfl
theorem simplest_half : simplest 1 3 2 3 = (1, 2) := by decide

set_option maxHeartbeats 16000000 in
set_option maxRecDepth 8000 in
theorem ratioBetween_law (A : Nat → Addr) (s t : ByteArray) (w : World) (hs : s.size ≤ 9223372036854775807) (ht : t.size ≤ 9223372036854775807) (h1 : w.cell? ⟨0, 0, none⟩ = some (.iface 234 (.pointer (some (A 0))))) (h2 : w.cell? ⟨1, 0, none⟩ = some (.iface 234 (.pointer (some (A 1))))) (h3 : w.cell? ⟨2, 0, none⟩ = some (.iface 234 (.pointer (some (A 2))))) (htab : Lib.TabIs Tryz.prog w "internal/strconv.uint64pow10" .u64 Lib.pow10Tab) (hT : Tab64 w) :
    Calls Tryz.prog 9 #[.string s, .string t] w fun e w' => e = .returned (.bool true) ∧ Below w.heap.size w w' := by
  have H123 := hide (And.intro h1 (And.intro h2 h3))
  have HTAB := hide htab
  have HTT := hide hT
  have HSS := hide (And.intro hs ht)
  have hss : (s.size : Int) ≤ 9223372036854775807 := by omega
  have htt : (t.size : Int) ≤ 9223372036854775807 := by omega
  clear h1 h2 h3 htab hT
  go_enter Tryz.func9, Tryz.ntmps9
  go_wp2_with fail
  go_fit (rint_any 0 _ (by decide) (by decide))
  rintro e W1 ⟨⟨v1, rfl, hR1⟩, hb⟩
  obtain ⟨a1, a2, a3, a4, a5, a6, a7, a8, rfl⟩ := hR1.shape
  have hB := hb
  clear hb
  go_wp2_with fail
  go_fit (third_any _ ((unhide HTT).later hB))
  rintro e W2 ⟨⟨v2, rfl, hR2⟩, hb⟩
  obtain ⟨b1, b2, b3, b4, b5, b6, b7, b8, rfl⟩ := hR2.shape
  have hB := below_keep hb hB
  have hR1 := hR1.later hb
  clear hb
  go_wp2_with fail
  go_fit (qadd_any (N := 9) _ (hR1.mono (by omega)) hR2 (by omega) ((unhide HTT).later hB))
  rintro e W3 ⟨⟨v3, Pa, Da, rfl, hR3, hE⟩, hb⟩
  obtain ⟨hpa, hda⟩ := lowest_is (p := 1) (d := 3) hR3 (by decide) hE (by decide) (by decide) (by decide)
  subst hpa hda
  obtain ⟨c1, c2, c3, c4, c5, c6, c7, c8, rfl⟩ := hR3.shape
  have hB := below_keep hb hB
  clear hb hE hR1 hR2
  go_wp2_with fail
  go_fit (rint_any 1 _ (by decide) (by decide))
  rintro e W4 ⟨⟨v4, rfl, hR4⟩, hb⟩
  obtain ⟨d1, d2, d3, d4, d5, d6, d7, d8, rfl⟩ := hR4.shape
  have hB := below_keep hb hB
  have hR3 := hR3.later hb
  clear hb
  go_wp2_with fail
  go_fit (third_any _ ((unhide HTT).later hB))
  rintro e W5 ⟨⟨v5, rfl, hR5⟩, hb⟩
  obtain ⟨f1, f2, f3, f4, f5, f6, f7, f8, rfl⟩ := hR5.shape
  have hB := below_keep hb hB
  have hR3 := hR3.later hb
  have hR4 := hR4.later hb
  clear hb
  go_wp2_with fail
  go_fit (qsub_any (N := 9) _ (hR4.mono (by omega)) hR5 (by omega) ((unhide HTT).later hB))
  rintro e W6 ⟨⟨v6, Pb, Db, rfl, hR6, hE⟩, hb⟩
  obtain ⟨hpb, hdb⟩ := lowest_is (p := 2) (d := 3) hR6 (by decide) hE (by decide) (by decide) (by decide)
  subst hpb hdb
  obtain ⟨g1, g2, g3, g4, g5, g6, g7, g8, rfl⟩ := hR6.shape
  have hB := below_keep hb hB
  have hR3 := hR3.later hb
  clear hb hE hR4 hR5
  go_wp2_with fail
  go_fit (simplest_any (N := 23) _ hR3 hR6 (by omega))
  rintro e W7 ⟨hq, hb⟩
  obtain ⟨v7, rfl, hR7⟩ := hq.resolve_left (fun h => absurd h.1 (by decide)) |>.2
  rw [simplest_half] at hR7
  obtain ⟨h1, h2, h3, h4, h5, h6, h7, h8, rfl⟩ := hR7.shape
  have kn := below_new W7 (.cells #[.int .i64 h1, .slice h2 h3 h4, .int .i64 h5, .slice h6 h7 h8] 52)
  have hB := below_keep kn (below_keep hb hB)
  have hR7 := hR7.later kn
  clear hb hq hR3 hR6 kn
  go_wp2_with fail
  go_fit (qtext_any _ hR7 (by omega) (tab_later (unhide HTAB) hB))
  rintro e W8 ⟨rfl, hb⟩
  rw [show qtext (1, 2).1 (1, 2).2 = ⟨#[49, 47, 50]⟩ from qtext_half]
  have hB := below_keep hb hB
  clear hb hR7
  go_wp2_with fail
  go_fit (qread_any s A _ (unhide HSS).1 ((unhide HTT).later hB) (cell_keep hB (unhide H123).1) (cell_keep hB (unhide H123).2.1) (cell_keep hB (unhide H123).2.2))
  rintro e W9 ⟨hc, hb⟩
  obtain ⟨x1, x2, x3, x4, x5, x6, x7, x8, er, rfl, hx⟩ := hc.form
  have HX := hide hx
  have kn := below_new W9 (.cells #[.int .i64 x1, .slice x2 x3 x4, .int .i64 x5, .slice x6 x7 x8] 52)
  have hB := below_keep kn (below_keep hb hB)
  clear hc hb hx kn
  go_wp2_with fail
  go_fit (qread_any t A _ (unhide HSS).2 ((unhide HTT).later hB) (cell_keep hB (unhide H123).1) (cell_keep hB (unhide H123).2.1) (cell_keep hB (unhide H123).2.2))
  rintro e W10 ⟨hc, hb⟩
  obtain ⟨y1, y2, y3, y4, y5, y6, y7, y8, er', rfl, hy⟩ := hc.form
  have kn1 := below_new W9 (.cells #[.int .i64 x1, .slice x2 x3 x4, .int .i64 x5, .slice x6 x7 x8] 52)
  have kn := below_new W10 (.cells #[.int .i64 y1, .slice y2 y3 y4, .int .i64 y5, .slice y6 y7 y8] 52)
  have kk := below_keep kn hb
  have hB := below_keep kk hB
  have CX := hide (c4_keep kk (c4_new (w := W9) (.int .i64 x1) (.slice x2 x3 x4) (.int .i64 x5) (.slice x6 x7 x8) 52))
  have CY := hide (c4_new (w := W10) (.int .i64 y1) (.slice y2 y3 y4) (.int .i64 y5) (.slice y6 y7 y8) 52)
  have HKX := hide (below_keep kk kn1)
  have HKY := hide kn
  clear hc hb kn kk kn1
  by_cases hl1 : (400 : Int) < s.size
  · go_wp2
    go_ret
    exact ⟨rfl, hB⟩
  by_cases hl2 : (400 : Int) < t.size
  · go_wp2
    go_ret
    exact ⟨rfl, hB⟩
  rcases unhide HX with ⟨T, q, rfl⟩ | ⟨rfl, P, D, hRx⟩
  · go_wp2
    go_ret
    exact ⟨rfl, hB⟩
  rcases hy with ⟨T, q, rfl⟩ | ⟨rfl, P', D', hRy⟩
  · go_wp2
    go_ret
    exact ⟨rfl, hB⟩
  obtain ⟨bx, hbx⟩ : ∃ X, X = W9.heap.size := ⟨_, rfl⟩
  obtain ⟨bz, hbz⟩ : ∃ X, X = W10.heap.size := ⟨_, rfl⟩
  have HL : Hid (XY w W9.heap.size W10.heap.size x1 x2 x3 x4 x5 x6 x7 x8 y1 y2 y3 y4 y5 y6 y7 y8 P D P' D' (W10.alloc (.cells #[.int .i64 y1, .slice y2 y3 y4, .int .i64 y5, .slice y6 y7 y8] 52))) := ⟨hB, unhide CX, unhide CY, hRx.later (unhide HKX), hRy.later (unhide HKY)⟩
  have HDD := hide (show 0 < D ∧ 0 < D' from by obtain ⟨_, _, _, _, _, _, _, _, _, _, _, _, h1, _⟩ := hRx; obtain ⟨_, _, _, _, _, _, _, _, _, _, _, _, h2, _⟩ := hRy; exact ⟨h1, h2⟩)
  clear hRx hRy hB CX CY HKX HKY HX H123 HSS
  go_upto_region 8 with fail
  obtain ⟨V1, hV1⟩ : ∃ X, X = W10.alloc (.cells #[.int .i64 y1, .slice y2 y3 y4, .int .i64 y5, .slice y6 y7 y8] 52) := ⟨_, rfl⟩
  rw [← hV1, ← hbx, ← hbz] at HL ⊢
  clear hV1 hbx hbz
  obtain ⟨x0c, x1c, x2c, x3c⟩ := (unhide HL).cx
  obtain ⟨y0c, y1c, y2c, y3c⟩ := (unhide HL).cy
  go_wp2_with fail
  go_fit (simplest_any (N := 77) _ (unhide HL).rx (unhide HL).ry (by omega))
  rintro e W11 ⟨hq, hb⟩
  have HL := hide ((unhide HL).keep hb)
  clear hb x0c x1c x2c x3c y0c y1c y2c y3c
  rcases hq with ⟨hlt, rfl⟩ | ⟨hle, v8, rfl, hR8⟩
  · have kn := below_new W11 (.cells #[.int .i64 0, .slice none 0 0, .int .i64 0, .slice none 0 0] 52)
    have HL := hide ((unhide HL).keep kn)
    obtain ⟨x0c, x1c, x2c, x3c⟩ := (unhide HL).cx
    obtain ⟨y0c, y1c, y2c, y3c⟩ := (unhide HL).cy
    clear kn
    go_wp2_with fail
    go_fit (qcmp_any (N := 77) _ (unhide HL).rx (unhide HL).ry (by omega))
    rintro e W12 ⟨rfl, hb⟩
    rw [sgn_pos (show 0 < P * D' - P' * D by omega)]
    have hB := below_keep hb (unhide HL).below
    clear hb x0c x1c x2c x3c y0c y1c y2c y3c hlt
    go_wp2
    go_ret
    exact ⟨rfl, hB⟩
  have hgd := simplest_good (unhide HDD).1 (unhide HDD).2 hle
  obtain ⟨SP, HSP⟩ : ∃ z, Hid ((simplest P D P' D').1 = z) := ⟨_, rfl⟩
  obtain ⟨SQ, HSQ⟩ : ∃ z, Hid ((simplest P D P' D').2 = z) := ⟨_, rfl⟩
  rw [unhide HSP, unhide HSQ] at hR8 hgd
  have HGD := hide hgd
  have hle' : ¬ 0 < sgn (P * D' - P' * D) := by rcases sgn_val (P * D' - P' * D) with ⟨_, h, _⟩ | ⟨_, h, _⟩ | ⟨h, _⟩ <;> omega
  have hr1 : ¬ sgn (SP * D - P * SQ) < 0 := by have h1 := hgd.2.1; rcases sgn_val (SP * D - P * SQ) with ⟨h, _⟩ | ⟨_, h, _⟩ | ⟨_, h, _⟩ <;> omega
  have hr2 : ¬ 0 < sgn (SP * D' - P' * SQ) := by have h1 := hgd.2.2.1; rcases sgn_val (SP * D' - P' * SQ) with ⟨_, h, _⟩ | ⟨_, h, _⟩ | ⟨h, _⟩ <;> omega
  obtain ⟨a1, a2, a3, a4, a5, a6, a7, a8, rfl⟩ := hR8.shape
  have kn := below_new W11 (.cells #[.int .i64 a1, .slice a2 a3 a4, .int .i64 a5, .slice a6 a7 a8] 52)
  have HL := hide ((unhide HL).keep kn)
  have HR := hide (RB.new hR8)
  obtain ⟨x0c, x1c, x2c, x3c⟩ := (unhide HL).cx
  obtain ⟨y0c, y1c, y2c, y3c⟩ := (unhide HL).cy
  clear kn hR8 hgd hle HSP HSQ
  go_wp2_with fail
  go_fit (qcmp_any (N := 77) _ (unhide HL).rx (unhide HL).ry (by omega))
  rintro e W12 ⟨rfl, hb⟩
  have HL := hide ((unhide HL).keep hb)
  have HR := hide ((unhide HR).keep hb)
  clear hb x0c x1c x2c x3c y0c y1c y2c y3c
  obtain ⟨sg, HSG⟩ : ∃ z, Hid (sgn (P * D' - P' * D) = z) := ⟨_, rfl⟩
  rw [show sgn (P * D' - P' * D) = sg from unhide HSG] at hle' ⊢
  obtain ⟨x0c, x1c, x2c, x3c⟩ := (unhide HL).cx
  obtain ⟨r0c, r1c, r2c, r3c⟩ := (unhide HR).c
  go_wp2_with fail
  go_fit (qcmp_any (N := 79) _ (unhide HR).r ((unhide HL).rx.mono (by omega)) (by omega))
  rintro e W13 ⟨rfl, hb⟩
  have HL := hide ((unhide HL).keep hb)
  have HR := hide ((unhide HR).keep hb)
  clear hb x0c x1c x2c x3c r0c r1c r2c r3c
  obtain ⟨sg1, HSG1⟩ : ∃ z, Hid (sgn (SP * D - P * SQ) = z) := ⟨_, rfl⟩
  rw [show sgn (SP * D - P * SQ) = sg1 from unhide HSG1] at hr1 ⊢
  obtain ⟨y0c, y1c, y2c, y3c⟩ := (unhide HL).cy
  obtain ⟨r0c, r1c, r2c, r3c⟩ := (unhide HR).c
  go_wp2_with fail
  go_fit (qcmp_any (N := 79) _ (unhide HR).r ((unhide HL).ry.mono (by omega)) (by omega))
  rintro e W14 ⟨rfl, hb⟩
  have HL := hide ((unhide HL).keep hb)
  have HR := hide ((unhide HR).keep hb)
  clear hb y0c y1c y2c y3c r0c r1c r2c r3c
  obtain ⟨sg2, HSG2⟩ : ∃ z, Hid (sgn (SP * D' - P' * SQ) = z) := ⟨_, rfl⟩
  rw [show sgn (SP * D' - P' * SQ) = sg2 from unhide HSG2] at hr2 ⊢
  obtain ⟨r0c, r1c, r2c, r3c⟩ := (unhide HR).c
  go_wp2_with fail
  go_fit (den_any _ (unhide HR).r)
  rintro e W15 ⟨⟨v9, rfl, hZ⟩, hb⟩
  obtain ⟨z0, z1, z2, z3, rfl⟩ := hZ.shape
  have kn := below_new W15 (.cells #[.int .i64 z0, .slice z1 z2 z3] 31)
  have HL := hide ((unhide HL).keep (below_keep kn hb))
  have hv := Vr.new hZ
  have c0 := hv.c0
  have c1 := hv.c1
  clear hb kn r0c r1c r2c r3c hZ HSG HSG1 HSG2 HR
  go_wp2_with fail
  go_fit (int64_any _ hv.zr)
  rintro e W16 ⟨hi, hb⟩
  have HL := hide ((unhide HL).keep hb)
  clear hb c0 c1 hv
  have hn : ∃ n : Int, Hid (n ≤ 60 ∧ n ≤ SQ ∧ 1 ≤ n) ∧ ((∃ z sm, e = .returned (.tuple #[.int .i64 z, .bool sm]) ∧ ((sm = true ∧ z = n ∧ z ≤ 60) ∨ (sm = true ∧ 60 < z ∧ n = 60) ∨ (sm = false ∧ n = 60)))) := by
    have h1 := (unhide HGD).1
    rcases hi with ⟨_, _, rfl⟩ | ⟨h, rfl⟩
    · by_cases h6 : SQ ≤ 60
      · exact ⟨SQ, hide ⟨h6, by omega, by omega⟩, SQ, true, rfl, Or.inl ⟨rfl, rfl, h6⟩⟩
      · exact ⟨60, hide ⟨by omega, by omega, by omega⟩, SQ, true, rfl, Or.inr (Or.inl ⟨rfl, by omega, rfl⟩)⟩
    · exact ⟨60, hide ⟨by omega, by omega, by omega⟩, 0, false, rfl, Or.inr (Or.inr ⟨rfl, rfl⟩)⟩
  obtain ⟨n, HN, zz, sm, rfl, hcase⟩ := hn
  clear hi
  obtain ⟨cb, hcb⟩ : ∃ cb : Bool, (cb = true ∧ n = 60 ∧ (sm = false ∨ (sm = true ∧ 60 < zz))) ∨ (cb = false ∧ zz = n ∧ sm = true ∧ zz ≤ 60) := by
    rcases hcase with ⟨h1, h2, h3⟩ | ⟨h1, h2, h3⟩ | ⟨h1, h2⟩
    · exact ⟨false, Or.inr ⟨rfl, h2, h1, h3⟩⟩
    · exact ⟨true, Or.inl ⟨rfl, h3, Or.inr ⟨h1, h2⟩⟩⟩
    · exact ⟨true, Or.inl ⟨rfl, h2, Or.inl h1⟩⟩
  have HCB := hide hcb
  clear hcase hcb
  go_upto_region 16 with fail
  go_cut [101] (fun cv wx => cv = .bool cb ∧ W16 = wx)
  case first =>
    rcases unhide HCB with ⟨h1, h2, h3 | ⟨h3, h4⟩⟩ | ⟨h1, h2, h3, h4⟩
    · subst h3
      clear h2
      go_wp2
      go_meet
      exact ⟨by rw [h1], rfl⟩
    · subst h3
      clear h2
      go_wp2
      go_meet
      exact ⟨by rw [h1], rfl⟩
    · subst h3
      have h5 : ¬ 60 < zz := by omega
      clear h2
      go_wp2
      go_meet
      exact ⟨by rw [h1], rfl⟩
  case rest =>
   obtain ⟨rfl, rfl⟩ := hcut
   go_upto_if 101 with fail
   go_cut [15, 101] (fun nv cv wx => nv = .int .i64 n ∧ Hid (XY w bx bz x1 x2 x3 x4 x5 x6 x7 x8 y1 y2 y3 y4 y5 y6 y7 y8 P D P' D' wx))
   case first =>
    rcases unhide HCB with ⟨rfl, h2, h3⟩ | ⟨rfl, h2, h3, h4⟩
    · have HH := hide h2
      clear h2 h3
      go_wp2
      go_meet
      exact ⟨by rw [unhide HH], HL⟩
    · have HH := hide h2
      clear h2 h3 h4
      go_wp2
      go_meet
      exact ⟨by rw [unhide HH], HL⟩
   case rest =>
     obtain ⟨rfl, HL⟩ := hcut
     obtain ⟨V2, rfl⟩ : ∃ X, X = wc := ⟨_, rfl⟩
     have hn60 : n ≤ 60 := (unhide HN).1
     have hn1 : 1 ≤ n := (unhide HN).2.2
     clear HCB
     go_wp2_with fail
     go_loopg [17] (n - 1).toNat (fun g dv wr => ∃ i : Int, dv = .int .i64 i ∧ 1 ≤ i ∧ i ≤ n ∧ g = (n - i).toNat ∧ Hid (XY w bx bz x1 x2 x3 x4 x5 x6 x7 x8 y1 y2 y3 y4 y5 y6 y7 y8 P D P' D' wr))
     case atStart => exact ⟨1, rfl, by omega, by omega, rfl, HL⟩
     case round =>
      clear HL
      obtain ⟨i, rfl, hi1, hin, hg, HL⟩ := hrel
      have HGG := hide hg
      clear hg
      by_cases hlt : i < n
      · go_wp2_with fail
        go_fit (rint_any i _ (by omega) (by omega))
        rintro e Y1 ⟨⟨v1, rfl, hR1⟩, hb⟩
        obtain ⟨b1, b2, b3, b4, b5, b6, b7, b8, rfl⟩ := hR1.shape
        have kn := below_new Y1 (.cells #[.int .i64 b1, .slice b2 b3 b4, .int .i64 b5, .slice b6 b7 b8] 52)
        have HL := hide ((unhide HL).keep (below_keep kn hb))
        have HB := hide (RB.new hR1)
        clear hb kn hR1
        obtain ⟨x0c, x1c, x2c, x3c⟩ := (unhide HL).cx
        obtain ⟨b0c, b1c, b2c, b3c⟩ := (unhide HB).c
        go_wp2_with fail
        go_fit (qmul_any (N := 77) _ (unhide HL).rx ((unhide HB).r.mono (by omega)) (by omega) ((unhide HTT).later (unhide HL).below))
        rintro e Y2 ⟨⟨v2, PL, DL, rfl, hR2, hE2⟩, hb⟩
        obtain ⟨c1, c2, c3, c4, c5, c6, c7, c8, rfl⟩ := hR2.shape
        have kn := below_new Y2 (.cells #[.int .i64 c1, .slice c2 c3 c4, .int .i64 c5, .slice c6 c7 c8] 52)
        have kk := below_keep kn hb
        have HL := hide ((unhide HL).keep kk)
        have HB := hide ((unhide HB).keep kk)
        have HC := hide (RB.new hR2)
        have HE2 := hide hE2
        clear hb kn kk hR2 hE2 x0c x1c x2c x3c b0c b1c b2c b3c
        obtain ⟨y0c, y1c, y2c, y3c⟩ := (unhide HL).cy
        obtain ⟨b0c, b1c, b2c, b3c⟩ := (unhide HB).c
        go_wp2_with fail
        go_fit (qmul_any (N := 77) _ (unhide HL).ry ((unhide HB).r.mono (by omega)) (by omega) ((unhide HTT).later (unhide HL).below))
        rintro e Y3 ⟨⟨v3, PH, DH, rfl, hR3, hE3⟩, hb⟩
        obtain ⟨f1, f2, f3, f4, f5, f6, f7, f8, rfl⟩ := hR3.shape
        have kn := below_new Y3 (.cells #[.int .i64 f1, .slice f2 f3 f4, .int .i64 f5, .slice f6 f7 f8] 52)
        have kk := below_keep kn hb
        have HL := hide ((unhide HL).keep kk)
        have HC := hide ((unhide HC).keep kk)
        have HF := hide (RB.new hR3)
        have HE3 := hide hE3
        clear hb kn kk hR3 hE3 y0c y1c y2c y3c b0c b1c b2c b3c HB
        obtain ⟨c0c, c1c, c2c, c3c⟩ := (unhide HC).c
        have HK := hide (And.intro (unhide HC).r.pos (unhide HF).r.pos)
        go_wp2_with fail
        go_fit (qceil_any (N := 317) _ (unhide HC).r (by omega))
        rintro e Y4 ⟨⟨v4, rfl, hZ4⟩, hb⟩
        obtain ⟨q0, q1, q2, q3, rfl⟩ := hZ4.shape
        have kn := below_new Y4 (.cells #[.int .i64 q0, .slice q1 q2 q3] 31)
        have kk := below_keep kn hb
        have HL := hide ((unhide HL).keep kk)
        have HF := hide ((unhide HF).keep kk)
        have HV := hide (Vr.new hZ4)
        clear hb kn kk hZ4 c0c c1c c2c c3c HC
        obtain ⟨f0c, f1c, f2c, f3c⟩ := (unhide HF).c
        go_wp2_with fail
        go_fit (qfloor_any (N := 317) _ (unhide HF).r (by omega))
        rintro e Y5 ⟨⟨v5, rfl, hZ5⟩, hb⟩
        obtain ⟨r0, r1, r2, r3, rfl⟩ := hZ5.shape
        have kn := below_new Y5 (.cells #[.int .i64 r0, .slice r1 r2 r3] 31)
        have kk := below_keep kn hb
        have HL := hide ((unhide HL).keep kk)
        have HV := hide ((unhide HV).keep kk)
        have HW := hide (Vr.new hZ5)
        clear hb kn kk hZ5 f0c f1c f2c f3c HF
        have q0c := (unhide HV).c0
        have q1c := (unhide HV).c1
        have r0c := (unhide HW).c0
        have r1c := (unhide HW).c1
        go_wp2_with fail
        go_fit (cmp_any (N := 320) _ (unhide HV).zr ((unhide HW).zr.mono (by omega)) (by omega))
        rintro e Y6 ⟨rfl, hb⟩
        have HL := hide ((unhide HL).keep hb)
        have hgt : 0 < -((-PL) / DL) - PH / DH := by
          have h1 := ceil_above (unhide HDD).1 (unhide HK).1 (unhide HE2)
          have h2 := floor_below (unhide HDD).2 (unhide HK).2 (unhide HE3)
          have h3 := (unhide HN).2.1
          have h4 := (unhide HGD).2.2.2
          by_cases hcf : -((-PL) / DL) ≤ PH / DH
          · exfalso
            have h5 : -((-PL) / DL) * D' ≤ PH / DH * D' := Int.mul_le_mul_of_nonneg_right hcf (Int.le_of_lt (unhide HDD).2)
            have h6 := h4 (-((-PL) / DL)) i (by omega) h1 (by omega)
            omega
          · omega
        rw [sgn_pos hgt]
        clear hb q0c q1c r0c r1c hgt HV HW
        go_wp2
        go_roundg ((n - (i + 1)).toNat)
        case measure => rw [unhide HGG]; omega
        case rel => exact ⟨i + 1, by first | rfl | (congr 1; go_num), by omega, by omega, rfl, HL⟩
      · have hB := (unhide HL).below
        go_wp2
        go_ret
        exact ⟨rfl, hB⟩
end Go.Proofs.YtmhebjeefdanmaaGreatDoor
