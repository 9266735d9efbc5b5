/-
  The walk over math/bits.Div64, by halves of 32 bits.
-/
import Derived.Test.YtachnndaoogpeaaGreatDoorMMathA
import Derived.Test.YtachnndaoogpeaaGreatDoorMW7
import Derived.Test.YtachnndaoogpeaaGreatDoorMMathShift
namespace Go.Proofs.YtachnndaoogpeaaGreatDoor
open Go.RowKit

set_option maxHeartbeats 400000 in
theorem div64_low (lo y : Int) (hl : W64 lo) (hy : W64 y) (hy0 : 0 < y) (w : World) :
    Calls Tryz.prog 168 #[.int .u64 0, .int .u64 lo, .int .u64 y] w fun e w' => e = .returned (.tuple #[.int .u64 (lo / y), .int .u64 (lo % y)]) ∧ ∃ n, w' = w.drewN n := by
  obtain ⟨l0, l1⟩ := hl
  obtain ⟨y0, y1⟩ := hy
  have hy1 : (y == 0) = false := by simp; omega
  go_enter Tryz.func168, Tryz.ntmps168
  go_wp2_with fail
  go_quiet (fail)
  go_wp2
  go_ret2
  exact ⟨rfl, _, rfl⟩
theorem wrapped3 {a b c k1 k2 k3 t : Int} (h0 : 0 ≤ a * 4294967296 + b - c) (h1 : a * 4294967296 + b - c < 18446744073709551616) (e1 : IntKind.u64.wrap (a * 4294967296) = k1) (e2 : IntKind.u64.wrap (k1 + b) = k2) (e3 : IntKind.u64.wrap c = k3) (e4 : IntKind.u64.wrap (k2 - k3) = t) : t = a * 4294967296 + b - c := by
  rw [IntKind.wrap_u64] at e1 e2 e3 e4
  omega
theorem half_p {y1 y0 u n q r : Int} (h : Half y1 y0 u n q r) (hq : q < 4294967296) : 0 ≤ q * y0 ∧ q * y0 < 18446744073709551616 := by
  refine ⟨Int.mul_nonneg h.q0 h.y0lo, ?_⟩
  have h1 : q * y0 ≤ 4294967295 * y0 := Int.mul_le_mul_of_nonneg_right (by omega) h.y0lo
  have := h.y0hi
  omega
theorem ret_two {a b a' b' : Int} (h : a = a') (h' : b = b') : Ending.returned (.tuple #[.int .u64 a, .int .u64 b]) = .returned (.tuple #[.int .u64 a', .int .u64 b']) := by rw [h, h']
theorem prep {Y y1 y0 u n1 n0 Q : Int} (hD : Done y1 y0 u n1 Q) (hY : Y = y1 * 4294967296 + y0) (by1 : 2147483648 ≤ y1) (by1' : y1 < 4294967296) (by0 : 0 ≤ y0) (by0' : y0 < 4294967296) (bn0 : 0 ≤ n0) (bn0' : n0 < 4294967296) :
    ∃ k1 k2 k3 t q m r, IntKind.u64.wrap (u * 4294967296) = k1 ∧ IntKind.u64.wrap (k1 + n1) = k2 ∧ IntKind.u64.wrap (Q * Y) = k3 ∧ IntKind.u64.wrap (k2 - k3) = t ∧ Hid (t = u * 4294967296 + n1 - Q * Y) ∧ 0 ≤ t ∧ t < 18446744073709551616 ∧ Hid (t / y1 = q) ∧ IntKind.u64.wrap (t / y1 * y1) = m ∧ 0 ≤ m ∧ m ≤ t ∧ t - m = r ∧ Half y1 y0 t n0 q r := by
  obtain ⟨k1, e1⟩ : ∃ k1, IntKind.u64.wrap (u * 4294967296) = k1 := ⟨_, rfl⟩
  obtain ⟨k2, e2⟩ : ∃ k2, IntKind.u64.wrap (k1 + n1) = k2 := ⟨_, rfl⟩
  obtain ⟨k3, e3⟩ : ∃ k3, IntKind.u64.wrap (Q * Y) = k3 := ⟨_, rfl⟩
  obtain ⟨t, e4⟩ : ∃ t, IntKind.u64.wrap (k2 - k3) = t := ⟨_, rfl⟩
  have hr := hD.rest
  rw [← hY] at hr
  have ht := wrapped3 hr.1 (by omega) e1 e2 e3 e4
  have hH := half_start by1 by1' by0 by0' (show 0 ≤ t by omega) (show t < y1 * 4294967296 + y0 by omega) bn0 bn0'
  have m0 : 0 ≤ t / y1 * y1 := Int.mul_nonneg hH.q0 (by omega)
  have m1 := hH.eq
  have m2 := hH.r0
  refine ⟨k1, k2, k3, t, t / y1, t / y1 * y1, _, e1, e2, e3, e4, ht, by omega, by omega, rfl, ?_, m0, by omega, rfl, hH⟩
  rw [IntKind.wrap_u64]; omega
theorem prep2 {Y y1 y0 t n0 Q : Int} (hD : Done y1 y0 t n0 Q) (hY : Y = y1 * 4294967296 + y0) (by1' : y1 < 4294967296) (by0' : y0 < 4294967296) :
    ∃ k4 k5 k6 R, IntKind.u64.wrap (t * 4294967296) = k4 ∧ IntKind.u64.wrap (k4 + n0) = k5 ∧ IntKind.u64.wrap (Q * Y) = k6 ∧ IntKind.u64.wrap (k5 - k6) = R ∧ Hid (R = t * 4294967296 + n0 - Q * Y) ∧ 0 ≤ R ∧ R < 18446744073709551616 := by
  obtain ⟨k1, e1⟩ : ∃ k1, IntKind.u64.wrap (t * 4294967296) = k1 := ⟨_, rfl⟩
  obtain ⟨k2, e2⟩ : ∃ k2, IntKind.u64.wrap (k1 + n0) = k2 := ⟨_, rfl⟩
  obtain ⟨k3, e3⟩ : ∃ k3, IntKind.u64.wrap (Q * Y) = k3 := ⟨_, rfl⟩
  obtain ⟨R, e4⟩ : ∃ R, IntKind.u64.wrap (k2 - k3) = R := ⟨_, rfl⟩
  have hr := hD.rest
  rw [← hY] at hr
  have ht := wrapped3 hr.1 (by omega) e1 e2 e3 e4
  exact ⟨k1, k2, k3, R, e1, e2, e3, e4, ht, by omega, by omega⟩
theorem half_q1 {y1 y0 u n q r : Int} (h : Half y1 y0 u n q r) (ht : 4294967296 * r + n < q * y0) : 1 ≤ q := by
  by_cases e : q = 0
  · subst e; have := h.r0; have := h.nlo; omega
  · have := h.q0; omega

set_option maxHeartbeats 4000000 in
theorem div64_core (hi lo y Y L u y1 y0 n1 n0 : Int) (s : Nat) (hh0 : 0 < hi) (hlt : hi < y) (hyt : y < 18446744073709551616) (hs : 64 - (Lib.bitLen y.toNat : Int) = s) (hs63 : s ≤ 63)
    (eY : IntKind.u64.wrap (y * 2 ^ s) = Y) (ey1 : Y / 4294967296 = y1) (ey0 : bits .and .u64 Y 4294967295 = y0) (eu : bits .or .u64 (IntKind.u64.wrap (hi * 2 ^ s)) (lo / 2 ^ (64 - s)) = u)
    (eL : IntKind.u64.wrap (lo * 2 ^ s) = L) (en1 : L / 4294967296 = n1) (en0 : bits .and .u64 L 4294967295 = n0)
    (by1 : 2147483648 ≤ y1) (by1' : y1 < 4294967296) (by0 : 0 ≤ y0) (by0' : y0 < 4294967296) (bu : 0 ≤ u) (bu' : u < y1 * 4294967296 + y0) (bn1 : 0 ≤ n1) (bn1' : n1 < 4294967296) (bn0 : 0 ≤ n0) (bn0' : n0 < 4294967296) (_bl : 0 ≤ lo) (hYY : Y = y1 * 4294967296 + y0) (w : World) :
    Calls Tryz.prog 168 #[.int .u64 hi, .int .u64 lo, .int .u64 y] w fun e w' => (∃ q1 q0 t, e = .returned (.tuple #[.int .u64 (q1 * 4294967296 + q0), .int .u64 ((t * 4294967296 + n0 - q0 * Y) / 2 ^ s)]) ∧ Done y1 y0 u n1 q1 ∧ Done y1 y0 t n0 q0 ∧ t = u * 4294967296 + n1 - q1 * Y) ∧ w = w' := by
  have hy1 : (y == 0) = false := by simp; omega
  have hh1 : (hi == 0) = false := by simp; omega
  have HS := hide hs
  have HY := hide hYY
  clear hs hYY
  have s1 : IntKind.u64.wrap (s : Int) = s := by rw [IntKind.wrap_u64]; omega
  have s2 : min s 64 = s := by omega
  obtain ⟨q, eq⟩ : ∃ q, u / y1 = q := ⟨_, rfl⟩
  obtain ⟨r, er⟩ : ∃ r, u - q * y1 = r := ⟨_, rfl⟩
  have hhalf : Half y1 y0 u n1 q r := by rw [← er, ← eq]; exact half_start by1 by1' by0 by0' bu bu' bn1 bn1'
  obtain ⟨m, em⟩ : ∃ m, q * y1 = m := ⟨_, rfl⟩
  have b1 : 0 ≤ m := by have := hhalf.q0; rw [← em]; exact Int.mul_nonneg this (by omega)
  have em' : IntKind.u64.wrap (q * y1) = m := by rw [IntKind.wrap_u64]; have := hhalf.eq; have := hhalf.r0; omega
  have em2 : u - m = r := by rw [← em]; exact er
  have b2 : m ≤ u := by have := hhalf.r0; omega
  clear er em
  have q0' := hhalf.q0
  have q1' := hhalf.qhi
  go_enter Tryz.func168, Tryz.ntmps168
  go_wp2_with fail
  refine (Tryz.bits_LeadingZeros64 y _ (by omega) (by omega)).mono ?_
  rintro e w1 ⟨rfl, rfl⟩
  rw [unhide HS]
  go_wp2_with fail
  go_loop [15, 16] (fun v v' => ∃ q r : Int, v = .int .u64 q ∧ v' = .int .u64 r ∧ Half y1 y0 u n1 q r) (fun v _ => (intOf v).toNat)
  case atStart => exact ⟨q, r, by rw [eq], rfl, hhalf⟩
  case round =>
    clear eq em' em2 b1 b2 q0' q1' hhalf
    obtain ⟨q, r, rfl, rfl, hH⟩ := hrel
    have a1 := hH.q0
    have a2 := hH.qhi
    have a3 := hH.r0
    have a4 := hH.rhi
    by_cases hq : 4294967296 ≤ q
    · by_cases hb : r + y1 < 4294967296
      · go_wp2
        go_round
        case rel => exact ⟨q - 1, r + y1, rfl, rfl, half_next hH (Or.inl hq) hb⟩
        case measure => simp [intOf]; omega
      · have hD := half_break hH (Or.inl hq) (by omega)
        obtain ⟨k1, k2, k3, t, qq, mm, rr, e1, e2, e3, e4, HT1, t0, t1, HQ, em, mm0, mm1, er, hH2⟩ := prep (n0 := n0) hD (unhide HY) by1 by1' by0 by0' bn0 bn0'
        have x1 := hD.q0
        have x2 := hD.qhi
        go_wp2_with fail
        go_loop [18, 16] (fun v v' => ∃ q r : Int, v = .int .u64 q ∧ v' = .int .u64 r ∧ Half y1 y0 t n0 q r) (fun v _ => (intOf v).toNat)
        case atStart => exact ⟨qq, rr, by rw [unhide HQ], rfl, hH2⟩
        case round =>
          clear e1 e2 e3 e4 em mm0 mm1 er hH2
          obtain ⟨qc, rc, rfl, rfl, hJ⟩ := hrel
          have c1 := hJ.q0
          have c2 := hJ.qhi
          have c3 := hJ.r0
          have c4 := hJ.rhi
          by_cases hq2 : 4294967296 ≤ qc
          · by_cases hb2 : rc + y1 < 4294967296
            · go_wp2
              go_round
              case rel => exact ⟨qc - 1, rc + y1, rfl, rfl, half_next hJ (Or.inl hq2) hb2⟩
              case measure => simp [intOf]; omega
            · have hE := half_break hJ (Or.inl hq2) (by omega)
              obtain ⟨k4, k5, k6, R, f1, f2, f3, f4, HR, R0, R1⟩ := prep2 hE (unhide HY) by1' by0'
              have z1 := hE.q0
              have z2 := hE.qhi
              go_wp2
              go_ret2
              exact ⟨⟨_, _, t, ret_two rfl (by rw [← unhide HR]), hD, hE, unhide HT1⟩, rfl⟩
          · obtain ⟨p, ep⟩ : ∃ p, qc * y0 = p := ⟨_, rfl⟩
            have hp := half_p hJ (by omega)
            rw [ep] at hp
            obtain ⟨p0, p1⟩ := hp
            have ep' : IntKind.u64.wrap (qc * y0) = p := by rw [IntKind.wrap_u64]; omega
            by_cases ht : 4294967296 * rc + n0 < p
            · have ht' : 4294967296 * rc + n0 < qc * y0 := by omega
              have HT := hide ht'
              have c5 := half_q1 hJ ht'
              clear ep ht'
              by_cases hb2 : rc + y1 < 4294967296
              · go_wp2
                go_round
                case rel => exact ⟨qc - 1, rc + y1, rfl, rfl, half_next hJ (Or.inr (unhide HT)) hb2⟩
                case measure => simp [intOf]; omega
              · have hE := half_break hJ (Or.inr (unhide HT)) (by omega)
                obtain ⟨k4, k5, k6, R, f1, f2, f3, f4, HR, R0, R1⟩ := prep2 hE (unhide HY) by1' by0'
                have z1 := hE.q0
                have z2 := hE.qhi
                go_wp2
                go_ret2
                exact ⟨⟨_, _, t, ret_two rfl (by rw [← unhide HR]), hD, hE, unhide HT1⟩, rfl⟩
            · have hE := half_done hJ (by omega) (by omega)
              obtain ⟨k4, k5, k6, R, f1, f2, f3, f4, HR, R0, R1⟩ := prep2 hE (unhide HY) by1' by0'
              have z1 := hE.q0
              have z2 := hE.qhi
              clear ep
              go_wp2
              go_ret2
              exact ⟨⟨_, _, t, ret_two rfl (by rw [← unhide HR]), hD, hE, unhide HT1⟩, rfl⟩
    · obtain ⟨p, ep⟩ : ∃ p, q * y0 = p := ⟨_, rfl⟩
      have hp := half_p hH (by omega)
      rw [ep] at hp
      obtain ⟨p0, p1⟩ := hp
      have ep' : IntKind.u64.wrap (q * y0) = p := by rw [IntKind.wrap_u64]; omega
      by_cases ht : 4294967296 * r + n1 < p
      · have ht' : 4294967296 * r + n1 < q * y0 := by omega
        have HT := hide ht'
        have a5 := half_q1 hH ht'
        clear ep ht'
        by_cases hb : r + y1 < 4294967296
        · go_wp2
          go_round
          case rel => exact ⟨q - 1, r + y1, rfl, rfl, half_next hH (Or.inr (unhide HT)) hb⟩
          case measure => simp [intOf]; omega
        · have hD := half_break hH (Or.inr (unhide HT)) (by omega)
          obtain ⟨k1, k2, k3, t, qq, mm, rr, e1, e2, e3, e4, HT1, t0, t1, HQ, em, mm0, mm1, er, hH2⟩ := prep (n0 := n0) hD (unhide HY) by1 by1' by0 by0' bn0 bn0'
          have x1 := hD.q0
          have x2 := hD.qhi
          go_wp2_with fail
          go_loop [18, 16] (fun v v' => ∃ q r : Int, v = .int .u64 q ∧ v' = .int .u64 r ∧ Half y1 y0 t n0 q r) (fun v _ => (intOf v).toNat)
          case atStart => exact ⟨qq, rr, by rw [unhide HQ], rfl, hH2⟩
          case round =>
            clear e1 e2 e3 e4 em mm0 mm1 er hH2
            obtain ⟨qc, rc, rfl, rfl, hJ⟩ := hrel
            have c1 := hJ.q0
            have c2 := hJ.qhi
            have c3 := hJ.r0
            have c4 := hJ.rhi
            by_cases hq2 : 4294967296 ≤ qc
            · by_cases hb2 : rc + y1 < 4294967296
              · go_wp2
                go_round
                case rel => exact ⟨qc - 1, rc + y1, rfl, rfl, half_next hJ (Or.inl hq2) hb2⟩
                case measure => simp [intOf]; omega
              · have hE := half_break hJ (Or.inl hq2) (by omega)
                obtain ⟨k4, k5, k6, R, f1, f2, f3, f4, HR, R0, R1⟩ := prep2 hE (unhide HY) by1' by0'
                have z1 := hE.q0
                have z2 := hE.qhi
                go_wp2
                go_ret2
                exact ⟨⟨_, _, t, ret_two rfl (by rw [← unhide HR]), hD, hE, unhide HT1⟩, rfl⟩
            · obtain ⟨p, ep⟩ : ∃ p, qc * y0 = p := ⟨_, rfl⟩
              have hp := half_p hJ (by omega)
              rw [ep] at hp
              obtain ⟨p0, p1⟩ := hp
              have ep' : IntKind.u64.wrap (qc * y0) = p := by rw [IntKind.wrap_u64]; omega
              by_cases ht : 4294967296 * rc + n0 < p
              · have ht' : 4294967296 * rc + n0 < qc * y0 := by omega
                have HT := hide ht'
                have c5 := half_q1 hJ ht'
                clear ep ht'
                by_cases hb2 : rc + y1 < 4294967296
                · go_wp2
                  go_round
                  case rel => exact ⟨qc - 1, rc + y1, rfl, rfl, half_next hJ (Or.inr (unhide HT)) hb2⟩
                  case measure => simp [intOf]; omega
                · have hE := half_break hJ (Or.inr (unhide HT)) (by omega)
                  obtain ⟨k4, k5, k6, R, f1, f2, f3, f4, HR, R0, R1⟩ := prep2 hE (unhide HY) by1' by0'
                  have z1 := hE.q0
                  have z2 := hE.qhi
                  go_wp2
                  go_ret2
                  exact ⟨⟨_, _, t, ret_two rfl (by rw [← unhide HR]), hD, hE, unhide HT1⟩, rfl⟩
              · have hE := half_done hJ (by omega) (by omega)
                obtain ⟨k4, k5, k6, R, f1, f2, f3, f4, HR, R0, R1⟩ := prep2 hE (unhide HY) by1' by0'
                have z1 := hE.q0
                have z2 := hE.qhi
                clear ep
                go_wp2
                go_ret2
                exact ⟨⟨_, _, t, ret_two rfl (by rw [← unhide HR]), hD, hE, unhide HT1⟩, rfl⟩
      · have hD := half_done hH (by omega) (by omega)
        clear ep
        obtain ⟨k1, k2, k3, t, qq, mm, rr, e1, e2, e3, e4, HT1, t0, t1, HQ, em, mm0, mm1, er, hH2⟩ := prep (n0 := n0) hD (unhide HY) by1 by1' by0 by0' bn0 bn0'
        have x1 := hD.q0
        have x2 := hD.qhi
        go_wp2_with fail
        go_loop [18, 16] (fun v v' => ∃ q r : Int, v = .int .u64 q ∧ v' = .int .u64 r ∧ Half y1 y0 t n0 q r) (fun v _ => (intOf v).toNat)
        case atStart => exact ⟨qq, rr, by rw [unhide HQ], rfl, hH2⟩
        case round =>
          clear e1 e2 e3 e4 em mm0 mm1 er hH2
          obtain ⟨qc, rc, rfl, rfl, hJ⟩ := hrel
          have c1 := hJ.q0
          have c2 := hJ.qhi
          have c3 := hJ.r0
          have c4 := hJ.rhi
          by_cases hq2 : 4294967296 ≤ qc
          · by_cases hb2 : rc + y1 < 4294967296
            · go_wp2
              go_round
              case rel => exact ⟨qc - 1, rc + y1, rfl, rfl, half_next hJ (Or.inl hq2) hb2⟩
              case measure => simp [intOf]; omega
            · have hE := half_break hJ (Or.inl hq2) (by omega)
              obtain ⟨k4, k5, k6, R, f1, f2, f3, f4, HR, R0, R1⟩ := prep2 hE (unhide HY) by1' by0'
              have z1 := hE.q0
              have z2 := hE.qhi
              go_wp2
              go_ret2
              exact ⟨⟨_, _, t, ret_two rfl (by rw [← unhide HR]), hD, hE, unhide HT1⟩, rfl⟩
          · obtain ⟨p, ep⟩ : ∃ p, qc * y0 = p := ⟨_, rfl⟩
            have hp := half_p hJ (by omega)
            rw [ep] at hp
            obtain ⟨p0, p1⟩ := hp
            have ep' : IntKind.u64.wrap (qc * y0) = p := by rw [IntKind.wrap_u64]; omega
            by_cases ht : 4294967296 * rc + n0 < p
            · have ht' : 4294967296 * rc + n0 < qc * y0 := by omega
              have HT := hide ht'
              have c5 := half_q1 hJ ht'
              clear ep ht'
              by_cases hb2 : rc + y1 < 4294967296
              · go_wp2
                go_round
                case rel => exact ⟨qc - 1, rc + y1, rfl, rfl, half_next hJ (Or.inr (unhide HT)) hb2⟩
                case measure => simp [intOf]; omega
              · have hE := half_break hJ (Or.inr (unhide HT)) (by omega)
                obtain ⟨k4, k5, k6, R, f1, f2, f3, f4, HR, R0, R1⟩ := prep2 hE (unhide HY) by1' by0'
                have z1 := hE.q0
                have z2 := hE.qhi
                go_wp2
                go_ret2
                exact ⟨⟨_, _, t, ret_two rfl (by rw [← unhide HR]), hD, hE, unhide HT1⟩, rfl⟩
            · have hE := half_done hJ (by omega) (by omega)
              obtain ⟨k4, k5, k6, R, f1, f2, f3, f4, HR, R0, R1⟩ := prep2 hE (unhide HY) by1' by0'
              have z1 := hE.q0
              have z2 := hE.qhi
              clear ep
              go_wp2
              go_ret2
              exact ⟨⟨_, _, t, ret_two rfl (by rw [← unhide HR]), hD, hE, unhide HT1⟩, rfl⟩
end Go.Proofs.YtachnndaoogpeaaGreatDoor
