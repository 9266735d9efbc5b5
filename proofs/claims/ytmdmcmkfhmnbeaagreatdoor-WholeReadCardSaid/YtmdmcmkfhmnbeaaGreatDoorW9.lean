/-
  math/bits.Div64 whole; divideWord: a row divided by one word, in place.
-/
import Derived.Test.YtmdmcmkfhmnbeaaGreatDoorW8
namespace Go.Proofs.YtmdmcmkfhmnbeaaGreatDoor
open Go.RowKit

set_option maxHeartbeats 400000 in
/-- math/bits.Div64, where it does not panic. -/
theorem div64_any (hi lo y : Int) (hh : W64 hi) (hl : W64 lo) (hy : W64 y) (hlt : hi < y) (w : World) :
    Calls Tryz.prog 100 #[.int .u64 hi, .int .u64 lo, .int .u64 y] w fun e w' => e = .returned (.tuple #[.int .u64 ((hi * 18446744073709551616 + lo) / y), .int .u64 ((hi * 18446744073709551616 + lo) % y)]) ∧ ∃ n, w' = w.drewN n := by
  have hhi := hh.1
  by_cases h0 : hi = 0
  · subst h0
    refine (div64_low lo y hl hy (by omega) w).mono ?_
    rintro e w' ⟨rfl, h⟩
    exact ⟨by simp, h⟩
  · obtain ⟨s, hs, hs63, hlo, hup⟩ := lead hy (by omega)
    obtain ⟨c1, c2, c3, c4⟩ := shl_split hl (show s ≤ 64 by omega)
    have p0 := two_pos s
    have hhp : hi * 2 ^ s ≤ (y - 1) * 2 ^ s := Int.mul_le_mul_of_nonneg_right (by omega) (by omega)
    rw [Int.sub_mul] at hhp
    have hh0 : 0 ≤ hi * 2 ^ s := Int.mul_nonneg (by omega) (by omega)
    have eY : IntKind.u64.wrap (y * 2 ^ s) = y * 2 ^ s := by rw [IntKind.wrap_u64]; omega
    have eH : IntKind.u64.wrap (hi * 2 ^ s) = hi * 2 ^ s := by rw [IntKind.wrap_u64]; omega
    have eu : bits .or .u64 (IntKind.u64.wrap (hi * 2 ^ s)) (lo / 2 ^ (64 - s)) = hi * 2 ^ s + lo / 2 ^ (64 - s) := by
      rw [eH]
      exact (or_disjoint rfl (by omega) (by omega) c3 c4 (by have := hl.2; have : (2 : Int) ^ s ≤ 2 ^ 63 := by exact_mod_cast Nat.pow_le_pow_right (by decide) hs63
                                                             omega)).1
    have bL : W64 ((lo * 2 ^ s) % 18446744073709551616) := w64_mod _
    have bY : W64 (y * 2 ^ s) := ⟨by omega, hup⟩
    refine (div64_core hi lo y (y * 2 ^ s) ((lo * 2 ^ s) % 18446744073709551616) (hi * 2 ^ s + lo / 2 ^ (64 - s)) (y * 2 ^ s / 4294967296) (y * 2 ^ s % 4294967296) ((lo * 2 ^ s) % 18446744073709551616 / 4294967296) ((lo * 2 ^ s) % 18446744073709551616 % 4294967296) s
      (by omega) hlt hy.2 hs hs63 eY rfl (and_low bY) eu (by rw [IntKind.wrap_u64]) rfl (and_low bL) (by omega) (by omega) (by omega) (by omega) (by omega) (by omega) (by omega) (by omega) (by omega) (by omega) hl.1 (by omega) w).mono ?_
    rintro e w' ⟨⟨q1, q0, t, rfl, hD, hE, ht⟩, rfl⟩
    have eN : (hi * 18446744073709551616 + lo) * 2 ^ s = 18446744073709551616 * (hi * 2 ^ s) + lo * 2 ^ s := by grind
    have key := halves_div (N := hi * 18446744073709551616 + lo) (y := y) (p := 2 ^ s) p0 (show y * 2 ^ s / 4294967296 * 4294967296 + y * 2 ^ s % 4294967296 = y * 2 ^ s by omega)
      (by rw [eN]; omega) hD (by rw [show y * 2 ^ s / 4294967296 * 4294967296 + y * 2 ^ s % 4294967296 = y * 2 ^ s by omega]; exact ht) hE
    rw [show y * 2 ^ s / 4294967296 * 4294967296 + y * 2 ^ s % 4294967296 = y * 2 ^ s by omega] at key
    exact ⟨ret_two key.1 key.2, 0, rfl⟩

set_option maxHeartbeats 400000 in
/-- .. with its quotient and rest under names. -/
theorem div64 (hi lo y : Int) (hh : W64 hi) (hl : W64 lo) (hy : W64 y) (hlt : hi < y) (w : World) :
    Calls Tryz.prog 100 #[.int .u64 hi, .int .u64 lo, .int .u64 y] w fun e w' => ∃ q r, e = .returned (.tuple #[.int .u64 q, .int .u64 r]) ∧ 0 ≤ q ∧ q < 18446744073709551616 ∧ 0 ≤ r ∧ r < y ∧ Hid (q * y + r = hi * 18446744073709551616 + lo) ∧ Hid (q = (hi * 18446744073709551616 + lo) / y) ∧ ∃ n, w' = w.drewN n := by
  refine (div64_any hi lo y hh hl hy hlt w).mono ?_
  rintro e w' ⟨rfl, h⟩
  have h0 := hh.1; have h1 := hl.1; have h2 := hl.2
  have e := Int.mul_ediv_add_emod (hi * 18446744073709551616 + lo) y
  have m0 := Int.emod_nonneg (hi * 18446744073709551616 + lo) (show y ≠ 0 by omega)
  have m1 := Int.emod_lt_of_pos (hi * 18446744073709551616 + lo) (show 0 < y by omega)
  have q0 : 0 ≤ (hi * 18446744073709551616 + lo) / y := Int.ediv_nonneg (by omega) (by omega)
  have q1 : (hi * 18446744073709551616 + lo) / y < 18446744073709551616 := by
    refine Int.ediv_lt_of_lt_mul (by omega) ?_
    have : (hi + 1) * 18446744073709551616 ≤ y * 18446744073709551616 := Int.mul_le_mul_of_nonneg_right (by omega) (by decide)
    rw [Int.mul_comm 18446744073709551616 y]; omega
  exact ⟨_, _, rfl, q0, q1, m0, m1, (by show _ = _; rw [Int.mul_comm]; exact e), rfl, h⟩

/-- How divideWord stands behind j rounds: the words from n - j on are the quotient's. -/
structure Cut (g o : Nat) (W : List Int) (y : Int) (w : World) (j : Nat) (r : Int) (wr : World) (qs : List Int) : Prop where
  len : qs.length = j
  le : j ≤ W.length
  ws : Ws qs
  eq : val (W.drop (W.length - j)) = val qs * y + r
  r0 : 0 ≤ r
  r1 : r < y
  row : Row wr g o (W.take (W.length - j) ++ qs)
  edit : Edit g o W.length w wr
theorem cut_step {g o : Nat} {W : List Int} {y : Int} {w wr wx : World} {j k : Nat} {r q r' : Int} {qs : List Int} (h : Cut g o W y w j r wr qs) (hk : k + 1 + j = W.length) (q0 : 0 ≤ q) (q1 : q < 18446744073709551616) (r0 : 0 ≤ r') (r1 : r' < y)
    (e : q * y + r' = r * 18446744073709551616 + nth W k) (hw : ∃ m, wx = (wr.setCell ⟨g, o + k, none⟩ (.int .u64 q)).drewN m) : Cut g o W y w (j + 1) r' wx (q :: qs) := by
  obtain ⟨m, rfl⟩ := hw
  have hl := h.len
  have e1 : W.length - j = k + 1 := by omega
  have e2 : W.length - (j + 1) = k := by omega
  have hrow := h.row
  have heq := h.eq
  rw [e1] at hrow heq
  refine ⟨by simp [hl], by omega, Ws.mk ⟨q0, q1⟩ h.ws, ?_, r0, r1, ?_, (h.edit.setCell (by omega) (by omega) _).drewN m⟩
  · rw [e2, val_drop_succ W k (by omega), heq, val]
    grind
  · rw [e2]
    have := hrow.set (k := k) (by simp; omega) q
    rw [take_snoc W k (by omega), List.append_assoc, List.set_append_right k q (by simp; omega)] at this
    simp only [List.length_take, Nat.min_eq_left (show k ≤ W.length by omega), Nat.sub_self, List.cons_append, List.nil_append, List.set_cons_zero] at this
    exact this

set_option maxHeartbeats 1000000 in
theorem divideWord_any (g o cap n : Nat) (W : List Int) (y : Int) (w : World) (hr : Row w g o W) (hf : Free w g) (hW : Ws W) (hy : W64 y) (hy0 : 0 < y) (hn : W.length = n) (hlim : n ≤ 1000000) :
    Calls Tryz.prog 71 #[.slice (some ⟨g, o, none⟩) n cap, .int .u64 y] w fun e w' => ∃ r out, e = .returned (.int .u64 r) ∧ 0 ≤ r ∧ r < y ∧ out.length = n ∧ Ws out ∧ val W = val out * y + r ∧ Row w' g o out ∧ Edit g o n w w' := by
  have HN := hide hn
  clear hn
  go_enter Tryz.func71, Tryz.ntmps71
  go_wp2_with fail
  go_loopw [5, 10] (fun c v wr => ∃ (j : Nat) (r : Int) (qs : List Int), j ≤ n ∧ v = .int .i64 j ∧ c = .int .u64 r ∧ Cut g o W y w j r wr qs) (fun _ v _ => n - (intOf v).toNat)
  case atStart => exact ⟨0, 0, [], Nat.zero_le _, rfl, rfl, ⟨rfl, Nat.zero_le _, Ws.nil, by simp [val], by omega, hy0, by simpa using hr, Edit.refl _ _ _ _⟩⟩
  case round =>
    obtain ⟨j, r, qs, hj, rfl, rfl, hR⟩ := hrel
    by_cases hlt : j < n
    · have hc1 : wr.cell? ⟨g, o + (n - 1 - j), none⟩ = some (.int .u64 (nth W (n - 1 - j))) := by
        have e := unhide HN
        have := hR.row (n - 1 - j) (by have := hR.len; simp; omega)
        rwa [nth_app_left (by simp; omega), nth_take (by omega)] at this
      have hfr : wr.frozen? ⟨g, o + (n - 1 - j), none⟩ = false := (hR.edit.free hf).frozen _
      go_wp2_with fail
      refine (div64 _ _ _ ⟨hR.r0, by have := hR.r1; have := hy.2; omega⟩ (hW.get _) hy hR.r1 _).mono ?_
      rintro e w1 ⟨q, r', rfl, q0, q1, r0, r1, HE, _, m, rfl⟩
      go_wp2
      go_roundw
      case rel => exact ⟨j + 1, r', q :: qs, by omega, by go_num, rfl, cut_step (k := n - 1 - j) hR (by have := unhide HN; omega) q0 q1 r0 r1 (unhide HE) ⟨_, rfl⟩⟩
      case measure => simp [intOf]; omega
    · have e := unhide HN
      go_wp2
      go_ret
      have hjn : j = W.length := by omega
      have h1 := hR.eq
      have h2 := hR.row
      rw [hjn, Nat.sub_self] at h1 h2
      refine ⟨r, qs, rfl, hR.r0, hR.r1, by have := hR.len; omega, hR.ws, by simpa using h1, by simpa using h2, by have := hR.edit; rwa [e] at this⟩
end Go.Proofs.YtmdmcmkfhmnbeaaGreatDoor
