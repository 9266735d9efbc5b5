/-
  Walks over package whole: nextDigit: one digit of a long division.
-/
import Derived.Test.YtmdmcmkfhmnbeaaGreatDoorW10
namespace Go.Proofs.YtmdmcmkfhmnbeaaGreatDoor
open Go.RowKit

theorem quiet_drew2 {P : Program} {f : FuncId} {args : Array Value} {w : World} {k n : Nat} {v : Value}
    (h : Calls P f args (w.drewN (k + n)) fun e w' => e = .returned v ∧ ∃ m, w' = (w.drewN (k + n)).drewN m) : Calls P f args (w.drewN (k + n)) fun e w'' => e = .returned v ∧ ∃ m, w'' = w.drewN (k + m) :=
  h.mono fun _ _ ⟨he, m, hm⟩ => ⟨he, n + m, by rw [hm, World.drewN_drewN, Nat.add_assoc]⟩

/-- How nextDigit's loop stands: d too many by at most what is missing above. -/
structure Dig (g o n : Nat) (W b : List Int) (w : World) (d bl : Int) (wr : World) (T : List Int) : Prop where
  len : T.length = n + 1
  ws : Ws T
  eq : val T - pw (n + 1) * bl = val W - val b * d
  b0 : 0 ≤ bl
  b1 : bl ≤ 1
  d0 : 0 ≤ d
  d1 : d < 18446744073709551616
  up : val W - val b * d < val b
  row : Row wr g o T
  edit : Edit g o (n + 1) w wr
theorem Dig.edit0 {g o n : Nat} {W b : List Int} {w wr : World} {d bl : Int} {T : List Int} (h : Dig g o n W b w d bl wr T) : Edit g o (n + 1) w wr := h.edit
theorem dig_pos {g o n : Nat} {W b : List Int} {w wr : World} {d : Int} {T : List Int} (h : Dig g o n W b w d 1 wr T) (_hb : Ws b) (hW : 0 ≤ val W := by exact val_nonneg ‹Ws _›) : 1 ≤ d := by
  have h1 := h.eq
  have h2 := val_lt h.ws
  rw [h.len] at h2
  by_cases e : d = 0
  · subst e; omega
  · have := h.d0; omega
theorem dig_step {g o n : Nat} {W b : List Int} {w wr w3 : World} {d c : Int} {T T' : List Int} (h : Dig g o n W b w d 1 wr T) (c0 : 0 ≤ c) (c1 : c ≤ 1) (lT : T'.length = n + 1) (wT : Ws T') (eT : val T' + pw (n + 1) * c = val T + val b) (rT : Row w3 g o T') (ed : Edit g o (n + 1) wr w3) (hd : 1 ≤ d) :
    Dig g o n W b w (d - 1) (1 - c) w3 T' := by
  have h1 := h.eq
  have h2 := val_lt h.ws
  rw [h.len] at h2
  have e1 : val b * (d - 1) = val b * d - val b := by grind
  have e2 : pw (n + 1) * (1 - c) = pw (n + 1) - pw (n + 1) * c := by grind
  exact ⟨lT, wT, by rw [e1, e2]; omega, by omega, by omega, by omega, by have := h.d1; omega, by rw [e1]; omega, rT, h.edit.trans ed⟩
theorem dig_start {g o n : Nat} {W b out1 : List Int} {w w1 : World} {dg ms bw : Int} (hn : W.length = n + 1) (hW : Ws W) (ms0 : 0 ≤ ms) (ms1 : ms < 18446744073709551616) (l1 : out1.length = n) (wo1 : Ws out1) (e1 : val out1 - pw n * ms = val (W.take n) - val b * dg)
    (ro1 : Row w1 g o out1) (ed : Edit g o (n + 1) w w1) (hc : w1.cell? ⟨g, o + n, none⟩ = some (.int .u64 (nth W n))) (ebw : bor (nth W n) ms = bw) (d0 : 0 ≤ dg) (d1 : dg < 18446744073709551616) (top : val W < (dg + 1) * val b) :
    Dig g o n W b w dg bw (w1.setCell ⟨g, o + n, none⟩ (.int .u64 ((nth W n - ms) % 18446744073709551616))) (out1 ++ [(nth W n - ms) % 18446744073709551616]) := by
  have e2 := val_take_succ W n (by omega)
  rw [List.take_of_length_le (by omega)] at e2
  have e3 := bor_eq (v := ms) (hW.get n) ms0 (by omega)
  rw [ebw] at e3
  have b01 := bor_01 (nth W n) ms
  rw [ebw] at b01
  refine ⟨by simp [l1], wo1.append (Ws.mk (w64_mod _) Ws.nil), ?_, b01.1, b01.2, d0, d1, ?_, ?_, ed.setCell (by omega) (by omega) _⟩
  · rw [val_snoc, l1, pw_succ, e2]
    generalize (nth W n - ms) % 18446744073709551616 = z at *
    have e4 : pw n * (z - 18446744073709551616 * bw) = pw n * (nth W n - ms) := by rw [e3]
    grind
  · rw [Int.add_mul, Int.mul_comm dg] at top; omega
  · refine Row.snoc (n := n) ?_ l1 (cell?_setCell_eq hc)
    intro k hk
    rw [cell?_setCell_ne _ _ _ _ _ _ (by omega)]
    exact ro1 k hk

set_option maxHeartbeats 2000000 in
theorem nextDigit_any (g o cap gb ob cb n : Nat) (W b : List Int) (w0 : World) (hr : Row w0 g o W) (hrb0 : Row w0 gb ob b) (hf0 : Free w0 g) (hne0 : 0 < n → gb ≠ g) (hW : Ws W) (hb : Ws b) (hn : W.length = n + 1) (hm : b.length = n) (hn1 : 1 ≤ n) (hcap : n + 1 ≤ cap) (hlim : n ≤ 900000)
    (hbt : 0 < nth b (n - 1)) (hlt : val (W.drop 1) < val b) :
    Calls Tryz.prog 120 #[.slice (some ⟨g, o, none⟩) (n + 1) cap, .slice (some ⟨gb, ob, none⟩) n cb] w0 fun e w' => ∃ d out, e = .returned (.int .u64 d) ∧ W64 d ∧ out.length = n + 1 ∧ Ws out ∧ val out = val W - val b * d ∧ val out < val b ∧ Row w' g o out ∧ Edit g o (n + 1) w0 w' := by
  have hc0 : w0.cell? ⟨g, o + n, none⟩ = some (.int .u64 (nth W n)) := hr n (by omega)
  have hc1 : w0.cell? ⟨g, o + (n - 1), none⟩ = some (.int .u64 (nth W (n - 1))) := hr (n - 1) (by omega)
  have hc2 : w0.cell? ⟨gb, ob + (n - 1), none⟩ = some (.int .u64 (nth b (n - 1))) := hrb0 (n - 1) (by omega)
  have eW := val_take_succ W n (by omega)
  have eW1 := val_take_succ W (n - 1) (by omega)
  rw [show n - 1 + 1 = n by omega] at eW1
  rw [List.take_of_length_le (by omega)] at eW
  have eB := val_take_succ b (n - 1) (by omega)
  rw [show n - 1 + 1 = n by omega, List.take_of_length_le (by omega)] at eB
  have lW := val_lt (hW.take (n - 1))
  rw [List.length_take, Nat.min_eq_left (by omega)] at lW
  have lB := val_nonneg (hb.take (n - 1))
  have pp := pw_pos (n - 1)
  have pn : pw n = 18446744073709551616 * pw (n - 1) := by rw [← pw_succ, show n - 1 + 1 = n by omega]
  have hbig : val W < 18446744073709551616 * val b := by
    have := val_split W 1 (by omega)
    have h1 := val_lt (hW.take 1)
    rw [List.length_take, Nat.min_eq_left (by omega)] at h1
    rw [show pw 1 = 18446744073709551616 by simp [pw]] at this h1
    omega
  obtain ⟨wn0, wn1⟩ := hW.get n
  obtain ⟨wm0, wm1⟩ := hW.get (n - 1)
  obtain ⟨bt0, bt1⟩ := hb.get (n - 1)
  have HN := hide hn
  have HM := hide hm
  have q1 : ((n : Int) - 1).toNat = n - 1 := by omega
  by_cases hguess : nth W n < nth b (n - 1)
  · have htop : ∀ d, 0 ≤ d → d = (nth W n * 18446744073709551616 + nth W (n - 1)) / nth b (n - 1) → val W < (d + 1) * val b := by
      intro d hd0 hd
      have := digit_top (lo := val (W.take (n - 1))) (P := pw (n - 1)) (by' := val b) pp hbt hd lW (by rw [eB]; omega) hd0
      rw [eW, eW1, pn]
      have e5 : pw (n - 1) * (nth W (n - 1) + 18446744073709551616 * nth W n) = pw (n - 1) * nth W (n - 1) + 18446744073709551616 * pw (n - 1) * nth W n := by grind
      omega
    have bh := hb.get (n - 1)
    have hN0 : 0 ≤ nth W n * 18446744073709551616 + nth W (n - 1) := by omega
    obtain ⟨dg, hdg⟩ : ∃ dg, (nth W n * 18446744073709551616 + nth W (n - 1)) / nth b (n - 1) = dg := ⟨_, rfl⟩
    have d0 : 0 ≤ dg := by rw [← hdg]; exact Int.ediv_nonneg hN0 (by omega)
    have d1 : dg < 18446744073709551616 := by
      rw [← hdg]
      refine Int.ediv_lt_of_lt_mul hbt ?_
      have : (nth W n + 1) * 18446744073709551616 ≤ nth b (n - 1) * 18446744073709551616 := Int.mul_le_mul_of_nonneg_right (by omega) (by decide)
      rw [Int.mul_comm 18446744073709551616]; omega
    have HTOP := hide (htop dg d0 hdg.symm)
    clear htop eW eW1 eB lW lB pp pn hbig hn hm hlt bh hN0
    go_enter Tryz.func120, Tryz.ntmps120
    go_wp2_with fail
    go_quiet (fail)
    go_wp2_with fail
    go_quiet ((go_at_call 100; exact quiet_drew2 (div64_any _ _ _ ⟨wn0, wn1⟩ ⟨wm0, wm1⟩ ⟨bt0, bt1⟩ hguess _)))
    go_wp2_with fail
    refine (lowerTimes_any g o cap gb ob cb n (W.take n) b dg _ (by exact hr.take n) (by exact hrb0) (by exact hf0) hne0 (hW.take n) hb ⟨d0, d1⟩ (by have := unhide HN; simp; omega) (unhide HM) (by omega)).mono ?_
    rintro e w1 ⟨ms, out1, rfl, hms, l1, wo1, e1, ro1, ed1⟩
    obtain ⟨ms0, ms1⟩ := hms
    have ed1' : Edit g o n w0 w1 := ⟨ed1.os, ed1.tape, ed1.output, ed1.size, ed1.other, ed1.cell, ed1.free⟩
    clear ed1
    have hwn : w1.cell? ⟨g, o + n, none⟩ = some (.int .u64 (nth W n)) := by rw [ed1'.cell (o + n) (by omega)]; exact hc0
    have hfn : w1.frozen? ⟨g, o + n, none⟩ = false := (ed1'.free hf0).frozen _
    have hsub : ∀ w, (callFunc 105 #[.int .u64 (nth W n), .int .u64 ms, .int .u64 0]).run Tryz.prog w = _ := fun w => sub64_0 (nth W n) ms wn0 ms0 ms1 w
    obtain ⟨bw, ebw⟩ : ∃ bw, bor (nth W n) ms = bw := ⟨_, rfl⟩
    rw [ebw] at hsub
    have hstart := dig_start (b := b) (dg := dg) (g := g) (o := o) (n := n) (W := W) (w := w0) (w1 := w1) (ms := ms) (bw := bw) (out1 := out1) (unhide HN) hW ms0 ms1 l1 wo1 e1 ro1 (ed1'.mono (Nat.le_refl _) (by omega)) hwn ebw d0 d1 (unhide HTOP)
    have HST := hide hstart
    clear hstart e1 ebw
    go_wp2_with fail
    go_loopw [6, 8] (fun v c wr => ∃ (d bl : Int) (T : List Int), v = .int .u64 d ∧ c = .int .u64 bl ∧ Dig g o n W b w0 d bl wr T) (fun v _ _ => (intOf v).toNat)
    case atStart => exact ⟨dg, bw, _, rfl, rfl, unhide HST⟩
    case round =>
      clear HST
      obtain ⟨d, bl, T, rfl, rfl, hD⟩ := hrel
      have y0 := hD.d0
      have y1 := hD.d1
      by_cases hz : bl = 0
      · subst hz
        go_wp2
        go_ret
        exact ⟨d, T, rfl, ⟨hD.d0, hD.d1⟩, hD.len, hD.ws, by have := hD.eq; omega, by have := hD.eq; have := hD.up; omega, hD.row, hD.edit⟩
      · have hbl : bl = 1 := by have := hD.b0; have := hD.b1; omega
        subst hbl
        have ypos := dig_pos hD hb
        go_wp2_with fail
        refine (raise_any g o cap gb ob cb (n + 1) n T b _ hD.row ((hrb0.edit hD.edit0 (hne0 (by omega)))) (hD.edit.free hf0) (fun h => hne0 h) hD.ws hb hD.len (unhide HM) (by omega) (by omega)).mono ?_
        rintro e w3 ⟨c, T', rfl, c0, c1, lT, wT, eT, rT, edT⟩
        have HE := hide eT
        clear eT
        go_wp2
        go_roundw
        case rel => exact ⟨d - 1, 1 - c, T', rfl, rfl, dig_step hD c0 c1 lT wT (unhide HE) rT edT ypos⟩
        case measure => simp [intOf]; omega
  · have d0 : (0 : Int) ≤ 18446744073709551615 := by decide
    have d1 : (18446744073709551615 : Int) < 18446744073709551616 := by decide
    have HTOP : Hid (val W < (18446744073709551615 + 1) * val b) := hbig
    clear eW eW1 eB lW lB pp pn hbig hn hm hlt
    go_enter Tryz.func120, Tryz.ntmps120
    go_wp2_with fail
    go_quiet (fail)
    go_wp2_with fail
    refine (lowerTimes_any g o cap gb ob cb n (W.take n) b (18446744073709551615 : Int) _ (by exact hr.take n) (by exact hrb0) (by exact hf0) hne0 (hW.take n) hb ⟨d0, d1⟩ (by have := unhide HN; simp; omega) (unhide HM) (by omega)).mono ?_
    rintro e w1 ⟨ms, out1, rfl, hms, l1, wo1, e1, ro1, ed1⟩
    obtain ⟨ms0, ms1⟩ := hms
    have ed1' : Edit g o n w0 w1 := ⟨ed1.os, ed1.tape, ed1.output, ed1.size, ed1.other, ed1.cell, ed1.free⟩
    clear ed1
    have hwn : w1.cell? ⟨g, o + n, none⟩ = some (.int .u64 (nth W n)) := by rw [ed1'.cell (o + n) (by omega)]; exact hc0
    have hfn : w1.frozen? ⟨g, o + n, none⟩ = false := (ed1'.free hf0).frozen _
    have hsub : ∀ w, (callFunc 105 #[.int .u64 (nth W n), .int .u64 ms, .int .u64 0]).run Tryz.prog w = _ := fun w => sub64_0 (nth W n) ms wn0 ms0 ms1 w
    obtain ⟨bw, ebw⟩ : ∃ bw, bor (nth W n) ms = bw := ⟨_, rfl⟩
    rw [ebw] at hsub
    have hstart := dig_start (b := b) (dg := 18446744073709551615) (g := g) (o := o) (n := n) (W := W) (w := w0) (w1 := w1) (ms := ms) (bw := bw) (out1 := out1) (unhide HN) hW ms0 ms1 l1 wo1 e1 ro1 (ed1'.mono (Nat.le_refl _) (by omega)) hwn ebw d0 d1 (unhide HTOP)
    have HST := hide hstart
    clear hstart e1 ebw
    go_wp2_with fail
    go_loopw [6, 8] (fun v c wr => ∃ (d bl : Int) (T : List Int), v = .int .u64 d ∧ c = .int .u64 bl ∧ Dig g o n W b w0 d bl wr T) (fun v _ _ => (intOf v).toNat)
    case atStart => exact ⟨(18446744073709551615 : Int), bw, _, rfl, rfl, unhide HST⟩
    case round =>
      clear HST
      obtain ⟨d, bl, T, rfl, rfl, hD⟩ := hrel
      have y0 := hD.d0
      have y1 := hD.d1
      by_cases hz : bl = 0
      · subst hz
        go_wp2
        go_ret
        exact ⟨d, T, rfl, ⟨hD.d0, hD.d1⟩, hD.len, hD.ws, by have := hD.eq; omega, by have := hD.eq; have := hD.up; omega, hD.row, hD.edit⟩
      · have hbl : bl = 1 := by have := hD.b0; have := hD.b1; omega
        subst hbl
        have ypos := dig_pos hD hb
        go_wp2_with fail
        refine (raise_any g o cap gb ob cb (n + 1) n T b _ hD.row ((hrb0.edit hD.edit0 (hne0 (by omega)))) (hD.edit.free hf0) (fun h => hne0 h) hD.ws hb hD.len (unhide HM) (by omega) (by omega)).mono ?_
        rintro e w3 ⟨c, T', rfl, c0, c1, lT, wT, eT, rT, edT⟩
        have HE := hide eT
        clear eT
        go_wp2
        go_roundw
        case rel => exact ⟨d - 1, 1 - c, T', rfl, rfl, dig_step hD c0 c1 lT wT (unhide HE) rT edT ypos⟩
        case measure => simp [intOf]; omega
end Go.Proofs.YtmdmcmkfhmnbeaaGreatDoor
