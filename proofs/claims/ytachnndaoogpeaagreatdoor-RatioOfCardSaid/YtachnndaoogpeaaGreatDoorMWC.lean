/-
  Walks over package whole: nextDigit: one digit of a long division.
  Walks over package whole: divideLong: long division of words.
  The walk over whole.divideLong.
-/
import Derived.Test.YtachnndaoogpeaaGreatDoorMWB
namespace Go.Proofs.YtachnndaoogpeaaGreatDoor
open Go.RowKit

theorem quiet_drew2 {P : Program} {f : FuncId} {args : Array Value} {w : World} {k n : Nat} {v : Value}
    (h : Calls P f args (w.drewN (k + n)) fun e w' => e = .returned v ∧ ∃ m, w' = (w.drewN (k + n)).drewN m) : Calls P f args (w.drewN (k + n)) fun e w'' => e = .returned v ∧ ∃ m, w'' = w.drewN (k + m) :=
  h.mono fun _ _ ⟨he, m, hm⟩ => ⟨he, n + m, by rw [hm, World.drewN_drewN, Nat.add_assoc]⟩

/-- How nextDigit's loop stands: d too many by at most what is missing above. -/
structure Dig (g o n : Nat) (W b : List Int) (w : World) (d bl : Int) (wr : World) (T : List Int) : Prop where
  len : T.length = n + 1
  ws : Ws T
  eq : val T - pw (n + 1) * bl = val W - val b * d
  b0 : 0 ≤ bl
  b1 : bl ≤ 1
  d0 : 0 ≤ d
  d1 : d < 18446744073709551616
  up : val W - val b * d < val b
  row : Row wr g o T
  edit : Edit g o (n + 1) w wr
theorem Dig.edit0 {g o n : Nat} {W b : List Int} {w wr : World} {d bl : Int} {T : List Int} (h : Dig g o n W b w d bl wr T) : Edit g o (n + 1) w wr := h.edit
theorem dig_pos {g o n : Nat} {W b : List Int} {w wr : World} {d : Int} {T : List Int} (h : Dig g o n W b w d 1 wr T) (_hb : Ws b) (hW : 0 ≤ val W := by exact val_nonneg ‹Ws _›) : 1 ≤ d := by
  have h1 := h.eq
  have h2 := val_lt h.ws
  rw [h.len] at h2
  by_cases e : d = 0
  · subst e; omega
  · have := h.d0; omega
theorem dig_step {g o n : Nat} {W b : List Int} {w wr w3 : World} {d c : Int} {T T' : List Int} (h : Dig g o n W b w d 1 wr T) (c0 : 0 ≤ c) (c1 : c ≤ 1) (lT : T'.length = n + 1) (wT : Ws T') (eT : val T' + pw (n + 1) * c = val T + val b) (rT : Row w3 g o T') (ed : Edit g o (n + 1) wr w3) (hd : 1 ≤ d) :
    Dig g o n W b w (d - 1) (1 - c) w3 T' := by
  have h1 := h.eq
  have h2 := val_lt h.ws
  rw [h.len] at h2
  have e1 : val b * (d - 1) = val b * d - val b := by grind
  have e2 : pw (n + 1) * (1 - c) = pw (n + 1) - pw (n + 1) * c := by grind
  exact ⟨lT, wT, by rw [e1, e2]; omega, by omega, by omega, by omega, by have := h.d1; omega, by rw [e1]; omega, rT, h.edit.trans ed⟩
theorem dig_start {g o n : Nat} {W b out1 : List Int} {w w1 : World} {dg ms bw : Int} (hn : W.length = n + 1) (hW : Ws W) (ms0 : 0 ≤ ms) (ms1 : ms < 18446744073709551616) (l1 : out1.length = n) (wo1 : Ws out1) (e1 : val out1 - pw n * ms = val (W.take n) - val b * dg)
    (ro1 : Row w1 g o out1) (ed : Edit g o (n + 1) w w1) (hc : w1.cell? ⟨g, o + n, none⟩ = some (.int .u64 (nth W n))) (ebw : bor (nth W n) ms = bw) (d0 : 0 ≤ dg) (d1 : dg < 18446744073709551616) (top : val W < (dg + 1) * val b) :
    Dig g o n W b w dg bw (w1.setCell ⟨g, o + n, none⟩ (.int .u64 ((nth W n - ms) % 18446744073709551616))) (out1 ++ [(nth W n - ms) % 18446744073709551616]) := by
  have e2 := val_take_succ W n (by omega)
  rw [List.take_of_length_le (by omega)] at e2
  have e3 := bor_eq (v := ms) (hW.get n) ms0 (by omega)
  rw [ebw] at e3
  have b01 := bor_01 (nth W n) ms
  rw [ebw] at b01
  refine ⟨by simp [l1], wo1.append (Ws.mk (w64_mod _) Ws.nil), ?_, b01.1, b01.2, d0, d1, ?_, ?_, ed.setCell (by omega) (by omega) _⟩
  · rw [val_snoc, l1, pw_succ, e2]
    generalize (nth W n - ms) % 18446744073709551616 = z at *
    have e4 : pw n * (z - 18446744073709551616 * bw) = pw n * (nth W n - ms) := by rw [e3]
    grind
  · rw [Int.add_mul, Int.mul_comm dg] at top; omega
  · refine Row.snoc (n := n) ?_ l1 (cell?_setCell_eq hc)
    intro k hk
    rw [cell?_setCell_ne _ _ _ _ _ _ (by omega)]
    exact ro1 k hk

set_option maxHeartbeats 2000000 in
theorem nextDigit_any (g o cap gb ob cb n : Nat) (W b : List Int) (w0 : World) (hr : Row w0 g o W) (hrb0 : Row w0 gb ob b) (hf0 : Free w0 g) (hne0 : 0 < n → gb ≠ g) (hW : Ws W) (hb : Ws b) (hn : W.length = n + 1) (hm : b.length = n) (hn1 : 1 ≤ n) (hcap : n + 1 ≤ cap) (hlim : n ≤ 900000)
    (hbt : 0 < nth b (n - 1)) (hlt : val (W.drop 1) < val b) :
    Calls Tryz.prog 179 #[.slice (some ⟨g, o, none⟩) (n + 1) cap, .slice (some ⟨gb, ob, none⟩) n cb] w0 fun e w' => ∃ d out, e = .returned (.int .u64 d) ∧ W64 d ∧ out.length = n + 1 ∧ Ws out ∧ val out = val W - val b * d ∧ val out < val b ∧ Row w' g o out ∧ Edit g o (n + 1) w0 w' := by
  have hc0 : w0.cell? ⟨g, o + n, none⟩ = some (.int .u64 (nth W n)) := hr n (by omega)
  have hc1 : w0.cell? ⟨g, o + (n - 1), none⟩ = some (.int .u64 (nth W (n - 1))) := hr (n - 1) (by omega)
  have hc2 : w0.cell? ⟨gb, ob + (n - 1), none⟩ = some (.int .u64 (nth b (n - 1))) := hrb0 (n - 1) (by omega)
  have eW := val_take_succ W n (by omega)
  have eW1 := val_take_succ W (n - 1) (by omega)
  rw [show n - 1 + 1 = n by omega] at eW1
  rw [List.take_of_length_le (by omega)] at eW
  have eB := val_take_succ b (n - 1) (by omega)
  rw [show n - 1 + 1 = n by omega, List.take_of_length_le (by omega)] at eB
  have lW := val_lt (hW.take (n - 1))
  rw [List.length_take, Nat.min_eq_left (by omega)] at lW
  have lB := val_nonneg (hb.take (n - 1))
  have pp := pw_pos (n - 1)
  have pn : pw n = 18446744073709551616 * pw (n - 1) := by rw [← pw_succ, show n - 1 + 1 = n by omega]
  have hbig : val W < 18446744073709551616 * val b := by
    have := val_split W 1 (by omega)
    have h1 := val_lt (hW.take 1)
    rw [List.length_take, Nat.min_eq_left (by omega)] at h1
    rw [show pw 1 = 18446744073709551616 by simp [pw]] at this h1
    omega
  obtain ⟨wn0, wn1⟩ := hW.get n
  obtain ⟨wm0, wm1⟩ := hW.get (n - 1)
  obtain ⟨bt0, bt1⟩ := hb.get (n - 1)
  have HN := hide hn
  have HM := hide hm
  have q1 : ((n : Int) - 1).toNat = n - 1 := by omega
  by_cases hguess : nth W n < nth b (n - 1)
  · have htop : ∀ d, 0 ≤ d → d = (nth W n * 18446744073709551616 + nth W (n - 1)) / nth b (n - 1) → val W < (d + 1) * val b := by
      intro d hd0 hd
      have := digit_top (lo := val (W.take (n - 1))) (P := pw (n - 1)) (by' := val b) pp hbt hd lW (by rw [eB]; omega) hd0
      rw [eW, eW1, pn]
      have e5 : pw (n - 1) * (nth W (n - 1) + 18446744073709551616 * nth W n) = pw (n - 1) * nth W (n - 1) + 18446744073709551616 * pw (n - 1) * nth W n := by grind
      omega
    have bh := hb.get (n - 1)
    have hN0 : 0 ≤ nth W n * 18446744073709551616 + nth W (n - 1) := by omega
    obtain ⟨dg, hdg⟩ : ∃ dg, (nth W n * 18446744073709551616 + nth W (n - 1)) / nth b (n - 1) = dg := ⟨_, rfl⟩
    have d0 : 0 ≤ dg := by rw [← hdg]; exact Int.ediv_nonneg hN0 (by omega)
    have d1 : dg < 18446744073709551616 := by
      rw [← hdg]
      refine Int.ediv_lt_of_lt_mul hbt ?_
      have : (nth W n + 1) * 18446744073709551616 ≤ nth b (n - 1) * 18446744073709551616 := Int.mul_le_mul_of_nonneg_right (by omega) (by decide)
      rw [Int.mul_comm 18446744073709551616]; omega
    have HTOP := hide (htop dg d0 hdg.symm)
    clear htop eW eW1 eB lW lB pp pn hbig hn hm hlt bh hN0
    go_enter Tryz.func179, Tryz.ntmps179
    go_wp2_with fail
    go_quiet (fail)
    go_wp2_with fail
    go_quiet ((go_at_call 168; exact quiet_drew2 (div64_any _ _ _ ⟨wn0, wn1⟩ ⟨wm0, wm1⟩ ⟨bt0, bt1⟩ hguess _)))
    go_wp2_with fail
    refine (lowerTimes_any g o cap gb ob cb n (W.take n) b dg _ (by exact hr.take n) (by exact hrb0) (by exact hf0) hne0 (hW.take n) hb ⟨d0, d1⟩ (by have := unhide HN; simp; omega) (unhide HM) (by omega)).mono ?_
    rintro e w1 ⟨ms, out1, rfl, hms, l1, wo1, e1, ro1, ed1⟩
    obtain ⟨ms0, ms1⟩ := hms
    have ed1' : Edit g o n w0 w1 := ⟨ed1.os, ed1.tape, ed1.output, ed1.size, ed1.other, ed1.cell, ed1.free⟩
    clear ed1
    have hwn : w1.cell? ⟨g, o + n, none⟩ = some (.int .u64 (nth W n)) := by rw [ed1'.cell (o + n) (by omega)]; exact hc0
    have hfn : w1.frozen? ⟨g, o + n, none⟩ = false := (ed1'.free hf0).frozen _
    have hsub : ∀ w, (callFunc 158 #[.int .u64 (nth W n), .int .u64 ms, .int .u64 0]).run Tryz.prog w = _ := fun w => sub64_0 (nth W n) ms wn0 ms0 ms1 w
    obtain ⟨bw, ebw⟩ : ∃ bw, bor (nth W n) ms = bw := ⟨_, rfl⟩
    rw [ebw] at hsub
    have hstart := dig_start (b := b) (dg := dg) (g := g) (o := o) (n := n) (W := W) (w := w0) (w1 := w1) (ms := ms) (bw := bw) (out1 := out1) (unhide HN) hW ms0 ms1 l1 wo1 e1 ro1 (ed1'.mono (Nat.le_refl _) (by omega)) hwn ebw d0 d1 (unhide HTOP)
    have HST := hide hstart
    clear hstart e1 ebw
    go_wp2_with fail
    go_loopw [6, 8] (fun v c wr => ∃ (d bl : Int) (T : List Int), v = .int .u64 d ∧ c = .int .u64 bl ∧ Dig g o n W b w0 d bl wr T) (fun v _ _ => (intOf v).toNat)
    case atStart => exact ⟨dg, bw, _, rfl, rfl, unhide HST⟩
    case round =>
      clear HST
      obtain ⟨d, bl, T, rfl, rfl, hD⟩ := hrel
      have y0 := hD.d0
      have y1 := hD.d1
      by_cases hz : bl = 0
      · subst hz
        go_wp2
        go_ret
        exact ⟨d, T, rfl, ⟨hD.d0, hD.d1⟩, hD.len, hD.ws, by have := hD.eq; omega, by have := hD.eq; have := hD.up; omega, hD.row, hD.edit⟩
      · have hbl : bl = 1 := by have := hD.b0; have := hD.b1; omega
        subst hbl
        have ypos := dig_pos hD hb
        go_wp2_with fail
        refine (raise_any g o cap gb ob cb (n + 1) n T b _ hD.row ((hrb0.edit hD.edit0 (hne0 (by omega)))) (hD.edit.free hf0) (fun h => hne0 h) hD.ws hb hD.len (unhide HM) (by omega) (by omega)).mono ?_
        rintro e w3 ⟨c, T', rfl, c0, c1, lT, wT, eT, rT, edT⟩
        have HE := hide eT
        clear eT
        go_wp2
        go_roundw
        case rel => exact ⟨d - 1, 1 - c, T', rfl, rfl, dig_step hD c0 c1 lT wT (unhide HE) rT edT ypos⟩
        case measure => simp [intOf]; omega
  · have d0 : (0 : Int) ≤ 18446744073709551615 := by decide
    have d1 : (18446744073709551615 : Int) < 18446744073709551616 := by decide
    have HTOP : Hid (val W < (18446744073709551615 + 1) * val b) := hbig
    clear eW eW1 eB lW lB pp pn hbig hn hm hlt
    go_enter Tryz.func179, Tryz.ntmps179
    go_wp2_with fail
    go_quiet (fail)
    go_wp2_with fail
    refine (lowerTimes_any g o cap gb ob cb n (W.take n) b (18446744073709551615 : Int) _ (by exact hr.take n) (by exact hrb0) (by exact hf0) hne0 (hW.take n) hb ⟨d0, d1⟩ (by have := unhide HN; simp; omega) (unhide HM) (by omega)).mono ?_
    rintro e w1 ⟨ms, out1, rfl, hms, l1, wo1, e1, ro1, ed1⟩
    obtain ⟨ms0, ms1⟩ := hms
    have ed1' : Edit g o n w0 w1 := ⟨ed1.os, ed1.tape, ed1.output, ed1.size, ed1.other, ed1.cell, ed1.free⟩
    clear ed1
    have hwn : w1.cell? ⟨g, o + n, none⟩ = some (.int .u64 (nth W n)) := by rw [ed1'.cell (o + n) (by omega)]; exact hc0
    have hfn : w1.frozen? ⟨g, o + n, none⟩ = false := (ed1'.free hf0).frozen _
    have hsub : ∀ w, (callFunc 158 #[.int .u64 (nth W n), .int .u64 ms, .int .u64 0]).run Tryz.prog w = _ := fun w => sub64_0 (nth W n) ms wn0 ms0 ms1 w
    obtain ⟨bw, ebw⟩ : ∃ bw, bor (nth W n) ms = bw := ⟨_, rfl⟩
    rw [ebw] at hsub
    have hstart := dig_start (b := b) (dg := 18446744073709551615) (g := g) (o := o) (n := n) (W := W) (w := w0) (w1 := w1) (ms := ms) (bw := bw) (out1 := out1) (unhide HN) hW ms0 ms1 l1 wo1 e1 ro1 (ed1'.mono (Nat.le_refl _) (by omega)) hwn ebw d0 d1 (unhide HTOP)
    have HST := hide hstart
    clear hstart e1 ebw
    go_wp2_with fail
    go_loopw [6, 8] (fun v c wr => ∃ (d bl : Int) (T : List Int), v = .int .u64 d ∧ c = .int .u64 bl ∧ Dig g o n W b w0 d bl wr T) (fun v _ _ => (intOf v).toNat)
    case atStart => exact ⟨(18446744073709551615 : Int), bw, _, rfl, rfl, unhide HST⟩
    case round =>
      clear HST
      obtain ⟨d, bl, T, rfl, rfl, hD⟩ := hrel
      have y0 := hD.d0
      have y1 := hD.d1
      by_cases hz : bl = 0
      · subst hz
        go_wp2
        go_ret
        exact ⟨d, T, rfl, ⟨hD.d0, hD.d1⟩, hD.len, hD.ws, by have := hD.eq; omega, by have := hD.eq; have := hD.up; omega, hD.row, hD.edit⟩
      · have hbl : bl = 1 := by have := hD.b0; have := hD.b1; omega
        subst hbl
        have ypos := dig_pos hD hb
        go_wp2_with fail
        refine (raise_any g o cap gb ob cb (n + 1) n T b _ hD.row ((hrb0.edit hD.edit0 (hne0 (by omega)))) (hD.edit.free hf0) (fun h => hne0 h) hD.ws hb hD.len (unhide HM) (by omega) (by omega)).mono ?_
        rintro e w3 ⟨c, T', rfl, c0, c1, lT, wT, eT, rT, edT⟩
        have HE := hide eT
        clear eT
        go_wp2
        go_roundw
        case rel => exact ⟨d - 1, 1 - c, T', rfl, rfl, dig_step hD c0 c1 lT wT (unhide HE) rT edT ypos⟩
        case measure => simp [intOf]; omega
end Go.Proofs.YtachnndaoogpeaaGreatDoor
namespace Go.Proofs.YtachnndaoogpeaaGreatDoor
open Go.RowKit

theorem val_take_le {l : List Int} (h : Ws l) (k : Nat) : val (l.take k) ≤ val l := by
  by_cases hk : k ≤ l.length
  · have e := val_split l k hk
    have := Int.mul_nonneg (Int.le_of_lt (pw_pos k)) (val_nonneg (h.drop k))
    omega
  · rw [List.take_of_length_le (by omega)]; omega
/-- What is below pw m has nothing from word m on. -/
theorem val_drop_zero {l : List Int} {m : Nat} (h : Ws l) (hm : m ≤ l.length) (hv : val l < pw m) : val (l.drop m) = 0 := by
  have e := val_split l m hm
  have h1 := val_nonneg (h.take m)
  have h2 := val_nonneg (h.drop m)
  by_cases g : val (l.drop m) = 0
  · exact g
  · have : pw m * 1 ≤ pw m * val (l.drop m) := Int.mul_le_mul_of_nonneg_left (by omega) (Int.le_of_lt (pw_pos m))
    omega
/-- A trimmed list of a known size has a known length. -/
theorem len_of_val {l : List Int} {n : Nat} (h : Ws l) (t : Trim l) (h1 : pw (n - 1) ≤ val l) (h2 : val l < pw n) (hn : 1 ≤ n) : l.length = n := by
  have hne : l ≠ [] := by
    intro e; subst e
    have := pw_pos (n - 1)
    simp [val] at h1; omega
  have a := val_ge h t hne
  have b := val_lt h
  have lp : 0 < l.length := List.length_pos_iff.2 hne
  by_cases g1 : l.length < n
  · have := pw_mono (show l.length ≤ n - 1 by omega); omega
  · by_cases g2 : n < l.length
    · have := pw_mono (show n ≤ l.length - 1 by omega); omega
    · omega

/-- The divisor, shifted up: its length, and that its highest bit is set. -/
theorem norm {b : List Int} {s nb : Nat} (hb : Ws b) (hl : b.length = nb) (h1 : 1 ≤ nb) (hlo : 9223372036854775808 ≤ nth b (nb - 1) * 2 ^ s) (hup : nth b (nb - 1) * 2 ^ s < 18446744073709551616) (hs : s ≤ 63) :
    9223372036854775808 * pw (nb - 1) ≤ val b * 2 ^ s ∧ val b * 2 ^ s < pw nb := by
  have eB := val_take_succ b (nb - 1) (by omega)
  rw [show nb - 1 + 1 = nb by omega, List.take_of_length_le (by omega)] at eB
  have l0 := val_nonneg (hb.take (nb - 1))
  have l1 := val_lt (hb.take (nb - 1))
  rw [List.length_take, Nat.min_eq_left (by omega)] at l1
  have pp := pw_pos (nb - 1)
  have p0 := two_pos s
  have r0 := two_pos (64 - s)
  have e := two_split s (by omega)
  have pn : pw nb = 18446744073709551616 * pw (nb - 1) := by rw [← pw_succ, show nb - 1 + 1 = nb by omega]
  have t0 := (hb.get (nb - 1)).1
  generalize nth b (nb - 1) = t at *
  generalize val (b.take (nb - 1)) = v at *
  have ht : t + 1 ≤ 2 ^ (64 - s) := by
    by_cases g : t + 1 ≤ 2 ^ (64 - s)
    · exact g
    · have : 2 ^ (64 - s) * 2 ^ s ≤ t * 2 ^ s := Int.mul_le_mul_of_nonneg_right (by omega) (by omega)
      rw [Int.mul_comm (2 ^ (64 - s)), e] at this
      omega
  rw [eB]
  constructor
  · have h1 : 0 ≤ v * 2 ^ s := Int.mul_nonneg l0 (by omega)
    have h2 : 9223372036854775808 * pw (nb - 1) ≤ t * 2 ^ s * pw (nb - 1) := Int.mul_le_mul_of_nonneg_right hlo (by omega)
    have h3 : (v + pw (nb - 1) * t) * 2 ^ s = v * 2 ^ s + t * 2 ^ s * pw (nb - 1) := by grind
    omega
  · have h1 : (v + pw (nb - 1) * t) + 1 ≤ pw (nb - 1) * (t + 1) := by rw [Int.mul_add]; omega
    have h2 : (v + pw (nb - 1) * t + 1) * 2 ^ s ≤ pw (nb - 1) * (t + 1) * 2 ^ s := Int.mul_le_mul_of_nonneg_right h1 (by omega)
    have h3 : (t + 1) * 2 ^ s ≤ 2 ^ (64 - s) * 2 ^ s := Int.mul_le_mul_of_nonneg_right ht (by omega)
    rw [Int.mul_comm (2 ^ (64 - s)), e] at h3
    have h4 : pw (nb - 1) * ((t + 1) * 2 ^ s) ≤ pw (nb - 1) * 18446744073709551616 := Int.mul_le_mul_of_nonneg_left h3 (by omega)
    have h5 : pw (nb - 1) * (t + 1) * 2 ^ s = pw (nb - 1) * ((t + 1) * 2 ^ s) := by grind
    rw [Int.add_mul (v + pw (nb - 1) * t)] at h2
    omega

/-- How divideLong's loop stands with k digits to go: R in the row of the rest, ds the digits that are found. -/
structure Long (gr gp P : Nat) (R0 b : List Int) (w : World) (k : Nat) (wr : World) (R ds : List Int) : Prop where
  lenR : R.length = R0.length
  lenD : ds.length + k = P
  wsR : Ws R
  wsD : Ws ds
  eq : val R0 = val R + pw k * (val ds * val b)
  low : val (R.drop k) < val b
  rowR : Row wr gr 0 R
  rowD : Row wr gp 0 (List.replicate k 0 ++ ds)
  freeR : Free wr gr
  freeD : Free wr gp
  below : Below gr w wr
theorem Row.below {w w' : World} {b off B : Nat} {l : List Int} (h : Row w b off l) (hb : Below B w w') (hB : b < B) : Row w' b off l := by
  intro k hk
  rw [hb.cell (p := ⟨b, off + k, none⟩) hB]; exact h k hk
theorem Free.edit {g lo n f : Nat} {w w' : World} (h : Free w f) (hne : f ≠ g) (ed : Edit g lo n w w') : Free w' f := by
  obtain ⟨cur, e, h1⟩ := h
  exact ⟨cur, e, by rw [ed.other f (Array.getElem?_eq_some_iff.1 h1).1 hne]; exact h1⟩
/-- The window of the next digit, and what lies above it. -/
theorem Long.window {gr gp P nb k : Nat} {R0 b R ds : List Int} {w wr : World} (h : Long gr gp P R0 b w (k + 1) wr R ds) (hb : val b < pw nb) (hl : R0.length = P + nb) :
    ((R.drop k).take (nb + 1)).length = nb + 1 ∧ val (((R.drop k).take (nb + 1)).drop 1) < val b ∧ val (R.drop (k + (nb + 1))) = 0 ∧ val (R.drop k) = val ((R.drop k).take (nb + 1)) := by
  have l1 := h.lenR
  have l2 := h.lenD
  have lw : ((R.drop k).take (nb + 1)).length = nb + 1 := by simp; omega
  have e1 : ((R.drop k).take (nb + 1)).drop 1 = (R.drop (k + 1)).take nb := by
    rw [List.drop_take, List.drop_drop]; simp
  have h0 := h.low
  have z : val ((R.drop (k + 1)).drop nb) = 0 := val_drop_zero (h.wsR.drop _) (by simp; omega) (by omega)
  rw [List.drop_drop, show k + 1 + nb = k + (nb + 1) by omega] at z
  refine ⟨lw, ?_, z, ?_⟩
  · rw [e1]; have := val_take_le (h.wsR.drop (k + 1)) nb; omega
  · rw [val_split (R.drop k) (nb + 1) (by simp; omega), List.drop_drop, z]; simp
theorem long_step {gr gp P nb k : Nat} {R0 b R ds out : List Int} {d : Int} {w wr w3 : World} (h : Long gr gp P R0 b w (k + 1) wr R ds) (hb : val b < pw nb) (hl : R0.length = P + nb) (hg : gr < gp) (hd : W64 d) (lo : out.length = nb + 1) (wo : Ws out)
    (eo : val out = val ((R.drop k).take (nb + 1)) - val b * d) (ho : val out < val b) (ro : Row w3 gr k out) (ed : Edit gr k (nb + 1) wr w3) (hs : gr ≤ wr.heap.size) :
    Long gr gp P R0 b w k (w3.setCell ⟨gp, k, none⟩ (.int .u64 d)) (R.take k ++ out ++ R.drop (k + (nb + 1))) (d :: ds) := by
  obtain ⟨lw, hw1, hz, hw2⟩ := h.window hb hl
  have l1 := h.lenR
  have l2 := h.lenD
  have lt : (R.take k).length = k := by simp; omega
  have hcp : w3.cell? ⟨gp, k, none⟩ = some (.int .u64 0) := by
    have := (h.rowD.edit ed (by omega)) k (by simp; omega)
    rw [Nat.zero_add, nth_app_left (by simp)] at this
    rw [this]; simp [nth]
  refine ⟨by simp; omega, by simp; omega, ((h.wsR.take k).append wo).append (h.wsR.drop _), Ws.mk hd h.wsD, ?_, ?_, ?_, ?_, free_setCell (ed.free h.freeR) _ _, free_setCell (h.freeD.edit (by omega) ed) _ _, (h.below.trans (ed.below (Nat.le_refl _) hs)).setCell (by show gr ≤ gp; omega) _⟩
  · have e1 := h.eq
    have e2 := val_split R k (by omega)
    rw [val_append, val_append, hz, lt, val, pw_succ] at *
    rw [e1, e2, hw2, eo]
    grind
  · rw [List.append_assoc, List.drop_append_of_le_length (by omega), List.drop_of_length_le (by omega), List.nil_append, val_append, hz]
    simpa using ho
  · intro j hj
    simp at hj
    rw [cell?_setCell_ne _ _ _ _ _ _ (by omega), Nat.zero_add]
    by_cases j1 : j < k
    · rw [ed.cell j (by omega)]
      have := h.rowR j (by omega)
      rw [Nat.zero_add] at this
      rw [this, nth_app_left (by simp; omega), nth_app_left (by omega), nth_take j1]
    by_cases j2 : j < k + (nb + 1)
    · have := ro (j - k) (by omega)
      rw [show k + (j - k) = j by omega] at this
      rw [this, nth_app_left (by simp; omega), nth_app_right (by omega), lt]
    · rw [ed.cell j (by omega)]
      have := h.rowR j (by omega)
      rw [Nat.zero_add] at this
      rw [this, nth_app_right (by simp; omega), nth_drop]
      congr 2
      simp [lo]; congr 1; omega
  · have r1 := (h.rowD.edit ed (by omega)).set (k := k) (by simp; omega) d
    rw [Nat.zero_add, List.replicate_succ', List.append_assoc, List.set_append_right k _ (by simp)] at r1
    simpa using r1
end Go.Proofs.YtachnndaoogpeaaGreatDoor
namespace Go.Proofs.YtachnndaoogpeaaGreatDoor
open Go.RowKit

theorem long_end {b a out R ds : List Int} {s : Nat} {V : Int} (hV : V = val b * 2 ^ s) (hR0 : val a * 2 ^ s = val R + val ds * V) (ho : val out * 2 ^ s + nth R 0 % 2 ^ s = val R) (hlow : val R < V) (hRn : 0 ≤ val R) :
    val out = val a - val ds * val b ∧ val out < val b ∧ 0 ≤ val out := by
  have p0 := two_pos s
  have m0 := Int.emod_nonneg (nth R 0) (show (2 : Int) ^ s ≠ 0 by omega)
  have m1 := Int.emod_lt_of_pos (nth R 0) p0
  generalize (2 : Int) ^ s = p at *
  generalize nth R 0 % p = r at *
  have e : p * (val a - val ds * val b - val out) = r := by subst hV; grind
  have e0 : val a - val ds * val b - val out = 0 := by
    by_cases g : val a - val ds * val b - val out = 0
    · exact g
    · by_cases g' : 1 ≤ val a - val ds * val b - val out
      · have : p * 1 ≤ p * (val a - val ds * val b - val out) := Int.mul_le_mul_of_nonneg_left g' (by omega)
        omega
      · have : p * (val a - val ds * val b - val out) ≤ p * (-1) := Int.mul_le_mul_of_nonneg_left (by omega) (by omega)
        omega
  rw [e0] at e
  refine ⟨by omega, ?_, ?_⟩
  · by_cases g : val out < val b
    · exact g
    · have : val b * p ≤ val out * p := Int.mul_le_mul_of_nonneg_right (by omega) (by omega)
      omega
  · by_cases g : 0 ≤ val out
    · exact g
    · have : val out * p ≤ (-1) * p := Int.mul_le_mul_of_nonneg_right (by omega) (by omega)
      omega

set_option maxHeartbeats 4000000 in
theorem divideLong_any (ga oa ca gb ob cb na nb : Nat) (a b : List Int) (w : World) (hra : Row w ga oa a) (hrb : Row w gb ob b) (ha : Ws a) (hb : Ws b) (tb : nth b (nb - 1) ≠ 0) (hna : a.length = na) (hnb : b.length = nb) (h1 : 1 ≤ nb) (hle : nb ≤ na) (hlim : na ≤ 900000) :
    Calls Tryz.prog 159 #[.slice (some ⟨ga, oa, none⟩) na ca, .slice (some ⟨gb, ob, none⟩) nb cb] w fun e w' => ∃ v1 v2 q r, e = .returned (.tuple #[v1, v2]) ∧ Sz (na + 1) w' v1 q ∧ Sz (na + 1) w' v2 r ∧ q * val b + r = val a ∧ 0 ≤ r ∧ r < val b ∧ Below w.heap.size w w' := by
  have hct := hrb (nb - 1) (by omega)
  obtain ⟨t0, t1⟩ := hb.get (nb - 1)
  obtain ⟨s, hs, hs63, hlo, hup⟩ := lead (hb.get (nb - 1)) (by omega)
  obtain ⟨nlo, nup⟩ := norm hb hnb h1 hlo hup hs63
  have HNA := hide hna
  have HNB := hide hnb
  have HS := hide hs
  have HNL := hide nlo
  have HNU := hide nup
  clear hna hnb hs nlo nup hlo hup
  go_enter Tryz.func159, Tryz.ntmps159
  go_wp2_with fail
  refine (Tryz.bits_LeadingZeros64 _ _ t0 (by omega)).mono ?_
  rintro e w ⟨rfl, rfl⟩
  rw [unhide HS]
  go_wp2_with fail
  refine (shiftUp_any gb ob cb nb s b _ (by exact hrb) hb (unhide HNB) hs63 (by omega)).mono ?_
  rintro e w2 ⟨g1, b1, rfl, hg1, lb1, wb1, eb1, _, rb1, fb1, bl1⟩
  go_wp2_with fail
  refine (trim_sz g1 0 (nb + 1) (nb + 1) b1 _ (by exact rb1) wb1 lb1 (Nat.le_refl _) (by omega)).mono ?_
  rintro e w3 ⟨v3, rfl, ⟨gy, oy, cy, y, rfl, wy, ty, ey, ny, ly, lcy, ry⟩, rfl⟩
  have hV : val y = val b * 2 ^ s := ey.trans eb1
  have hpp := pw_pos (nb - 1)
  have hy2 : pw (nb - 1) ≤ val y := by rw [hV]; have := unhide HNL; omega
  have hy3 : val y < pw nb := by rw [hV]; exact unhide HNU
  have hly : y.length = nb := len_of_val wy ty hy2 hy3 h1
  have hytop : 0 < nth y (nb - 1) := by
    have t := (wy.get (nb - 1)).1
    rcases ty with ty | ty
    · subst ty; simp at hly; omega
    · rw [hly] at ty; omega
  rw [hly]
  have hgy : gy < w2.heap.size := ry.lt (by intro e; subst e; simp at hly; omega)
  have HV := hide hV
  have HLY := hide hly
  clear hV hly ey eb1 lb1 hpp
  go_wp2_with fail
  refine (shiftUp_any ga oa ca na s a _ (by exact hra.later bl1) ha (unhide HNA) hs63 (by omega)).mono ?_
  rintro e w4 ⟨gr, R0, rfl, hgr, lr0, wr0, er0, tr0, rr0, fr0, bl2⟩
  have ry4 : Row w4 gy oy y := ry.later bl2
  have hsz := bl2.size
  obtain ⟨P, hP⟩ : ∃ P : Nat, P + nb = na + 1 := ⟨na + 1 - nb, by omega⟩
  have hPi : (na : Int) + 1 - (nb : Int) = (P : Int) := by omega
  have HLR := hide lr0
  have HER := hide er0
  clear lr0 er0
  have HTR := hide tr0
  clear tr0
  have hPle : P ≤ 900001 := by omega
  have hrlt : gr < w4.heap.size := fr0.lt
  go_wp2_with (first | (at_make; refine wpList_make_words rfl _ _ rfl P (by omega) rfl rfl ?_; intro gp w5 hmade))
  have hgp : gr < gp := by have := hmade.at_; omega
  have hgp2 : w4.heap.size ≤ gp := by have := hmade.at_; omega
  have hgy2 : gy < gr := by omega
  have hlow0 : val (R0.drop P) < val y := by
    have e1 := unhide HLR
    have l : (R0.drop P).length = nb := by simp; omega
    have e2 := val_take_succ (R0.drop P) (nb - 1) (by omega)
    rw [show nb - 1 + 1 = nb by omega, List.take_of_length_le (by omega), nth_drop, show P + (nb - 1) = na by omega] at e2
    have l1 := val_lt ((wr0.drop P).take (nb - 1))
    rw [List.length_take, Nat.min_eq_left (by omega)] at l1
    have t2 := unhide HTR
    have t3 := two_le s hs63
    have t4 := pw_pos (nb - 1)
    have t5 : pw (nb - 1) * (nth R0 na + 1) ≤ pw (nb - 1) * 9223372036854775808 := Int.mul_le_mul_of_nonneg_left (by omega) (by omega)
    rw [Int.mul_add] at t5
    have t6 := unhide HNL
    rw [unhide HV]
    omega
  have HL0 := hide hlow0
  clear hlow0
  go_loopw [34] (fun v wr => ∃ (k j : Nat) (R ds : List Int), j + k = P ∧ v = .int .i64 j ∧ Long gr gp P R0 y w5 k wr R ds) (fun v _ => P - (intOf v).toNat)
  case atStart =>
    have e1 := unhide HLR
    refine ⟨P, 0, R0, [], by omega, rfl, ⟨rfl, by simp, wr0, Ws.nil, by simp [val], unhide HL0, rr0.later hmade.below, by simpa using hmade.row, ?_, hmade.free, Below.refl _ _⟩⟩
    obtain ⟨cur, e, hh⟩ := fr0
    exact ⟨cur, e, by rw [hmade.below.block gr hrlt]; exact hh⟩
  case round =>
    obtain ⟨k', j, R, ds, hjk, rfl, hR⟩ := hrel
    have hszr := hR.below.size
    have hs5 : gp < w5.heap.size := hmade.free.lt
    by_cases hlt : j < P
    · obtain ⟨k, rfl⟩ : ∃ k, k' = k + 1 := ⟨k' - 1, by omega⟩
      have hk : (P : Int) - 1 - (j : Int) = (k : Int) := by omega
      have hR0l : R0.length = P + nb := by have := unhide HLR; omega
      obtain ⟨lw, hw1, hz, hw2⟩ := hR.window hy3 hR0l
      have hwin : Row wr gr k ((R.drop k).take (nb + 1)) := by
        have := (hR.rowR.drop k).take (nb + 1)
        rwa [Nat.zero_add] at this
      have hry : Row wr gy oy y := (ry4.later hmade.below).below hR.below (by omega)
      have hcp : wr.cell? ⟨gp, k, none⟩ = some (.int .u64 0) := by
        have := hR.rowD k (by simp; omega)
        rw [Nat.zero_add, nth_app_left (by simp)] at this
        rw [this]; simp [nth]
      have HW := hide (And.intro lw (And.intro hw1 (And.intro hz hw2)))
      clear lw hw1 hz hw2
      have HR0 := hide hR0l
      clear hR0l
      have HJK := hide hjk
      clear hjk
      have j1 : k + j + 1 = P := by have := unhide HJK; omega
      have J1 := hide j1
      clear j1
      have z1 : ¬ na + 1 = k := by have := unhide J1; omega
      have z2 : k + nb + 1 ≤ na + 1 := by have := unhide J1; omega
      have z3 : k < P := by have := unhide J1; omega
      go_wp2_with fail
      rw [show k + nb + 1 - k = nb + 1 by omega]
      refine (nextDigit_any gr k (na + 1 - k) gy oy cy nb _ y _ (by exact hwin) (by exact hry) (by exact hR.freeR) (fun _ => by omega) ((hR.wsR.drop k).take _) wy (unhide HW).1 (unhide HLY) h1 (by omega) (by omega) hytop (unhide HW).2.1).mono ?_
      rintro e w6 ⟨d, out, rfl, hd, lo, wo, eo, ho, ro, ed⟩
      have hcp6 : w6.cell? ⟨gp, k, none⟩ = some (.int .u64 0) := edit_cell ed hcp (by omega)
      have hfp6 : w6.frozen? ⟨gp, k, none⟩ = false := (hR.freeD.edit (by omega) ed).frozen _
      have HO := hide (And.intro lo (And.intro eo ho))
      clear lo eo ho
      go_wp2
      go_roundw
      case rel =>
        obtain ⟨lo, eo, ho⟩ := unhide HO
        refine ⟨k, j + 1, _, _, by have := unhide J1; omega, by go_num, long_step hR hy3 (unhide HR0) (by omega) hd lo wo eo ho ro ed (by omega)⟩
      case measure => simp [intOf]; omega
    · obtain rfl : k' = 0 := by omega
      have hR0l : R0.length = P + nb := by have := unhide HLR; omega
      have hRl : R.length = na + 1 := by have := hR.lenR; omega
      have hDl : ds.length = P := by have := hR.lenD; omega
      have HRL := hide hRl
      have HDL := hide hDl
      clear hR0l hRl hDl
      go_wp2_with fail
      refine (shiftDown_any gr 0 (na + 1) (na + 1) s R _ (by exact hR.rowR) (by exact hR.freeR) hR.wsR (unhide HRL) hs63 (by omega)).mono ?_
      rintro e w6 ⟨out, rfl, lo, wo, eo, ro, ed⟩
      have HO := hide (And.intro lo eo)
      clear lo eo
      have rd6 : Row w6 gp 0 ds := by
        have := hR.rowD.edit ed (by omega)
        simpa using this
      go_wp2_with fail
      refine (trim_sz gp 0 P P ds _ (by exact rd6) hR.wsD (unhide HDL) (Nat.le_refl _) (by omega)).mono ?_
      rintro e w7 ⟨v1, rfl, hsz1, rfl⟩
      go_wp2_with fail
      refine (trim_sz gr 0 (na + 1) (na + 1) out _ (by exact ro) wo (unhide HO).1 (Nat.le_refl _) (by omega)).mono ?_
      rintro e w8 ⟨v2, rfl, hsz2, rfl⟩
      go_wp2
      go_ret2
      have e1 := hR.eq
      have e2 := hR.low
      simp only [pw, List.drop_zero, Int.one_mul] at e1 e2
      rw [unhide HER] at e1
      obtain ⟨f1, f2, f3⟩ := long_end (unhide HV) e1 (unhide HO).2 e2 (val_nonneg hR.wsR)
      refine ⟨_, _, _, _, rfl, hsz1.mono (by omega), hsz2, by rw [f1]; omega, f3, f2, ?_⟩
      have bA : Below w.heap.size w w4 := bl1.trans (bl2.mono bl1.size)
      have bB : Below w.heap.size w w5 := bA.trans (hmade.below.mono bA.size)
      have b1s := bl1.size
      exact (bB.trans (hR.below.mono (by omega))).trans (ed.below (by omega) (by have := bB.size; omega))
end Go.Proofs.YtachnndaoogpeaaGreatDoor
