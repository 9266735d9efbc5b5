/-
  Walks over package whole: divideLong: long division of words.
-/
import Derived.Test.YtmdmcmkfhmnbeaaGreatDoorW11
namespace Go.Proofs.YtmdmcmkfhmnbeaaGreatDoor
open Go.RowKit

theorem val_take_le {l : List Int} (h : Ws l) (k : Nat) : val (l.take k) ≤ val l := by
  by_cases hk : k ≤ l.length
  · have e := val_split l k hk
    have := Int.mul_nonneg (Int.le_of_lt (pw_pos k)) (val_nonneg (h.drop k))
    omega
  · rw [List.take_of_length_le (by omega)]; omega
/-- What is below pw m has nothing from word m on. -/
theorem val_drop_zero {l : List Int} {m : Nat} (h : Ws l) (hm : m ≤ l.length) (hv : val l < pw m) : val (l.drop m) = 0 := by
  have e := val_split l m hm
  have h1 := val_nonneg (h.take m)
  have h2 := val_nonneg (h.drop m)
  by_cases g : val (l.drop m) = 0
  · exact g
  · have : pw m * 1 ≤ pw m * val (l.drop m) := Int.mul_le_mul_of_nonneg_left (by omega) (Int.le_of_lt (pw_pos m))
    omega
/-- A trimmed list of a known size has a known length. -/
theorem len_of_val {l : List Int} {n : Nat} (h : Ws l) (t : Trim l) (h1 : pw (n - 1) ≤ val l) (h2 : val l < pw n) (hn : 1 ≤ n) : l.length = n := by
  have hne : l ≠ [] := by
    intro e; subst e
    have := pw_pos (n - 1)
    simp [val] at h1; omega
  have a := val_ge h t hne
  have b := val_lt h
  have lp : 0 < l.length := List.length_pos_iff.2 hne
  by_cases g1 : l.length < n
  · have := pw_mono (show l.length ≤ n - 1 by omega); omega
  · by_cases g2 : n < l.length
    · have := pw_mono (show n ≤ l.length - 1 by omega); omega
    · omega

/-- The divisor, shifted up: its length, and that its highest bit is set. -/
theorem norm {b : List Int} {s nb : Nat} (hb : Ws b) (hl : b.length = nb) (h1 : 1 ≤ nb) (hlo : 9223372036854775808 ≤ nth b (nb - 1) * 2 ^ s) (hup : nth b (nb - 1) * 2 ^ s < 18446744073709551616) (hs : s ≤ 63) :
    9223372036854775808 * pw (nb - 1) ≤ val b * 2 ^ s ∧ val b * 2 ^ s < pw nb := by
  have eB := val_take_succ b (nb - 1) (by omega)
  rw [show nb - 1 + 1 = nb by omega, List.take_of_length_le (by omega)] at eB
  have l0 := val_nonneg (hb.take (nb - 1))
  have l1 := val_lt (hb.take (nb - 1))
  rw [List.length_take, Nat.min_eq_left (by omega)] at l1
  have pp := pw_pos (nb - 1)
  have p0 := two_pos s
  have r0 := two_pos (64 - s)
  have e := two_split s (by omega)
  have pn : pw nb = 18446744073709551616 * pw (nb - 1) := by rw [← pw_succ, show nb - 1 + 1 = nb by omega]
  have t0 := (hb.get (nb - 1)).1
  generalize nth b (nb - 1) = t at *
  generalize val (b.take (nb - 1)) = v at *
  have ht : t + 1 ≤ 2 ^ (64 - s) := by
    by_cases g : t + 1 ≤ 2 ^ (64 - s)
    · exact g
    · have : 2 ^ (64 - s) * 2 ^ s ≤ t * 2 ^ s := Int.mul_le_mul_of_nonneg_right (by omega) (by omega)
      rw [Int.mul_comm (2 ^ (64 - s)), e] at this
      omega
  rw [eB]
  constructor
  · have h1 : 0 ≤ v * 2 ^ s := Int.mul_nonneg l0 (by omega)
    have h2 : 9223372036854775808 * pw (nb - 1) ≤ t * 2 ^ s * pw (nb - 1) := Int.mul_le_mul_of_nonneg_right hlo (by omega)
    have h3 : (v + pw (nb - 1) * t) * 2 ^ s = v * 2 ^ s + t * 2 ^ s * pw (nb - 1) := by grind
    omega
  · have h1 : (v + pw (nb - 1) * t) + 1 ≤ pw (nb - 1) * (t + 1) := by rw [Int.mul_add]; omega
    have h2 : (v + pw (nb - 1) * t + 1) * 2 ^ s ≤ pw (nb - 1) * (t + 1) * 2 ^ s := Int.mul_le_mul_of_nonneg_right h1 (by omega)
    have h3 : (t + 1) * 2 ^ s ≤ 2 ^ (64 - s) * 2 ^ s := Int.mul_le_mul_of_nonneg_right ht (by omega)
    rw [Int.mul_comm (2 ^ (64 - s)), e] at h3
    have h4 : pw (nb - 1) * ((t + 1) * 2 ^ s) ≤ pw (nb - 1) * 18446744073709551616 := Int.mul_le_mul_of_nonneg_left h3 (by omega)
    have h5 : pw (nb - 1) * (t + 1) * 2 ^ s = pw (nb - 1) * ((t + 1) * 2 ^ s) := by grind
    rw [Int.add_mul (v + pw (nb - 1) * t)] at h2
    omega

/-- How divideLong's loop stands with k digits to go: R in the row of the rest, ds the digits that are found. -/
structure Long (gr gp P : Nat) (R0 b : List Int) (w : World) (k : Nat) (wr : World) (R ds : List Int) : Prop where
  lenR : R.length = R0.length
  lenD : ds.length + k = P
  wsR : Ws R
  wsD : Ws ds
  eq : val R0 = val R + pw k * (val ds * val b)
  low : val (R.drop k) < val b
  rowR : Row wr gr 0 R
  rowD : Row wr gp 0 (List.replicate k 0 ++ ds)
  freeR : Free wr gr
  freeD : Free wr gp
  below : Below gr w wr
theorem Row.below {w w' : World} {b off B : Nat} {l : List Int} (h : Row w b off l) (hb : Below B w w') (hB : b < B) : Row w' b off l := by
  intro k hk
  rw [hb.cell (p := ⟨b, off + k, none⟩) hB]; exact h k hk
theorem Free.edit {g lo n f : Nat} {w w' : World} (h : Free w f) (hne : f ≠ g) (ed : Edit g lo n w w') : Free w' f := by
  obtain ⟨cur, e, h1⟩ := h
  exact ⟨cur, e, by rw [ed.other f (Array.getElem?_eq_some_iff.1 h1).1 hne]; exact h1⟩
/-- The window of the next digit, and what lies above it. -/
theorem Long.window {gr gp P nb k : Nat} {R0 b R ds : List Int} {w wr : World} (h : Long gr gp P R0 b w (k + 1) wr R ds) (hb : val b < pw nb) (hl : R0.length = P + nb) :
    ((R.drop k).take (nb + 1)).length = nb + 1 ∧ val (((R.drop k).take (nb + 1)).drop 1) < val b ∧ val (R.drop (k + (nb + 1))) = 0 ∧ val (R.drop k) = val ((R.drop k).take (nb + 1)) := by
  have l1 := h.lenR
  have l2 := h.lenD
  have lw : ((R.drop k).take (nb + 1)).length = nb + 1 := by simp; omega
  have e1 : ((R.drop k).take (nb + 1)).drop 1 = (R.drop (k + 1)).take nb := by
    rw [List.drop_take, List.drop_drop]; simp
  have h0 := h.low
  have z : val ((R.drop (k + 1)).drop nb) = 0 := val_drop_zero (h.wsR.drop _) (by simp; omega) (by omega)
  rw [List.drop_drop, show k + 1 + nb = k + (nb + 1) by omega] at z
  refine ⟨lw, ?_, z, ?_⟩
  · rw [e1]; have := val_take_le (h.wsR.drop (k + 1)) nb; omega
  · rw [val_split (R.drop k) (nb + 1) (by simp; omega), List.drop_drop, z]; simp
theorem long_step {gr gp P nb k : Nat} {R0 b R ds out : List Int} {d : Int} {w wr w3 : World} (h : Long gr gp P R0 b w (k + 1) wr R ds) (hb : val b < pw nb) (hl : R0.length = P + nb) (hg : gr < gp) (hd : W64 d) (lo : out.length = nb + 1) (wo : Ws out)
    (eo : val out = val ((R.drop k).take (nb + 1)) - val b * d) (ho : val out < val b) (ro : Row w3 gr k out) (ed : Edit gr k (nb + 1) wr w3) (hs : gr ≤ wr.heap.size) :
    Long gr gp P R0 b w k (w3.setCell ⟨gp, k, none⟩ (.int .u64 d)) (R.take k ++ out ++ R.drop (k + (nb + 1))) (d :: ds) := by
  obtain ⟨lw, hw1, hz, hw2⟩ := h.window hb hl
  have l1 := h.lenR
  have l2 := h.lenD
  have lt : (R.take k).length = k := by simp; omega
  have hcp : w3.cell? ⟨gp, k, none⟩ = some (.int .u64 0) := by
    have := (h.rowD.edit ed (by omega)) k (by simp; omega)
    rw [Nat.zero_add, nth_app_left (by simp)] at this
    rw [this]; simp [nth]
  refine ⟨by simp; omega, by simp; omega, ((h.wsR.take k).append wo).append (h.wsR.drop _), Ws.mk hd h.wsD, ?_, ?_, ?_, ?_, free_setCell (ed.free h.freeR) _ _, free_setCell (h.freeD.edit (by omega) ed) _ _, (h.below.trans (ed.below (Nat.le_refl _) hs)).setCell (by show gr ≤ gp; omega) _⟩
  · have e1 := h.eq
    have e2 := val_split R k (by omega)
    rw [val_append, val_append, hz, lt, val, pw_succ] at *
    rw [e1, e2, hw2, eo]
    grind
  · rw [List.append_assoc, List.drop_append_of_le_length (by omega), List.drop_of_length_le (by omega), List.nil_append, val_append, hz]
    simpa using ho
  · intro j hj
    simp at hj
    rw [cell?_setCell_ne _ _ _ _ _ _ (by omega), Nat.zero_add]
    by_cases j1 : j < k
    · rw [ed.cell j (by omega)]
      have := h.rowR j (by omega)
      rw [Nat.zero_add] at this
      rw [this, nth_app_left (by simp; omega), nth_app_left (by omega), nth_take j1]
    by_cases j2 : j < k + (nb + 1)
    · have := ro (j - k) (by omega)
      rw [show k + (j - k) = j by omega] at this
      rw [this, nth_app_left (by simp; omega), nth_app_right (by omega), lt]
    · rw [ed.cell j (by omega)]
      have := h.rowR j (by omega)
      rw [Nat.zero_add] at this
      rw [this, nth_app_right (by simp; omega), nth_drop]
      congr 2
      simp [lo]; congr 1; omega
  · have r1 := (h.rowD.edit ed (by omega)).set (k := k) (by simp; omega) d
    rw [Nat.zero_add, List.replicate_succ', List.append_assoc, List.set_append_right k _ (by simp)] at r1
    simpa using r1
end Go.Proofs.YtmdmcmkfhmnbeaaGreatDoor
