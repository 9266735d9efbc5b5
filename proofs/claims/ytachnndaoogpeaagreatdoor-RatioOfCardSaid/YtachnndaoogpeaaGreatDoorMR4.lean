/-
  Walks over the document's numbers: Of.
-/
import Derived.Test.YtachnndaoogpeaaGreatDoorMWF
import Derived.Test.YtachnndaoogpeaaGreatDoorMRB
namespace Go.Proofs.YtachnndaoogpeaaGreatDoor
open Go.RowKit

/-- Of, k rounds on. -/
structure OfK (n : Int) (w : World) (m : Int) (v : Value) (D : List Int) (wr : World) : Prop where
  own : wr.ownsRow (w.heap.size + 1) 3 1 v D.length (D.map (Value.int .i64))
  places : P4 D
  sum : iabs n = v4 D + 10000 ^ D.length * iabs m
  small : iabs m < 10000 ^ (5 - D.length)
  len : D.length ≤ 5
  sign : (n < 0 ∧ m ≤ 0) ∨ (0 ≤ n ∧ 0 ≤ m)
  top : D = [] ∨ m ≠ 0 ∨ nth D (D.length - 1) ≠ 0
  below : Below w.heap.size w wr
  box : NBox wr w.heap.size

theorem OfK.step {n : Int} {w wr w1 : World} {m x m' : Int} {v v' : Value} {D : List Int} {o : Obj} (h : OfK n w m v D wr) (hm : m ≠ 0) (hx : x = iabs m % 10000) (hm' : iabs m' = iabs m / 10000) (hs : (m < 0 ∧ m' ≤ 0) ∨ (0 < m ∧ 0 ≤ m'))
    (hown : w1.ownsRow (w.heap.size + 1) 3 1 v' (D.length + 1) (D.map (Value.int .i64) ++ [.int .i64 x])) (hg : (wr.alloc o).grownBy w1 v.ownBlock) : OfK n w m' v' (D ++ [x]) w1 := by
  have hip := iabs_pos hm
  have hm0 : 0 ≤ iabs m' := by unfold iabs; split <;> omega
  have hlen : D.length < 5 := by
    have hl := h.len
    rcases Nat.lt_or_eq_of_le hl with hlt | heq
    · exact hlt
    · have := h.small; rw [heq] at this; simp at this; omega
  obtain ⟨k1, k2⟩ := grow_keep h.below h.box h.own hg
  refine ⟨by simpa using hown, ?_, ?_, ?_, by simp; omega, ?_, ?_, k1, k2⟩
  · intro d hd
    rcases List.mem_append.1 hd with hd | hd
    · exact h.places d hd
    · have : d = x := by simpa using hd
      subst this; omega
  · rw [v4_append, h.sum, List.length_append, Int.pow_add]
    have e : iabs m = x + 10000 * iabs m' := by omega
    rw [e]
    simp only [v4, List.length_cons, List.length_nil, Int.mul_zero, Int.add_zero, Int.mul_add]
    rw [show (10000 : Int) ^ (0 + 1) = 10000 by decide, Int.mul_assoc]
    omega
  · have hsm := h.small
    rw [show 5 - D.length = (4 - D.length) + 1 by omega, Int.pow_succ] at hsm
    rw [show 5 - (D ++ [x]).length = 4 - D.length by simp, hm']
    omega
  · rcases h.sign with ⟨a, b⟩ | ⟨a, b⟩
    · exact Or.inl ⟨a, by omega⟩
    · exact Or.inr ⟨a, by omega⟩
  · refine Or.inr ?_
    by_cases e : m' = 0
    · refine Or.inr ?_
      rw [show (D ++ [x]).length - 1 = D.length by simp, nth_snoc]
      rw [e] at hm'
      have : iabs 0 = 0 := rfl
      omega
    · exact Or.inl e
theorem OfK.done {n : Int} {w wr : World} {v : Value} {D : List Int} (h : OfK n w 0 v D wr) : Trim D ∧ (D = [] → decide (n < 0) = false) ∧ n = if decide (n < 0) then - v4 D else v4 D := by
  have hs := h.sum
  rw [show iabs 0 = 0 from rfl, Int.mul_zero, Int.add_zero] at hs
  refine ⟨?_, fun e => ?_, ?_⟩
  · rcases h.top with e | e | e
    · exact Or.inl e
    · exact absurd rfl e
    · exact Or.inr e
  · rw [e] at hs
    unfold iabs at hs
    simp only [v4] at hs
    split at hs <;> simp <;> omega
  · unfold iabs at hs
    by_cases hn : n < 0
    · rw [if_pos hn] at hs; simp [hn]; omega
    · rw [if_neg hn] at hs; simp [hn]; omega

theorem tdm (m : Int) : iabs (m.tmod 10000) = iabs m % 10000 ∧ iabs (m.tdiv 10000) = iabs m / 10000 ∧ (m < 0 → m.tmod 10000 ≤ 0 ∧ m.tdiv 10000 ≤ 0) ∧ (0 ≤ m → 0 ≤ m.tmod 10000 ∧ 0 ≤ m.tdiv 10000) := by
  by_cases h : 0 ≤ m
  · rw [Int.tmod_eq_emod_of_nonneg h, Int.tdiv_eq_ediv_of_nonneg h]
    unfold iabs
    rw [if_neg (by omega), if_neg (by omega), if_neg (by omega)]
    refine ⟨rfl, rfl, fun h' => absurd h (by omega), fun _ => ⟨by omega, by omega⟩⟩
  · obtain ⟨k, rfl⟩ : ∃ k, m = -k := ⟨-m, by omega⟩
    have hk : 0 ≤ k := by omega
    rw [Int.neg_tmod, Int.neg_tdiv, Int.tmod_eq_emod_of_nonneg hk, Int.tdiv_eq_ediv_of_nonneg hk]
    refine ⟨?_, ?_, fun _ => ⟨by omega, by omega⟩, fun h' => absurd h' h⟩
    · unfold iabs; rw [if_pos (show -k < 0 by omega)]; split <;> omega
    · unfold iabs; rw [if_pos (show -k < 0 by omega)]; split <;> omega
set_option maxHeartbeats 1000000 in
set_option maxRecDepth 8000 in
theorem rof_any (n : Int) (h0 : -9223372036854775808 ≤ n) (h1 : n ≤ 9223372036854775807) (w : World) :
    Calls Tryz.prog 58 #[.int .i64 n] w fun e w' => (∃ v, e = .returned v ∧ Nr 5 w' v n) ∧ Below w.heap.size w w' := by
  obtain ⟨i0, hi, hz0, hz1, hz2⟩ := info_parts info_int
  have hal := below_new w (.cells #[.bool false, .slice none 0 0] 24)
  have hbx := nbox_new w false none 0 0
  go_enter Tryz.func58, Tryz.ntmps58
  go_wp2_with fail
  go_loopw [3, 4] (fun v x wr => ∃ (m : Int) (D : List Int), x = .int .i64 m ∧ -9223372036854775808 ≤ m ∧ m ≤ 9223372036854775807 ∧ OfK n w m v D wr) (fun _ x _ => (intOf x).natAbs)
  case atStart =>
    refine ⟨n, [], rfl, h0, h1, World.ownsRow_nil _ _ _ _, fun d hd => (by simp at hd), by simp [v4], ?_, by simp, by omega, Or.inl rfl, hal, hbx⟩
    show iabs n < 10000 ^ 5
    unfold iabs
    split <;> omega
  case round =>
    obtain ⟨m, D, rfl, hm0, hm1, hk⟩ := hrel
    clear hal hbx
    obtain ⟨va, vn, vc, rfl⟩ := own_shape hk.own
    by_cases hm : m = 0
    · subst hm
      obtain ⟨⟨x0, g0⟩, ⟨a0, n0, c0, g1⟩, gf⟩ := hk.box.cells
      have hsl := sl_own hk.own
      obtain ⟨d1, d2, d3⟩ := hk.done
      have HD := hide d3
      have HN := hide d2
      clear d3 d2
      go_wp2
      obtain ⟨s0, s1⟩ := hk.box.stored (.bool (decide (n < 0))) (.slice va vn vc)
      exact bodyPost_ret (v := .agg #[.bool (decide (n < 0)), .slice va vn vc]) (by simp [results, Tryz.results58, go_sem, s0, s1]) rfl ⟨⟨_, rfl, _, _, D, rfl, hsl.stored hk.box _ _, hk.places, d1, hk.len, unhide HN, unhide HD⟩, below_stored hk.below (Nat.le_refl _) _ _⟩
    · have hmb : (m == 0) = false := by simp [hm]
      obtain ⟨t, ht⟩ : ∃ t, m.tmod 10000 = t := ⟨_, rfl⟩
      obtain ⟨q, hq⟩ : ∃ q, m.tdiv 10000 = q := ⟨_, rfl⟩
      have HT := hide (tdm m)
      rw [ht, hq] at HT
      have t0 : -9999 ≤ t := by have := (unhide HT).1; unfold iabs at this; split at this <;> omega
      have t1 : t ≤ 9999 := by have := (unhide HT).1; unfold iabs at this; split at this <;> omega
      have q0 : -9223372036854775808 ≤ q := by have := (unhide HT).2.1; unfold iabs at this; split at this <;> split at this <;> omega
      have q1 : q ≤ 9223372036854775807 := by have := (unhide HT).2.1; unfold iabs at this; split at this <;> split at this <;> omega
      have HM := hide hm
      clear hm
      by_cases hneg : t < 0
      · go_wp2_with (at_builtin; refine wpList_append_own _ rfl _ _ 22 rfl (w.heap.size + 1) 3 i0 (.int .i64 0) 1 8 Tryz.underlying22 hi hz0 hz1 hz2 rfl (by decide) _ _ _ rfl (hk.own.alloc _) ⟨wr.heap.size, 0, none⟩ 1 1 [.int .i64 (-t)] rfl rfl ?c1 ?c2 ?c3 ?c4 ?c5 ?_)
        case c1 =>
          intro j u hj
          match j, hj with
          | 0, hj => simp at hj; subst hj; simp [Addr.add]
        case c2 => intro u hu; simp at hu; subst hu; rfl
        case c3 => have := hk.len; unfold maxLen; omega
        case c4 => have := hk.len; omega
        case c5 => have := hk.below.size; simp; omega
        · intro v' w1 hown' hgrow _
          have R := hk.step (unhide HM) (x := (-t)) (m' := q) (by have := (unhide HT).1; unfold iabs at *; omega) (unhide HT).2.1 (by have := (unhide HT).2.2.1; have := (unhide HT).2.2.2; have := unhide HM; omega) hown' hgrow
          clear hown' hgrow hk
          go_wp2
          go_roundw
          case rel => exact ⟨q, _, rfl, q0, q1, R⟩
          case measure => have h1 := (unhide HT).2.1; have h2 := iabs_pos (unhide HM); have h3 := unhide HM; simp [intOf]; unfold iabs at h1 h2; split at h1 <;> split at h1 <;> omega
      · go_wp2_with (at_builtin; refine wpList_append_own _ rfl _ _ 22 rfl (w.heap.size + 1) 3 i0 (.int .i64 0) 1 8 Tryz.underlying22 hi hz0 hz1 hz2 rfl (by decide) _ _ _ rfl (hk.own.alloc _) ⟨wr.heap.size, 0, none⟩ 1 1 [.int .i64 t] rfl rfl ?c1 ?c2 ?c3 ?c4 ?c5 ?_)
        case c2 => rfl
        case c3 => have := hk.len; unfold maxLen; omega
        case c4 => have := hk.len; omega
        case c5 => have := hk.below.size; simp; omega
        · intro v' w1 hown' hgrow _
          have R := hk.step (unhide HM) (x := t) (m' := q) (by have := (unhide HT).1; unfold iabs at *; omega) (unhide HT).2.1 (by have := (unhide HT).2.2.1; have := (unhide HT).2.2.2; have := unhide HM; omega) hown' hgrow
          clear hown' hgrow hk
          go_wp2
          go_roundw
          case rel => exact ⟨q, _, rfl, q0, q1, R⟩
          case measure => have h1 := (unhide HT).2.1; have h2 := iabs_pos (unhide HM); have h3 := unhide HM; simp [intOf]; unfold iabs at h1 h2; split at h1 <;> split at h1 <;> omega
end Go.Proofs.YtachnndaoogpeaaGreatDoor
