/-
  Walks over package whole: compare, size, signed, signedWord; what a number is in memory.
-/
import Derived.Test.YtachnndaoogpeaaGreatDoorMW1
import Derived.Deep.QuietTactic
import Derived.BigQuiet
namespace Go.Proofs.YtachnndaoogpeaaGreatDoor
open Go.RowKit

theorem quiet_same2 {P : Program} {f : FuncId} {args : Array Value} {w : World} {k n : Nat} {v : Value}
    (h : Calls P f args (w.drewN (k + n)) fun e w' => e = .returned v ∧ w' = w.drewN (k + n)) : Calls P f args (w.drewN (k + n)) fun e w'' => e = .returned v ∧ ∃ m, w'' = w.drewN (k + m) :=
  h.mono fun _ _ ⟨he, hm⟩ => ⟨he, n, hm⟩
theorem compare_done {a b : List Int} (ha : Ws a) (hb : Ws b) {k : Nat} (hl : a.length = b.length) (hk : k < a.length) (he : a.drop (k + 1) = b.drop (k + 1)) (hne : nth a k ≠ nth b k) : sgn (nth a k - nth b k) = sgn (val a - val b) := by
  rcases Int.lt_or_gt_of_ne hne with h | h
  · have := val_lt_of_word ha hb k hl hk he h
    rw [sgn_neg (by omega), sgn_neg (by omega)]
  · have := val_lt_of_word hb ha k hl.symm (by omega) he.symm h
    rw [sgn_pos (by omega), sgn_pos (by omega)]
theorem compare_len {a b : List Int} (ha : Ws a) (hb : Ws b) (ta : Trim a) (tb : Trim b) (hne : a.length ≠ b.length) : sgn ((a.length : Int) - b.length) = sgn (val a - val b) := by
  rcases Nat.lt_or_gt_of_ne hne with h | h
  · have := val_lt_of_length ha hb tb h
    rw [sgn_neg (by omega), sgn_neg (by omega)]
  · have := val_lt_of_length hb ha ta h
    rw [sgn_pos (by omega), sgn_pos (by omega)]

set_option maxHeartbeats 1000000 in
/-- compare: of two sizes of one length. -/
theorem compare_same (ba oa ca bb ob cb n : Nat) (a b : List Int) (w : World) (hra : Row w ba oa a) (hrb : Row w bb ob b) (ha : Ws a) (hb : Ws b) (hla : a.length = n) (hlb : b.length = n) (hn : n ≤ 1000000) :
    Calls Tryz.prog 78 #[.slice (some ⟨ba, oa, none⟩) n ca, .slice (some ⟨bb, ob, none⟩) n cb] w fun e w' => e = .returned (.int .i64 (sgn (val a - val b))) ∧ ∃ n, w' = w.drewN n := by
  have HLA := hide hla
  have HLB := hide hlb
  clear hla hlb
  go_enter Tryz.func78, Tryz.ntmps78
  go_wp2_with fail
  go_loopw [19] (fun v wr => ∃ i : Nat, i ≤ n ∧ v = .int .i64 i ∧ a.drop (n - i) = b.drop (n - i) ∧ ∃ nq, wr = w.drewN nq) (fun v _ => n - (intOf v).toNat)
  case atStart => exact ⟨0, Nat.zero_le _, rfl, by rw [List.drop_eq_nil_of_le (by have := unhide HLA; omega), List.drop_eq_nil_of_le (by have := unhide HLB; omega)], 0, rfl⟩
  case round =>
    obtain ⟨i, hi, rfl, hd, nq, rfl⟩ := hrel
    have HD := hide hd
    clear hd
    by_cases hlt : i < n
    · have hca := hra (n - 1 - i) (by have := unhide HLA; omega)
      have hcb := hrb (n - 1 - i) (by have := unhide HLB; omega)
      by_cases hx : nth a (n - 1 - i) = nth b (n - 1 - i)
      · rw [hx] at hca
        have HX := hide hx
        clear hx
        go_wp2_with fail
        go_quiet (fail)
        go_wp2
        go_roundw
        case rel => 
          refine ⟨i + 1, by omega, by go_num, ?_, _, rfl⟩
          have hA := unhide HLA
          have hB := unhide HLB
          have e := drop_eq_of (n - 1 - i) (by omega) (by omega) (by rw [show n - 1 - i + 1 = n - i by omega]; exact unhide HD) (unhide HX)
          rw [show n - (i + 1) = n - 1 - i by omega]; exact e
        case measure => simp [intOf]; omega
      · go_wp2_with fail
        go_quiet (fail)
        go_wp2_with fail
        go_quiet ((go_at_call 122; exact quiet_same2 (cmp_u64 _ _ _)))
        go_wp2
        go_ret
        refine ⟨ret_int (compare_done ha hb (by have := unhide HLA; have := unhide HLB; omega) (by have := unhide HLA; omega) (by rw [show n - 1 - i + 1 = n - i by omega]; exact unhide HD) hx), by simp only [World.drewN_drewN]; exact ⟨_, rfl⟩⟩
    · go_wp2
      go_ret
      refine ⟨ret_int (sgn_zero ?_).symm, nq, rfl⟩
      have e := unhide HD
      rw [show n - i = 0 by omega] at e
      simp at e
      rw [e]; omega

set_option maxHeartbeats 400000 in
/-- compare: of trimmed sizes. -/
theorem compare_any (ba oa ca bb ob cb : Nat) (a b : List Int) (w : World) (hra : Row w ba oa a) (hrb : Row w bb ob b) (ha : Ws a) (hb : Ws b) (ta : Trim a) (tb : Trim b) (hla : a.length ≤ 1000000) (_hlb : b.length ≤ 1000000) :
    Calls Tryz.prog 78 #[.slice (some ⟨ba, oa, none⟩) a.length ca, .slice (some ⟨bb, ob, none⟩) b.length cb] w fun e w' => e = .returned (.int .i64 (sgn (val a - val b))) ∧ ∃ n, w' = w.drewN n := by
  by_cases hne : a.length = b.length
  · rw [← hne]
    exact compare_same ba oa ca bb ob cb a.length a b w hra hrb ha hb rfl hne.symm hla
  · have HC := hide (compare_len ha hb ta tb hne)
    have hne' : ((a.length : Int) != (b.length : Int)) = true := by simp; omega
    go_enter Tryz.func78, Tryz.ntmps78
    go_wp2_with (go_at_call 99; refine (cmp_int _ _ _).mono ?_; rintro e w' ⟨rfl, rfl⟩)
    go_ret
    exact ⟨ret_int (unhide HC), 0, rfl⟩

/-- WHAT A NUMBER IS IN MEMORY: an int64 alone, or a sign and a trimmed row of at most N words that no int64 can hold. -/
def Zr (N : Nat) (w : World) (v : Value) (z : Int) : Prop :=
  (v = .agg #[.int .i64 z, .slice none 0 0] ∧ -9223372036854775808 ≤ z ∧ z ≤ 9223372036854775807) ∨
  (∃ (s : Int) (b off cap : Nat) (l : List Int), v = .agg #[.int .i64 s, .slice (some ⟨b, off, none⟩) l.length cap] ∧ (s = 1 ∨ s = -1) ∧ Ws l ∧ Trim l ∧ l ≠ [] ∧ z = s * val l ∧ l.length ≤ N ∧ l.length ≤ cap ∧ cap ≤ 9223372036854775807 ∧ Row w b off l ∧ (z < -9223372036854775808 ∨ 9223372036854775807 < z))

theorem Row.lt {w : World} {b off : Nat} {l : List Int} (h : Row w b off l) (hl : l ≠ []) : b < w.heap.size := by
  have := h 0 (List.length_pos_iff.2 hl)
  exact World.block_lt_of_cell? w _ this
theorem Row.later {w w' : World} {b off : Nat} {l : List Int} (h : Row w b off l) (hb : Below w.heap.size w w') : Row w' b off l := by
  intro k hk
  have h1 := h k hk
  have h2 : b < w.heap.size := World.block_lt_of_cell? w _ h1
  rw [hb.cell (p := ⟨b, off + k, none⟩) h2]; exact h1
theorem Zr.later {N : Nat} {w w' : World} {v : Value} {z : Int} (h : Zr N w v z) (hb : Below w.heap.size w w') : Zr N w' v z := by
  rcases h with h | ⟨s, b, off, cap, l, h1, h2, h3, h4, h5, h6, h7, h8, h9, h10, h11⟩
  · exact Or.inl h
  · exact Or.inr ⟨s, b, off, cap, l, h1, h2, h3, h4, h5, h6, h7, h8, h9, h10.later hb, h11⟩
theorem Zr.mono {N M : Nat} {w : World} {v : Value} {z : Int} (h : Zr N w v z) (hb : N ≤ M) : Zr M w v z := by
  rcases h with h | ⟨s, b, off, cap, l, h1, h2, h3, h4, h5, h6, h7, h8, h9, h10, h11⟩
  · exact Or.inl h
  · exact Or.inr ⟨s, b, off, cap, l, h1, h2, h3, h4, h5, h6, by omega, h8, h9, h10, h11⟩
theorem Zr.eq {N : Nat} {w : World} {v : Value} {z y : Int} (h : Zr N w v z) (e : z = y) : Zr N w v y := e ▸ h
theorem Zr.near {w : World} {z : Int} (N : Nat) (h0 : -9223372036854775808 ≤ z) (h1 : z ≤ 9223372036854775807) : Zr N w (.agg #[.int .i64 z, .slice none 0 0]) z := Or.inl ⟨rfl, h0, h1⟩

set_option maxHeartbeats 400000 in
theorem of_any (n : Int) (w : World) :
    Calls Tryz.prog 74 #[.int .i64 n] w fun e w' => e = .returned (.agg #[.int .i64 n, .slice none 0 0]) ∧ Below w.heap.size w w' := by
  go_enter Tryz.func74, Tryz.ntmps74
  go_wp2
  exact bodyPost_ret (v := .agg #[.int .i64 n, .slice none 0 0]) (by simp [results, Tryz.results74, go_sem]) rfl ⟨rfl, (Below.refl _ _).alloc (Nat.le_refl _) _⟩

theorem zr_word {w : World} {b : Nat} {s x : Int} (hs : s = 1 ∨ s = -1) (hx1 : x < 18446744073709551616) (hbig : 9223372036854775807 < x) (hne : s = -1 → x ≠ 9223372036854775808) (hc : w.cell? ⟨b, 0, none⟩ = some (.int .u64 x)) :
    Zr 1 w (.agg #[.int .i64 s, .slice (some ⟨b, 0, none⟩) 1 1]) (s * x) := by
  refine Or.inr ⟨s, b, 0, 1, [x], rfl, hs, ?_, Or.inr ?_, by simp, by simp [val], by simp, by simp, by decide, ?_, ?_⟩
  · exact Ws.mk ⟨by omega, hx1⟩ Ws.nil
  · simp [nth]; omega
  · intro k hk
    simp at hk; subst hk
    simpa [nth] using hc
  · rcases hs with rfl | rfl
    · right; omega
    · left; have := hne rfl; omega

set_option maxHeartbeats 400000 in
theorem signedWord_any (s x : Int) (w : World) (hs : s = 1 ∨ s = -1 ∨ (s = 0 ∧ x = 0)) (hx0 : 0 ≤ x) (hx1 : x < 18446744073709551616) :
    Calls Tryz.prog 83 #[.int .i64 s, .int .u64 x] w fun e w' => (∃ v, e = .returned v ∧ Zr 1 w' v (s * x)) ∧ Below w.heap.size w w' := by
  by_cases hsm : x ≤ 9223372036854775807
  · obtain ⟨t, ht⟩ : ∃ t, t = s * x := ⟨_, rfl⟩
    have ht0 : -9223372036854775808 ≤ t ∧ t ≤ 9223372036854775807 := by
      rcases hs with rfl | rfl | ⟨rfl, rfl⟩ <;> omega
    have hw : wrap64 (s * x) = t := by rw [← ht]; unfold wrap64; omega
    rw [← ht]
    have HT := hide ht
    clear ht hs
    go_enter Tryz.func83, Tryz.ntmps83
    go_wp2
    refine bodyPost_ret (v := .agg #[.int .i64 t, .slice none 0 0]) (by simp [results, Tryz.results74, go_sem]) rfl ?_
    go_wp2
    exact bodyPost_ret (v := .agg #[.int .i64 t, .slice none 0 0]) (by simp [results, Tryz.results83, go_sem]) rfl ⟨⟨_, rfl, Zr.near 1 ht0.1 ht0.2⟩, ((Below.refl _ _).alloc (Nat.le_refl _) _).alloc (by simp) _⟩
  · rcases hs with rfl | rfl | ⟨rfl, rfl⟩
    · go_enter Tryz.func83, Tryz.ntmps83
      go_wp2
      refine bodyPost_ret (v := .agg #[.int .i64 1, .slice (some ⟨w.heap.size + 1, 0, none⟩) 1 1]) (by simp [results, Tryz.results83, go_sem]) rfl ⟨⟨_, rfl, (zr_word (Or.inl rfl) hx1 (by omega) (by omega) ?_).eq (by omega)⟩, ((Below.refl _ _).alloc (Nat.le_refl _) _).alloc (by simp) _⟩
      simp [go_sem]
    · by_cases hm : x = 9223372036854775808
      · subst hm
        go_enter Tryz.func83, Tryz.ntmps83
        go_wp2
        refine bodyPost_ret (v := .agg #[.int .i64 (-9223372036854775808), .slice none 0 0]) (by simp [results, Tryz.results74, go_sem]) rfl ?_
        go_wp2
        exact bodyPost_ret (v := .agg #[.int .i64 (-9223372036854775808), .slice none 0 0]) (by simp [results, Tryz.results83, go_sem]) rfl ⟨⟨_, rfl, Zr.near 1 (by decide) (by decide)⟩, ((Below.refl _ _).alloc (Nat.le_refl _) _).alloc (by simp) _⟩
      · have hm' : (x == 9223372036854775808) = false := by simpa using hm
        have HM := hide hm
        clear hm
        go_enter Tryz.func83, Tryz.ntmps83
        go_wp2
        refine bodyPost_ret (v := .agg #[.int .i64 (-1), .slice (some ⟨w.heap.size + 1, 0, none⟩) 1 1]) (by simp [results, Tryz.results83, go_sem]) rfl ⟨⟨_, rfl, (zr_word (Or.inr rfl) hx1 (by omega) (fun _ => unhide HM) ?_).eq (by omega)⟩, ((Below.refl _ _).alloc (Nat.le_refl _) _).alloc (by simp) _⟩
        simp [go_sem]
    · omega

end Go.Proofs.YtachnndaoogpeaaGreatDoor
