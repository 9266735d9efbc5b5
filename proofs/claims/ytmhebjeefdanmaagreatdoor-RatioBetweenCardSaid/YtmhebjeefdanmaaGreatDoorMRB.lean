/-
  Walks over the numbers of the document: figure.
  The digits of a text, as the document reads them.
-/
import Derived.Test.YtmhebjeefdanmaaGreatDoorMH
import Derived.Test.YtmhebjeefdanmaaGreatDoorMRA
namespace Go.Proofs.YtmhebjeefdanmaaGreatDoor
open Go.RowKit

theorem Nr.stored {N : Nat} {w : World} {v : Value} {z : Int} {r : Nat} (h : Nr N w v z) (hb : NBox w r) (u u' : Value) : Nr N ((w.setCell ⟨r, 0, none⟩ u).setCell ⟨r, 1, none⟩ u') v z := by
  obtain ⟨neg, sl, D, h1, h2, h3⟩ := h
  exact ⟨neg, sl, D, h1, h2.stored hb _ _, h3⟩
theorem Nr.shape {N : Nat} {w : World} {v : Value} {z : Int} (h : Nr N w v z) : ∃ x a n c, v = .agg #[.bool x, .slice a n c] := by
  obtain ⟨neg, sl, D, rfl, h2, h3⟩ := h
  rcases h2 with ⟨rfl, _⟩ | ⟨b, cap, rfl, _⟩ <;> exact ⟨_, _, _, _, rfl⟩
theorem Nr.gb {N : Nat} {w : World} {v : Value} {z : Int} {r : Nat} {T : TypeId} (h : Nr N w v z) (hb : GB w r T) (hT : T ≠ 3) (u u' : Value) : Nr N ((w.setCell ⟨r, 0, none⟩ u).setCell ⟨r, 1, none⟩ u') v z := by
  obtain ⟨neg, sl, D, h1, h2, h3⟩ := h
  exact ⟨neg, sl, D, h1, h2.gb hb hT _ _, h3⟩
/-- The digits from place t - 4 to place j. -/
def seg (l : List UInt8) (t j : Int) : List UInt8 := (l.take j.toNat).drop (t - 4).toNat
theorem seg_dig {l : List UInt8} (h : Dig10 l) (t j : Int) : Dig10 (seg l t j) := fun c hc => h c (List.mem_of_mem_take (List.mem_of_mem_drop hc))
theorem seg_next {l : List UInt8} {t j : Int} (h0 : 0 ≤ j) (h1 : t - 4 ≤ j) (h2 : j.toNat < l.length) : seg l t (j + 1) = seg l t j ++ [l[j.toNat]] := by
  unfold seg
  rw [show (j + 1).toNat = j.toNat + 1 by omega, List.take_succ_eq_append_getElem h2, List.drop_append_of_le_length (by rw [List.length_take]; omega)]
theorem seg_bound {l : List UInt8} (h : Dig10 l) {t j : Int} (h2 : j ≤ t) (hl : t ≤ l.length) : 0 ≤ dec (seg l t j) ∧ dec (seg l t j) < 10000 := by
  have hb := dec_bound (seg_dig h t j)
  have hlen : (seg l t j).length ≤ 4 := by
    unfold seg
    rw [List.length_drop, List.length_take]; omega
  refine ⟨hb.1, Int.lt_of_lt_of_le hb.2 ?_⟩
  exact Int.le_trans (ten_mono hlen) (by decide)
theorem seg_whole {l : List UInt8} {t : Int} (h0 : 0 < t) (hl : t ≤ l.length) : dec (l.take t.toNat) = dec (seg l t t) + 10000 * dec (l.take (t - 4).toNat) := by
  unfold seg
  by_cases h4 : t < 4
  · rw [show (t - 4).toNat = 0 by omega]; simp [dec]
  · have e : l.take t.toNat = l.take (t - 4).toNat ++ (l.take t.toNat).drop (t - 4).toNat := by
      conv => lhs; rw [← List.take_append_drop (t - 4).toNat (l.take t.toNat)]
      rw [List.take_take, Nat.min_eq_left (by omega)]
    have hlen : ((l.take t.toNat).drop (t - 4).toNat).length = 4 := by
      rw [List.length_drop, List.length_take]; omega
    conv => lhs; rw [e, dec_append, hlen]
    rw [show (10 : Int) ^ 4 = 10000 by decide]
    omega
/-- figure, with t digits left. -/
structure FigK (l : List UInt8) (w : World) (t : Int) (v : Value) (D : List Int) (wr : World) : Prop where
  own : wr.ownsRow (w.heap.size + 1) 3 1 v D.length (D.map (Value.int .i64))
  places : P4 D
  sum : dec l = v4 D + 10000 ^ D.length * dec (l.take t.toNat)
  count : 4 * (D.length : Int) + t = l.length
  below : Below w.heap.size w wr
  box : NBox wr w.heap.size
theorem FigK.step {l : List UInt8} {w wr w1 : World} {t : Int} {v v' : Value} {D : List Int} {o : Obj} {y : Int} (h : FigK l w t v D wr) (hd : Dig10 l) (h0 : 0 < t) (hy : y = dec (seg l t t))
    (hown : w1.ownsRow (w.heap.size + 1) 3 1 v' (D.length + 1) (D.map (Value.int .i64) ++ [.int .i64 y])) (hg : (wr.alloc o).grownBy w1 v.ownBlock) : FigK l w (t - 4) v' (D ++ [y]) w1 := by
  have hc := h.count
  obtain ⟨k1, k2⟩ := grow_keep h.below h.box h.own hg
  have hb := seg_bound hd (Int.le_refl t) (by omega)
  refine ⟨by simpa using hown, ?_, ?_, ?_, k1, k2⟩
  · intro d hd'
    rcases List.mem_append.1 hd' with hd' | hd'
    · exact h.places d hd'
    · have : d = y := by simpa using hd'
      subst this; rw [hy]; exact hb
  · rw [v4_append, h.sum, List.length_append, Int.pow_add, seg_whole h0 (by omega), ← hy]
    simp only [v4, List.length_cons, List.length_nil, Int.mul_zero, Int.add_zero, Int.mul_add]
    rw [show (10000 : Int) ^ (0 + 1) = 10000 by decide, Int.mul_assoc]
    omega
  · rw [List.length_append]; simp only [List.length_cons, List.length_nil]; omega

set_option maxHeartbeats 1000000 in
set_option maxRecDepth 8000 in
theorem figure_anyN {N : Nat} (s : ByteArray) (w : World) (hs : s.size ≤ 4 * N) (hN : N ≤ 1000) (hd : Dig10 s.data.toList) :
    Calls Tryz.prog 68 #[.string s] w fun e w' => (∃ v, e = .returned v ∧ Nr N w' v (dec s.data.toList)) ∧ Below w.heap.size w w' := by
  obtain ⟨i0, hi, hz0, hz1, hz2⟩ := info_parts info_int
  have hsl : s.data.toList.length = s.size := by rw [Array.length_toList]; rfl
  have HD := hide hd
  have HSL := hide hsl
  clear hd hsl
  have hal := below_new w (.cells #[.bool false, .slice none 0 0] 24)
  have hbx := nbox_new w false none 0 0
  go_enter Tryz.func68, Tryz.ntmps68
  go_wp2_with fail
  go_loopw [3, 4] (fun v x wr => ∃ (t : Int) (D : List Int), x = .int .i64 t ∧ -3 ≤ t ∧ t ≤ s.size ∧ FigK s.data.toList w t v D wr) (fun _ x _ => (intOf x).toNat)
  case atStart =>
    refine ⟨s.size, [], rfl, by omega, by omega, World.ownsRow_nil _ _ _ _, fun d hd => (by simp at hd), ?_, by rw [unhide HSL]; simp, hal, hbx⟩
    rw [Int.toNat_natCast, List.take_of_length_le (by have := unhide HSL; omega)]
    simp [v4]
  case round =>
    obtain ⟨t, D, rfl, ht0, ht1, hk⟩ := hrel
    clear hal hbx
    obtain ⟨va, vn, vc, rfl⟩ := own_shape hk.own
    by_cases htp : 0 < t
    · go_wp2_with fail
      go_loop [5, 6] (fun x i => ∃ (j y : Int), i = .int .i64 j ∧ x = .int .i64 y ∧ t - 4 ≤ j ∧ j ≤ t ∧ Hid (y = dec (seg s.data.toList t j))) (fun _ i => (t - intOf i).toNat)
      case atStart => exact ⟨t - 4, 0, by go_num, rfl, by omega, by omega, (by
        show _ = _
        unfold seg
        rw [List.drop_eq_nil_of_le (by rw [List.length_take]; omega)]
        rfl)⟩
      case round =>
        obtain ⟨j, y, rfl, rfl, hj0, hj1, HY⟩ := hrel
        have hyb := seg_bound (unhide HD) hj1 (by have := unhide HSL; omega)
        rw [← unhide HY] at hyb
        have hy0 := hyb.1
        have hy1 := hyb.2
        clear hyb
        by_cases hjt : j < t
        · by_cases hj : 0 ≤ j
          · obtain ⟨m, rfl⟩ : ∃ m : Nat, j = m := ⟨j.toNat, by omega⟩
            have hms : m < s.size := by omega
            have hc := unhide HD (s[m]'hms) (by
              have : s[m]'hms = s.data.toList[m]'(by have := unhide HSL; omega) := rfl
              rw [this]; exact List.getElem_mem _)
            have c1 : (48 : Int) ≤ ((s[m]'hms).toNat : Int) := by omega
            have c2 : ((s[m]'hms).toNat : Int) ≤ 57 := by omega
            clear hc
            go_wp2
            go_round
            case rel =>
              refine ⟨m + 1, _, by go_num, rfl, by omega, by omega, ?_⟩
              show _ = _
              rw [seg_next hj hj0 (by have := unhide HSL; rw [Int.toNat_natCast]; omega), dec_snoc, ← unhide HY]
              simp only [Int.toNat_natCast]
              have : s.data.toList[m]'(by have := unhide HSL; omega) = s[m]'hms := rfl
              rw [this]; omega
            case measure => simp [intOf]; omega
          · go_wp2
            go_round
            case rel =>
              refine ⟨j + 1, y, by go_num, rfl, by omega, by omega, ?_⟩
              show _ = _
              rw [unhide HY]
              unfold seg
              rw [show (j + 1).toNat = j.toNat by omega]
            case measure => simp [intOf]; omega
        · obtain rfl : j = t := by omega
          go_wp2_with (at_builtin; refine wpList_append_own _ rfl _ _ 22 rfl (w.heap.size + 1) 3 i0 (.int .i64 0) 1 8 Tryz.underlying22 hi hz0 hz1 hz2 rfl (by decide) _ _ _ rfl (hk.own.alloc _) ⟨wr.heap.size, 0, none⟩ 1 1 [.int .i64 y] rfl rfl ?c1 ?c2 ?c3 ?c4 ?c5 ?_)
          case c2 => rfl
          case c3 => have := hk.count; have := unhide HSL; unfold maxLen; omega
          case c4 => have := hk.count; have := unhide HSL; omega
          case c5 => exact hk.below.size
          · intro v' w1 hown' hgrow _
            have R := hk.step (unhide HD) htp (unhide HY) hown' hgrow
            clear hown' hgrow hk
            go_wp2
            go_roundw
            case rel => exact ⟨j - 4, _, by go_num, by omega, by omega, R⟩
            case measure => simp [intOf]; omega
    · obtain ⟨⟨x0, g0⟩, ⟨a0, n0, c0, g1⟩, gf⟩ := hk.box.cells
      have hsl := sl_own hk.own
      go_wp2_with fail
      go_fit (made_any false _ D N _ hsl hk.places (by have := hk.count; have := unhide HSL; omega))
      rintro e w1 ⟨⟨v1, rfl, hNr⟩, hb1⟩
      obtain ⟨y1, a1, n1, c1, hv⟩ := hNr.shape
      subst hv
      have hbx1 := hk.box.later hb1
      have hbl := below_keep hb1 hk.below
      have HV : Hid (dec s.data.toList = if false = true then -v4 D else v4 D) := by
        show _ = _
        have := hk.sum
        rw [show t.toNat = 0 by omega] at this
        simp [dec] at this ⊢
        exact this
      clear g0 g1 gf hb1 hk hsl
      obtain ⟨⟨x0, g0⟩, ⟨a0, n0, c0, g1⟩, gf⟩ := hbx1.cells
      go_wp2
      obtain ⟨s0, s1⟩ := hbx1.stored (.bool y1) (.slice a1 n1 c1)
      exact bodyPost_ret (v := .agg #[.bool y1, .slice a1 n1 c1]) (by simp [results, Tryz.results68, go_sem, s0, s1]) rfl ⟨⟨_, rfl, by rw [unhide HV]; exact hNr.stored hbx1 _ _⟩, below_stored hbl (Nat.le_refl _) _ _⟩
theorem figure_any (s : ByteArray) (w : World) (hs : s.size ≤ 300) (hd : Dig10 s.data.toList) :
    Calls Tryz.prog 68 #[.string s] w fun e w' => (∃ v, e = .returned v ∧ Nr 75 w' v (dec s.data.toList)) ∧ Below w.heap.size w w' := figure_anyN (N := 75) s w (by omega) (by decide) hd
end Go.Proofs.YtmhebjeefdanmaaGreatDoor
namespace Go.Proofs.YtmhebjeefdanmaaGreatDoor
open Go.RowKit

/-- Where the digits of a text begin. -/
def atOf (s : ByteArray) : Nat := if minusOf s then 1 else 0
theorem minus_some {s : ByteArray} (hs : 0 < s.size) : minusOf s = ((s[0]'hs).toNat == 45) := by
  obtain ⟨⟨l⟩⟩ := s
  cases l with
  | nil => simp [ByteArray.size] at hs
  | cons c l =>
    show Lib.hasPrefix (c :: l) [45] = (c.toNat == 45)
    simp only [Lib.hasPrefix]
    by_cases h : c = 45
    · subst h; simp
    · have : c.toNat ≠ 45 := fun e => h (UInt8.toNat.inj (by simpa using e))
      rw [show (c.toNat == 45) = false by simpa using this]
      simp only [List.isPrefixOf, Bool.and_true, beq_eq_false_iff_ne]
      exact fun e => h e.symm
theorem minus_none {s : ByteArray} (hs : s.size = 0) : minusOf s = false := by
  obtain ⟨⟨l⟩⟩ := s
  cases l with
  | nil => rfl
  | cons c l => simp [ByteArray.size] at hs
theorem atOf_le (s : ByteArray) : atOf s ≤ s.size := by
  unfold atOf
  by_cases h : s.size = 0
  · rw [minus_none h]; simp
  · split <;> omega
theorem digitsOf_list (s : ByteArray) : (digitsOf s).data.toList = s.data.toList.drop (atOf s) := by
  unfold digitsOf atOf minusOf Lib.trimPrefix
  split <;> simp
theorem digitsOf_len (s : ByteArray) : (digitsOf s).size = s.size - atOf s := by
  rw [Lib.size_eq, digitsOf_list, List.length_drop, Array.length_toList]; rfl
theorem digitsOf_at {s : ByteArray} {j : Nat} (h : j < (digitsOf s).size) (h' : atOf s + j < s.size) : (digitsOf s)[j]'h = s[atOf s + j]'h' := by
  have e := congrArg (fun l => l[j]?) (digitsOf_list s)
  simp only [List.getElem?_drop, Array.getElem?_toList] at e
  have a : (digitsOf s).data[j]? = some ((digitsOf s)[j]'h) := Array.getElem?_eq_getElem h
  have b : s.data[atOf s + j]? = some (s[atOf s + j]'h') := Array.getElem?_eq_getElem h'
  rw [a, b] at e
  exact Option.some.inj e
theorem digAt_iff (s : ByteArray) (j : Nat) : DigAt s (atOf s + j) ↔ ∃ h : j < (digitsOf s).size, 48 ≤ ((digitsOf s)[j]'h).toNat ∧ ((digitsOf s)[j]'h).toNat ≤ 57 := by
  have hl := digitsOf_len s
  have ha := atOf_le s
  constructor
  · rintro ⟨h, h2⟩
    have h3 : j < (digitsOf s).size := by omega
    exact ⟨h3, by rw [digitsOf_at h3 h]; exact h2⟩
  · rintro ⟨h, h2⟩
    have h3 : atOf s + j < s.size := by omega
    exact ⟨h3, by rw [← digitsOf_at h h3]; exact h2⟩
theorem wrong_two {s : ByteArray} {m : Nat} (ht : m = atOf s + 300) (hj : ∀ j, atOf s ≤ j → j < m → DigAt s j) (hd : DigAt s m) : Wrong (digitsOf s) 300 false := by
  subst ht
  obtain ⟨h, h2⟩ := (digAt_iff s 300).1 hd
  refine Or.inr ⟨h, Nat.le_refl _, fun j hlt hj' => ?_, Or.inr ⟨rfl, rfl, h2⟩⟩
  exact ((digAt_iff s j).1 (hj _ (by omega) (by omega))).2
theorem wrong_one {s : ByteArray} {m : Nat} (hm : m ≤ atOf s + 300) (h0 : atOf s ≤ m) (hj : ∀ j, atOf s ≤ j → j < m → DigAt s j) (hn : ¬ DigAt s m) (hlt : m < s.size ∨ m = atOf s) : Wrong (digitsOf s) (m - atOf s) true := by
  have hl := digitsOf_len s
  have ha := atOf_le s
  obtain ⟨k, rfl⟩ : ∃ k, m = atOf s + k := ⟨m - atOf s, by omega⟩
  rw [show atOf s + k - atOf s = k by omega]
  by_cases hk : k < (digitsOf s).size
  · refine Or.inr ⟨hk, by omega, fun j hlt hj' => ((digAt_iff s j).1 (hj _ (by omega) (by omega))).2, Or.inl ⟨rfl, fun h => hn ((digAt_iff s k).2 ⟨hk, h⟩)⟩⟩
  · exact Or.inl ⟨by omega, by omega, rfl⟩
theorem good_all {s : ByteArray} (h1 : atOf s < s.size) (h2 : s.size ≤ atOf s + 300) (hj : ∀ j, atOf s ≤ j → j < s.size → DigAt s j) : Good (digitsOf s) := by
  have hl := digitsOf_len s
  exact ⟨by omega, by omega, fun j h => ((digAt_iff s j).1 (hj _ (by omega) (by omega))).2⟩
theorem digitsOf_extract (s : ByteArray) : (s.extract (atOf s) s.size).data.toList = (digitsOf s).data.toList := by
  rw [Lib.extract_data, digitsOf_list, List.take_of_length_le]
  rw [List.length_drop, Array.length_toList]
  exact Nat.le_refl _
end Go.Proofs.YtmhebjeefdanmaaGreatDoor
