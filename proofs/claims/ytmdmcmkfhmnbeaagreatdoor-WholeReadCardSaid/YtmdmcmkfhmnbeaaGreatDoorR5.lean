/-
  Walks over the document's numbers: Text.
-/
import Derived.Test.YtmdmcmkfhmnbeaaGreatDoorR4a
namespace Go.Proofs.YtmdmcmkfhmnbeaaGreatDoor
open Go.RowKit

/-- Text, with k places left. -/
structure TxK (w0 : World) (D : List Int) (k : Nat) (s : ByteArray) (wr : World) : Prop where
  below : Below w0.heap.size w0 wr
  dig : Dig10 s.data.toList
  num : dec s.data.toList = v4 (D.drop k)
  len : s.size = 4 * (D.length - k)

theorem TxK.step {w0 wr w1 : World} {D : List Int} {k : Nat} {s : ByteArray} (h : TxK w0 D k s wr) (hk : 0 < k) (hl : k ≤ D.length) (hD : P4 D) (hb : Below wr.heap.size wr w1) : TxK w0 D (k - 1) (s ++ ⟨(four (nth D (k - 1))).toArray⟩) w1 := by
  have hp := hD.nth (k - 1)
  have e : (s ++ ⟨(four (nth D (k - 1))).toArray⟩ : ByteArray).data.toList = s.data.toList ++ four (nth D (k - 1)) := by simp
  refine ⟨below_keep hb h.below, ?_, ?_, ?_⟩
  · rw [e]
    intro c hc
    rcases List.mem_append.1 hc with hc | hc
    · exact h.dig c hc
    · exact four_dig hp.1 hp.2 c hc
  · rw [e, dec_append, h.num, four_dec hp.1 hp.2, v4_drop (show k - 1 < D.length by omega), show k - 1 + 1 = k by omega]
    rw [show (four (nth D (k - 1))).length = 4 from rfl, show (10 : Int) ^ 4 = 10000 by decide]
    omega
  · rw [ByteArray.size_append, h.len]
    show 4 * (D.length - k) + 4 = _
    omega
theorem dec_head {l : List UInt8} {c : UInt8} (h : c.toNat = 48) : dec (c :: l) = dec l := by
  simp [dec, h]
/-- A nought ahead, struck. -/
theorem struck {t : ByteArray} (hs : 0 < t.size) (h : (t[0]'hs).toNat = 48) (hd : Dig10 t.data.toList) : dec (t.extract 1 t.size).data.toList = dec t.data.toList ∧ Dig10 (t.extract 1 t.size).data.toList ∧ (t.extract 1 t.size).size = t.size - 1 := by
  have e : (t.extract 1 t.size).data.toList = t.data.toList.drop 1 := by
    rw [Lib.extract_data, List.take_of_length_le]
    rw [List.length_drop, Array.length_toList]
    exact Nat.le_refl _
  have e2 : t.data.toList = (t[0]'hs) :: t.data.toList.drop 1 := by
    have := List.drop_eq_getElem_cons (l := t.data.toList) (i := 0) (by simpa using hs)
    rw [List.drop_zero] at this
    exact this
  refine ⟨?_, ?_, ?_⟩
  · rw [e]
    conv => rhs; rw [e2]
    exact (dec_head h).symm
  · rw [e]; exact fun c hc => hd c (List.mem_of_mem_drop hc)
  · rw [Lib.size_eq, e]; simp
/-- A text without noughts ahead is the numeral of its number. -/
theorem text_is {t : ByteArray} {V : Int} (hd : Dig10 t.data.toList) (hv : dec t.data.toList = V) (hs : 0 < t.size) (h0 : (t[0]'hs).toNat ≠ 48) (hV : 0 < V) : t = ⟨(Lib.itoa V).toArray⟩ ∧ (⟨#[45]⟩ ++ t : ByteArray) = ⟨(Lib.itoa (-V)).toArray⟩ := by
  have hne : t.data.toList ≠ [] := by
    intro e
    have : t.data.toList.length = 0 := by rw [e]; rfl
    rw [Array.length_toList] at this
    have h2 : t.data.size = t.size := rfl
    omega
  have hh : t.data.toList.head? ≠ some 48 := by
    intro e
    apply h0
    have h1 : t.data.toList[0]? = some 48 := by rw [← List.head?_eq_getElem?]; exact e
    have h2 : t.data[0]? = some 48 := by simpa using h1
    have h3 : t[0]'hs = 48 := by
      have : t.data[0]'hs = 48 := by
        rw [Array.getElem?_eq_getElem hs] at h2
        exact Option.some.inj h2
      exact this
    rw [h3]; rfl
  have hu := dec_unique hd hne hh
  rw [hv] at hu
  have ht : t = ⟨(Lib.decDigits V.toNat).toArray⟩ := by
    rw [hu]
  constructor
  · rw [ht, Lib.itoa, if_neg (by omega)]
  · rw [Lib.itoa, if_pos (by omega), show (-V).natAbs = V.toNat by omega]
    rw [ht]
    apply ByteArray.ext
    simp

set_option maxHeartbeats 1000000 in
set_option maxRecDepth 8000 in
theorem rtext_some (neg : Bool) (b cap : Nat) (D : List Int) (w : World) (hr : RowI w b D) (hD : P4 D) (hT : Trim D) (hne : D ≠ []) (_hl : D.length ≤ cap) (_hcap : cap ≤ 9223372036854775807) (hN : D.length ≤ 1000) :
    Calls Tryz.prog 9 #[.agg #[.bool neg, .slice (some ⟨b, 0, none⟩) D.length cap]] w fun e w' => e = .returned (.string ⟨(Lib.itoa (if neg then - v4 D else v4 D)).toArray⟩) ∧ Below w.heap.size w w' := by
  have hlp : 0 < D.length := List.length_pos_iff.2 hne
  have hli : ((D.length : Int) == 0) = false := by simp; omega
  have hal := below_new w (.cells #[.bool neg, .slice (some ⟨b, 0, none⟩) D.length cap] 31)
  have c0 : (w.alloc (.cells #[.bool neg, .slice (some ⟨b, 0, none⟩) D.length cap] 31)).cell? ⟨w.heap.size, 0, none⟩ = some (.bool neg) := by rw [new_cell rfl]; rfl
  have c1 : (w.alloc (.cells #[.bool neg, .slice (some ⟨b, 0, none⟩) D.length cap] 31)).cell? ⟨w.heap.size, 1, none⟩ = some (.slice (some ⟨b, 0, none⟩) D.length cap) := by rw [new_cell rfl]; rfl
  have C0 := hide c0
  have C1 := hide c1
  have HR := hide (hr.later hal)
  have HV := hide (v4_pos hD hT hne)
  have HAL := hide hal
  clear hal c0 c1 hr
  go_enter Tryz.func9, Tryz.ntmps9
  go_wp2_with fail
  obtain ⟨w0, hw0⟩ : ∃ w0, w0 = w.alloc (.cells #[.bool neg, .slice (some ⟨b, 0, none⟩) D.length cap] 31) := ⟨_, rfl⟩
  rw [← hw0] at C0 C1 HR HAL
  rw [← hw0]
  clear hw0
  go_loopw [3, 4] (fun s i wr => ∃ (k : Nat) (t : ByteArray), k ≤ D.length ∧ s = .string t ∧ i = .int .i64 ((k : Int) - 1) ∧ TxK w0 D k t wr) (fun _ i _ => (intOf i + 1).toNat)
  case atStart => exact ⟨D.length, ByteArray.empty, Nat.le_refl _, rfl, rfl, Below.refl _ _, fun c hc => by simp at hc, by simp [dec, v4], by simp⟩
  case round =>
    obtain ⟨k, t, hk, rfl, rfl, hx⟩ := hrel
    have d0 := cell_keep hx.below (unhide C0)
    have d1 := cell_keep hx.below (unhide C1)
    have hts : t.size ≤ 4000 := by rw [hx.len]; omega
    by_cases hk0 : k = 0
    · subst hk0
      have HNUM : Hid (dec t.data.toList = v4 D) := by
        have := hx.num
        show _ = _
        simpa using this
      have HDIG := hide hx.dig
      have HBL := hide (below_keep hx.below (unhide HAL))
      clear hx hk
      go_wp2_with fail
      go_loop [3] (fun s => ∃ t : ByteArray, s = .string t ∧ Hid (dec t.data.toList = v4 D) ∧ Hid (Dig10 t.data.toList) ∧ t.size ≤ 4000) (fun s => match s with | .string t => t.size | _ => 0)
      case atStart => exact ⟨t, rfl, HNUM, HDIG, hts⟩
      case round =>
        obtain ⟨t, rfl, HN, HG, hts⟩ := hrel
        have hpos : 0 < t.size := by
          rcases Nat.eq_zero_or_pos t.size with e | e
          · exfalso
            have h1 := unhide HN
            have h2 : t.data.toList = [] := List.eq_nil_of_length_eq_zero (by rw [Array.length_toList]; exact e)
            rw [h2] at h1
            have h3 := unhide HV
            rw [← h1] at h3
            simp [dec] at h3
          · exact e
        by_cases h48 : (t[0]'hpos).toNat = 48
        · go_wp2
          obtain ⟨e1, e2, e3⟩ := struck hpos h48 (unhide HG)
          go_round
          case rel => exact ⟨_, rfl, e1.trans (unhide HN), e2, by omega⟩
          case measure => show (t.extract 1 t.size).size < t.size; omega
        · obtain ⟨f1, f2⟩ := text_is (unhide HG) (unhide HN) hpos h48 (unhide HV)
          have F1 := hide f1
          have F2 := hide f2
          clear f1 f2
          cases neg
          · go_wp2
            go_ret
            exact ⟨by rw [show (⟨(Lib.itoa (v4 D)).toArray⟩ : ByteArray) = t from (unhide F1).symm]; rfl, unhide HBL⟩
          · go_wp2
            go_ret
            exact ⟨by rw [show (⟨(Lib.itoa (-v4 D)).toArray⟩ : ByteArray) = ⟨#[45]⟩ ++ t from (unhide F2).symm]; rfl, unhide HBL⟩
    · have hc := ((unhide HR).later hx.below) (k - 1) (by omega)
      have hkt : ((k : Int) - 1).toNat = k - 1 := by omega
      have hki : (0 : Int) ≤ (k : Int) - 1 := by omega
      have hkl : k - 1 < D.length := by omega
      have hp := hD.nth (k - 1)
      have hnl : ¬ (9223372036854775807 < t.size + (four (nth D (k - 1))).length) := by
        show ¬ (9223372036854775807 < t.size + 4)
        omega
      go_wp2_with fail
      go_fit (four_any (nth D (k - 1)) hp.1 hp.2 _)
      rintro e w1 ⟨rfl, hb1⟩
      go_wp2
      go_roundw
      case rel => exact ⟨k - 1, _, by omega, rfl, by go_num, hx.step (by omega) hk hD hb1⟩
      case measure => simp [intOf]; omega

set_option maxHeartbeats 1000000 in
theorem rtext_nil (neg : Bool) (a : Option Addr) (cap : Nat) (w : World) :
    Calls Tryz.prog 9 #[.agg #[.bool neg, .slice a 0 cap]] w fun e w' => e = .returned (.string ⟨#[48]⟩) ∧ Below w.heap.size w w' := by
  go_enter Tryz.func9, Tryz.ntmps9
  go_wp2
  go_ret
  exact ⟨rfl, below_new w _⟩
theorem itoa_zero : Lib.itoa 0 = [48] := by rw [Lib.itoa, if_neg (by decide), Int.toNat_zero, Lib.decDigits, dif_pos (by decide)]; rfl
/-- Text: the numeral of a number. -/
theorem rtext_any {N : Nat} {v : Value} {z : Int} (w : World) (h : Nr N w v z) (hN : N ≤ 1000) :
    Calls Tryz.prog 9 #[v] w fun e w' => e = .returned (.string ⟨(Lib.itoa z).toArray⟩) ∧ Below w.heap.size w w' := by
  obtain ⟨neg, sl, D, rfl, hs, hD, hT, hl, hn, rfl⟩ := h
  rcases hs with ⟨rfl, rfl⟩ | ⟨b, cap, rfl, h2, h3, h4, _⟩
  · rw [hn rfl]
    simp only [v4, Bool.false_eq_true, if_false, itoa_zero]
    exact rtext_nil _ _ _ w
  · by_cases hne : D = []
    · subst hne
      rw [hn rfl]
      simp only [v4, Bool.false_eq_true, if_false, itoa_zero]
      exact rtext_nil _ _ _ w
    · exact rtext_some neg b cap D w h4 hD hT hne h2 (by unfold maxLen at h3; omega) (by omega)
end Go.Proofs.YtmdmcmkfhmnbeaaGreatDoor
