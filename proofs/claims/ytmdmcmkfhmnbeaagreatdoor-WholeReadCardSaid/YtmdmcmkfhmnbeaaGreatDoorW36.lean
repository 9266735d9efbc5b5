/-
  Mathematics of Text: groups of nineteen digits and the numeral.
-/
import Derived.Test.YtmdmcmkfhmnbeaaGreatDoorW33
import Derived.Test.YtmdmcmkfhmnbeaaGreatDoorW34
import Derived.Test.YtmdmcmkfhmnbeaaGreatDoorW35
import Derived.Test.YtmdmcmkfhmnbeaaGreatDoorR1
namespace Go.Proofs.YtmdmcmkfhmnbeaaGreatDoor
open Go.RowKit

theorem decDigits_dig (u : Nat) : Dig10 (Lib.decDigits u) := by
  induction u using Nat.strongRecOn with
  | ind u ih =>
    rw [Lib.decDigits]
    split
    · intro c hc
      have : c = UInt8.ofNat (48 + u) := by simpa using hc
      subst this
      rw [UInt8.toNat_ofNat_of_lt' (show 48 + u < 256 by omega)]; omega
    · intro c hc
      rcases List.mem_append.1 hc with hc | hc
      · exact ih (u / 10) (by omega) c hc
      · have : c = UInt8.ofNat (48 + u % 10) := by simpa using hc
        subst this
        rw [UInt8.toNat_ofNat_of_lt' (show 48 + u % 10 < 256 by omega)]; omega
theorem decDigits_dec (u : Nat) : dec (Lib.decDigits u) = u := by
  induction u using Nat.strongRecOn with
  | ind u ih =>
    rw [Lib.decDigits]
    split
    · simp only [dec, List.foldl]
      rw [UInt8.toNat_ofNat_of_lt' (show 48 + u < 256 by omega)]; omega
    · rw [dec_snoc, ih (u / 10) (by omega), UInt8.toNat_ofNat_of_lt' (show 48 + u % 10 < 256 by omega)]; omega
theorem decDigits_head {u : Nat} (h : 0 < u) : (Lib.decDigits u).head? ≠ some 48 := by
  induction u using Nat.strongRecOn with
  | ind u ih =>
    rw [Lib.decDigits]
    split
    · intro e
      have e1 : UInt8.ofNat (48 + u) = 48 := by simpa using e
      have e2 := congrArg UInt8.toNat e1
      rw [UInt8.toNat_ofNat_of_lt' (show 48 + u < 256 by omega)] at e2
      have : (48 : UInt8).toNat = 48 := rfl
      omega
    · have := ih (u / 10) (by omega) (by omega)
      cases hl : Lib.decDigits (u / 10) with
      | nil =>
        have h0 := decDigits_dec (u / 10)
        rw [hl] at h0
        simp [dec] at h0
        omega
      | cons a t => rw [hl] at this; simpa using this
theorem decDigits_ne (u : Nat) : Lib.decDigits u ≠ [] := by
  rw [Lib.decDigits]; split <;> simp
theorem decDigits_len19 {u : Nat} (h : u < 10000000000000000000) : (Lib.decDigits u).length ≤ 19 := by
  rw [Lib.decDigits_length]
  rcases Nat.eq_zero_or_pos u with rfl | hp
  · rw [Lib.nDigits]; simp
  · have h1 := Lib.numDigits_eq u hp (by omega)
    rcases Nat.lt_or_ge 19 (Lib.nDigits u) with h2 | h2
    · exfalso
      have h3 := decDigits_head hp
      have h4 := decDigits_dec u
      have h5 := decDigits_dig u
      have h6 : (Lib.decDigits u).length = Lib.nDigits u := Lib.decDigits_length u
      cases hl : Lib.decDigits u with
      | nil => exact decDigits_ne u hl
      | cons a t =>
        rw [hl] at h3 h4 h5 h6
        have ha := h5 a (List.mem_cons_self ..)
        have ha48 : a.toNat ≠ 48 := fun e => h3 (by rw [show a = 48 from UInt8.toNat.inj e]; rfl)
        have e : dec (a :: t) = ((a.toNat : Int) - 48) * 10 ^ t.length + dec t := by
          rw [show a :: t = [a] ++ t from rfl, dec_append]
          simp [dec]
        have ht := (dec_bound (l := t) (fun c hc => h5 c (List.mem_cons_of_mem _ hc))).1
        have hlt : 19 ≤ t.length := by simp at h6; omega
        have hp19 := ten_mono hlt
        have : (1 : Int) * 10 ^ t.length ≤ ((a.toNat : Int) - 48) * 10 ^ t.length := Int.mul_le_mul_of_nonneg_right (by omega) (Int.le_of_lt (Int.pow_pos (by decide)))
        have h19 : (10 : Int) ^ 19 = 10000000000000000000 := by decide
        omega
    · exact h2
/-- Noughts ahead. -/
theorem repeat_len (c : Nat) : (Lib.repeatL [48] c).length = c := by
  induction c with
  | zero => rfl
  | succ c ih => simp [Lib.repeatL, ih]
theorem repeat_dig (c : Nat) : Dig10 (Lib.repeatL [48] c) := by
  induction c with
  | zero => intro d hd; simp [Lib.repeatL] at hd
  | succ c ih =>
    intro d hd
    simp only [Lib.repeatL, List.cons_append, List.nil_append, List.mem_cons] at hd
    rcases hd with rfl | hd
    · exact ⟨by decide, by decide⟩
    · exact ih d hd
theorem repeat_dec (c : Nat) : dec (Lib.repeatL [48] c) = 0 := by
  induction c with
  | zero => simp [Lib.repeatL, dec]
  | succ c ih =>
    have : Lib.repeatL [48] (c + 1) = 48 :: Lib.repeatL [48] c := rfl
    rw [this]
    have e : dec (48 :: Lib.repeatL [48] c) = ((48 : UInt8).toNat - 48 : Int) * 10 ^ (Lib.repeatL [48] c).length + dec (Lib.repeatL [48] c) := by
      rw [show (48 : UInt8) :: Lib.repeatL [48] c = [48] ++ Lib.repeatL [48] c from rfl, dec_append]
      simp [dec]
    rw [e, ih]
    simp
/-- A group's nineteen digits behind a numeral. -/
theorem numeral_next {v : Int} {g : Nat} (hv : 0 < v) (hg : g < 10000000000000000000) : Lib.decDigits v.toNat ++ (Lib.repeatL [48] (19 - (Lib.decDigits g).length) ++ Lib.decDigits g) = Lib.decDigits ((g : Int) + p19 * v).toNat := by
  have hd : Dig10 (Lib.decDigits v.toNat ++ (Lib.repeatL [48] (19 - (Lib.decDigits g).length) ++ Lib.decDigits g)) := by
    intro c hc
    rcases List.mem_append.1 hc with hc | hc
    · exact decDigits_dig _ c hc
    · rcases List.mem_append.1 hc with hc | hc
      · exact repeat_dig _ c hc
      · exact decDigits_dig _ c hc
  have hne : Lib.decDigits v.toNat ++ (Lib.repeatL [48] (19 - (Lib.decDigits g).length) ++ Lib.decDigits g) ≠ [] := by
    intro e
    exact decDigits_ne v.toNat (List.append_eq_nil_iff.1 e).1
  have hh : (Lib.decDigits v.toNat ++ (Lib.repeatL [48] (19 - (Lib.decDigits g).length) ++ Lib.decDigits g)).head? ≠ some 48 := by
    have := decDigits_head (u := v.toNat) (by omega)
    cases hl : Lib.decDigits v.toNat with
    | nil => exact absurd hl (decDigits_ne _)
    | cons a t => rw [hl] at this; simpa using this
  have hu := dec_unique hd hne hh
  rw [← hu]
  congr 1
  congr 1
  rw [dec_append, dec_append, repeat_dec, decDigits_dec, decDigits_dec, List.length_append, repeat_len]
  have hl := decDigits_len19 hg
  rw [show 19 - (Lib.decDigits g).length + (Lib.decDigits g).length = 19 by omega, show (10 : Int) ^ 19 = p19 by decide]
  unfold p19
  omega
theorem v19_drop {l : List Int} {k : Nat} (hk : k < l.length) : v19 (l.drop k) = nth l k + p19 * v19 (l.drop (k + 1)) := by
  rw [List.drop_eq_getElem_cons hk]
  simp [v19, nth, hk]
theorem v19_pos {l : List Int} (h : P19 l) (t : Trim l) {k : Nat} (hk : k < l.length) : 0 < v19 (l.drop k) := by
  have hne : l ≠ [] := fun e => by rw [e] at hk; simp at hk
  have ht := t.resolve_left hne
  have hp : P19 (l.drop k) := fun d hd => h d (List.mem_of_mem_drop hd)
  have e : l.drop k = (l.drop k).take (l.length - 1 - k) ++ [nth l (l.length - 1)] := by
    have := List.take_append_getElem (l := l.drop k) (i := l.length - 1 - k) (by rw [List.length_drop]; omega)
    rw [show l.length - 1 - k + 1 = (l.drop k).length by rw [List.length_drop]; omega, List.take_length] at this
    rw [← this]
    congr 2
    · rw [this]
    · unfold nth
      rw [List.getElem?_eq_getElem (by omega), List.getElem_drop]
      simp only [Option.getD_some]
      congr 1
      omega
  have hn : 0 ≤ nth l (l.length - 1) := by
    unfold nth
    rw [List.getElem?_eq_getElem (by omega)]
    exact (h _ (List.getElem_mem _)).1
  rw [e, v19_append]
  have h1 := v19_nonneg (l := (l.drop k).take (l.length - 1 - k)) (fun d hd => hp d (List.mem_of_mem_take hd))
  have h2 : (0 : Int) < p19 ^ ((l.drop k).take (l.length - 1 - k)).length := Int.pow_pos (by decide)
  have h4 := Int.mul_pos h2 (show 0 < nth l (l.length - 1) by omega)
  simp only [v19, Int.mul_zero, Int.add_zero]
  omega
end Go.Proofs.YtmdmcmkfhmnbeaaGreatDoor
