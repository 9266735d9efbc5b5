/-
  Mathematics of the document's numbers: places of 10000; decimal digits.
  Walks over the document's numbers: four, trim, made.
-/
import Derived.Test.YtachnndaoogpeaaGreatDoorMWG
import Derived.Lib.ItoaNum
import Derived.Laws.IdiomStrings
namespace Go.Proofs.YtachnndaoogpeaaGreatDoor
open Go.RowKit

/-- The number of places of 10000, the lowest first. -/
def v4 : List Int → Int
  | [] => 0
  | d :: l => d + 10000 * v4 l
/-- Places alone. -/
def P4 (l : List Int) : Prop := ∀ d ∈ l, 0 ≤ d ∧ d < 10000
theorem P4.nth {l : List Int} (h : P4 l) (k : Nat) : 0 ≤ nth l k ∧ nth l k < 10000 := by
  unfold Proofs.YtachnndaoogpeaaGreatDoor.nth
  cases e : l[k]? with
  | none => simp
  | some d => exact h d (List.mem_of_getElem? e)
theorem v4_append (a b : List Int) : v4 (a ++ b) = v4 a + 10000 ^ a.length * v4 b := by
  induction a with
  | nil => simp [v4]
  | cons d l ih => simp only [List.cons_append, v4, ih, List.length_cons, Int.pow_succ, Int.mul_add]; rw [Int.mul_comm (10000 ^ l.length) 10000, Int.mul_assoc]; omega
theorem v4_nonneg {l : List Int} (h : P4 l) : 0 ≤ v4 l := by
  induction l with
  | nil => simp [v4]
  | cons d l ih =>
    have h1 := h d (List.mem_cons_self ..)
    have h2 := ih (fun x hx => h x (List.mem_cons_of_mem _ hx))
    simp only [v4]; omega
theorem v4_drop {l : List Int} {k : Nat} (hk : k < l.length) : v4 (l.drop k) = nth l k + 10000 * v4 (l.drop (k + 1)) := by
  rw [List.drop_eq_getElem_cons hk]
  simp [v4, nth, hk]
theorem v4_take {l : List Int} {m : Nat} (hz : ∀ k, m ≤ k → nth l k = 0) : v4 (l.take m) = v4 l := by
  induction l generalizing m with
  | nil => simp
  | cons d l ih =>
    cases m with
    | zero =>
      have h0 : d = 0 := by have := hz 0 (Nat.le_refl _); simpa [nth] using this
      have h1 := ih (m := 0) (fun k _ => by have := hz (k + 1) (Nat.zero_le _); simpa [nth] using this)
      simp only [List.take_zero, v4] at h1 ⊢
      omega
    | succ m =>
      have h1 := ih (m := m) (fun k hk => by have := hz (k + 1) (by omega); simpa [nth] using this)
      simp only [List.take_succ_cons, v4, h1]
theorem v4_pos {l : List Int} (h : P4 l) (t : Trim l) (hl : l ≠ []) : 0 < v4 l := by
  have e : l = l.take (l.length - 1) ++ [nth l (l.length - 1)] := by
    have hp : 0 < l.length := List.length_pos_iff.2 hl
    have := List.take_append_getElem (l := l) (i := l.length - 1) (by omega)
    rw [show l.length - 1 + 1 = l.length by omega, List.take_length] at this
    unfold nth
    rw [List.getElem?_eq_getElem (by omega)]
    exact this.symm
  have hn := h.nth (l.length - 1)
  have ht := t.resolve_left hl
  have hq : P4 (l.take (l.length - 1)) := fun d hd => h d (List.mem_of_mem_take hd)
  rw [e, v4_append]
  have h1 := v4_nonneg hq
  have h2 : (0 : Int) < 10000 ^ (l.take (l.length - 1)).length := Int.pow_pos (by decide)
  have h3 : 0 < nth l (l.length - 1) := by omega
  have h4 := Int.mul_pos h2 h3
  simp only [v4, Int.mul_zero, Int.add_zero]
  omega

/-- A digit's byte. -/
def dg (n : Int) : UInt8 := UInt8.ofNat (48 + n.toNat)
theorem dg_toNat {n : Int} (h0 : 0 ≤ n) (h1 : n ≤ 9) : ((dg n).toNat : Int) = 48 + n := by
  unfold dg
  rw [UInt8.toNat_ofNat_of_lt' (show 48 + n.toNat < 256 by omega)]
  omega
theorem dg_nat {n : Int} (h0 : 0 ≤ n) (h1 : n ≤ 9) : 48 ≤ (dg n).toNat ∧ (dg n).toNat ≤ 57 := by
  have := dg_toNat h0 h1; omega
/-- Four digits of a place. -/
def four (x : Int) : List UInt8 := [dg (x / 1000), dg (x / 100 % 10), dg (x / 10 % 10), dg (x % 10)]
theorem four_dig {x : Int} (h0 : 0 ≤ x) (h1 : x < 10000) : Dig10 (four x) := by
  intro c hc
  simp only [four, List.mem_cons, List.mem_nil_iff, or_false] at hc
  rcases hc with rfl | rfl | rfl | rfl <;> exact dg_nat (by omega) (by omega)
theorem four_dec {x : Int} (h0 : 0 ≤ x) (h1 : x < 10000) : dec (four x) = x := by
  simp only [four, dec, List.foldl]
  rw [dg_toNat (n := x / 1000) (by omega) (by omega), dg_toNat (n := x / 100 % 10) (by omega) (by omega), dg_toNat (n := x / 10 % 10) (by omega) (by omega), dg_toNat (n := x % 10) (by omega) (by omega)]
  omega

/-- Digits that do not begin with a nought are the numeral of their number. -/
theorem dec_unique' : ∀ (n : Nat) (l : List UInt8), l.length = n → Dig10 l → l ≠ [] → l.head? ≠ some 48 → Lib.decDigits (dec l).toNat = l := by
  intro n
  induction n with
  | zero => intro l hl _ hne _; exact absurd (List.eq_nil_of_length_eq_zero hl) hne
  | succ n ih =>
    intro l hl h hne h0
    have e : l = l.take n ++ [l[n]] := by
      rw [← List.take_succ_eq_append_getElem (by omega), List.take_of_length_le (by omega)]
    have hc := h l[n] (List.getElem_mem _)
    have hd' : Dig10 (l.take n) := fun d hd => h d (List.mem_of_mem_take hd)
    obtain ⟨c, hcc⟩ : ∃ c, l[n] = c := ⟨_, rfl⟩
    rw [hcc] at hc e
    by_cases hn : n = 0
    · subst hn
      have e1 : l = [c] := by simpa using e
      have hc0 : c ≠ 48 := by
        intro e2; apply h0; rw [e1, e2]; rfl
      have hc1 : c.toNat ≠ 48 := fun e3 => hc0 (UInt8.toNat.inj (by simpa using e3))
      rw [e1]
      have hv : (dec [c]).toNat = c.toNat - 48 := by simp [dec]; omega
      rw [hv, Lib.decDigits, dif_pos (by omega)]
      rw [show 48 + (c.toNat - 48) = c.toNat by omega, UInt8.ofNat_toNat]
    · have hl' : (l.take n).length = n := by simp; omega
      have hne' : l.take n ≠ [] := by
        intro e2; rw [e2] at hl'; simp at hl'; omega
      have hh : (l.take n).head? = l.head? := by
        cases l with
        | nil => simp at hl
        | cons a l => cases n with
          | zero => exact absurd rfl hn
          | succ n => simp
      have ih' := ih (l.take n) hl' hd' hne' (by rw [hh]; exact h0)
      have hb := dec_bound hd'
      have hp : 0 < dec (l.take n) := by
        rcases Int.lt_or_eq_of_le hb.1 with hlt | heq
        · exact hlt
        · rw [← heq] at ih'
          have : l.take n = [48] := by rw [← ih', Int.toNat_zero, Lib.decDigits, dif_pos (by decide)]; rfl
          exfalso; apply h0; rw [← hh, this]; rfl
      rw [e, dec_snoc]
      have hv : (dec (l.take n) * 10 + ((c.toNat : Int) - 48)).toNat = (dec (l.take n)).toNat * 10 + (c.toNat - 48) := by omega
      rw [hv, Lib.decDigits, dif_neg (by omega)]
      rw [show ((dec (l.take n)).toNat * 10 + (c.toNat - 48)) / 10 = (dec (l.take n)).toNat by omega, show ((dec (l.take n)).toNat * 10 + (c.toNat - 48)) % 10 = c.toNat - 48 by omega, ih', show 48 + (c.toNat - 48) = c.toNat by omega, UInt8.ofNat_toNat]
theorem dec_unique {l : List UInt8} (h : Dig10 l) (hne : l ≠ []) (h0 : l.head? ≠ some 48) : Lib.decDigits (dec l).toNat = l := dec_unique' _ l rfl h hne h0
end Go.Proofs.YtachnndaoogpeaaGreatDoor
namespace Go.Proofs.YtachnndaoogpeaaGreatDoor
open Go.RowKit

set_option maxRecDepth 8000 in
set_option maxHeartbeats 1000000 in
theorem four_any (x : Int) (h0 : 0 ≤ x) (h1 : x < 10000) (w : World) :
    Calls Tryz.prog 93 #[.int .i64 x] w fun e w' => e = .returned (.string ⟨(four x).toArray⟩) ∧ Below w.heap.size w w' := by
  have hc : (convert 113 9 (.slice (some ⟨w.heap.size, 0, none⟩) 4 4)).run Tryz.prog (w.alloc (.cells #[.int .u8 (48 + x / 1000), .int .u8 (48 + x / 100 % 10), .int .u8 (48 + x / 10 % 10), .int .u8 (48 + x % 10)] 5)) = .ok (.string ⟨(four x).toArray⟩) (w.alloc (.cells #[.int .u8 (48 + x / 1000), .int .u8 (48 + x / 100 % 10), .int .u8 (48 + x / 10 % 10), .int .u8 (48 + x % 10)] 5)) := by
    refine run_convert_bytes_back _ 113 9 5 ⟨w.heap.size, 0, none⟩ 4 (four x) Tryz.underlying113 Tryz.underlying5 Tryz.underlying9 ?_
    intro j hj
    have hj4 : j < 4 := hj
    rw [show (⟨w.heap.size, 0, none⟩ : Addr).add j = ⟨w.heap.size, j, none⟩ by unfold Addr.add; split <;> simp_all, new_cell rfl]
    rcases (by omega : j = 0 ∨ j = 1 ∨ j = 2 ∨ j = 3) with rfl | rfl | rfl | rfl
    · simp only [four, List.getElem_cons_zero]; rw [dg_toNat (by omega) (by omega)]; rfl
    · simp only [four, List.getElem_cons_succ, List.getElem_cons_zero]; rw [dg_toNat (by omega) (by omega)]; rfl
    · simp only [four, List.getElem_cons_succ, List.getElem_cons_zero]; rw [dg_toNat (by omega) (by omega)]; rfl
    · simp only [four, List.getElem_cons_succ, List.getElem_cons_zero]; rw [dg_toNat (by omega) (by omega)]; rfl
  go_enter Tryz.func93, Tryz.ntmps93
  go_wp2
  go_ret
  exact ⟨rfl, (Below.refl _ _).alloc (Nat.le_refl _) _⟩

/-- A row of ints. -/
def RowI (w : World) (b : Nat) (l : List Int) : Prop := ∀ k, k < l.length → w.cell? ⟨b, k, none⟩ = some (.int .i64 (nth l k))

set_option maxHeartbeats 400000 in
theorem rtrim_any (b cap : Nat) (l : List Int) (w : World) (hr : RowI w b l) (hl : l.length ≤ cap) (hcap : cap ≤ 9223372036854775807) :
    Calls Tryz.prog 117 #[.slice (some ⟨b, 0, none⟩) l.length cap] w fun e w' => (∃ m, m ≤ l.length ∧ e = .returned (.slice (some ⟨b, 0, none⟩) m cap) ∧ (∀ k, m ≤ k → nth l k = 0) ∧ (m = 0 ∨ nth l (m - 1) ≠ 0)) ∧ w' = w := by
  go_enter Tryz.func117, Tryz.ntmps117
  go_wp2_with fail
  go_loop [3] (fun v => ∃ m : Nat, m ≤ l.length ∧ v = .int .i64 m ∧ Hid (∀ k, m ≤ k → nth l k = 0)) (fun v => (intOf v).toNat)
  case atStart => exact ⟨l.length, Nat.le_refl _, rfl, fun k hk => nth_ge hk⟩
  case round =>
    obtain ⟨m, hm, rfl, HZ⟩ := hrel
    by_cases hm0 : m = 0
    · subst hm0
      go_wp2
      go_ret
      exact ⟨⟨0, Nat.zero_le _, rfl, unhide HZ, Or.inl rfl⟩, rfl⟩
    · have hc := hr (m - 1) (by omega)
      have hmi : (0 : Int) < m := by omega
      have hmt : ((m : Int) - 1).toNat = m - 1 := by omega
      have hmc : ((m - 1 : Nat) : Int) = (m : Int) - 1 := by omega
      by_cases hx : nth l (m - 1) = 0
      · have HX := hide hx
        rw [hx] at hc
        clear hx
        go_wp2
        go_round
        case rel =>
          refine ⟨m - 1, by omega, by go_num, fun k hk => ?_⟩
          by_cases e : k = m - 1
          · rw [e]; exact unhide HX
          · exact unhide HZ k (by omega)
        case measure => simp [intOf]; omega
      · go_wp2
        go_ret
        exact ⟨⟨m, hm, rfl, unhide HZ, Or.inr hx⟩, rfl⟩

set_option maxHeartbeats 400000 in
theorem rtrim_nil (w : World) : Calls Tryz.prog 117 #[.slice none 0 0] w fun e w' => e = .returned (.slice none 0 0) ∧ w' = w := by
  go_enter Tryz.func117, Tryz.ntmps117
  go_wp2_with fail
  refine wp_loop_rounds 1 ?_
  rw [rounds_succ]
  go_wp2
  go_ret
  exact ⟨rfl, rfl⟩
end Go.Proofs.YtachnndaoogpeaaGreatDoor
