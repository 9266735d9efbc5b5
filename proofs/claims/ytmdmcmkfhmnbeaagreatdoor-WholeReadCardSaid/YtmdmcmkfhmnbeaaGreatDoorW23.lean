/-
  Walks over package whole: wrongDigit, readGroup: digits of a text.
-/
import Derived.Test.YtmdmcmkfhmnbeaaGreatDoorW19
namespace Go.Proofs.YtmdmcmkfhmnbeaaGreatDoor
open Go.RowKit

/-- Digits alone, at least one, at most 300. -/
def Good (s : ByteArray) : Prop := 1 ≤ s.size ∧ s.size ≤ 300 ∧ ∀ j (h : j < s.size), 48 ≤ s[j].toNat ∧ s[j].toNat ≤ 57
/-- What is wrong with a text that should be digits: the first place. -/
def Wrong (s : ByteArray) (k : Nat) (text : Bool) : Prop :=
  (s.size = 0 ∧ k = 0 ∧ text = true) ∨ (∃ h : k < s.size, k ≤ 300 ∧ (∀ j (h : j < s.size), j < k → 48 ≤ s[j].toNat ∧ s[j].toNat ≤ 57) ∧ ((text = true ∧ ¬ (48 ≤ s[k].toNat ∧ s[k].toNat ≤ 57)) ∨ (text = false ∧ k = 300 ∧ 48 ≤ s[k].toNat ∧ s[k].toNat ≤ 57)))

set_option maxHeartbeats 1000000 in
theorem wrongDigit_any (s : ByteArray) (w : World) (t1 t2 : TypeId) (p1 p2 : Value) (hs : s.size ≤ maxLen) (h1 : w.cell? ⟨0, 0, none⟩ = some (.iface t1 p1)) (h2 : w.cell? ⟨1, 0, none⟩ = some (.iface t2 p2)) :
    Calls Tryz.prog 27 #[.string s] w fun e w' => ((e = .returned (.tuple #[.int .i64 0, .nilIface]) ∧ Good s) ∨ (∃ k : Nat, e = .returned (.tuple #[.int .i64 k, .iface t1 p1]) ∧ Wrong s k true) ∨ (∃ k : Nat, e = .returned (.tuple #[.int .i64 k, .iface t2 p2]) ∧ Wrong s k false)) ∧ ∃ n, w' = w.drewN n := by
  unfold maxLen at hs
  go_enter Tryz.func27, Tryz.ntmps27
  go_wp2_with fail
  go_loop [7] (fun v => ∃ i : Nat, i ≤ s.size ∧ i ≤ 300 ∧ v = .int .i64 i ∧ Hid (∀ j (h : j < s.size), j < i → 48 ≤ s[j].toNat ∧ s[j].toNat ≤ 57)) (fun v => s.size - (intOf v).toNat)
  case atStart => exact ⟨0, Nat.zero_le _, Nat.zero_le _, rfl, fun j h hj => by omega⟩
  case round =>
    obtain ⟨i, hi, hi3, rfl, HD⟩ := hrel
    by_cases hlt : i < s.size
    · by_cases hd : 48 ≤ s[i].toNat ∧ s[i].toNat ≤ 57
      · obtain ⟨hd1, hd2⟩ := hd
        have hd1' : (48 : Int) ≤ (s[i].toNat : Int) := by omega
        have hd2' : (s[i].toNat : Int) ≤ 57 := by omega
        by_cases h300 : i = 300
        · subst h300
          go_wp2_with fail
          go_quiet (fail)
          go_wp2
          go_ret2
          exact ⟨Or.inr (Or.inr ⟨300, rfl, Or.inr ⟨hlt, Nat.le_refl _, unhide HD, Or.inr ⟨rfl, rfl, hd1, hd2⟩⟩⟩), _, rfl⟩
        · have h300' : ((i : Int) == 300) = false := by simp; omega
          clear h300
          go_wp2
          go_round
          case rel =>
            refine ⟨i + 1, by omega, by simp at h300'; omega, by go_num, fun j h hj => ?_⟩
            by_cases e : j = i
            · subst e; exact ⟨hd1, hd2⟩
            · exact unhide HD j h (by omega)
          case measure => simp [intOf]; omega
      · have HND := hide hd
        clear hd
        by_cases hd1 : (s[i].toNat : Int) < 48
        · go_wp2_with fail
          go_quiet (fail)
          go_wp2
          go_ret2
          exact ⟨Or.inr (Or.inl ⟨i, rfl, Or.inr ⟨hlt, hi3, unhide HD, Or.inl ⟨rfl, unhide HND⟩⟩⟩), _, rfl⟩
        · have hd2 : (57 : Int) < (s[i].toNat : Int) := by have := unhide HND; omega
          go_wp2_with fail
          go_quiet (fail)
          go_wp2
          go_ret2
          exact ⟨Or.inr (Or.inl ⟨i, rfl, Or.inr ⟨hlt, hi3, unhide HD, Or.inl ⟨rfl, unhide HND⟩⟩⟩), _, rfl⟩
    · by_cases he : s.size = 0
      · have hem : s = ByteArray.empty := by
          have : s.data.size = 0 := he
          cases s; simp_all [ByteArray.empty, ByteArray.emptyWithCapacity]
        subst hem
        go_wp2_with fail
        go_quiet (fail)
        go_wp2
        go_ret2
        exact ⟨Or.inr (Or.inl ⟨0, rfl, Or.inl ⟨rfl, rfl, rfl⟩⟩), _, rfl⟩
      · have hem : s.toList.isEmpty = false := by
          rw [Lib.toList_data]
          cases hl : s.data.toList with
          | nil => exact absurd (by have : s.data.toList.length = 0 := by rw [hl]; rfl
                                    simpa using this) he
          | cons a l => rfl
        go_wp2
        go_ret2
        exact ⟨Or.inl ⟨rfl, by omega, by omega, fun j h => unhide HD j h (by omega)⟩, 0, rfl⟩

/-- The number that digits say. -/
def dec (l : List UInt8) : Int := l.foldl (fun n c => n * 10 + ((c.toNat : Int) - 48)) 0
theorem dec_snoc (l : List UInt8) (c : UInt8) : dec (l ++ [c]) = dec l * 10 + ((c.toNat : Int) - 48) := by simp [dec]
/-- Digits alone. -/
def Dig10 (l : List UInt8) : Prop := ∀ c ∈ l, 48 ≤ c.toNat ∧ c.toNat ≤ 57
theorem dec_bound' : ∀ (n : Nat) (l : List UInt8), l.length = n → Dig10 l → 0 ≤ dec l ∧ dec l < 10 ^ n := by
  intro n
  induction n with
  | zero => intro l hl _; rw [List.eq_nil_of_length_eq_zero hl]; simp [dec]
  | succ n ih =>
    intro l hl h
    have e : l = l.take n ++ [l[n]] := by
      rw [← List.take_succ_eq_append_getElem (by omega), List.take_of_length_le (by omega)]
    have hc := h l[n] (List.getElem_mem _)
    obtain ⟨i1, i2⟩ := ih (l.take n) (by simp; omega) (fun d hd => h d (List.mem_of_mem_take hd))
    rw [e, dec_snoc, Int.pow_succ]
    omega
theorem dec_bound {l : List UInt8} (h : Dig10 l) : 0 ≤ dec l ∧ dec l < 10 ^ l.length := dec_bound' _ l rfl h
theorem ten18 {k : Nat} (h : k ≤ 18) : (10 : Int) ^ k ≤ 1000000000000000000 := by
  have : (10 : Nat) ^ k ≤ 10 ^ 18 := Nat.pow_le_pow_right (by decide) h
  have e : ((10 ^ k : Nat) : Int) = (10 : Int) ^ k := by simp
  rw [← e]; omega
theorem ten19 {k : Nat} (h : k ≤ 19) : (10 : Int) ^ k ≤ 10000000000000000000 := by
  have : (10 : Nat) ^ k ≤ 10 ^ 19 := Nat.pow_le_pow_right (by decide) h
  have e : ((10 ^ k : Nat) : Int) = (10 : Int) ^ k := by simp
  rw [← e]; omega
theorem btake_snoc (s : ByteArray) (k : Nat) (h : k < s.size) : s.data.toList.take (k + 1) = s.data.toList.take k ++ [s[k]] := by
  rw [List.take_succ_eq_append_getElem (by simpa using h)]; rfl

set_option maxHeartbeats 1000000 in
theorem readGroup_any (s : ByteArray) (w : World) (hs : s.size ≤ 19) (hd : Dig10 s.data.toList) :
    Calls Tryz.prog 63 #[.string s] w fun e w' => (∃ v, e = .returned v ∧ Zr 1 w' v (dec s.data.toList)) ∧ Below w.heap.size w w' := by
  have HD := hide hd
  clear hd
  go_enter Tryz.func63, Tryz.ntmps63
  go_wp2_with fail
  go_loop [3, 7] (fun n v => ∃ (k : Nat) (m : Int), k ≤ s.size ∧ v = .int .i64 k ∧ n = .int .u64 m ∧ Hid (m = dec (s.data.toList.take k))) (fun _ v => s.size - (intOf v).toNat)
  case atStart => exact ⟨0, 0, Nat.zero_le _, rfl, rfl, rfl⟩
  case round =>
    obtain ⟨k, m, hk, rfl, rfl, HM⟩ := hrel
    have hb := dec_bound (l := s.data.toList.take k) (fun c hc => unhide HD c (List.mem_of_mem_take hc))
    rw [← unhide HM, List.length_take, Nat.min_eq_left (by simpa using hk)] at hb
    by_cases hlt : k < s.size
    · have b1 := hb.1
      have b2 : m < 1000000000000000000 := Int.lt_of_lt_of_le hb.2 (ten18 (by omega))
      have hc := unhide HD s[k] (by
        have : s[k] = s.data.toList[k]'(by simpa using hlt) := rfl
        rw [this]; exact List.getElem_mem _)
      have c1 : (48 : Int) ≤ (s[k].toNat : Int) := by omega
      have c2 : (s[k].toNat : Int) ≤ 57 := by omega
      clear hb hc
      go_wp2
      go_round
      case rel => exact ⟨k + 1, _, by omega, by go_num, rfl, (by show _ = _; rw [btake_snoc s k hlt, dec_snoc, unhide HM])⟩
      case measure => simp [intOf]; omega
    · have b1 := hb.1
      have b2 : m < 10000000000000000000 := Int.lt_of_lt_of_le hb.2 (ten19 (by omega))
      clear hb
      have hbox := box_new w
      go_wp2_with fail
      go_fit (signedWord_any 1 m _ (Or.inl rfl) b1 (by omega))
      rintro e w1 ⟨⟨v, rfl, hZ⟩, hb1⟩
      obtain ⟨u1, a1, n1, c1, hv1⟩ := hZ.shape
      subst hv1
      have hbx := hbox.later hb1
      obtain ⟨⟨x0, g0⟩, ⟨a0, n0, c0, g1⟩, gf⟩ := hbx.cells
      have hz : w.heap.size < w1.heap.size := World.block_lt_of_cell? w1 _ g0
      go_wp2
      obtain ⟨st0, st1⟩ := hbx.stored (.int .i64 u1) (.slice a1 n1 c1)
      exact bodyPost_ret (v := .agg #[.int .i64 u1, .slice a1 n1 c1]) (by simp [results, Tryz.results63, go_sem, st0, st1]) rfl ⟨⟨_, rfl, (hZ.stored hbx _ _).eq (by rw [Int.one_mul, unhide HM, List.take_of_length_le (by simp; omega)])⟩, below_stored (((Below.refl _ _).alloc (Nat.le_refl _) _).trans (hb1.mono (by simp))) (Nat.le_refl _) _ _⟩
end Go.Proofs.YtmdmcmkfhmnbeaaGreatDoor
