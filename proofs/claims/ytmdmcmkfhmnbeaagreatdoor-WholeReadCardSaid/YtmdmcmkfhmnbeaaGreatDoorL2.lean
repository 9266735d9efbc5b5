/-
  The law WholeRead, walked: for every text it answers true.
-/
import Derived.Test.YtmdmcmkfhmnbeaaGreatDoorE6
import Derived.Test.YtmdmcmkfhmnbeaaGreatDoorW37
import Derived.Test.YtmdmcmkfhmnbeaaGreatDoorR9
namespace Go.Proofs.YtmdmcmkfhmnbeaaGreatDoor
open Go.RowKit

theorem read_bad {d : ByteArray} {k : Nat} {text : Bool} (hg : Good d) (hw : Wrong d k text) : False := by
  obtain ⟨g1, g2, g3⟩ := hg
  rcases hw with ⟨h, _, _⟩ | ⟨h, h3, _, ⟨_, h5⟩ | ⟨_, h5, _⟩⟩
  · omega
  · exact h5 (g3 k h)
  · omega
/-- A text has one first wrong place. -/
theorem wrong_one_place {d : ByteArray} {k k' : Nat} {text text' : Bool} (h : Wrong d k text) (h' : Wrong d k' text') : k = k' ∧ text = text' := by
  rcases h with ⟨a1, rfl, rfl⟩ | ⟨a1, a2, a3, a4⟩
  · rcases h' with ⟨_, rfl, rfl⟩ | ⟨b1, _⟩
    · exact ⟨rfl, rfl⟩
    · omega
  · rcases h' with ⟨b1, _⟩ | ⟨b1, b2, b3, b4⟩
    · omega
    · rcases Nat.lt_trichotomy k k' with hlt | rfl | hlt
      · exfalso
        have hd := b3 k a1 hlt
        rcases a4 with ⟨_, h⟩ | ⟨_, h, _⟩
        · exact h hd
        · omega
      · refine ⟨rfl, ?_⟩
        rcases a4 with ⟨rfl, h⟩ | ⟨rfl, _, h⟩
        · rcases b4 with ⟨rfl, _⟩ | ⟨_, _, h2⟩
          · rfl
          · exact absurd h2 h
        · rcases b4 with ⟨_, h2⟩ | ⟨rfl, _⟩
          · exact absurd h h2
          · rfl
      · exfalso
        have hd := a3 k' b1 hlt
        rcases b4 with ⟨_, h⟩ | ⟨_, h, _⟩
        · exact h hd
        · omega

set_option maxHeartbeats 1000000 in
theorem told_nil (pl : Int) (w : World) :
    Calls Tryz.prog 7 #[.nilIface, .agg #[.int .i64 0, .int .i64 pl]] w fun e w' => e = .returned (.bool true) ∧ Below w.heap.size w w' := by
  have hk := below_new w (.cells #[.int .i64 0, .int .i64 pl] 33)
  go_enter Tryz.func7, Tryz.ntmps7
  go_wp2_with fail
  go_fit (code_nil _)
  rintro e w1 ⟨rfl, rfl⟩
  go_wp2
  go_ret
  exact ⟨rfl, hk⟩
set_option maxHeartbeats 1000000 in
theorem told_fault (A : Nat → Addr) (w : World) (k pb : Nat) (pl : Int) (hk : k < 10) (hS : Sents w A) (hp0 : w.cell? ⟨pb, 0, none⟩ = some (.int .i64 pl)) (hp1 : w.cell? ⟨pb, 1, none⟩ = some (.iface 172 (.pointer (some (A k))))) :
    Calls Tryz.prog 7 #[.iface 57 (.pointer (some ⟨pb, 0, none⟩)), .agg #[.int .i64 ((k : Int) + 1), .int .i64 pl]] w fun e w' => e = .returned (.bool true) ∧ Below w.heap.size w w' := by
  have hn := below_new w (.cells #[.int .i64 ((k : Int) + 1), .int .i64 pl] 33)
  have c0 : (w.alloc (.cells #[.int .i64 ((k : Int) + 1), .int .i64 pl] 33)).cell? ⟨w.heap.size, 0, none⟩ = some (.int .i64 ((k : Int) + 1)) := by rw [new_cell rfl]; rfl
  have c1 : (w.alloc (.cells #[.int .i64 ((k : Int) + 1), .int .i64 pl] 33)).cell? ⟨w.heap.size, 1, none⟩ = some (.int .i64 pl) := by rw [new_cell rfl]; rfl
  have hki : ((k : Int) + 1 == 0) = false := by simp; omega
  have C0 := hide c0
  have C1 := hide c1
  have HN := hide hn
  have P0 := hide hp0
  have P1 := hide hp1
  clear c0 c1 hn hp0 hp1
  go_enter Tryz.func7, Tryz.ntmps7
  go_wp2_with fail
  go_fit (code_fault A _ k pb pl hk (hS.later (unhide HN)) (cell_keep (unhide HN) (unhide P0)) (cell_keep (unhide HN) (unhide P1)))
  rintro e w1 ⟨rfl, hb1⟩
  have d0 := cell_keep hb1 (unhide C0)
  have d1 := cell_keep hb1 (unhide C1)
  have hB := below_keep hb1 (unhide HN)
  clear hb1
  go_wp2
  go_ret
  exact ⟨rfl, hB⟩

theorem decDigits_len {u k : Nat} (hk : 1 ≤ k) (h : (u : Int) < 10 ^ k) : (Lib.decDigits u).length ≤ k := by
  rcases Nat.eq_zero_or_pos u with rfl | hp
  · rw [Lib.decDigits, dif_pos (by decide)]; simpa using hk
  · have h3 := decDigits_head hp
    have h4 := decDigits_dec u
    have h5 := decDigits_dig u
    cases hl : Lib.decDigits u with
    | nil => simp
    | cons a t =>
      rw [hl] at h3 h4 h5
      have ha := h5 a (List.mem_cons_self ..)
      have ha48 : a.toNat ≠ 48 := fun e => h3 (by rw [show a = 48 from UInt8.toNat.inj e]; rfl)
      have e : dec (a :: t) = ((a.toNat : Int) - 48) * 10 ^ t.length + dec t := by
        rw [show a :: t = [a] ++ t from rfl, dec_append]
        simp [dec]
      have ht := (dec_bound (l := t) (fun c hc => h5 c (List.mem_cons_of_mem _ hc))).1
      rcases Nat.lt_or_ge t.length k with hlt | hge
      · simp only [List.length_cons]; omega
      · exfalso
        have hm := ten_mono hge
        have : (1 : Int) * 10 ^ t.length ≤ ((a.toNat : Int) - 48) * 10 ^ t.length := Int.mul_le_mul_of_nonneg_right (by omega) (Int.le_of_lt (Int.pow_pos (by decide)))
        omega
theorem good_digits {d : ByteArray} {n : Nat} (hd : d.data.toList = Lib.decDigits n) (hn : (n : Int) < 10 ^ 300) : Good d := by
  have hs : d.size = (Lib.decDigits n).length := by rw [Lib.size_eq, hd]
  have hl := decDigits_len (k := 300) (by decide) hn
  refine ⟨?_, by omega, fun j h => ?_⟩
  · have := List.length_pos_iff.2 (decDigits_ne n); omega
  · have hm : d[j] ∈ d.data.toList := by
      have e : d[j] = d.data.toList[j]'(by rw [Array.length_toList]; exact h) := rfl
      rw [e]; exact List.getElem_mem _
    rw [hd] at hm
    exact decDigits_dig n _ hm
/-- The numeral of a number that is read is read as that number. -/
theorem itoa_good {z : Int} {s : ByteArray} (hg : Good (digitsOf s)) (hz : numOf s = z) : Good (digitsOf ⟨(Lib.itoa z).toArray⟩) ∧ numOf ⟨(Lib.itoa z).toArray⟩ = z := by
  have hb := dec_bound hg.dig
  have hlen : (digitsOf s).data.toList.length ≤ 300 := by rw [← Lib.size_eq]; exact hg.2.1
  have hm := ten_mono hlen
  have hzb : -(10 ^ 300) < z ∧ z < 10 ^ 300 := by
    unfold numOf at hz
    split at hz <;> omega
  by_cases hneg : z < 0
  · have e : Lib.itoa z = 45 :: Lib.decDigits z.natAbs := by rw [Lib.itoa, if_pos hneg]
    have h1 : minusOf ⟨(Lib.itoa z).toArray⟩ = true := by
      show Lib.hasPrefix (Lib.itoa z) [45] = true
      rw [e]; simp [Lib.hasPrefix, List.isPrefixOf]
    have h2 : (digitsOf ⟨(Lib.itoa z).toArray⟩).data.toList = Lib.decDigits z.natAbs := by
      rw [digitsOf_list]
      unfold atOf
      rw [h1]
      simp [e]
    have hn : ((z.natAbs : Nat) : Int) < 10 ^ 300 := by omega
    refine ⟨good_digits h2 hn, ?_⟩
    unfold numOf
    rw [h1, h2, decDigits_dec]
    simp
    omega
  · have e : Lib.itoa z = Lib.decDigits z.toNat := by rw [Lib.itoa, if_neg hneg]
    have h1 : minusOf ⟨(Lib.itoa z).toArray⟩ = false := by
      show Lib.hasPrefix (Lib.itoa z) [45] = false
      rw [e]
      cases hl : Lib.decDigits z.toNat with
      | nil => rfl
      | cons c t =>
        have hc := decDigits_dig z.toNat c (by rw [hl]; exact List.mem_cons_self ..)
        have hne : (45 : UInt8) ≠ c := fun e => by rw [← e] at hc; exact absurd hc.1 (by decide)
        simp only [Lib.hasPrefix, List.isPrefixOf, Bool.and_true, beq_eq_false_iff_ne]
        exact hne
    have h2 : (digitsOf ⟨(Lib.itoa z).toArray⟩).data.toList = Lib.decDigits z.toNat := by
      rw [digitsOf_list]
      unfold atOf
      rw [h1]
      simp [e]
    have hn : ((z.toNat : Nat) : Int) < 10 ^ 300 := by omega
    refine ⟨good_digits h2 hn, ?_⟩
    unfold numOf
    rw [h1, h2, decDigits_dec]
    simp
    omega
end Go.Proofs.YtmdmcmkfhmnbeaaGreatDoor
