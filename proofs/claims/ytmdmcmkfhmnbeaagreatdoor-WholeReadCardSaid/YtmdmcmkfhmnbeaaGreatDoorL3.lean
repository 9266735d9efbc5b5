/-
  The law WholeRead, walked: for every text it answers true.
-/
import Derived.Test.YtmdmcmkfhmnbeaaGreatDoorE6
import Derived.Test.YtmdmcmkfhmnbeaaGreatDoorW37
import Derived.Test.YtmdmcmkfhmnbeaaGreatDoorR9
namespace Go.Proofs.YtmdmcmkfhmnbeaaGreatDoor
open Go.RowKit

theorem read_bad {d : ByteArray} {k : Nat} {text : Bool} (hg : Good d) (hw : Wrong d k text) : False := by
  obtain ⟨g1, g2, g3⟩ := hg
  rcases hw with ⟨h, _, _⟩ | ⟨h, h3, _, ⟨_, h5⟩ | ⟨_, h5, _⟩⟩
  · omega
  · exact h5 (g3 k h)
  · omega
/-- A text has one first wrong place. -/
theorem wrong_one_place {d : ByteArray} {k k' : Nat} {text text' : Bool} (h : Wrong d k text) (h' : Wrong d k' text') : k = k' ∧ text = text' := by
  rcases h with ⟨a1, rfl, rfl⟩ | ⟨a1, a2, a3, a4⟩
  · rcases h' with ⟨_, rfl, rfl⟩ | ⟨b1, _⟩
    · exact ⟨rfl, rfl⟩
    · omega
  · rcases h' with ⟨b1, _⟩ | ⟨b1, b2, b3, b4⟩
    · omega
    · rcases Nat.lt_trichotomy k k' with hlt | rfl | hlt
      · exfalso
        have hd := b3 k a1 hlt
        rcases a4 with ⟨_, h⟩ | ⟨_, h, _⟩
        · exact h hd
        · omega
      · refine ⟨rfl, ?_⟩
        rcases a4 with ⟨rfl, h⟩ | ⟨rfl, _, h⟩
        · rcases b4 with ⟨rfl, _⟩ | ⟨_, _, h2⟩
          · rfl
          · exact absurd h2 h
        · rcases b4 with ⟨_, h2⟩ | ⟨rfl, _⟩
          · exact absurd h h2
          · rfl
      · exfalso
        have hd := a3 k' b1 hlt
        rcases b4 with ⟨_, h⟩ | ⟨_, h, _⟩
        · exact h hd
        · omega

set_option maxHeartbeats 1000000 in
theorem told_nil (pl : Int) (w : World) :
    Calls Tryz.prog 7 #[.nilIface, .agg #[.int .i64 0, .int .i64 pl]] w fun e w' => e = .returned (.bool true) ∧ Below w.heap.size w w' := by
  have hk := below_new w (.cells #[.int .i64 0, .int .i64 pl] 33)
  go_enter Tryz.func7, Tryz.ntmps7
  go_wp2_with fail
  go_fit (code_nil _)
  rintro e w1 ⟨rfl, rfl⟩
  go_wp2
  go_ret
  exact ⟨rfl, hk⟩
set_option maxHeartbeats 1000000 in
theorem told_fault (A : Nat → Addr) (w : World) (k pb : Nat) (pl : Int) (hk : k < 10) (hS : Sents w A) (hp0 : w.cell? ⟨pb, 0, none⟩ = some (.int .i64 pl)) (hp1 : w.cell? ⟨pb, 1, none⟩ = some (.iface 172 (.pointer (some (A k))))) :
    Calls Tryz.prog 7 #[.iface 57 (.pointer (some ⟨pb, 0, none⟩)), .agg #[.int .i64 ((k : Int) + 1), .int .i64 pl]] w fun e w' => e = .returned (.bool true) ∧ Below w.heap.size w w' := by
  have hn := below_new w (.cells #[.int .i64 ((k : Int) + 1), .int .i64 pl] 33)
  have c0 : (w.alloc (.cells #[.int .i64 ((k : Int) + 1), .int .i64 pl] 33)).cell? ⟨w.heap.size, 0, none⟩ = some (.int .i64 ((k : Int) + 1)) := by rw [new_cell rfl]; rfl
  have c1 : (w.alloc (.cells #[.int .i64 ((k : Int) + 1), .int .i64 pl] 33)).cell? ⟨w.heap.size, 1, none⟩ = some (.int .i64 pl) := by rw [new_cell rfl]; rfl
  have hki : ((k : Int) + 1 == 0) = false := by simp; omega
  have C0 := hide c0
  have C1 := hide c1
  have HN := hide hn
  have P0 := hide hp0
  have P1 := hide hp1
  clear c0 c1 hn hp0 hp1
  go_enter Tryz.func7, Tryz.ntmps7
  go_wp2_with fail
  go_fit (code_fault A _ k pb pl hk (hS.later (unhide HN)) (cell_keep (unhide HN) (unhide P0)) (cell_keep (unhide HN) (unhide P1)))
  rintro e w1 ⟨rfl, hb1⟩
  have d0 := cell_keep hb1 (unhide C0)
  have d1 := cell_keep hb1 (unhide C1)
  have hB := below_keep hb1 (unhide HN)
  clear hb1
  go_wp2
  go_ret
  exact ⟨rfl, hB⟩

theorem decDigits_len {u k : Nat} (hk : 1 ≤ k) (h : (u : Int) < 10 ^ k) : (Lib.decDigits u).length ≤ k := by
  rcases Nat.eq_zero_or_pos u with rfl | hp
  · rw [Lib.decDigits, dif_pos (by decide)]; simpa using hk
  · have h3 := decDigits_head hp
    have h4 := decDigits_dec u
    have h5 := decDigits_dig u
    cases hl : Lib.decDigits u with
    | nil => simp
    | cons a t =>
      rw [hl] at h3 h4 h5
      have ha := h5 a (List.mem_cons_self ..)
      have ha48 : a.toNat ≠ 48 := fun e => h3 (by rw [show a = 48 from UInt8.toNat.inj e]; rfl)
      have e : dec (a :: t) = ((a.toNat : Int) - 48) * 10 ^ t.length + dec t := by
        rw [show a :: t = [a] ++ t from rfl, dec_append]
        simp [dec]
      have ht := (dec_bound (l := t) (fun c hc => h5 c (List.mem_cons_of_mem _ hc))).1
      rcases Nat.lt_or_ge t.length k with hlt | hge
      · simp only [List.length_cons]; omega
      · exfalso
        have hm := ten_mono hge
        have : (1 : Int) * 10 ^ t.length ≤ ((a.toNat : Int) - 48) * 10 ^ t.length := Int.mul_le_mul_of_nonneg_right (by omega) (Int.le_of_lt (Int.pow_pos (by decide)))
        omega
theorem good_digits {d : ByteArray} {n : Nat} (hd : d.data.toList = Lib.decDigits n) (hn : (n : Int) < 10 ^ 300) : Good d := by
  have hs : d.size = (Lib.decDigits n).length := by rw [Lib.size_eq, hd]
  have hl := decDigits_len (k := 300) (by decide) hn
  refine ⟨?_, by omega, fun j h => ?_⟩
  · have := List.length_pos_iff.2 (decDigits_ne n); omega
  · have hm : d[j] ∈ d.data.toList := by
      have e : d[j] = d.data.toList[j]'(by rw [Array.length_toList]; exact h) := rfl
      rw [e]; exact List.getElem_mem _
    rw [hd] at hm
    exact decDigits_dig n _ hm
/-- The numeral of a number that is read is read as that number. -/
theorem itoa_good {z : Int} {s : ByteArray} (hg : Good (digitsOf s)) (hz : numOf s = z) : Good (digitsOf ⟨(Lib.itoa z).toArray⟩) ∧ numOf ⟨(Lib.itoa z).toArray⟩ = z := by
  have hb := dec_bound hg.dig
  have hlen : (digitsOf s).data.toList.length ≤ 300 := by rw [← Lib.size_eq]; exact hg.2.1
  have hm := ten_mono hlen
  have hzb : -(10 ^ 300) < z ∧ z < 10 ^ 300 := by
    unfold numOf at hz
    split at hz <;> omega
  by_cases hneg : z < 0
  · have e : Lib.itoa z = 45 :: Lib.decDigits z.natAbs := by rw [Lib.itoa, if_pos hneg]
    have h1 : minusOf ⟨(Lib.itoa z).toArray⟩ = true := by
      show Lib.hasPrefix (Lib.itoa z) [45] = true
      rw [e]; simp [Lib.hasPrefix, List.isPrefixOf]
    have h2 : (digitsOf ⟨(Lib.itoa z).toArray⟩).data.toList = Lib.decDigits z.natAbs := by
      rw [digitsOf_list]
      unfold atOf
      rw [h1]
      simp [e]
    have hn : ((z.natAbs : Nat) : Int) < 10 ^ 300 := by omega
    refine ⟨good_digits h2 hn, ?_⟩
    unfold numOf
    rw [h1, h2, decDigits_dec]
    simp
    omega
  · have e : Lib.itoa z = Lib.decDigits z.toNat := by rw [Lib.itoa, if_neg hneg]
    have h1 : minusOf ⟨(Lib.itoa z).toArray⟩ = false := by
      show Lib.hasPrefix (Lib.itoa z) [45] = false
      rw [e]
      cases hl : Lib.decDigits z.toNat with
      | nil => rfl
      | cons c t =>
        have hc := decDigits_dig z.toNat c (by rw [hl]; exact List.mem_cons_self ..)
        have hne : (45 : UInt8) ≠ c := fun e => by rw [← e] at hc; exact absurd hc.1 (by decide)
        simp only [Lib.hasPrefix, List.isPrefixOf, Bool.and_true, beq_eq_false_iff_ne]
        exact hne
    have h2 : (digitsOf ⟨(Lib.itoa z).toArray⟩).data.toList = Lib.decDigits z.toNat := by
      rw [digitsOf_list]
      unfold atOf
      rw [h1]
      simp [e]
    have hn : ((z.toNat : Nat) : Int) < 10 ^ 300 := by omega
    refine ⟨good_digits h2 hn, ?_⟩
    unfold numOf
    rw [h1, h2, decDigits_dec]
    simp
    omega
/-- A number of the document's in its box. -/
structure Nw (w : World) (b : Nat) (x : Bool) (a : Option Addr) (n c N : Nat) (z : Int) : Prop where
  c0 : w.cell? ⟨b, 0, none⟩ = some (.bool x)
  c1 : w.cell? ⟨b, 1, none⟩ = some (.slice a n c)
  nr : Nr N w (.agg #[.bool x, .slice a n c]) z
theorem Nw.lt {w : World} {b : Nat} {x : Bool} {a : Option Addr} {n c N : Nat} {z : Int} (h : Nw w b x a n c N z) : b < w.heap.size := World.block_lt_of_cell? w _ h.c0
theorem Nw.keep {w w1 : World} {b : Nat} {x : Bool} {a : Option Addr} {n c N : Nat} {z : Int} (h : Nw w b x a n c N z) (hb : Below w.heap.size w w1) : Nw w1 b x a n c N z := ⟨cell_keep hb h.c0, cell_keep hb h.c1, h.nr.later hb⟩
theorem Nw.new {w : World} {x : Bool} {a : Option Addr} {n c N : Nat} {z : Int} (h : Nr N w (.agg #[.bool x, .slice a n c]) z) : Nw (w.alloc (.cells #[.bool x, .slice a n c] 31)) w.heap.size x a n c N z :=
  ⟨by rw [new_cell rfl]; rfl, by rw [new_cell rfl]; rfl, h.later (below_new w _)⟩

set_option maxRecDepth 4000 in
set_option maxHeartbeats 4000000 in
theorem read_law (A : Nat → Addr) (s : ByteArray) (w : World) (hs : s.size ≤ maxLen) (hS : Sents w A) (htab : Lib.TabIs Tryz.prog w "internal/strconv.uint64pow10" .u64 Lib.pow10Tab) :
    Calls Tryz.prog 3 #[.string s] w fun e w' => e = .returned (.bool true) ∧ Below w.heap.size w w' := by
  have HS := hide hs
  have HSE := hide hS
  have HTAB := hide htab
  clear hs hS htab
  go_enter Tryz.func3, Tryz.ntmps3
  by_cases hlong : (400 : Int) < s.size
  · go_wp2
    go_ret
    exact ⟨rfl, Below.refl _ _⟩
  · go_wp2_with fail
    go_fit (read_any s _ _ _ _ _ (unhide HS) (unhide HSE).h0 (unhide HSE).h1)
    rintro e W1 ⟨⟨v1, rfl, hg, hZ1⟩ | ⟨k, text, pb, rfl, hw, hp0, hp1⟩, B1⟩
    · obtain ⟨u1, a1, n1, c1, hv1⟩ := hZ1.shape
      subst hv1
      obtain ⟨Z, HZ⟩ : ∃ Z, Hid (numOf s = Z) := ⟨_, rfl⟩
      rw [show numOf s = Z from unhide HZ] at hZ1
      have nz := Vr.new hZ1
      have kz := below_new W1 (.cells #[.int .i64 u1, .slice a1 n1 c1] 24)
      have HG := hide hg
      clear hg
      go_wp2_with fail
      go_fit (rread_any s _ (unhide HS))
      rintro e W2 ⟨⟨v2, code, pl, rfl, hc⟩, hb2⟩
      have vz := nz.keep hb2
      have B2 := below_keep hb2 (below_keep kz B1)
      clear nz kz hb2 hZ1
      rcases hc with ⟨rfl, rfl, _, hN2⟩ | ⟨k, text, _, _, hw, _⟩
      · obtain ⟨x2, a2, n2, c2, hv2⟩ := hN2.shape
        subst hv2
        rw [show numOf s = Z from unhide HZ] at hN2
        have nn := Nw.new hN2
        have kn := below_new W2 (.cells #[.bool x2, .slice a2 n2 c2] 31)
        have kf := below_new (W2.alloc (.cells #[.bool x2, .slice a2 n2 c2] 31)) (.cells #[.int .i64 0, .int .i64 (-1)] 33)
        have f0 : ((W2.alloc (.cells #[.bool x2, .slice a2 n2 c2] 31)).alloc (.cells #[.int .i64 0, .int .i64 (-1)] 33)).cell? ⟨W2.heap.size + 1, 0, none⟩ = some (.int .i64 0) := by rw [new_cell (by simp)]; rfl
        have F0 := hide f0
        have KN := hide kn
        have KF := hide kf
        clear hN2 f0 kn kf
        go_wp2_with fail
        go_fit (told_nil (-1) _)
        rintro e W3 ⟨rfl, hb3⟩
        have vz := ((vz.keep (unhide KN)).keep (unhide KF)).keep hb3
        have vn := (nn.keep (unhide KF)).keep hb3
        have d0 := cell_keep hb3 (unhide F0)
        have B3 := below_keep hb3 (below_keep (unhide KF) (below_keep (unhide KN) B2))
        clear hb3 nn
        have z0 := vz.c0
        have z1 := vz.c1
        go_wp2_with fail
        go_fit (text_any _ vz.zr (by omega) (tab_later (unhide HTAB) B3))
        rintro e W4 ⟨rfl, hb4⟩
        obtain ⟨S, HSS⟩ : ∃ S, Hid ((⟨(Lib.itoa Z).toArray⟩ : ByteArray) = S) := ⟨_, rfl⟩
        rw [unhide HSS]
        have GN : Hid (Good (digitsOf S) ∧ numOf S = Z) := by rw [← unhide HSS]; exact itoa_good (unhide HG) (unhide HZ)
        have hSl : S.size ≤ 301 := by have := (unhide GN).1.2.1; have := digitsOf_len S; have : atOf S ≤ 1 := by unfold atOf; split <;> omega
                                      omega
        have vn := vn.keep hb4
        have d0 := cell_keep hb4 d0
        have B4 := below_keep hb4 B3
        clear hb4 vz z0 z1
        have HSL : Hid (S.size ≤ maxLen) := by show _ ≤ _; unfold maxLen; omega
        go_wp2_with fail
        go_fit (read_any S _ _ _ _ _ (unhide HSL) ((unhide HSE).later B4).h0 ((unhide HSE).later B4).h1)
        rintro e W5 ⟨⟨v5, rfl, _, hZ5⟩ | ⟨k, text, pb, rfl, hw, _, _⟩, hb5⟩
        · obtain ⟨u5, a5, n5, c5, hv5⟩ := hZ5.shape
          subst hv5
          rw [(unhide GN).2] at hZ5
          have vn := vn.keep hb5
          have B5 := below_keep hb5 B4
          have nb := Vr.new hZ5
          have kb := below_new W5 (.cells #[.int .i64 u5, .slice a5 n5 c5] 24)
          clear hb5 hZ5
          have n0 := vn.c0
          have nl := vn.lt
          go_wp2_with fail
          go_fit (text_any _ nb.zr (by omega) (tab_later (unhide HTAB) (below_keep kb B5)))
          rintro e W6 ⟨rfl, hb6⟩
          rw [unhide HSS]
          have vn := (vn.keep kb).keep hb6
          have B6 := below_keep hb6 (below_keep kb B5)
          clear hb6 nb kb n0 nl
          have n0 := vn.c0
          have n1 := vn.c1
          go_wp2_with fail
          go_fit (rtext_any _ vn.nr (by omega))
          rintro e W7 ⟨rfl, hb7⟩
          rw [unhide HSS]
          have B7 := below_keep hb7 B6
          clear hb7
          go_wp2
          go_ret
          exact ⟨rfl, B7⟩
        · exact (read_bad (unhide GN).1 hw).elim
      · exact (read_bad (unhide HG) hw).elim
    · have hpl : (((s.size - (digitsOf s).size : Nat) : Int) + k) = (atOf s : Int) + k := by
        have h1 := digitsOf_len s
        have h2 := atOf_le s
        omega
      rw [hpl] at hp0
      obtain ⟨P, HP⟩ : ∃ P, Hid ((atOf s : Int) + k = P) := ⟨_, rfl⟩
      rw [show (atOf s : Int) + k = P from unhide HP] at hp0
      have kz := below_new W1 (.cells #[.int .i64 0, .slice none 0 0] 24)
      have HWR := hide hw
      clear hw hpl
      go_wp2_with fail
      go_fit (rread_any s _ (unhide HS))
      rintro e W2 ⟨⟨v2, code, pl, rfl, hc⟩, hb2⟩
      rcases hc with ⟨_, _, hg, _⟩ | ⟨k', text', hcode, hpl, hw', rfl⟩
      · exact (read_bad hg (unhide HWR)).elim
      · obtain ⟨rfl, rfl⟩ := wrong_one_place (unhide HWR) hw'
        rw [show (atOf s : Int) + k = P from unhide HP] at hpl
        obtain rfl : pl = P := hpl
        clear hw'
        cases text
        · simp only [Bool.false_eq_true, if_false] at hcode hp1
          subst hcode
          have nzz := Vr.new (w := W1) (N := 1) (Zr.near 1 (z := 0) (by decide) (by decide))
          have vz := nzz.keep hb2
          have q0 := cell_keep (below_keep hb2 kz) hp0
          have q1 := cell_keep (below_keep hb2 kz) hp1
          have B2 := below_keep hb2 (below_keep kz B1)
          have kn := below_new W2 (.cells #[.bool false, .slice none 0 0] 31)
          have kf := below_new (W2.alloc (.cells #[.bool false, .slice none 0 0] 31)) (.cells #[.int .i64 2, .int .i64 pl] 33)
          have Bf := below_keep kf (below_keep kn B2)
          have F0 := hide (show ((W2.alloc (.cells #[.bool false, .slice none 0 0] 31)).alloc (.cells #[.int .i64 2, .int .i64 pl] 33)).cell? ⟨W2.heap.size + 1, 0, none⟩ = some (.int .i64 2) by rw [new_cell (by simp)]; rfl)
          have Q0 := hide (cell_keep kf (cell_keep kn q0))
          have Q1 := hide (cell_keep kf (cell_keep kn q1))
          have VZ := hide ((vz.keep kn).keep kf)
          have BF := hide Bf
          clear nzz vz q0 q1 B2 kn kf Bf hb2 kz hp0 hp1 B1
          go_wp2_with fail
          go_fit (told_fault A _ 1 pb pl (by decide) ((unhide HSE).later (unhide BF)) (unhide Q0) (unhide Q1))
          rintro e W3 ⟨rfl, hb3⟩
          have vz := (unhide VZ).keep hb3
          have d0 := cell_keep hb3 (unhide F0)
          have B3 := below_keep hb3 (unhide BF)
          clear hb3
          have z0 := vz.c0
          have z1 := vz.c1
          go_wp2_with fail
          go_fit (text_near 0 (by decide) (by decide) _ (tab_later (unhide HTAB) B3))
          rintro e W4 ⟨rfl, hb4⟩
          rw [show (⟨(Lib.itoa 0).toArray⟩ : ByteArray) = ⟨#[48]⟩ by rw [itoa_zero]]
          have d0 := cell_keep hb4 d0
          have B4 := below_keep hb4 B3
          clear hb4 vz z0 z1
          go_wp2
          go_ret
          exact ⟨rfl, B4⟩
        · simp only [if_true] at hcode hp1
          subst hcode
          have nzz := Vr.new (w := W1) (N := 1) (Zr.near 1 (z := 0) (by decide) (by decide))
          have vz := nzz.keep hb2
          have q0 := cell_keep (below_keep hb2 kz) hp0
          have q1 := cell_keep (below_keep hb2 kz) hp1
          have B2 := below_keep hb2 (below_keep kz B1)
          have kn := below_new W2 (.cells #[.bool false, .slice none 0 0] 31)
          have kf := below_new (W2.alloc (.cells #[.bool false, .slice none 0 0] 31)) (.cells #[.int .i64 1, .int .i64 pl] 33)
          have Bf := below_keep kf (below_keep kn B2)
          have F0 := hide (show ((W2.alloc (.cells #[.bool false, .slice none 0 0] 31)).alloc (.cells #[.int .i64 1, .int .i64 pl] 33)).cell? ⟨W2.heap.size + 1, 0, none⟩ = some (.int .i64 1) by rw [new_cell (by simp)]; rfl)
          have Q0 := hide (cell_keep kf (cell_keep kn q0))
          have Q1 := hide (cell_keep kf (cell_keep kn q1))
          have VZ := hide ((vz.keep kn).keep kf)
          have BF := hide Bf
          clear nzz vz q0 q1 B2 kn kf Bf hb2 kz hp0 hp1 B1
          go_wp2_with fail
          go_fit (told_fault A _ 0 pb pl (by decide) ((unhide HSE).later (unhide BF)) (unhide Q0) (unhide Q1))
          rintro e W3 ⟨rfl, hb3⟩
          have vz := (unhide VZ).keep hb3
          have d0 := cell_keep hb3 (unhide F0)
          have B3 := below_keep hb3 (unhide BF)
          clear hb3
          have z0 := vz.c0
          have z1 := vz.c1
          go_wp2_with fail
          go_fit (text_near 0 (by decide) (by decide) _ (tab_later (unhide HTAB) B3))
          rintro e W4 ⟨rfl, hb4⟩
          rw [show (⟨(Lib.itoa 0).toArray⟩ : ByteArray) = ⟨#[48]⟩ by rw [itoa_zero]]
          have d0 := cell_keep hb4 d0
          have B4 := below_keep hb4 B3
          clear hb4 vz z0 z1
          go_wp2
          go_ret
          exact ⟨rfl, B4⟩
end Go.Proofs.YtmdmcmkfhmnbeaaGreatDoor
