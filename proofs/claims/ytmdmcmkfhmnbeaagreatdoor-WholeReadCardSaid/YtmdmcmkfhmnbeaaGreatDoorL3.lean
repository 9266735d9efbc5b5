/-
  The law WholeRead, walked: for every text it answers true.
-/
import Derived.Test.YtmdmcmkfhmnbeaaGreatDoorL2
namespace Go.Proofs.YtmdmcmkfhmnbeaaGreatDoor
open Go.RowKit

/-- A number of the document's in its box. -/
structure Nw (w : World) (b : Nat) (x : Bool) (a : Option Addr) (n c N : Nat) (z : Int) : Prop where
  c0 : w.cell? ⟨b, 0, none⟩ = some (.bool x)
  c1 : w.cell? ⟨b, 1, none⟩ = some (.slice a n c)
  nr : Nr N w (.agg #[.bool x, .slice a n c]) z
theorem Nw.lt {w : World} {b : Nat} {x : Bool} {a : Option Addr} {n c N : Nat} {z : Int} (h : Nw w b x a n c N z) : b < w.heap.size := World.block_lt_of_cell? w _ h.c0
theorem Nw.keep {w w1 : World} {b : Nat} {x : Bool} {a : Option Addr} {n c N : Nat} {z : Int} (h : Nw w b x a n c N z) (hb : Below w.heap.size w w1) : Nw w1 b x a n c N z := ⟨cell_keep hb h.c0, cell_keep hb h.c1, h.nr.later hb⟩
theorem Nw.new {w : World} {x : Bool} {a : Option Addr} {n c N : Nat} {z : Int} (h : Nr N w (.agg #[.bool x, .slice a n c]) z) : Nw (w.alloc (.cells #[.bool x, .slice a n c] 31)) w.heap.size x a n c N z :=
  ⟨by rw [new_cell rfl]; rfl, by rw [new_cell rfl]; rfl, h.later (below_new w _)⟩

set_option maxRecDepth 4000 in
set_option maxHeartbeats 4000000 in
theorem read_law (A : Nat → Addr) (s : ByteArray) (w : World) (hs : s.size ≤ maxLen) (hS : Sents w A) (htab : Lib.TabIs Tryz.prog w "internal/strconv.uint64pow10" .u64 Lib.pow10Tab) :
    Calls Tryz.prog 3 #[.string s] w fun e w' => e = .returned (.bool true) ∧ Below w.heap.size w w' := by
  have HS := hide hs
  have HSE := hide hS
  have HTAB := hide htab
  clear hs hS htab
  go_enter Tryz.func3, Tryz.ntmps3
  by_cases hlong : (400 : Int) < s.size
  · go_wp2
    go_ret
    exact ⟨rfl, Below.refl _ _⟩
  · go_wp2_with fail
    go_fit (read_any s _ _ _ _ _ (unhide HS) (unhide HSE).h0 (unhide HSE).h1)
    rintro e W1 ⟨⟨v1, rfl, hg, hZ1⟩ | ⟨k, text, pb, rfl, hw, hp0, hp1⟩, B1⟩
    · obtain ⟨u1, a1, n1, c1, hv1⟩ := hZ1.shape
      subst hv1
      obtain ⟨Z, HZ⟩ : ∃ Z, Hid (numOf s = Z) := ⟨_, rfl⟩
      rw [show numOf s = Z from unhide HZ] at hZ1
      have nz := Vr.new hZ1
      have kz := below_new W1 (.cells #[.int .i64 u1, .slice a1 n1 c1] 24)
      have HG := hide hg
      clear hg
      go_wp2_with fail
      go_fit (rread_any s _ (unhide HS))
      rintro e W2 ⟨⟨v2, code, pl, rfl, hc⟩, hb2⟩
      have vz := nz.keep hb2
      have B2 := below_keep hb2 (below_keep kz B1)
      clear nz kz hb2 hZ1
      rcases hc with ⟨rfl, rfl, _, hN2⟩ | ⟨k, text, _, _, hw, _⟩
      · obtain ⟨x2, a2, n2, c2, hv2⟩ := hN2.shape
        subst hv2
        rw [show numOf s = Z from unhide HZ] at hN2
        have nn := Nw.new hN2
        have kn := below_new W2 (.cells #[.bool x2, .slice a2 n2 c2] 31)
        have kf := below_new (W2.alloc (.cells #[.bool x2, .slice a2 n2 c2] 31)) (.cells #[.int .i64 0, .int .i64 (-1)] 33)
        have f0 : ((W2.alloc (.cells #[.bool x2, .slice a2 n2 c2] 31)).alloc (.cells #[.int .i64 0, .int .i64 (-1)] 33)).cell? ⟨W2.heap.size + 1, 0, none⟩ = some (.int .i64 0) := by rw [new_cell (by simp)]; rfl
        have F0 := hide f0
        have KN := hide kn
        have KF := hide kf
        clear hN2 f0 kn kf
        go_wp2_with fail
        go_fit (told_nil (-1) _)
        rintro e W3 ⟨rfl, hb3⟩
        have vz := ((vz.keep (unhide KN)).keep (unhide KF)).keep hb3
        have vn := (nn.keep (unhide KF)).keep hb3
        have d0 := cell_keep hb3 (unhide F0)
        have B3 := below_keep hb3 (below_keep (unhide KF) (below_keep (unhide KN) B2))
        clear hb3 nn
        have z0 := vz.c0
        have z1 := vz.c1
        go_wp2_with fail
        go_fit (text_any _ vz.zr (by omega) (tab_later (unhide HTAB) B3))
        rintro e W4 ⟨rfl, hb4⟩
        obtain ⟨S, HSS⟩ : ∃ S, Hid ((⟨(Lib.itoa Z).toArray⟩ : ByteArray) = S) := ⟨_, rfl⟩
        rw [unhide HSS]
        have GN : Hid (Good (digitsOf S) ∧ numOf S = Z) := by rw [← unhide HSS]; exact itoa_good (unhide HG) (unhide HZ)
        have hSl : S.size ≤ 301 := by have := (unhide GN).1.2.1; have := digitsOf_len S; have : atOf S ≤ 1 := by unfold atOf; split <;> omega
                                      omega
        have vn := vn.keep hb4
        have d0 := cell_keep hb4 d0
        have B4 := below_keep hb4 B3
        clear hb4 vz z0 z1
        have HSL : Hid (S.size ≤ maxLen) := by show _ ≤ _; unfold maxLen; omega
        go_wp2_with fail
        go_fit (read_any S _ _ _ _ _ (unhide HSL) ((unhide HSE).later B4).h0 ((unhide HSE).later B4).h1)
        rintro e W5 ⟨⟨v5, rfl, _, hZ5⟩ | ⟨k, text, pb, rfl, hw, _, _⟩, hb5⟩
        · obtain ⟨u5, a5, n5, c5, hv5⟩ := hZ5.shape
          subst hv5
          rw [(unhide GN).2] at hZ5
          have vn := vn.keep hb5
          have B5 := below_keep hb5 B4
          have nb := Vr.new hZ5
          have kb := below_new W5 (.cells #[.int .i64 u5, .slice a5 n5 c5] 24)
          clear hb5 hZ5
          have n0 := vn.c0
          have nl := vn.lt
          go_wp2_with fail
          go_fit (text_any _ nb.zr (by omega) (tab_later (unhide HTAB) (below_keep kb B5)))
          rintro e W6 ⟨rfl, hb6⟩
          rw [unhide HSS]
          have vn := (vn.keep kb).keep hb6
          have B6 := below_keep hb6 (below_keep kb B5)
          clear hb6 nb kb n0 nl
          have n0 := vn.c0
          have n1 := vn.c1
          go_wp2_with fail
          go_fit (rtext_any _ vn.nr (by omega))
          rintro e W7 ⟨rfl, hb7⟩
          rw [unhide HSS]
          have B7 := below_keep hb7 B6
          clear hb7
          go_wp2
          go_ret
          exact ⟨rfl, B7⟩
        · exact (read_bad (unhide GN).1 hw).elim
      · exact (read_bad (unhide HG) hw).elim
    · have hpl : (((s.size - (digitsOf s).size : Nat) : Int) + k) = (atOf s : Int) + k := by
        have h1 := digitsOf_len s
        have h2 := atOf_le s
        omega
      rw [hpl] at hp0
      obtain ⟨P, HP⟩ : ∃ P, Hid ((atOf s : Int) + k = P) := ⟨_, rfl⟩
      rw [show (atOf s : Int) + k = P from unhide HP] at hp0
      have kz := below_new W1 (.cells #[.int .i64 0, .slice none 0 0] 24)
      have HWR := hide hw
      clear hw hpl
      go_wp2_with fail
      go_fit (rread_any s _ (unhide HS))
      rintro e W2 ⟨⟨v2, code, pl, rfl, hc⟩, hb2⟩
      rcases hc with ⟨_, _, hg, _⟩ | ⟨k', text', hcode, hpl, hw', rfl⟩
      · exact (read_bad hg (unhide HWR)).elim
      · obtain ⟨rfl, rfl⟩ := wrong_one_place (unhide HWR) hw'
        rw [show (atOf s : Int) + k = P from unhide HP] at hpl
        obtain rfl : pl = P := hpl
        clear hw'
        cases text
        · simp only [Bool.false_eq_true, if_false] at hcode hp1
          subst hcode
          have nzz := Vr.new (w := W1) (N := 1) (Zr.near 1 (z := 0) (by decide) (by decide))
          have vz := nzz.keep hb2
          have q0 := cell_keep (below_keep hb2 kz) hp0
          have q1 := cell_keep (below_keep hb2 kz) hp1
          have B2 := below_keep hb2 (below_keep kz B1)
          have kn := below_new W2 (.cells #[.bool false, .slice none 0 0] 31)
          have kf := below_new (W2.alloc (.cells #[.bool false, .slice none 0 0] 31)) (.cells #[.int .i64 2, .int .i64 pl] 33)
          have Bf := below_keep kf (below_keep kn B2)
          have F0 := hide (show ((W2.alloc (.cells #[.bool false, .slice none 0 0] 31)).alloc (.cells #[.int .i64 2, .int .i64 pl] 33)).cell? ⟨W2.heap.size + 1, 0, none⟩ = some (.int .i64 2) by rw [new_cell (by simp)]; rfl)
          have Q0 := hide (cell_keep kf (cell_keep kn q0))
          have Q1 := hide (cell_keep kf (cell_keep kn q1))
          have VZ := hide ((vz.keep kn).keep kf)
          have BF := hide Bf
          clear nzz vz q0 q1 B2 kn kf Bf hb2 kz hp0 hp1 B1
          go_wp2_with fail
          go_fit (told_fault A _ 1 pb pl (by decide) ((unhide HSE).later (unhide BF)) (unhide Q0) (unhide Q1))
          rintro e W3 ⟨rfl, hb3⟩
          have vz := (unhide VZ).keep hb3
          have d0 := cell_keep hb3 (unhide F0)
          have B3 := below_keep hb3 (unhide BF)
          clear hb3
          have z0 := vz.c0
          have z1 := vz.c1
          go_wp2_with fail
          go_fit (text_near 0 (by decide) (by decide) _ (tab_later (unhide HTAB) B3))
          rintro e W4 ⟨rfl, hb4⟩
          rw [show (⟨(Lib.itoa 0).toArray⟩ : ByteArray) = ⟨#[48]⟩ by rw [itoa_zero]]
          have d0 := cell_keep hb4 d0
          have B4 := below_keep hb4 B3
          clear hb4 vz z0 z1
          go_wp2
          go_ret
          exact ⟨rfl, B4⟩
        · simp only [if_true] at hcode hp1
          subst hcode
          have nzz := Vr.new (w := W1) (N := 1) (Zr.near 1 (z := 0) (by decide) (by decide))
          have vz := nzz.keep hb2
          have q0 := cell_keep (below_keep hb2 kz) hp0
          have q1 := cell_keep (below_keep hb2 kz) hp1
          have B2 := below_keep hb2 (below_keep kz B1)
          have kn := below_new W2 (.cells #[.bool false, .slice none 0 0] 31)
          have kf := below_new (W2.alloc (.cells #[.bool false, .slice none 0 0] 31)) (.cells #[.int .i64 1, .int .i64 pl] 33)
          have Bf := below_keep kf (below_keep kn B2)
          have F0 := hide (show ((W2.alloc (.cells #[.bool false, .slice none 0 0] 31)).alloc (.cells #[.int .i64 1, .int .i64 pl] 33)).cell? ⟨W2.heap.size + 1, 0, none⟩ = some (.int .i64 1) by rw [new_cell (by simp)]; rfl)
          have Q0 := hide (cell_keep kf (cell_keep kn q0))
          have Q1 := hide (cell_keep kf (cell_keep kn q1))
          have VZ := hide ((vz.keep kn).keep kf)
          have BF := hide Bf
          clear nzz vz q0 q1 B2 kn kf Bf hb2 kz hp0 hp1 B1
          go_wp2_with fail
          go_fit (told_fault A _ 0 pb pl (by decide) ((unhide HSE).later (unhide BF)) (unhide Q0) (unhide Q1))
          rintro e W3 ⟨rfl, hb3⟩
          have vz := (unhide VZ).keep hb3
          have d0 := cell_keep hb3 (unhide F0)
          have B3 := below_keep hb3 (unhide BF)
          clear hb3
          have z0 := vz.c0
          have z1 := vz.c1
          go_wp2_with fail
          go_fit (text_near 0 (by decide) (by decide) _ (tab_later (unhide HTAB) B3))
          rintro e W4 ⟨rfl, hb4⟩
          rw [show (⟨(Lib.itoa 0).toArray⟩ : ByteArray) = ⟨#[48]⟩ by rw [itoa_zero]]
          have d0 := cell_keep hb4 d0
          have B4 := below_keep hb4 B3
          clear hb4 vz z0 z1
          go_wp2
          go_ret
          exact ⟨rfl, B4⟩
end Go.Proofs.YtmdmcmkfhmnbeaaGreatDoor
