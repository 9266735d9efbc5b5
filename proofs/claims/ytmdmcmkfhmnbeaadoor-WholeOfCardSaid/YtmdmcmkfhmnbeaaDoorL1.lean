/-
  The law WholeOf, walked: for every int64 and every text it answers true.
-/
import Derived.Test.YtmdmcmkfhmnbeaaDoorR11
import Derived.Test.YtmdmcmkfhmnbeaaDoorW30
namespace Go.Proofs.YtmdmcmkfhmnbeaaDoor
open Go.RowKit

theorem good_not_wrong {d : ByteArray} {k : Nat} {text : Bool} (hg : Good d) (hw : Wrong d k text) : False := by
  obtain ⟨g1, g2, g3⟩ := hg
  rcases hw with ⟨h, _, _⟩ | ⟨h, h3, _, ⟨_, h5⟩ | ⟨_, h5, _⟩⟩
  · omega
  · exact h5 (g3 k h)
  · omega

theorem Box.gb {w : World} {r : Nat} (h : Box w r) : GB w r 28 := by
  obtain ⟨x, a, n, c, h⟩ := h
  exact ⟨_, _, h⟩
theorem Nv.other {w : World} {b q : Nat} {x : Bool} {a : Option Addr} {n c N : Nat} {z : Int} {T : TypeId} (h : Nv w b x a n c N z) (hq : GB w q T) (hT : T ≠ 3) (hne : b ≠ q) (u u' : Value) : Nv ((w.setCell ⟨q, 0, none⟩ u).setCell ⟨q, 1, none⟩ u') b x a n c N z :=
  ⟨by rw [cell?_setCell_ne _ _ _ _ _ _ (by omega), cell?_setCell_ne _ _ _ _ _ _ (by omega)]; exact h.c0, by rw [cell?_setCell_ne _ _ _ _ _ _ (by omega), cell?_setCell_ne _ _ _ _ _ _ (by omega)]; exact h.c1, h.nr.gb hq hT _ _⟩

set_option maxRecDepth 4000 in
set_option maxHeartbeats 4000000 in
theorem of_law (n : Int) (s : ByteArray) (w : World) (t1 t2 : TypeId) (p1 p2 : Value) (hn0 : -9223372036854775808 ≤ n) (hn1 : n ≤ 9223372036854775807) (hs : s.size ≤ maxLen) (h1 : w.cell? ⟨0, 0, none⟩ = some (.iface t1 p1)) (h2 : w.cell? ⟨2, 0, none⟩ = some (.iface t2 p2)) (htab : Lib.TabIs Tryd.prog w "internal/strconv.uint64pow10" .u64 Lib.pow10Tab) :
    Calls Tryd.prog 4 #[.int .i64 n, .string s] w fun e w' => e = .returned (.bool true) ∧ Below w.heap.size w w' := by
  have HS := hide hs
  have H1 := hide h1
  have H2 := hide h2
  have HTAB := hide htab
  obtain ⟨S, HSS⟩ : ∃ S, Hid ((⟨(Lib.itoa n).toArray⟩ : ByteArray) = S) := ⟨_, rfl⟩
  clear hs h1 h2 htab
  go_enter Tryd.func4, Tryd.ntmps4
  go_wp2_with fail
  go_fit (of_any n _)
  rintro e W1 ⟨rfl, B1⟩
  have nz := Vr.new (w := W1) (N := 1) (Zr.near 1 (z := n) hn0 hn1)
  have kz := below_new W1 (.cells #[.int .i64 n, .slice none 0 0] 28)
  go_wp2_with fail
  go_fit (text_near n hn0 hn1 _ (tab_later (unhide HTAB) (below_keep kz B1)))
  rintro e W2 ⟨rfl, hb2⟩
  rw [unhide HSS]
  have vz := nz.keep hb2
  have B2 := below_keep hb2 (below_keep kz B1)
  clear nz kz hb2
  have z0 := vz.c0
  have z1 := vz.c1
  go_wp2_with fail
  go_fit (int64_near n _)
  rintro e W3 ⟨rfl, hb3⟩
  have vz := vz.keep hb3
  have B3 := below_keep hb3 B2
  clear hb3 B2 z0 z1
  go_wp2_with fail
  go_fit (rof_any n hn0 hn1 _)
  rintro e W4 ⟨⟨u4, rfl, hN4⟩, hb4⟩
  have vz := vz.keep hb4
  have B4 := below_keep hb4 B3
  clear hb4 B3
  go_wp2_with fail
  go_fit (rtext_any _ hN4 (by omega))
  rintro e W5 ⟨rfl, hb5⟩
  rw [unhide HSS]
  have vz := vz.keep hb5
  have B5 := below_keep hb5 B4
  clear hb5 B4 hN4
  go_wp2_with fail
  go_fit (rread_any s _ (unhide HS))
  rintro e W6 ⟨⟨v6, code, pl, rfl, hc⟩, hb6⟩
  have vz := vz.keep hb6
  have B6 := below_keep hb6 B5
  clear hb6 B5
  rcases hc with ⟨rfl, rfl, hg, hN6⟩ | ⟨k, text, hcode, -, -, rfl⟩
  · obtain ⟨x6, a6, n6, c6, hv6⟩ := hN6.shape
    subst hv6
    have hsz : s.size ≤ 301 := by have := digitsOf_near s; have := hg.2.1; omega
    have l4 : ¬ (400 : Int) < s.size := by omega
    have HG := hide hg
    clear hg hsz
    have na := Nv.new hN6
    have ka := below_new W6 (.cells #[.bool x6, .slice a6 n6 c6] 36)
    have kf := below_new (W6.alloc (.cells #[.bool x6, .slice a6 n6 c6] 36)) (.cells #[.int .i64 0, .int .i64 (-1)] 39)
    have Bf := below_keep kf (below_keep ka B6)
    go_wp2_with fail
    go_fit (read_any s _ t1 t2 p1 p2 (unhide HS) (cell_keep Bf (unhide H1)) (cell_keep Bf (unhide H2)))
    rintro e W7 ⟨⟨v7, rfl, _, hZ7⟩ | ⟨k, text, b, rfl, hw, _, _⟩, hb7⟩
    · obtain ⟨u7, a7, n7, c7, hv7⟩ := hZ7.shape
      subst hv7
      obtain ⟨Z, HZ⟩ : ∃ Z, Hid (numOf s = Z) := ⟨_, rfl⟩
      rw [unhide HZ] at hZ7
      have va := (na.keep kf).keep hb7
      rw [unhide HZ] at va
      have vz7 := ((vz.keep ka).keep kf).keep hb7
      have B7 := below_keep hb7 Bf
      have zl := vz.lt
      have wl : w.heap.size ≤ W1.heap.size := B1.size
      have vz' := vz7.store hZ7
      have va' := va.other vz7.box.gb (by decide) (by omega) (.int .i64 u7) (.slice a7 n7 c7)
      have B7' := below_stored B7 wl (.int .i64 u7) (.slice a7 n7 c7)
      clear hb7 na ka kf Bf hN6 vz B6
      have z0 := vz7.c0
      have z1 := vz7.c1
      have zf := vz7.frozen
      have zl7 := vz7.lt
      go_wp2_with fail
      go_fit (int64_any _ vz'.zr)
      rintro e W8 ⟨⟨i0, i1, rfl⟩ | ⟨ho, rfl⟩, hb8⟩
      · have va8 := va'.keep hb8
        have B8 := below_keep hb8 B7'
        have HD : Hid (decide (-9223372036854775808 ≤ Z ∧ Z ≤ 9223372036854775807) = true) := by show _ = _; simp; omega
        clear hb8 va va' vz7 vz' hZ7 B7 B7' z0 z1 zf zl7
        have a0 := va8.c0
        have a1 := va8.c1
        go_wp2_with fail
        go_fit (rfits_any _ va8.nr (by omega))
        rintro e W9 ⟨rfl, hb9⟩
        rw [unhide HD]
        have va9 := va8.keep hb9
        have B9 := below_keep hb9 B8
        clear hb9 va8 B8 a0 a1
        go_wp2_with fail
        go_fit (rof_any Z i0 i1 _)
        rintro e W10 ⟨⟨u10, rfl, hN10⟩, hb10⟩
        have va10 := va9.keep hb10
        have B10 := below_keep hb10 B9
        clear hb10 va9 B9
        go_wp2_with fail
        go_fit (rtext_any _ hN10 (by omega))
        rintro e W11 ⟨rfl, hb11⟩
        obtain ⟨SZ, HSZ⟩ : ∃ S, Hid ((⟨(Lib.itoa Z).toArray⟩ : ByteArray) = S) := ⟨_, rfl⟩
        rw [unhide HSZ]
        have va11 := va10.keep hb11
        have B11 := below_keep hb11 B10
        clear hb11 va10 B10 hN10
        have a0 := va11.c0
        have a1 := va11.c1
        go_wp2_with fail
        go_fit (rtext_any _ va11.nr (by omega))
        rintro e W12 ⟨rfl, hb12⟩
        rw [unhide HSZ]
        have B12 := below_keep hb12 B11
        go_wp2
        go_ret
        exact ⟨rfl, B12⟩
      · have va8 := va'.keep hb8
        have B8 := below_keep hb8 B7'
        have HD : Hid (decide (-9223372036854775808 ≤ Z ∧ Z ≤ 9223372036854775807) = false) := by show _ = _; simp only [decide_eq_false_iff_not]; omega
        clear hb8 va va' vz7 vz' hZ7 B7 B7' z0 z1 zf zl7 ho
        have a0 := va8.c0
        have a1 := va8.c1
        go_wp2_with fail
        go_fit (rfits_any _ va8.nr (by omega))
        rintro e W9 ⟨rfl, hb9⟩
        rw [unhide HD]
        have B9 := below_keep hb9 B8
        go_wp2
        go_ret
        exact ⟨rfl, B9⟩
    · exact (good_not_wrong (unhide HG) hw).elim
  · have hcp : (0 : Int) < code := by cases text <;> simp_all
    clear hcode
    have B8 := below_keep (below_new (W6.alloc (.cells #[.bool false, .slice none 0 0] 36)) (.cells #[.int .i64 code, .int .i64 pl] 39)) (below_keep (below_new W6 (.cells #[.bool false, .slice none 0 0] 36)) B6)
    go_wp2
    all_goals go_ret
    all_goals exact ⟨rfl, B8⟩
end Go.Proofs.YtmdmcmkfhmnbeaaDoor
