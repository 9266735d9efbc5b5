/-
  The law RatioOf, walked: for every two texts and every int64 it answers true.
-/
import Derived.Test.YtachnndaoogpeaaGreatDoorMR4
import Derived.Test.YtachnndaoogpeaaGreatDoorMQC
namespace Go.Proofs.YtachnndaoogpeaaGreatDoor
open Go.RowKit

theorem same_lowest {N M : Nat} {w w' : World} {v v' : Value} {p d p' d' z o : Int} (h : Rr N w v p d) (h' : Qr M w' v' p' d') (ho : o ≠ 0) (e : p * o = z * d) (e' : p' * o = z * d') : p' = p ∧ d' = d := by
  obtain ⟨_, _, _, _, _, _, _, _, _, _, _, _, d0, hg, _⟩ := h
  obtain ⟨_, _, _, _, _, _, _, _, _, _, _, d0', hg'⟩ := h'
  exact lowest_one ho e' e d0' d0 hg' hg
set_option maxRecDepth 8000 in
set_option maxHeartbeats 8000000 in
theorem of_law2 (s t : ByteArray) (nn : Int) (w : World) (t1 t2 : TypeId) (p1 p2 : Value) (hs : s.size ≤ maxLen) (ht : t.size ≤ maxLen) (hn0 : -9223372036854775808 ≤ nn) (hn1 : nn ≤ 9223372036854775807) (h1 : w.cell? ⟨0, 0, none⟩ = some (.iface t1 p1)) (h2 : w.cell? ⟨1, 0, none⟩ = some (.iface t2 p2)) (htab : Lib.TabIs Tryz.prog w "internal/strconv.uint64pow10" .u64 Lib.pow10Tab) (hT : Tab64 w) :
    Calls Tryz.prog 6 #[.string s, .string t, .int .i64 nn] w fun e w' => e = .returned (.bool true) ∧ Below w.heap.size w w' := by
  have HS := hide hs
  have HT := hide ht
  have H1 := hide h1
  have H2 := hide h2
  have HTAB := hide htab
  have HT64 := hide hT
  have hss : (s.size : Int) ≤ 9223372036854775807 := by unfold maxLen at hs; omega
  have htt : (t.size : Int) ≤ 9223372036854775807 := by unfold maxLen at ht; omega
  clear hs ht h1 h2 htab hT
  go_enter Tryz.func6, Tryz.ntmps6
  go_wp2_with fail
  go_fit (rint_any nn _ hn0 hn1)
  rintro e Wa ⟨⟨va, rfl, hRa⟩, Ba⟩
  obtain ⟨f1, f2, f3, f4, f5, f6, f7, f8, rfl⟩ := hRa.shape
  have ka := below_new Wa (.cells #[.int .i64 f1, .slice f2 f3 f4, .int .i64 f5, .slice f6 f7 f8] 52)
  have hRa := hRa.later ka
  have Ba := below_keep ka Ba
  clear ka
  go_wp2_with fail
  go_fit (qtext_any _ hRa (by omega) (tab_later (unhide HTAB) Ba))
  rintro e Wb ⟨rfl, Bb⟩
  have Bb := below_keep Bb Ba
  clear hRa Ba
  rw [show qtext nn 1 = ⟨(Lib.itoa nn).toArray⟩ by simp [qtext]]
  go_wp2_with fail
  go_fit (rof_any nn hn0 hn1 _)
  rintro e Wd ⟨⟨vd, rfl, hNd⟩, Bd⟩
  obtain ⟨xd, ad, nd, cd, rfl⟩ := hNd.shape
  have Bd := below_keep Bd Bb
  clear Bb
  go_wp2_with fail
  go_fit (rtext_any _ hNd (by omega))
  rintro e We ⟨rfl, Be⟩
  have B0 := below_keep Be Bd
  clear Be Bd hNd
  go_wp2_with fail
  go_fit (rread_any s _ (unhide HS))
  rintro e W1 ⟨⟨v1, code1, pl1, rfl, hc1⟩, B1⟩
  have B1 := below_keep B1 B0
  clear B0
  obtain ⟨x1, a1, n1, c1, rfl⟩ : ∃ x a n c, v1 = .agg #[.bool x, .slice a n c] := by
    rcases hc1 with ⟨_, _, _, h⟩ | ⟨_, _, _, _, _, h⟩
    · exact h.shape
    · exact ⟨_, _, _, _, h⟩
  have k1 := below_new2 W1 (.cells #[.bool x1, .slice a1 n1 c1] 24) (.cells #[.int .i64 code1, .int .i64 pl1] 26)
  have hf1 : ((W1.alloc (.cells #[.bool x1, .slice a1 n1 c1] 24)).alloc (.cells #[.int .i64 code1, .int .i64 pl1] 26)).cell? ⟨W1.heap.size + 1, 0, none⟩ = some (.int .i64 code1) := by rw [new_cell (by simp)]; rfl
  go_wp2_with fail
  go_fit (rread_any t _ (unhide HT))
  rintro e W2 ⟨⟨v2, code2, pl2, rfl, hc2⟩, B2⟩
  obtain ⟨x2, a2, n2, c2, rfl⟩ : ∃ x a n c, v2 = .agg #[.bool x, .slice a n c] := by
    rcases hc2 with ⟨_, _, _, h⟩ | ⟨_, _, _, _, _, h⟩
    · exact h.shape
    · exact ⟨_, _, _, _, h⟩
  have hf1' := cell_keep B2 hf1
  have l1 : W1.heap.size + 1 < W2.heap.size := World.block_lt_of_cell? W2 _ hf1'
  have BW2 := below_keep B2 (below_keep k1 B1)
  have k2 := below_new2 W2 (.cells #[.bool x2, .slice a2 n2 c2] 24) (.cells #[.int .i64 code2, .int .i64 pl2] 26)
  have hf2 := cell_keep k2 hf1'
  have BW3 := below_keep k2 BW2
  rcases hc1 with ⟨rfl, rfl, hg1, hN1⟩ | ⟨kk, text, hcode, -, -, -⟩
  · rcases hc2 with ⟨rfl, rfl, hg2, hN2⟩ | ⟨kk, text, hcode, -, -, -⟩
    · have hl1 : ¬ (400 : Int) < s.size := by have := digitsOf_near s; have := hg1.2.1; omega
      have hl2 : ¬ (400 : Int) < t.size := by have := digitsOf_near t; have := hg2.2.1; omega
      obtain ⟨z, HZ⟩ : ∃ z, Hid (numOf s = z) := ⟨_, rfl⟩
      obtain ⟨o, HO⟩ : ∃ o, Hid (numOf t = o) := ⟨_, rfl⟩
      rw [show numOf s = z from unhide HZ] at hN1
      rw [show numOf t = o from unhide HO] at hN2
      have HG1 := hide hg1
      have HG2 := hide hg2
      have hA := ((NB.new hN1).keep (below_new _ (.cells #[.int .i64 0, .int .i64 (-1)] 26))).keep B2
      have hA := hA.keep k2
      have hB := (NB.new hN2).keep (below_new _ (.cells #[.int .i64 0, .int .i64 (-1)] 26))
      go_wp2_with fail
      obtain ⟨W3, hW3⟩ : ∃ W3, W3 = (W2.alloc (.cells #[.bool x2, .slice a2 n2 c2] 24)).alloc (.cells #[.int .i64 0, .int .i64 (-1)] 26) := ⟨_, rfl⟩
      rw [← hW3] at hA hB BW3 ⊢
      clear hW3 hf2 hf1' hf1 l1 k2 k1 BW2 B2 B1 hN1 hN2 hg1 hg2
      go_fit (read_any s _ t1 t2 p1 p2 (unhide HS) (cell_keep BW3 (unhide H1)) (cell_keep BW3 (unhide H2)))
      rintro e W4 ⟨⟨v4', rfl, -, hZ4⟩ | ⟨kk, text, bb, rfl, hw, -, -⟩, B4⟩
      · obtain ⟨u3, a3, n3, c3, rfl⟩ := hZ4.shape
        rw [show numOf s = z from unhide HZ] at hZ4
        have hX := Vr.new hZ4
        have k4 := below_new W4 (.cells #[.int .i64 u3, .slice a3 n3 c3] 31)
        have BW4 := below_keep k4 (below_keep B4 BW3)
        have hA := (hA.keep B4).keep k4
        have hB := (hB.keep B4).keep k4
        go_wp2_with fail
        go_fit (read_any t _ t1 t2 p1 p2 (unhide HT) (cell_keep BW4 (unhide H1)) (cell_keep BW4 (unhide H2)))
        rintro e W5 ⟨⟨v5', rfl, -, hZ5⟩ | ⟨kk, text, bb, rfl, hw, -, -⟩, B5⟩
        · obtain ⟨u4, a4, n4, c4, rfl⟩ := hZ5.shape
          rw [show numOf t = o from unhide HO] at hZ5
          have hY := Vr.new hZ5
          have k5 := below_new W5 (.cells #[.int .i64 u4, .slice a4 n4 c4] 31)
          have hA := (hA.keep B5).keep k5
          have hB := (hB.keep B5).keep k5
          have hX := (hX.keep B5).keep k5
          have BW5 := below_keep k5 (below_keep B5 BW4)
          clear k5 k4 B5 B4 BW3 BW4 hZ4 hZ5
          have e1 := hX.c0
          have e2 := hX.c1
          have e3 := hY.c0
          have e4 := hY.c1
          go_wp2_with fail
          obtain ⟨X6, hX6⟩ : ∃ X, X = W5.alloc (.cells #[.int .i64 u4, .slice a4 n4 c4] 31) := ⟨_, rfl⟩
          rw [← hX6] at hA hB hX hY BW5 ⊢
          clear hX6 e1 e2 e3 e4
          go_fit (rof_ratio (N := 15) _ hX.zr hY.zr (by omega) ((unhide HT64).later BW5))
          rintro e W6 ⟨hO, B6⟩
          rcases hO with ⟨ho0, rfl⟩ | ⟨ho0, v6, p, d, rfl, hR6, hpd⟩
          · have k6 := below_new W6 (.cells #[.int .i64 0, .slice none 0 0, .int .i64 0, .slice none 0 0] 52)
            have hB := (hB.keep B6).keep k6
            have BW6 := below_keep k6 (below_keep B6 BW5)
            have e3 := hB.c0
            have e4 := hB.c1
            clear B6 k6 BW5 hA hX hY
            go_wp2_with fail
            obtain ⟨X7, hX7⟩ : ∃ X, X = W6.alloc (.cells #[.int .i64 0, .slice none 0 0, .int .i64 0, .slice none 0 0] 52) := ⟨_, rfl⟩
            have c0 : X7.cell? ⟨W6.heap.size, 0, none⟩ = some (.int .i64 0) := by rw [hX7, new_cell rfl]; rfl
            have c1' : X7.cell? ⟨W6.heap.size, 1, none⟩ = some (.slice none 0 0) := by rw [hX7, new_cell rfl]; rfl
            have c2' : X7.cell? ⟨W6.heap.size, 2, none⟩ = some (.int .i64 0) := by rw [hX7, new_cell rfl]; rfl
            have c3' : X7.cell? ⟨W6.heap.size, 3, none⟩ = some (.slice none 0 0) := by rw [hX7, new_cell rfl]; rfl
            rw [← hX7] at hB BW6 ⊢
            clear hX7 e3 e4
            go_fit (rsign_any _ hB.nr)
            rintro e W7 ⟨rfl, B7⟩
            have BW7 := below_keep B7 BW6
            have c0 := cell_keep B7 c0
            have c1' := cell_keep B7 c1'
            have c2' := cell_keep B7 c2'
            have c3' := cell_keep B7 c3'
            rw [sgn_zero ho0]
            have hit : qtext 0 1 = ⟨#[48]⟩ := by simp [qtext, itoa_zero]
            clear B7 BW6
            go_wp2_with fail
            go_fit (qtext_any (p := 0) (d := 1) (N := 1) _ ⟨_, _, _, _, _, _, _, _, 0, rfl, Zr.near _ (by decide) (by decide), Zr.near _ (by decide) (by decide), by decide, by decide, Or.inl ⟨rfl, rfl⟩⟩ (by omega) (tab_later (unhide HTAB) BW7))
            rintro e W8 ⟨rfl, B8⟩
            rw [hit]
            go_wp2
            go_ret
            exact ⟨rfl, below_keep B8 BW7⟩
          · obtain ⟨g1, g2, g3, g4, g5, g6, g7, g8, rfl⟩ := hR6.shape
            have k6 := below_new W6 (.cells #[.int .i64 g1, .slice g2 g3 g4, .int .i64 g5, .slice g6 g7 g8] 52)
            have hA := (hA.keep B6).keep k6
            have hB := (hB.keep B6).keep k6
            have hR6 := hR6.later k6
            have BW6 := below_keep k6 (below_keep B6 BW5)
            have e3 := hB.c0
            have e4 := hB.c1
            have HPD := hide hpd
            clear B6 k6 BW5 hX hY hpd
            go_wp2_with fail
            obtain ⟨X7, hX7⟩ : ∃ X, X = W6.alloc (.cells #[.int .i64 g1, .slice g2 g3 g4, .int .i64 g5, .slice g6 g7 g8] 52) := ⟨_, rfl⟩
            have c0 : X7.cell? ⟨W6.heap.size, 0, none⟩ = some (.int .i64 g1) := by rw [hX7, new_cell rfl]; rfl
            have c1' : X7.cell? ⟨W6.heap.size, 1, none⟩ = some (.slice g2 g3 g4) := by rw [hX7, new_cell rfl]; rfl
            have c2' : X7.cell? ⟨W6.heap.size, 2, none⟩ = some (.int .i64 g5) := by rw [hX7, new_cell rfl]; rfl
            have c3' : X7.cell? ⟨W6.heap.size, 3, none⟩ = some (.slice g6 g7 g8) := by rw [hX7, new_cell rfl]; rfl
            rw [← hX7] at hA hB hR6 BW6 ⊢
            clear hX7 e3 e4
            go_fit (rsign_any _ hB.nr)
            rintro e W7 ⟨rfl, B7⟩
            have BW7 := below_keep B7 BW6
            have c0 := cell_keep B7 c0
            have c1' := cell_keep B7 c1'
            have c2' := cell_keep B7 c2'
            have c3' := cell_keep B7 c3'
            have hA := hA.keep B7
            have hB := hB.keep B7
            have hR6 := hR6.later B7
            have hsg : (sgn o == 0) = false := by rw [sgn_eq_zero]; simpa using ho0
            have HO0 := hide ho0
            clear B7 BW6 ho0
            go_wp2_with fail
            go_region_held3 (fun w' => Below W7.heap.size W7 w' ∧ w'.cell? ⟨W6.heap.size, 0, none⟩ = some (.int .i64 g1) ∧ w'.cell? ⟨W6.heap.size, 1, none⟩ = some (.slice g2 g3 g4) ∧ w'.cell? ⟨W6.heap.size, 2, none⟩ = some (.int .i64 g5) ∧ w'.cell? ⟨W6.heap.size, 3, none⟩ = some (.slice g6 g7 g8) ∧ w'.cell? ⟨W1.heap.size, 0, none⟩ = some (.bool x1) ∧ w'.cell? ⟨W1.heap.size, 1, none⟩ = some (.slice a1 n1 c1) ∧ w'.cell? ⟨W2.heap.size, 0, none⟩ = some (.bool x2) ∧ w'.cell? ⟨W2.heap.size, 1, none⟩ = some (.slice a2 n2 c2))
              (first | exact ⟨(Below.refl _ _).drew, c0, c1', c2', c3', hA.c0, hA.c1, hB.c0, hB.c1⟩ | exact keepC8 (by assumption) (by assumption))
              (first | (go_at_call 33; go_fit (qtext_any _ (hR6.later (And.left (by assumption))) (by omega) (tab_later (unhide HTAB) (below_keep (And.left (by assumption)) BW7))); rintro e q1 ⟨rfl, hb_1⟩) | (go_at_call 60; go_fit (over_any (N := 75) _ (hA.keep (And.left (by assumption))).nr (hB.keep (And.left (by assumption))).nr (unhide HO0) (by omega)); rintro e q2 ⟨⟨y2, p', d', rfl, hQ2, hpd'⟩, hb_2⟩; obtain ⟨j1, j2, j3, j4, j5, j6, j7, j8, rfl⟩ := hQ2.shape; obtain ⟨rfl, rfl⟩ := same_lowest hR6 hQ2 (unhide HO0) (unhide HPD) hpd'; clear hpd') | (go_at_call 36; go_fit (rqtext_any _ hQ2 (by omega)); rintro e q3 ⟨rfl, hb_3⟩))
            have hfin := below_keep (below_keep hb_3 (below_keep hb_2 (below_keep hb_1 (Below.refl W7.heap.size W7).drew))) BW7
            go_wp2
            go_ret
            exact ⟨rfl, hfin⟩
        · exact absurd hw (fun h => good_no_wrong (unhide HG2) h)
      · exact absurd hw (fun h => good_no_wrong (unhide HG1) h)
    · have hcp : 0 < code2 := by rw [hcode]; split <;> decide
      clear hcode hg1 hN1
      by_cases hl1 : (400 : Int) < s.size
      · go_wp2
        go_ret
        exact ⟨rfl, BW3⟩
      · by_cases hl2 : (400 : Int) < t.size
        · go_wp2
          go_ret
          exact ⟨rfl, BW3⟩
        · go_wp2
          go_ret
          exact ⟨rfl, BW3⟩
  · have hcp : 0 < code1 := by rw [hcode]; split <;> decide
    clear hcode hc2
    by_cases hl1 : (400 : Int) < s.size
    · go_wp2
      go_ret
      exact ⟨rfl, BW3⟩
    · by_cases hl2 : (400 : Int) < t.size
      · go_wp2
        go_ret
        exact ⟨rfl, BW3⟩
      · go_wp2
        go_ret
        exact ⟨rfl, BW3⟩
end Go.Proofs.YtachnndaoogpeaaGreatDoor
