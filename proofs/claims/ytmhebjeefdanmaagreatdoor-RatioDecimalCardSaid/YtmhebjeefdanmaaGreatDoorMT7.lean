/-
  The document's reader of fractions: qread, whole.
-/
import Derived.Test.YtmhebjeefdanmaaGreatDoorMTB
import Derived.Test.YtmhebjeefdanmaaGreatDoorMT5
import Derived.Test.YtmhebjeefdanmaaGreatDoorMT6a1
import Derived.Test.YtmhebjeefdanmaaGreatDoorMT6a2
import Derived.Test.YtmhebjeefdanmaaGreatDoorMT6b
namespace Go.Proofs.YtmhebjeefdanmaaGreatDoor
open Go.RowKit

/-- qread. -/
theorem rqread_core (s : ByteArray) (w : World) (hs : s.size ≤ 9223372036854775807) :
    Calls Tryz.prog 104 #[.string s, .int .i64 300] w fun e w' => QRP s e w' ∧ Below w.heap.size w w' := by
  by_cases h1 : runEnd s (atOf s) = atOf s ∨ atOf s + 300 < runEnd s (atOf s)
  · exact rq_early s w hs h1
  · have h0 := runEnd_ge s _ (atOf s) rfl
    cases h2 : bAt s (runEnd s (atOf s)) 47
    · cases h3 : said s with
      | inl x =>
        by_cases h4 : bAt s (runEnd s (atOf s)) 46 = true ∧ (runEnd s (runEnd s (atOf s) + 1) = runEnd s (atOf s) + 1 ∨ runEnd s (atOf s) + 1 + 300 < runEnd s (runEnd s (atOf s) + 1))
        · exact rq_point_bad s w hs h4 ⟨by omega, by omega, h2⟩
        · exact rq_exp_bad s w hs ⟨⟨x, h3⟩, h4⟩ ⟨by omega, by omega, h2⟩
      | inr x => exact rq_dec_good s w hs ⟨x, h3⟩ ⟨by omega, by omega, h2⟩
    · exact rq_stroke s w hs ⟨by omega, by omega, h2⟩
set_option maxHeartbeats 2000000 in
/-- QRead. -/
theorem rqread_any (s : ByteArray) (w : World) (hs : s.size ≤ 9223372036854775807) :
    Calls Tryz.prog 31 #[.string s] w fun e w' => QRP s e w' ∧ Below w.heap.size w w' := by
  have hst := QK.start w
  go_enter Tryz.func31, Tryz.ntmps31
  go_wp2_with fail
  go_fit (rqread_core s _ hs)
  rintro e W1 ⟨hc, hb1⟩
  have hst1 := hst.keep hb1
  clear hst hb1
  obtain ⟨⟨x0, g0⟩, ⟨a0, n0, c0, g1⟩, ⟨x1, g2⟩, ⟨a1, n1, c1, g3⟩, gf⟩ := hst1.qb.cells
  obtain ⟨⟨y0, k0⟩, ⟨y1, k1⟩, kf⟩ := hst1.fb.cells
  have hlt := hst1.lt
  rcases hc with ⟨c, k, hsd, hc1, hc3, rfl⟩ | ⟨p, q, v, P, D, hsd, hq, rfl, hQ, hE⟩
  · have HSD := hide hsd
    clear hsd
    go_wp2
    obtain ⟨t0, t1, t2, t3, t4, t5, hB⟩ := hst1.out (.bool false) (.slice none 0 0) (.bool false) (.slice none 0 0) (.int .i64 c) (.int .i64 k)
    exact bodyPost_ret (v := .tuple #[.agg #[.bool false, .slice none 0 0, .bool false, .slice none 0 0], .agg #[.int .i64 c, .int .i64 k]]) (by simp [results, Tryz.results31, go_sem, t0, t1, t2, t3, t4, t5]) rfl ⟨Or.inl ⟨c, k, unhide HSD, hc1, hc3, rfl⟩, hB⟩
  · have HSD := hide hsd
    have HE := hide hE
    clear hsd hE
    obtain ⟨i5, i6, i7, i8, i9, i10, i11, i12, rfl, hP3, hD3, D0, hG3⟩ := hQ
    have HG3 := hide hG3
    clear hG3
    go_wp2
    obtain ⟨t0, t1, t2, t3, t4, t5, hB⟩ := hst1.out (.bool i5) (.slice i6 i7 i8) (.bool i9) (.slice i10 i11 i12) (.int .i64 0) (.int .i64 (-1))
    exact bodyPost_ret (v := .tuple #[.agg #[.bool i5, .slice i6 i7 i8, .bool i9, .slice i10 i11 i12], .agg #[.int .i64 0, .int .i64 (-1)]]) (by simp [results, Tryz.results31, go_sem, t0, t1, t2, t3, t4, t5]) rfl ⟨Or.inr ⟨p, q, _, P, D, unhide HSD, hq, rfl, ⟨_, _, _, _, _, _, _, _, rfl, hst1.nr hP3 _ _ _ _ _ _, hst1.nr hD3 _ _ _ _ _ _, D0, unhide HG3⟩, unhide HE⟩, hB⟩
end Go.Proofs.YtmhebjeefdanmaaGreatDoor
