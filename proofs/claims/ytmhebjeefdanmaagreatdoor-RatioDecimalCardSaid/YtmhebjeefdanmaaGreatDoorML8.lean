/-
  The law RatioDecimal, walked: for every text and every number of places it answers true.
-/
import Derived.Test.YtmhebjeefdanmaaGreatDoorMWJ
import Derived.Test.YtmhebjeefdanmaaGreatDoorMDB
import Derived.Test.YtmhebjeefdanmaaGreatDoorMLC
import Derived.Deep.RegionHeld3
namespace Go.Proofs.YtmhebjeefdanmaaGreatDoor
open Go.RowKit

set_option maxHeartbeats 8000000 in
set_option maxRecDepth 8000 in
theorem ratioDecimal_law (A : Nat → Addr) (s : ByteArray) (k : Int) (w : World) (hs : s.size ≤ 9223372036854775807) (h1 : w.cell? ⟨0, 0, none⟩ = some (.iface 234 (.pointer (some (A 0))))) (h2 : w.cell? ⟨1, 0, none⟩ = some (.iface 234 (.pointer (some (A 1))))) (h3 : w.cell? ⟨2, 0, none⟩ = some (.iface 234 (.pointer (some (A 2))))) (htab : Lib.TabIs Tryz.prog w "internal/strconv.uint64pow10" .u64 Lib.pow10Tab) (hT : Tab64 w) :
    Calls Tryz.prog 7 #[.string s, .int .i64 k] w fun e w' => e = .returned (.bool true) ∧ Below w.heap.size w w' := by
  have H123 := hide (And.intro h1 (And.intro h2 h3))
  have HTAB := hide htab
  have HTT := hide hT
  have HSS := hide hs
  have hss : (s.size : Int) ≤ 9223372036854775807 := by omega
  clear h1 h2 h3 htab hT
  go_enter Tryz.func7, Tryz.ntmps7
  go_wp2_with fail
  go_fit (rqread_any s _ (unhide HSS))
  rintro e W1 ⟨hc, B1⟩
  obtain ⟨a1, a2, a3, a4, a5, a6, a7, a8, ac, ap, rfl, HA⟩ := hc.form
  clear hc
  have k1 := below_new W1 (.cells #[.bool a1, .slice a2 a3 a4, .bool a5, .slice a6 a7 a8] 56)
  have k2 := below_new (W1.alloc (.cells #[.bool a1, .slice a2 a3 a4, .bool a5, .slice a6 a7 a8] 56)) (.cells #[.int .i64 ac, .int .i64 ap] 26)
  have ca := hide (c4_keep k2 (c4_new (w := W1) (.bool a1) (.slice a2 a3 a4) (.bool a5) (.slice a6 a7 a8) 56))
  have fa : ((W1.alloc (.cells #[.bool a1, .slice a2 a3 a4, .bool a5, .slice a6 a7 a8] 56)).alloc (.cells #[.int .i64 ac, .int .i64 ap] 26)).cell? ⟨W1.heap.size + 1, 0, none⟩ = some (.int .i64 ac) := by rw [new_cell (by simp)]; rfl
  have KA := hide (below_keep k2 k1)
  have BB := below_keep (below_keep k2 k1) B1
  clear k1 k2 B1
  by_cases hl1 : (400 : Int) < s.size
  · go_wp2
    go_ret
    exact ⟨rfl, BB⟩
  rcases unhide HA with hca | ⟨rfl, p, q, P, D, hsd, hq, hQ, hE⟩
  · go_wp2
    go_ret
    exact ⟨rfl, BB⟩
  have HSD := hide hsd
  have HEE := hide hE
  have HQQ := hide hq
  have qa := hide (hQ.later (unhide KA))
  clear hsd hE hQ hq HA KA
  go_wp2_with fail
  go_fit (qread_any s A _ (unhide HSS) ((unhide HTT).later BB) (cell_keep BB (unhide H123).1) (cell_keep BB (unhide H123).2.1) (cell_keep BB (unhide H123).2.2))
  rintro e W3 ⟨hc, hb3⟩
  obtain ⟨v, P1, D1, rfl, hR, hE⟩ := hc.good (unhide HSD)
  obtain ⟨hp1, hd1⟩ := same_lowest hR (unhide qa) (Int.ne_of_gt (unhide HQQ)) hE (unhide HEE)
  subst hp1 hd1
  clear hc hE fa
  obtain ⟨x1, x2, x3, x4, x5, x6, x7, x8, rfl⟩ := hR.shape
  have kn := below_new W3 (.cells #[.int .i64 x1, .slice x2 x3 x4, .int .i64 x5, .slice x6 x7 x8] 52)
  have kk := below_keep kn hb3
  have BB := below_keep kk BB
  have ca := hide (c4_keep kk (unhide ca))
  have qa := hide ((unhide qa).later kk)
  have rx := hide (hR.later kn)
  have cx := hide (c4_new (w := W3) (.int .i64 x1) (.slice x2 x3 x4) (.int .i64 x5) (.slice x6 x7 x8) 52)
  clear kn kk hb3 hR HSD HEE HQQ H123 HSS
  go_upto_region 5 with fail
  obtain ⟨V3, hV3⟩ : ∃ X, X = W3.alloc (.cells #[.int .i64 x1, .slice x2 x3 x4, .int .i64 x5, .slice x6 x7 x8] 52) := ⟨_, rfl⟩
  rw [← hV3] at BB ca qa rx cx ⊢
  clear hV3
  obtain ⟨ST, HST⟩ : ∃ S, Hid (decimal P D (plc k) = S) := ⟨_, rfl⟩
  obtain ⟨p0, p1, p2, p3⟩ := unhide cx
  obtain ⟨r0, r1, r2, r3⟩ := unhide ca
  have S0 := hide (show Below w.heap.size w V3.drew ∧ V3.drew.cell? ⟨W3.heap.size, 0, none⟩ = some (.int .i64 x1) ∧ V3.drew.cell? ⟨W3.heap.size, 1, none⟩ = some (.slice x2 x3 x4) ∧ V3.drew.cell? ⟨W3.heap.size, 2, none⟩ = some (.int .i64 x5) ∧ V3.drew.cell? ⟨W3.heap.size, 3, none⟩ = some (.slice x6 x7 x8) ∧ V3.drew.cell? ⟨W1.heap.size, 0, none⟩ = some (.bool a1) ∧ V3.drew.cell? ⟨W1.heap.size, 1, none⟩ = some (.slice a2 a3 a4) ∧ V3.drew.cell? ⟨W1.heap.size, 2, none⟩ = some (.bool a5) ∧ V3.drew.cell? ⟨W1.heap.size, 3, none⟩ = some (.slice a6 a7 a8) from ⟨BB.drew, p0, p1, p2, p3, r0, r1, r2, r3⟩)
  go_region_held3 (fun w' => Below w.heap.size w w' ∧ w'.cell? ⟨W3.heap.size, 0, none⟩ = some (.int .i64 x1) ∧ w'.cell? ⟨W3.heap.size, 1, none⟩ = some (.slice x2 x3 x4) ∧ w'.cell? ⟨W3.heap.size, 2, none⟩ = some (.int .i64 x5) ∧ w'.cell? ⟨W3.heap.size, 3, none⟩ = some (.slice x6 x7 x8) ∧ w'.cell? ⟨W1.heap.size, 0, none⟩ = some (.bool a1) ∧ w'.cell? ⟨W1.heap.size, 1, none⟩ = some (.slice a2 a3 a4) ∧ w'.cell? ⟨W1.heap.size, 2, none⟩ = some (.bool a5) ∧ w'.cell? ⟨W1.heap.size, 3, none⟩ = some (.slice a6 a7 a8))
    (first | with_reducible exact unhide S2 | with_reducible exact unhide S1 | with_reducible exact unhide S0)
    (first
      | (go_at_call 61; go_fit (qdecimal_any (N := 77) k V3.drew (show Rr _ V3.drew _ _ _ from unhide rx) (by omega) (tab_later (unhide HTAB) BB.drew)); rintro e9 Y1 ⟨rfl, hb⟩; rw [unhide HST]; have S1 := hide (keep8 hb (unhide S0)); have qa := hide (Qr.later (w := V3.drew) (unhide qa) hb); clear hb)
      | (go_at_call 62; go_fit (rdecimal_any (N := 362) k _ (unhide qa) (by omega)); rintro e9 Y2 ⟨rfl, hb⟩; rw [unhide HST]; have S2 := hide (keep8 hb (unhide S1)); clear hb))
  have hB := (unhide S2).1
  go_wp2
  go_ret
  exact ⟨rfl, hB⟩
end Go.Proofs.YtmhebjeefdanmaaGreatDoor
