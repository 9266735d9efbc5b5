/-
  The law RatioSums, walked: for every two texts it answers true.
-/
import Derived.Test.YtmhebjeefdanmaaGreatDoorMWJ
import Derived.Test.YtmhebjeefdanmaaGreatDoorMQC
import Derived.Test.YtmhebjeefdanmaaGreatDoorMQF
import Derived.Test.YtmhebjeefdanmaaGreatDoorMT7
import Derived.Test.YtmhebjeefdanmaaGreatDoorMQ21
import Derived.Test.YtmhebjeefdanmaaGreatDoorMS9
import Derived.Deep.RegionHeld3
namespace Go.Proofs.YtmhebjeefdanmaaGreatDoor
open Go.RowKit

theorem rsum_zero (N : Nat) (w : World) : Rr N w (.agg #[.int .i64 0, .slice none 0 0, .int .i64 0, .slice none 0 0]) 0 1 :=
  ⟨0, none, 0, 0, 0, none, 0, 0, 0, rfl, Zr.near _ (by decide) (by decide), Zr.near _ (by decide) (by decide), by decide, by decide, Or.inl ⟨rfl, rfl⟩⟩
theorem qtext_nought : qtext 0 1 = ⟨#[48]⟩ := by unfold qtext; rw [if_pos rfl, itoa_zero]
/-- What the document's reader answers, in one form. -/
theorem QRP.form {s : ByteArray} {e : Ending} {w' : World} (h : QRP s e w') : ∃ j1 j2 j3 j4 j5 j6 j7 j8 code pl, e = .returned (.tuple #[.agg #[.bool j1, .slice j2 j3 j4, .bool j5, .slice j6 j7 j8], .agg #[.int .i64 code, .int .i64 pl]]) ∧
    Hid (0 < code ∨ (code = 0 ∧ ∃ p q P D, said s = .inr (p, q) ∧ 0 < q ∧ Qr 362 w' (.agg #[.bool j1, .slice j2 j3 j4, .bool j5, .slice j6 j7 j8]) P D ∧ P * q = p * D)) := by
  rcases h with ⟨c, k, hs, c1, c3, rfl⟩ | ⟨p, q, v, P, D, hs, hq, rfl, hQ, hE⟩
  · exact ⟨_, _, _, _, _, _, _, _, _, _, rfl, Or.inl (by omega)⟩
  · have hQ0 := hQ
    obtain ⟨j1, j2, j3, j4, j5, j6, j7, j8, rfl, _⟩ := hQ
    exact ⟨_, _, _, _, _, _, _, _, _, _, rfl, Or.inr ⟨rfl, p, q, P, D, hs, hq, hQ0, hE⟩⟩
/-- What the program's reader answers to a text that says a number. -/
theorem RdP.good {s : ByteArray} {A : Nat → Addr} {e : Ending} {w' : World} {p q : Int} (h : RdP s A e w') (hs : said s = .inr (p, q)) : ∃ v P D, e = .returned (.tuple #[v, .nilIface]) ∧ Rr 78 w' v P D ∧ P * q = p * D := by
  rcases h with ⟨c, k, pb, h, _⟩ | ⟨p', q', v, P, D, h, _, he, hR, hE⟩
  · rw [hs] at h; exact absurd h (by simp)
  · rw [hs] at h
    obtain ⟨rfl, rfl⟩ : p = p' ∧ q = q' := by simpa using h
    exact ⟨v, P, D, he, hR, hE⟩

theorem kc16 {w w1 w2 : World} {b0 b1 b2 b3 b4 b5 b6 b7 b8 b9 b10 b11 b12 b13 b14 b15 o0 o1 o2 o3 o4 o5 o6 o7 o8 o9 o10 o11 o12 o13 o14 o15 : Nat} {v0 v1 v2 v3 v4 v5 v6 v7 v8 v9 v10 v11 v12 v13 v14 v15 : Value} (hb : Below w1.heap.size w1 w2) (h : Below w.heap.size w w1 ∧ w1.cell? ⟨b0, o0, none⟩ = some v0 ∧ w1.cell? ⟨b1, o1, none⟩ = some v1 ∧ w1.cell? ⟨b2, o2, none⟩ = some v2 ∧ w1.cell? ⟨b3, o3, none⟩ = some v3 ∧ w1.cell? ⟨b4, o4, none⟩ = some v4 ∧ w1.cell? ⟨b5, o5, none⟩ = some v5 ∧ w1.cell? ⟨b6, o6, none⟩ = some v6 ∧ w1.cell? ⟨b7, o7, none⟩ = some v7 ∧ w1.cell? ⟨b8, o8, none⟩ = some v8 ∧ w1.cell? ⟨b9, o9, none⟩ = some v9 ∧ w1.cell? ⟨b10, o10, none⟩ = some v10 ∧ w1.cell? ⟨b11, o11, none⟩ = some v11 ∧ w1.cell? ⟨b12, o12, none⟩ = some v12 ∧ w1.cell? ⟨b13, o13, none⟩ = some v13 ∧ w1.cell? ⟨b14, o14, none⟩ = some v14 ∧ w1.cell? ⟨b15, o15, none⟩ = some v15) : Below w.heap.size w w2 ∧ w2.cell? ⟨b0, o0, none⟩ = some v0 ∧ w2.cell? ⟨b1, o1, none⟩ = some v1 ∧ w2.cell? ⟨b2, o2, none⟩ = some v2 ∧ w2.cell? ⟨b3, o3, none⟩ = some v3 ∧ w2.cell? ⟨b4, o4, none⟩ = some v4 ∧ w2.cell? ⟨b5, o5, none⟩ = some v5 ∧ w2.cell? ⟨b6, o6, none⟩ = some v6 ∧ w2.cell? ⟨b7, o7, none⟩ = some v7 ∧ w2.cell? ⟨b8, o8, none⟩ = some v8 ∧ w2.cell? ⟨b9, o9, none⟩ = some v9 ∧ w2.cell? ⟨b10, o10, none⟩ = some v10 ∧ w2.cell? ⟨b11, o11, none⟩ = some v11 ∧ w2.cell? ⟨b12, o12, none⟩ = some v12 ∧ w2.cell? ⟨b13, o13, none⟩ = some v13 ∧ w2.cell? ⟨b14, o14, none⟩ = some v14 ∧ w2.cell? ⟨b15, o15, none⟩ = some v15 :=
  ⟨below_keep hb h.1, cell_keep hb h.2.1, cell_keep hb h.2.2.1, cell_keep hb h.2.2.2.1, cell_keep hb h.2.2.2.2.1, cell_keep hb h.2.2.2.2.2.1, cell_keep hb h.2.2.2.2.2.2.1, cell_keep hb h.2.2.2.2.2.2.2.1, cell_keep hb h.2.2.2.2.2.2.2.2.1, cell_keep hb h.2.2.2.2.2.2.2.2.2.1, cell_keep hb h.2.2.2.2.2.2.2.2.2.2.1, cell_keep hb h.2.2.2.2.2.2.2.2.2.2.2.1, cell_keep hb h.2.2.2.2.2.2.2.2.2.2.2.2.1, cell_keep hb h.2.2.2.2.2.2.2.2.2.2.2.2.2.1, cell_keep hb h.2.2.2.2.2.2.2.2.2.2.2.2.2.2.1, cell_keep hb h.2.2.2.2.2.2.2.2.2.2.2.2.2.2.2.1, cell_keep hb h.2.2.2.2.2.2.2.2.2.2.2.2.2.2.2.2⟩
/-- The two fractions, of the document and of the program, in their boxes. -/
structure LS (w : World) (ba bb bx bz : Nat) (a1 : Bool) (a2 : Option Addr) (a3 a4 : Nat) (a5 : Bool) (a6 : Option Addr) (a7 a8 : Nat) (b1 : Bool) (b2 : Option Addr) (b3 b4 : Nat) (b5 : Bool) (b6 : Option Addr) (b7 b8 : Nat) (x1 : Int) (x2 : Option Addr) (x3 x4 : Nat) (x5 : Int) (x6 : Option Addr) (x7 x8 : Nat) (y1 : Int) (y2 : Option Addr) (y3 y4 : Nat) (y5 : Int) (y6 : Option Addr) (y7 y8 : Nat) (P D P' D' : Int) (wr : World) : Prop where
  below : Below w.heap.size w wr
  ca : wr.cell? ⟨ba, 0, none⟩ = some (.bool a1) ∧ wr.cell? ⟨ba, 1, none⟩ = some (.slice a2 a3 a4) ∧ wr.cell? ⟨ba, 2, none⟩ = some (.bool a5) ∧ wr.cell? ⟨ba, 3, none⟩ = some (.slice a6 a7 a8)
  cb : wr.cell? ⟨bb, 0, none⟩ = some (.bool b1) ∧ wr.cell? ⟨bb, 1, none⟩ = some (.slice b2 b3 b4) ∧ wr.cell? ⟨bb, 2, none⟩ = some (.bool b5) ∧ wr.cell? ⟨bb, 3, none⟩ = some (.slice b6 b7 b8)
  cx : wr.cell? ⟨bx, 0, none⟩ = some (.int .i64 x1) ∧ wr.cell? ⟨bx, 1, none⟩ = some (.slice x2 x3 x4) ∧ wr.cell? ⟨bx, 2, none⟩ = some (.int .i64 x5) ∧ wr.cell? ⟨bx, 3, none⟩ = some (.slice x6 x7 x8)
  cy : wr.cell? ⟨bz, 0, none⟩ = some (.int .i64 y1) ∧ wr.cell? ⟨bz, 1, none⟩ = some (.slice y2 y3 y4) ∧ wr.cell? ⟨bz, 2, none⟩ = some (.int .i64 y5) ∧ wr.cell? ⟨bz, 3, none⟩ = some (.slice y6 y7 y8)
  qa : Qr 362 wr (.agg #[.bool a1, .slice a2 a3 a4, .bool a5, .slice a6 a7 a8]) P D
  qb : Qr 362 wr (.agg #[.bool b1, .slice b2 b3 b4, .bool b5, .slice b6 b7 b8]) P' D'
  rx : Rr 78 wr (.agg #[.int .i64 x1, .slice x2 x3 x4, .int .i64 x5, .slice x6 x7 x8]) P D
  ry : Rr 78 wr (.agg #[.int .i64 y1, .slice y2 y3 y4, .int .i64 y5, .slice y6 y7 y8]) P' D'
theorem c4_keep {w1 w2 : World} {b : Nat} {v0 v1 v2 v3 : Value} (hb : Below w1.heap.size w1 w2) (h : w1.cell? ⟨b, 0, none⟩ = some v0 ∧ w1.cell? ⟨b, 1, none⟩ = some v1 ∧ w1.cell? ⟨b, 2, none⟩ = some v2 ∧ w1.cell? ⟨b, 3, none⟩ = some v3) : w2.cell? ⟨b, 0, none⟩ = some v0 ∧ w2.cell? ⟨b, 1, none⟩ = some v1 ∧ w2.cell? ⟨b, 2, none⟩ = some v2 ∧ w2.cell? ⟨b, 3, none⟩ = some v3 :=
  ⟨cell_keep hb h.1, cell_keep hb h.2.1, cell_keep hb h.2.2.1, cell_keep hb h.2.2.2⟩
theorem LS.keep {w : World} {ba bb bx bz : Nat} {a1 : Bool} {a2 : Option Addr} {a3 a4 : Nat} {a5 : Bool} {a6 : Option Addr} {a7 a8 : Nat} {b1 : Bool} {b2 : Option Addr} {b3 b4 : Nat} {b5 : Bool} {b6 : Option Addr} {b7 b8 : Nat} {x1 : Int} {x2 : Option Addr} {x3 x4 : Nat} {x5 : Int} {x6 : Option Addr} {x7 x8 : Nat} {y1 : Int} {y2 : Option Addr} {y3 y4 : Nat} {y5 : Int} {y6 : Option Addr} {y7 y8 : Nat} {P D P' D' : Int} {wr w1 : World} (h : LS w ba bb bx bz a1 a2 a3 a4 a5 a6 a7 a8 b1 b2 b3 b4 b5 b6 b7 b8 x1 x2 x3 x4 x5 x6 x7 x8 y1 y2 y3 y4 y5 y6 y7 y8 P D P' D' wr) (hb : Below wr.heap.size wr w1) : LS w ba bb bx bz a1 a2 a3 a4 a5 a6 a7 a8 b1 b2 b3 b4 b5 b6 b7 b8 x1 x2 x3 x4 x5 x6 x7 x8 y1 y2 y3 y4 y5 y6 y7 y8 P D P' D' w1 :=
  ⟨below_keep hb h.below, c4_keep hb h.ca, c4_keep hb h.cb, c4_keep hb h.cx, c4_keep hb h.cy, h.qa.later hb, h.qb.later hb, h.rx.later hb, h.ry.later hb⟩
theorem LS.drew {w : World} {ba bb bx bz : Nat} {a1 : Bool} {a2 : Option Addr} {a3 a4 : Nat} {a5 : Bool} {a6 : Option Addr} {a7 a8 : Nat} {b1 : Bool} {b2 : Option Addr} {b3 b4 : Nat} {b5 : Bool} {b6 : Option Addr} {b7 b8 : Nat} {x1 : Int} {x2 : Option Addr} {x3 x4 : Nat} {x5 : Int} {x6 : Option Addr} {x7 x8 : Nat} {y1 : Int} {y2 : Option Addr} {y3 y4 : Nat} {y5 : Int} {y6 : Option Addr} {y7 y8 : Nat} {P D P' D' : Int} {wr : World} (h : LS w ba bb bx bz a1 a2 a3 a4 a5 a6 a7 a8 b1 b2 b3 b4 b5 b6 b7 b8 x1 x2 x3 x4 x5 x6 x7 x8 y1 y2 y3 y4 y5 y6 y7 y8 P D P' D' wr) : LS w ba bb bx bz a1 a2 a3 a4 a5 a6 a7 a8 b1 b2 b3 b4 b5 b6 b7 b8 x1 x2 x3 x4 x5 x6 x7 x8 y1 y2 y3 y4 y5 y6 y7 y8 P D P' D' wr.drew := ⟨h.below.drew, h.ca, h.cb, h.cx, h.cy, h.qa, h.qb, h.rx, h.ry⟩
theorem c4_new {w : World} (v0 v1 v2 v3 : Value) (t : TypeId) : let w1 := w.alloc (.cells #[v0, v1, v2, v3] t); w1.cell? ⟨w.heap.size, 0, none⟩ = some v0 ∧ w1.cell? ⟨w.heap.size, 1, none⟩ = some v1 ∧ w1.cell? ⟨w.heap.size, 2, none⟩ = some v2 ∧ w1.cell? ⟨w.heap.size, 3, none⟩ = some v3 := by
  intro w1
  refine ⟨?_, ?_, ?_, ?_⟩ <;> (show (World.alloc _ _).cell? _ = _; rw [new_cell rfl]; rfl)
/-- A fraction in a box. -/
structure RB (N : Nat) (wr : World) (b : Nat) (x1 : Int) (x2 : Option Addr) (x3 x4 : Nat) (x5 : Int) (x6 : Option Addr) (x7 x8 : Nat) (P D : Int) : Prop where
  c : wr.cell? ⟨b, 0, none⟩ = some (.int .i64 x1) ∧ wr.cell? ⟨b, 1, none⟩ = some (.slice x2 x3 x4) ∧ wr.cell? ⟨b, 2, none⟩ = some (.int .i64 x5) ∧ wr.cell? ⟨b, 3, none⟩ = some (.slice x6 x7 x8)
  r : Rr N wr (.agg #[.int .i64 x1, .slice x2 x3 x4, .int .i64 x5, .slice x6 x7 x8]) P D
theorem RB.keep {N : Nat} {wr w1 : World} {b : Nat} {x1 : Int} {x2 : Option Addr} {x3 x4 : Nat} {x5 : Int} {x6 : Option Addr} {x7 x8 : Nat} {P D : Int} (h : RB N wr b x1 x2 x3 x4 x5 x6 x7 x8 P D) (hb : Below wr.heap.size wr w1) : RB N w1 b x1 x2 x3 x4 x5 x6 x7 x8 P D := ⟨c4_keep hb h.c, h.r.later hb⟩
theorem RB.drew {N : Nat} {wr : World} {b : Nat} {x1 : Int} {x2 : Option Addr} {x3 x4 : Nat} {x5 : Int} {x6 : Option Addr} {x7 x8 : Nat} {P D : Int} (h : RB N wr b x1 x2 x3 x4 x5 x6 x7 x8 P D) : RB N wr.drew b x1 x2 x3 x4 x5 x6 x7 x8 P D := ⟨h.c, h.r⟩
theorem RB.new {N : Nat} {w : World} {x1 : Int} {x2 : Option Addr} {x3 x4 : Nat} {x5 : Int} {x6 : Option Addr} {x7 x8 : Nat} {P D : Int} (h : Rr N w (.agg #[.int .i64 x1, .slice x2 x3 x4, .int .i64 x5, .slice x6 x7 x8]) P D) : RB N (w.alloc (.cells #[.int .i64 x1, .slice x2 x3 x4, .int .i64 x5, .slice x6 x7 x8] 52)) w.heap.size x1 x2 x3 x4 x5 x6 x7 x8 P D := ⟨c4_new _ _ _ _ _, h.later (below_new _ _)⟩

set_option maxHeartbeats 16000000 in
set_option maxRecDepth 8000 in
theorem ratioSums_law (A : Nat → Addr) (s t : ByteArray) (w : World) (hs : s.size ≤ 9223372036854775807) (ht : t.size ≤ 9223372036854775807) (h1 : w.cell? ⟨0, 0, none⟩ = some (.iface 234 (.pointer (some (A 0))))) (h2 : w.cell? ⟨1, 0, none⟩ = some (.iface 234 (.pointer (some (A 1))))) (h3 : w.cell? ⟨2, 0, none⟩ = some (.iface 234 (.pointer (some (A 2))))) (htab : Lib.TabIs Tryz.prog w "internal/strconv.uint64pow10" .u64 Lib.pow10Tab) (hT : Tab64 w) :
    Calls Tryz.prog 5 #[.string s, .string t] w fun e w' => e = .returned (.bool true) ∧ Below w.heap.size w w' := by
  have H123 := hide (And.intro h1 (And.intro h2 h3))
  have HTAB := hide htab
  have HTT := hide hT
  have HSS := hide (And.intro hs ht)
  have hss : (s.size : Int) ≤ 9223372036854775807 := by omega
  have htt : (t.size : Int) ≤ 9223372036854775807 := by omega
  clear h1 h2 h3 htab hT
  go_enter Tryz.func5, Tryz.ntmps5
  go_wp2_with fail
  go_fit (rqread_any s _ (unhide HSS).1)
  rintro e W1 ⟨hc, B1⟩
  obtain ⟨a1, a2, a3, a4, a5, a6, a7, a8, ac, ap, rfl, HA⟩ := hc.form
  clear hc
  have k1 := below_new W1 (.cells #[.bool a1, .slice a2 a3 a4, .bool a5, .slice a6 a7 a8] 56)
  have k2 := below_new (W1.alloc (.cells #[.bool a1, .slice a2 a3 a4, .bool a5, .slice a6 a7 a8] 56)) (.cells #[.int .i64 ac, .int .i64 ap] 26)
  have ca := c4_keep k2 (c4_new (w := W1) (.bool a1) (.slice a2 a3 a4) (.bool a5) (.slice a6 a7 a8) 56)
  have fa : ((W1.alloc (.cells #[.bool a1, .slice a2 a3 a4, .bool a5, .slice a6 a7 a8] 56)).alloc (.cells #[.int .i64 ac, .int .i64 ap] 26)).cell? ⟨W1.heap.size + 1, 0, none⟩ = some (.int .i64 ac) := by rw [new_cell (by simp)]; rfl
  have KA := hide (below_keep k2 k1)
  have CA := hide (And.intro ca fa)
  have BA := hide (below_keep (below_keep k2 k1) B1)
  clear ca fa k1 k2 B1
  go_wp2_with fail
  go_fit (rqread_any t _ (unhide HSS).2)
  rintro e W2 ⟨hc, B2⟩
  obtain ⟨b1, b2, b3, b4, b5, b6, b7, b8, bc, bp, rfl, HB⟩ := hc.form
  clear hc
  have k1 := below_new W2 (.cells #[.bool b1, .slice b2 b3 b4, .bool b5, .slice b6 b7 b8] 56)
  have k2 := below_new (W2.alloc (.cells #[.bool b1, .slice b2 b3 b4, .bool b5, .slice b6 b7 b8] 56)) (.cells #[.int .i64 bc, .int .i64 bp] 26)
  have cb := c4_keep k2 (c4_new (w := W2) (.bool b1) (.slice b2 b3 b4) (.bool b5) (.slice b6 b7 b8) 56)
  have fb : ((W2.alloc (.cells #[.bool b1, .slice b2 b3 b4, .bool b5, .slice b6 b7 b8] 56)).alloc (.cells #[.int .i64 bc, .int .i64 bp] 26)).cell? ⟨W2.heap.size + 1, 0, none⟩ = some (.int .i64 bc) := by rw [new_cell (by simp)]; rfl
  have k3 := below_keep (below_keep k2 k1) B2
  have fa := cell_keep k3 (unhide CA).2
  have ca := hide (c4_keep k3 (unhide CA).1)
  have KB := hide (below_keep k2 k1)
  have cb := hide cb
  have BB := below_keep k3 (unhide BA)
  have KAB := hide (below_keep k3 (unhide KA))
  clear k1 k2 k3 B2 CA BA KA
  by_cases hl1 : (400 : Int) < s.size
  · go_wp2
    go_ret
    exact ⟨rfl, BB⟩
  by_cases hl2 : (400 : Int) < t.size
  · go_wp2
    go_ret
    exact ⟨rfl, BB⟩
  rcases unhide HA with hca | ⟨rfl, p, q, P, D, hsd, hq, hQ, hE⟩
  · go_wp2
    go_ret
    exact ⟨rfl, BB⟩
  rcases unhide HB with hcb | ⟨rfl, p', q', P', D', hsd', hq', hQ', hE'⟩
  · go_wp2
    go_ret
    exact ⟨rfl, BB⟩
  have HSD := hide (And.intro hsd hsd')
  have HEE := hide (And.intro hE hE')
  have HQQ := hide (And.intro hq hq')
  have qa := hide (hQ.later (unhide KAB))
  have qb := hide (hQ'.later (unhide KB))
  clear hsd hsd' hE hE' hQ hQ' hq hq' HA HB KAB KB
  go_wp2_with fail
  go_fit (qread_any s A _ (unhide HSS).1 ((unhide HTT).later BB) (cell_keep BB (unhide H123).1) (cell_keep BB (unhide H123).2.1) (cell_keep BB (unhide H123).2.2))
  rintro e W3 ⟨hc, hb3⟩
  obtain ⟨v, P1, D1, rfl, hR, hE⟩ := hc.good (unhide HSD).1
  obtain ⟨hp1, hd1⟩ := same_lowest hR (unhide qa) (Int.ne_of_gt (unhide HQQ).1) hE (unhide HEE).1
  subst hp1 hd1
  clear hc hE fa fb
  obtain ⟨x1, x2, x3, x4, x5, x6, x7, x8, rfl⟩ := hR.shape
  have kn := below_new W3 (.cells #[.int .i64 x1, .slice x2 x3 x4, .int .i64 x5, .slice x6 x7 x8] 52)
  have kk := below_keep kn hb3
  have BB := below_keep kk BB
  have ca := hide (c4_keep kk (unhide ca))
  have cb := hide (c4_keep kk (unhide cb))
  have qa := hide ((unhide qa).later kk)
  have qb := hide ((unhide qb).later kk)
  have rx := hide (hR.later kn)
  have cx := hide (c4_new (w := W3) (.int .i64 x1) (.slice x2 x3 x4) (.int .i64 x5) (.slice x6 x7 x8) 52)
  clear kn kk hb3 hR
  go_wp2_with fail
  go_fit (qread_any t A _ (unhide HSS).2 ((unhide HTT).later BB) (cell_keep BB (unhide H123).1) (cell_keep BB (unhide H123).2.1) (cell_keep BB (unhide H123).2.2))
  rintro e W4 ⟨hc, hb4⟩
  obtain ⟨v, P2, D2, rfl, hR, hE⟩ := hc.good (unhide HSD).2
  obtain ⟨hp2, hd2⟩ := same_lowest hR (unhide qb) (Int.ne_of_gt (unhide HQQ).2) hE (unhide HEE).2
  subst hp2 hd2
  clear hc hE
  obtain ⟨y1, y2, y3, y4, y5, y6, y7, y8, rfl⟩ := hR.shape
  have kn := below_new W4 (.cells #[.int .i64 y1, .slice y2 y3 y4, .int .i64 y5, .slice y6 y7 y8] 52)
  have kk := below_keep kn hb4
  have HL := hide (show LS w W1.heap.size W2.heap.size W3.heap.size W4.heap.size a1 a2 a3 a4 a5 a6 a7 a8 b1 b2 b3 b4 b5 b6 b7 b8 x1 x2 x3 x4 x5 x6 x7 x8 y1 y2 y3 y4 y5 y6 y7 y8 P D P' D' (W4.alloc (.cells #[.int .i64 y1, .slice y2 y3 y4, .int .i64 y5, .slice y6 y7 y8] 52)) from ⟨below_keep kk BB, c4_keep kk (unhide ca), c4_keep kk (unhide cb), c4_keep kk (unhide cx), c4_new _ _ _ _ _, (unhide qa).later kk, (unhide qb).later kk, (unhide rx).later kk, hR.later kn⟩)
  clear kn kk hb4 hR BB ca cb qa qb rx cx HSD HEE HQQ H123 HSS
  obtain ⟨ba, hba⟩ : ∃ X, X = W1.heap.size := ⟨_, rfl⟩
  obtain ⟨bb, hbb⟩ : ∃ X, X = W2.heap.size := ⟨_, rfl⟩
  obtain ⟨bx, hbx⟩ : ∃ X, X = W3.heap.size := ⟨_, rfl⟩
  obtain ⟨bz, hbz⟩ : ∃ X, X = W4.heap.size := ⟨_, rfl⟩
  go_upto_region 9 with fail
  obtain ⟨V4, hV4⟩ : ∃ X, X = W4.alloc (.cells #[.int .i64 y1, .slice y2 y3 y4, .int .i64 y5, .slice y6 y7 y8] 52) := ⟨_, rfl⟩
  rw [← hba, ← hbb, ← hbx, ← hbz, ← hV4] at HL ⊢
  clear hba hbb hbx hbz hV4
  obtain ⟨xc0, xc1, xc2, xc3⟩ := (unhide HL).cx
  obtain ⟨yc0, yc1, yc2, yc3⟩ := (unhide HL).cy
  go_wp2_with fail
  go_fit (qadd_any (N := 77) _ (unhide HL).rx (unhide HL).ry (by omega) ((unhide HTT).later (unhide HL).below))
  rintro e W5 ⟨⟨v, Ps, Ds, rfl, hR, hE⟩, hb⟩
  obtain ⟨s1, s2, s3, s4, s5, s6, s7, s8, rfl⟩ := hR.shape
  have kn := below_new W5 (.cells #[.int .i64 s1, .slice s2 s3 s4, .int .i64 s5, .slice s6 s7 s8] 52)
  have kk := below_keep kn hb
  have HL := hide ((unhide HL).keep kk)
  have RS := hide (RB.new hR)
  have HES := hide hE
  clear hR hE
  clear kn kk hb xc0 xc1 xc2 xc3 yc0 yc1 yc2 yc3
  obtain ⟨xc0, xc1, xc2, xc3⟩ := (unhide HL).cx
  obtain ⟨yc0, yc1, yc2, yc3⟩ := (unhide HL).cy
  go_wp2_with fail
  go_fit (qsub_any (N := 77) _ (unhide HL).rx (unhide HL).ry (by omega) ((unhide HTT).later (unhide HL).below))
  rintro e W6 ⟨⟨v, Pl, Dl, rfl, hR, hE⟩, hb⟩
  obtain ⟨l1, l2, l3, l4, l5, l6, l7, l8, rfl⟩ := hR.shape
  have kn := below_new W6 (.cells #[.int .i64 l1, .slice l2 l3 l4, .int .i64 l5, .slice l6 l7 l8] 52)
  have kk := below_keep kn hb
  have HL := hide ((unhide HL).keep kk)
  have RS := hide ((unhide RS).keep kk)
  have RL := hide (RB.new hR)
  have HEL := hide hE
  clear hR hE
  clear kn kk hb xc0 xc1 xc2 xc3 yc0 yc1 yc2 yc3
  obtain ⟨xc0, xc1, xc2, xc3⟩ := (unhide HL).cx
  obtain ⟨yc0, yc1, yc2, yc3⟩ := (unhide HL).cy
  go_wp2_with fail
  go_fit (qmul_any (N := 77) _ (unhide HL).rx (unhide HL).ry (by omega) ((unhide HTT).later (unhide HL).below))
  rintro e W7 ⟨⟨v, Pt, Dt, rfl, hR, hE⟩, hb⟩
  obtain ⟨t1, t2, t3, t4, t5, t6, t7, t8, rfl⟩ := hR.shape
  have kn := below_new W7 (.cells #[.int .i64 t1, .slice t2 t3 t4, .int .i64 t5, .slice t6 t7 t8] 52)
  have kk := below_keep kn hb
  have HL := hide ((unhide HL).keep kk)
  have RS := hide ((unhide RS).keep kk)
  have RL := hide ((unhide RL).keep kk)
  have RT := hide (RB.new hR)
  have HET := hide hE
  clear hR hE
  clear kn kk hb xc0 xc1 xc2 xc3 yc0 yc1 yc2 yc3
  obtain ⟨xc0, xc1, xc2, xc3⟩ := (unhide HL).cx
  go_wp2_with fail
  go_fit (qneg_any (N := 77) _ (unhide HL).rx)
  rintro e W8 ⟨⟨v, rfl, hR⟩, hb⟩
  obtain ⟨n1, n2, n3, n4, n5, n6, n7, n8, rfl⟩ := hR.shape
  have kn := below_new W8 (.cells #[.int .i64 n1, .slice n2 n3 n4, .int .i64 n5, .slice n6 n7 n8] 52)
  have kk := below_keep kn hb
  have HL := hide ((unhide HL).keep kk)
  have RS := hide ((unhide RS).keep kk)
  have RL := hide ((unhide RL).keep kk)
  have RT := hide ((unhide RT).keep kk)
  have RN := hide (RB.new hR)
  clear hR
  clear kn kk hb xc0 xc1 xc2 xc3
  obtain ⟨bs, hbs⟩ : ∃ X, X = W5.heap.size := ⟨_, rfl⟩
  obtain ⟨bl, hbl⟩ : ∃ X, X = W6.heap.size := ⟨_, rfl⟩
  obtain ⟨bt, hbt⟩ : ∃ X, X = W7.heap.size := ⟨_, rfl⟩
  obtain ⟨bn, hbn⟩ : ∃ X, X = W8.heap.size := ⟨_, rfl⟩
  go_upto_region 13 with fail
  obtain ⟨V8, hV8⟩ : ∃ X, X = W8.alloc (.cells #[.int .i64 n1, .slice n2 n3 n4, .int .i64 n5, .slice n6 n7 n8] 52) := ⟨_, rfl⟩
  rw [← hV8] at HL RS RL RT RN
  rw [← hbs] at RS
  rw [← hbl] at RL
  rw [← hbt] at RT
  rw [← hbn] at RN
  rw [← hbs, ← hbl, ← hbt, ← hbn, ← hV8]
  clear hbs hbl hbt hbn hV8
  have HDD := hide (show D * D' ≠ 0 from by obtain ⟨_, _, _, _, _, _, _, _, _, _, _, h1, _⟩ := (unhide HL).qa; obtain ⟨_, _, _, _, _, _, _, _, _, _, _, h2, _⟩ := (unhide HL).qb; exact Int.mul_ne_zero (by omega) (by omega))
  obtain ⟨ST, HST⟩ : ∃ S, Hid (qtext Ps Ds = S) := ⟨_, rfl⟩
  obtain ⟨LT, HLT⟩ : ∃ S, Hid (qtext Pl Dl = S) := ⟨_, rfl⟩
  obtain ⟨TX, HTX⟩ : ∃ S, Hid (qtext Pt Dt = S) := ⟨_, rfl⟩
  obtain ⟨NT, HNT⟩ : ∃ S, Hid (qtext (-P) D = S) := ⟨_, rfl⟩
  have HL := hide (unhide HL).drew
  have RS := hide (unhide RS).drew
  have RL := hide (unhide RL).drew
  have RT := hide (unhide RT).drew
  have RN := hide (unhide RN).drew
  obtain ⟨p0, p1, p2, p3⟩ := (unhide RS).c
  obtain ⟨q0, q1, q2, q3⟩ := (unhide RL).c
  obtain ⟨r0, r1, r2, r3⟩ := (unhide HL).ca
  obtain ⟨u0, u1, u2, u3⟩ := (unhide HL).cb
  have tok1 : True := trivial
  have tok2 : True := trivial
  have S0 := hide (show Below w.heap.size w V8.drew ∧ V8.drew.cell? ⟨bs, 0, none⟩ = some (.int .i64 s1) ∧ V8.drew.cell? ⟨bs, 1, none⟩ = some (.slice s2 s3 s4) ∧ V8.drew.cell? ⟨bs, 2, none⟩ = some (.int .i64 s5) ∧ V8.drew.cell? ⟨bs, 3, none⟩ = some (.slice s6 s7 s8) ∧ V8.drew.cell? ⟨bl, 0, none⟩ = some (.int .i64 l1) ∧ V8.drew.cell? ⟨bl, 1, none⟩ = some (.slice l2 l3 l4) ∧ V8.drew.cell? ⟨bl, 2, none⟩ = some (.int .i64 l5) ∧ V8.drew.cell? ⟨bl, 3, none⟩ = some (.slice l6 l7 l8) ∧ V8.drew.cell? ⟨ba, 0, none⟩ = some (.bool a1) ∧ V8.drew.cell? ⟨ba, 1, none⟩ = some (.slice a2 a3 a4) ∧ V8.drew.cell? ⟨ba, 2, none⟩ = some (.bool a5) ∧ V8.drew.cell? ⟨ba, 3, none⟩ = some (.slice a6 a7 a8) ∧ V8.drew.cell? ⟨bb, 0, none⟩ = some (.bool b1) ∧ V8.drew.cell? ⟨bb, 1, none⟩ = some (.slice b2 b3 b4) ∧ V8.drew.cell? ⟨bb, 2, none⟩ = some (.bool b5) ∧ V8.drew.cell? ⟨bb, 3, none⟩ = some (.slice b6 b7 b8) from ⟨(unhide HL).below, p0, p1, p2, p3, q0, q1, q2, q3, r0, r1, r2, r3, u0, u1, u2, u3⟩)
  go_region_held3 (fun w' => Below w.heap.size w w' ∧ w'.cell? ⟨bs, 0, none⟩ = some (.int .i64 s1) ∧ w'.cell? ⟨bs, 1, none⟩ = some (.slice s2 s3 s4) ∧ w'.cell? ⟨bs, 2, none⟩ = some (.int .i64 s5) ∧ w'.cell? ⟨bs, 3, none⟩ = some (.slice s6 s7 s8) ∧ w'.cell? ⟨bl, 0, none⟩ = some (.int .i64 l1) ∧ w'.cell? ⟨bl, 1, none⟩ = some (.slice l2 l3 l4) ∧ w'.cell? ⟨bl, 2, none⟩ = some (.int .i64 l5) ∧ w'.cell? ⟨bl, 3, none⟩ = some (.slice l6 l7 l8) ∧ w'.cell? ⟨ba, 0, none⟩ = some (.bool a1) ∧ w'.cell? ⟨ba, 1, none⟩ = some (.slice a2 a3 a4) ∧ w'.cell? ⟨ba, 2, none⟩ = some (.bool a5) ∧ w'.cell? ⟨ba, 3, none⟩ = some (.slice a6 a7 a8) ∧ w'.cell? ⟨bb, 0, none⟩ = some (.bool b1) ∧ w'.cell? ⟨bb, 1, none⟩ = some (.slice b2 b3 b4) ∧ w'.cell? ⟨bb, 2, none⟩ = some (.bool b5) ∧ w'.cell? ⟨bb, 3, none⟩ = some (.slice b6 b7 b8))
    (first | with_reducible exact unhide S6 | with_reducible exact unhide S5 | with_reducible exact unhide S4 | with_reducible exact unhide S3 | with_reducible exact unhide S2 | with_reducible exact unhide S1 | with_reducible exact unhide S0)
    (first
      | (go_at_call 33; have _t := tok1; go_fit (qtext_any _ (unhide RS).r (by omega) (tab_later (unhide HTAB) (unhide HL).below)); rintro e9 Y1 ⟨rfl, hb⟩; clear tok1; have S1 := hide (kc16 hb (unhide S0)); have HL := hide (LS.keep (unhide HL) hb); have RS := hide (RB.keep (unhide RS) hb); have RL := hide (RB.keep (unhide RL) hb); have RT := hide (RB.keep (unhide RT) hb); have RN := hide (RB.keep (unhide RN) hb); rw [unhide HST]; clear hb)
      | (go_at_call 41; go_fit (rqadd_any (N := 362) _ (unhide HL).qa (unhide HL).qb (by omega)); rintro e9 Y2 ⟨⟨v9, P9, D9, rfl, hQ, hE9⟩, hb⟩; have S2 := hide (kc16 hb (unhide S1)); have HL := hide (LS.keep (unhide HL) hb); have RS := hide (RB.keep (unhide RS) hb); have RL := hide (RB.keep (unhide RL) hb); have RT := hide (RB.keep (unhide RT) hb); have RN := hide (RB.keep (unhide RN) hb); obtain ⟨hp9, hd9⟩ := same_lowest (unhide RS).r hQ (unhide HDD) (unhide HES) hE9; subst hp9 hd9; obtain ⟨m1, m2, m3, m4, m5, m6, m7, m8, rfl⟩ := hQ.shape; have HQ9 := hide hQ; clear hQ hE9; clear hb)
      | (go_at_call 36; have _t := tok2; go_fit (rqtext_any _ (unhide HQ9) (by omega)); rintro e9 Y3 ⟨rfl, hb⟩; clear tok2; have S3 := hide (kc16 hb (unhide S2)); have HL := hide (LS.keep (unhide HL) hb); have RS := hide (RB.keep (unhide RS) hb); have RL := hide (RB.keep (unhide RL) hb); have RT := hide (RB.keep (unhide RT) hb); have RN := hide (RB.keep (unhide RN) hb); rw [unhide HST]; clear HQ9; clear hb)
      | (go_at_call 33; go_fit (qtext_any _ (unhide RL).r (by omega) (tab_later (unhide HTAB) (unhide HL).below)); rintro e9 Y4 ⟨rfl, hb⟩; have S4 := hide (kc16 hb (unhide S3)); have HL := hide (LS.keep (unhide HL) hb); have RS := hide (RB.keep (unhide RS) hb); have RL := hide (RB.keep (unhide RL) hb); have RT := hide (RB.keep (unhide RT) hb); have RN := hide (RB.keep (unhide RN) hb); rw [unhide HLT]; clear hb)
      | (go_at_call 42; go_fit (rqsub_any (N := 362) _ (unhide HL).qa (unhide HL).qb (by omega)); rintro e9 Y5 ⟨⟨v9, P9, D9, rfl, hQ, hE9⟩, hb⟩; have S5 := hide (kc16 hb (unhide S4)); have HL := hide (LS.keep (unhide HL) hb); have RS := hide (RB.keep (unhide RS) hb); have RL := hide (RB.keep (unhide RL) hb); have RT := hide (RB.keep (unhide RT) hb); have RN := hide (RB.keep (unhide RN) hb); obtain ⟨hp9, hd9⟩ := same_lowest (unhide RL).r hQ (unhide HDD) (unhide HEL) hE9; subst hp9 hd9; obtain ⟨m1, m2, m3, m4, m5, m6, m7, m8, rfl⟩ := hQ.shape; have HQ9 := hide hQ; clear hQ hE9; clear hb)
      | (go_at_call 36; go_fit (rqtext_any _ (unhide HQ9) (by omega)); rintro e9 Y6 ⟨rfl, hb⟩; have S6 := hide (kc16 hb (unhide S5)); have HL := hide (LS.keep (unhide HL) hb); have RS := hide (RB.keep (unhide RS) hb); have RL := hide (RB.keep (unhide RL) hb); have RT := hide (RB.keep (unhide RT) hb); have RN := hide (RB.keep (unhide RN) hb); rw [unhide HLT]; clear HQ9; clear hb))
  clear S0 S1 S2 S3 S4 S5 S6 p0 p1 p2 p3 q0 q1 q2 q3 r0 r1 r2 r3 u0 u1 u2 u3
  clear RS RL HES HEL HST HLT
  go_upto_region 15 with fail
  have HL := hide (unhide HL).drew
  have RT := hide (unhide RT).drew
  have RN := hide (unhide RN).drew
  obtain ⟨p0, p1, p2, p3⟩ := (unhide RT).c
  obtain ⟨q0, q1, q2, q3⟩ := (unhide RN).c
  obtain ⟨r0, r1, r2, r3⟩ := (unhide HL).ca
  obtain ⟨u0, u1, u2, u3⟩ := (unhide HL).cb
  have tok1 : True := trivial
  have tok2 : True := trivial
  have S0 := hide (show Below w.heap.size w Y6.drew ∧ Y6.drew.cell? ⟨bt, 0, none⟩ = some (.int .i64 t1) ∧ Y6.drew.cell? ⟨bt, 1, none⟩ = some (.slice t2 t3 t4) ∧ Y6.drew.cell? ⟨bt, 2, none⟩ = some (.int .i64 t5) ∧ Y6.drew.cell? ⟨bt, 3, none⟩ = some (.slice t6 t7 t8) ∧ Y6.drew.cell? ⟨bn, 0, none⟩ = some (.int .i64 n1) ∧ Y6.drew.cell? ⟨bn, 1, none⟩ = some (.slice n2 n3 n4) ∧ Y6.drew.cell? ⟨bn, 2, none⟩ = some (.int .i64 n5) ∧ Y6.drew.cell? ⟨bn, 3, none⟩ = some (.slice n6 n7 n8) ∧ Y6.drew.cell? ⟨ba, 0, none⟩ = some (.bool a1) ∧ Y6.drew.cell? ⟨ba, 1, none⟩ = some (.slice a2 a3 a4) ∧ Y6.drew.cell? ⟨ba, 2, none⟩ = some (.bool a5) ∧ Y6.drew.cell? ⟨ba, 3, none⟩ = some (.slice a6 a7 a8) ∧ Y6.drew.cell? ⟨bb, 0, none⟩ = some (.bool b1) ∧ Y6.drew.cell? ⟨bb, 1, none⟩ = some (.slice b2 b3 b4) ∧ Y6.drew.cell? ⟨bb, 2, none⟩ = some (.bool b5) ∧ Y6.drew.cell? ⟨bb, 3, none⟩ = some (.slice b6 b7 b8) from ⟨(unhide HL).below, p0, p1, p2, p3, q0, q1, q2, q3, r0, r1, r2, r3, u0, u1, u2, u3⟩)
  go_region_held3 (fun w' => Below w.heap.size w w' ∧ w'.cell? ⟨bt, 0, none⟩ = some (.int .i64 t1) ∧ w'.cell? ⟨bt, 1, none⟩ = some (.slice t2 t3 t4) ∧ w'.cell? ⟨bt, 2, none⟩ = some (.int .i64 t5) ∧ w'.cell? ⟨bt, 3, none⟩ = some (.slice t6 t7 t8) ∧ w'.cell? ⟨bn, 0, none⟩ = some (.int .i64 n1) ∧ w'.cell? ⟨bn, 1, none⟩ = some (.slice n2 n3 n4) ∧ w'.cell? ⟨bn, 2, none⟩ = some (.int .i64 n5) ∧ w'.cell? ⟨bn, 3, none⟩ = some (.slice n6 n7 n8) ∧ w'.cell? ⟨ba, 0, none⟩ = some (.bool a1) ∧ w'.cell? ⟨ba, 1, none⟩ = some (.slice a2 a3 a4) ∧ w'.cell? ⟨ba, 2, none⟩ = some (.bool a5) ∧ w'.cell? ⟨ba, 3, none⟩ = some (.slice a6 a7 a8) ∧ w'.cell? ⟨bb, 0, none⟩ = some (.bool b1) ∧ w'.cell? ⟨bb, 1, none⟩ = some (.slice b2 b3 b4) ∧ w'.cell? ⟨bb, 2, none⟩ = some (.bool b5) ∧ w'.cell? ⟨bb, 3, none⟩ = some (.slice b6 b7 b8))
    (first | with_reducible exact unhide S6 | with_reducible exact unhide S5 | with_reducible exact unhide S4 | with_reducible exact unhide S3 | with_reducible exact unhide S2 | with_reducible exact unhide S1 | with_reducible exact unhide S0)
    (first
      | (go_at_call 33; have _t := tok1; go_fit (qtext_any _ (unhide RT).r (by omega) (tab_later (unhide HTAB) (unhide HL).below)); rintro e9 X1 ⟨rfl, hb⟩; clear tok1; have S1 := hide (kc16 hb (unhide S0)); have HL := hide (LS.keep (unhide HL) hb); have RT := hide (RB.keep (unhide RT) hb); have RN := hide (RB.keep (unhide RN) hb); rw [unhide HTX]; clear hb)
      | (go_at_call 43; go_fit (rqmul_any (N := 362) _ (unhide HL).qa (unhide HL).qb (by omega)); rintro e9 X2 ⟨⟨v9, P9, D9, rfl, hQ, hE9⟩, hb⟩; have S2 := hide (kc16 hb (unhide S1)); have HL := hide (LS.keep (unhide HL) hb); have RT := hide (RB.keep (unhide RT) hb); have RN := hide (RB.keep (unhide RN) hb); obtain ⟨hp9, hd9⟩ := same_lowest (unhide RT).r hQ (unhide HDD) (unhide HET) hE9; subst hp9 hd9; obtain ⟨m1, m2, m3, m4, m5, m6, m7, m8, rfl⟩ := hQ.shape; have HQ9 := hide hQ; clear hQ hE9; clear hb)
      | (go_at_call 36; have _t := tok2; go_fit (rqtext_any _ (unhide HQ9) (by omega)); rintro e9 X3 ⟨rfl, hb⟩; clear tok2; have S3 := hide (kc16 hb (unhide S2)); have HL := hide (LS.keep (unhide HL) hb); have RT := hide (RB.keep (unhide RT) hb); have RN := hide (RB.keep (unhide RN) hb); rw [unhide HTX]; clear HQ9; clear hb)
      | (go_at_call 33; go_fit (qtext_any _ (unhide RN).r (by omega) (tab_later (unhide HTAB) (unhide HL).below)); rintro e9 X4 ⟨rfl, hb⟩; have S4 := hide (kc16 hb (unhide S3)); have HL := hide (LS.keep (unhide HL) hb); have RT := hide (RB.keep (unhide RT) hb); have RN := hide (RB.keep (unhide RN) hb); rw [unhide HNT]; clear hb)
      | (go_at_call 44; go_fit (rqneg_any _ (unhide HL).qa); rintro e9 X5 ⟨⟨v9, rfl, hQ⟩, hb⟩; have S5 := hide (kc16 hb (unhide S4)); have HL := hide (LS.keep (unhide HL) hb); have RT := hide (RB.keep (unhide RT) hb); have RN := hide (RB.keep (unhide RN) hb); obtain ⟨m1, m2, m3, m4, m5, m6, m7, m8, rfl⟩ := hQ.shape; have HQ9 := hide hQ; clear hQ; clear hb)
      | (go_at_call 36; go_fit (rqtext_any _ (unhide HQ9) (by omega)); rintro e9 X6 ⟨rfl, hb⟩; have S6 := hide (kc16 hb (unhide S5)); have HL := hide (LS.keep (unhide HL) hb); have RT := hide (RB.keep (unhide RT) hb); have RN := hide (RB.keep (unhide RN) hb); rw [unhide HNT]; clear HQ9; clear hb))
  clear S0 S1 S2 S3 S4 S5 S6 p0 p1 p2 p3 q0 q1 q2 q3 r0 r1 r2 r3 u0 u1 u2 u3
  clear RT RN HET HTX HNT
  obtain ⟨CM, HCM⟩ : ∃ z, Hid (sgn (P * D' - P' * D) = z) := ⟨_, rfl⟩
  obtain ⟨SG, HSG⟩ : ∃ z, Hid (sgn P = z) := ⟨_, rfl⟩
  obtain ⟨WH, HWH⟩ : ∃ z, Hid (decide (D = 1) = z) := ⟨_, rfl⟩
  go_upto_region 17 with fail
  have HL := hide (unhide HL).drew
  obtain ⟨p0, p1, p2, p3⟩ := (unhide HL).cx
  obtain ⟨q0, q1, q2, q3⟩ := (unhide HL).cy
  obtain ⟨r0, r1, r2, r3⟩ := (unhide HL).ca
  obtain ⟨u0, u1, u2, u3⟩ := (unhide HL).cb
  have S0 := hide (show Below w.heap.size w X6.drew ∧ X6.drew.cell? ⟨bx, 0, none⟩ = some (.int .i64 x1) ∧ X6.drew.cell? ⟨bx, 1, none⟩ = some (.slice x2 x3 x4) ∧ X6.drew.cell? ⟨bx, 2, none⟩ = some (.int .i64 x5) ∧ X6.drew.cell? ⟨bx, 3, none⟩ = some (.slice x6 x7 x8) ∧ X6.drew.cell? ⟨bz, 0, none⟩ = some (.int .i64 y1) ∧ X6.drew.cell? ⟨bz, 1, none⟩ = some (.slice y2 y3 y4) ∧ X6.drew.cell? ⟨bz, 2, none⟩ = some (.int .i64 y5) ∧ X6.drew.cell? ⟨bz, 3, none⟩ = some (.slice y6 y7 y8) ∧ X6.drew.cell? ⟨ba, 0, none⟩ = some (.bool a1) ∧ X6.drew.cell? ⟨ba, 1, none⟩ = some (.slice a2 a3 a4) ∧ X6.drew.cell? ⟨ba, 2, none⟩ = some (.bool a5) ∧ X6.drew.cell? ⟨ba, 3, none⟩ = some (.slice a6 a7 a8) ∧ X6.drew.cell? ⟨bb, 0, none⟩ = some (.bool b1) ∧ X6.drew.cell? ⟨bb, 1, none⟩ = some (.slice b2 b3 b4) ∧ X6.drew.cell? ⟨bb, 2, none⟩ = some (.bool b5) ∧ X6.drew.cell? ⟨bb, 3, none⟩ = some (.slice b6 b7 b8) from ⟨(unhide HL).below, p0, p1, p2, p3, q0, q1, q2, q3, r0, r1, r2, r3, u0, u1, u2, u3⟩)
  go_region_held3 (fun w' => Below w.heap.size w w' ∧ w'.cell? ⟨bx, 0, none⟩ = some (.int .i64 x1) ∧ w'.cell? ⟨bx, 1, none⟩ = some (.slice x2 x3 x4) ∧ w'.cell? ⟨bx, 2, none⟩ = some (.int .i64 x5) ∧ w'.cell? ⟨bx, 3, none⟩ = some (.slice x6 x7 x8) ∧ w'.cell? ⟨bz, 0, none⟩ = some (.int .i64 y1) ∧ w'.cell? ⟨bz, 1, none⟩ = some (.slice y2 y3 y4) ∧ w'.cell? ⟨bz, 2, none⟩ = some (.int .i64 y5) ∧ w'.cell? ⟨bz, 3, none⟩ = some (.slice y6 y7 y8) ∧ w'.cell? ⟨ba, 0, none⟩ = some (.bool a1) ∧ w'.cell? ⟨ba, 1, none⟩ = some (.slice a2 a3 a4) ∧ w'.cell? ⟨ba, 2, none⟩ = some (.bool a5) ∧ w'.cell? ⟨ba, 3, none⟩ = some (.slice a6 a7 a8) ∧ w'.cell? ⟨bb, 0, none⟩ = some (.bool b1) ∧ w'.cell? ⟨bb, 1, none⟩ = some (.slice b2 b3 b4) ∧ w'.cell? ⟨bb, 2, none⟩ = some (.bool b5) ∧ w'.cell? ⟨bb, 3, none⟩ = some (.slice b6 b7 b8))
    (first | with_reducible exact unhide S6 | with_reducible exact unhide S5 | with_reducible exact unhide S4 | with_reducible exact unhide S3 | with_reducible exact unhide S2 | with_reducible exact unhide S1 | with_reducible exact unhide S0)
    (first
      | (go_at_call 45; go_fit (qcmp_any (N := 77) _ (unhide HL).rx (unhide HL).ry (by omega)); rintro e9 Z1 ⟨rfl, hb⟩; have S1 := hide (kc16 hb (unhide S0)); have HL := hide (LS.keep (unhide HL) hb); rw [unhide HCM]; clear hb)
      | (go_at_call 46; go_fit (rqcmp_any (N := 362) _ (unhide HL).qa (unhide HL).qb (by omega)); rintro e9 Z2 ⟨rfl, hb⟩; have S2 := hide (kc16 hb (unhide S1)); have HL := hide (LS.keep (unhide HL) hb); rw [unhide HCM]; clear hb)
      | (go_at_call 47; go_fit (qsign_any _ (unhide HL).rx); rintro e9 Z3 ⟨rfl, hb⟩; have S3 := hide (kc16 hb (unhide S2)); have HL := hide (LS.keep (unhide HL) hb); rw [unhide HSG]; clear hb)
      | (go_at_call 48; go_fit (rqsign_any _ (unhide HL).qa); rintro e9 Z4 ⟨rfl, hb⟩; have S4 := hide (kc16 hb (unhide S3)); have HL := hide (LS.keep (unhide HL) hb); rw [unhide HSG]; clear hb)
      | (go_at_call 49; go_fit (isWhole_any _ (unhide HL).rx); rintro e9 Z5 ⟨rfl, hb⟩; have S5 := hide (kc16 hb (unhide S4)); have HL := hide (LS.keep (unhide HL) hb); rw [unhide HWH]; clear hb)
      | (go_at_call 50; go_fit (rIsWhole_any _ (unhide HL).qa); rintro e9 Z6 ⟨rfl, hb⟩; have S6 := hide (kc16 hb (unhide S5)); have HL := hide (LS.keep (unhide HL) hb); rw [unhide HWH]; clear hb))
  clear S0 S1 S2 S3 S4 S5 S6 p0 p1 p2 p3 q0 q1 q2 q3 r0 r1 r2 r3 u0 u1 u2 u3
  clear HCM HSG HWH
  obtain ⟨xc0, xc1, xc2, xc3⟩ := (unhide HL).cx
  go_wp2_with fail
  go_fit (qfloor_any (N := 77) _ (unhide HL).rx (by omega))
  rintro e W9 ⟨⟨v, rfl, hZ⟩, hb⟩
  obtain ⟨f1, f2, f3, f4, rfl⟩ := hZ.shape
  have kn := below_new W9 (.cells #[.int .i64 f1, .slice f2 f3 f4] 31)
  have kk := below_keep kn hb
  have HL := hide ((unhide HL).keep kk)
  have VF := hide (Vr.new hZ)
  clear hZ
  clear kn kk hb xc0 xc1 xc2 xc3
  obtain ⟨xc0, xc1, xc2, xc3⟩ := (unhide HL).cx
  go_wp2_with fail
  go_fit (qceil_any (N := 77) _ (unhide HL).rx (by omega))
  rintro e W10 ⟨⟨v, rfl, hZ⟩, hb⟩
  obtain ⟨c1, c2, c3, c4, rfl⟩ := hZ.shape
  have kn := below_new W10 (.cells #[.int .i64 c1, .slice c2 c3 c4] 31)
  have kk := below_keep kn hb
  have HL := hide ((unhide HL).keep kk)
  have VF := hide ((unhide VF).keep kk)
  have VC := hide (Vr.new hZ)
  clear hZ
  clear kn kk hb xc0 xc1 xc2 xc3
  obtain ⟨bf, hbf⟩ : ∃ X, X = W9.heap.size := ⟨_, rfl⟩
  obtain ⟨bc, hbc⟩ : ∃ X, X = W10.heap.size := ⟨_, rfl⟩
  go_upto_region 21 with fail
  obtain ⟨V9, hV9⟩ : ∃ X, X = W10.alloc (.cells #[.int .i64 c1, .slice c2 c3 c4] 31) := ⟨_, rfl⟩
  rw [← hV9] at HL VF VC
  rw [← hbf] at VF
  rw [← hbc] at VC
  rw [← hbf, ← hbc, ← hV9]
  clear hbf hbc hV9
  obtain ⟨FT, HFT⟩ : ∃ S, Hid ((⟨(Lib.itoa (P / D)).toArray⟩ : ByteArray) = S) := ⟨_, rfl⟩
  obtain ⟨CT, HCT⟩ : ∃ S, Hid ((⟨(Lib.itoa (-((-P) / D))).toArray⟩ : ByteArray) = S) := ⟨_, rfl⟩
  have VF := hide (unhide VF).drew
  have VC := hide (unhide VC).drew
  have HL := hide (unhide HL).drew
  have p0 := (unhide VF).c0
  have p1 := (unhide VF).c1
  have q0 := (unhide VC).c0
  have q1 := (unhide VC).c1
  obtain ⟨r0, r1, r2, r3⟩ := (unhide HL).ca
  have tok1 : True := trivial
  have tok2 : True := trivial
  have S0 := hide (show Below w.heap.size w V9.drew ∧ V9.drew.cell? ⟨bf, 0, none⟩ = some (.int .i64 f1) ∧ V9.drew.cell? ⟨bf, 1, none⟩ = some (.slice f2 f3 f4) ∧ V9.drew.cell? ⟨bc, 0, none⟩ = some (.int .i64 c1) ∧ V9.drew.cell? ⟨bc, 1, none⟩ = some (.slice c2 c3 c4) ∧ V9.drew.cell? ⟨ba, 0, none⟩ = some (.bool a1) ∧ V9.drew.cell? ⟨ba, 1, none⟩ = some (.slice a2 a3 a4) ∧ V9.drew.cell? ⟨ba, 2, none⟩ = some (.bool a5) ∧ V9.drew.cell? ⟨ba, 3, none⟩ = some (.slice a6 a7 a8) from ⟨(unhide HL).below, p0, p1, q0, q1, r0, r1, r2, r3⟩)
  go_region_held3 (fun w' => Below w.heap.size w w' ∧ w'.cell? ⟨bf, 0, none⟩ = some (.int .i64 f1) ∧ w'.cell? ⟨bf, 1, none⟩ = some (.slice f2 f3 f4) ∧ w'.cell? ⟨bc, 0, none⟩ = some (.int .i64 c1) ∧ w'.cell? ⟨bc, 1, none⟩ = some (.slice c2 c3 c4) ∧ w'.cell? ⟨ba, 0, none⟩ = some (.bool a1) ∧ w'.cell? ⟨ba, 1, none⟩ = some (.slice a2 a3 a4) ∧ w'.cell? ⟨ba, 2, none⟩ = some (.bool a5) ∧ w'.cell? ⟨ba, 3, none⟩ = some (.slice a6 a7 a8))
    (first | with_reducible exact unhide S6 | with_reducible exact unhide S5 | with_reducible exact unhide S4 | with_reducible exact unhide S3 | with_reducible exact unhide S2 | with_reducible exact unhide S1 | with_reducible exact unhide S0)
    (first
      | (go_at_call 17; have _t := tok1; go_fit (text_any _ (unhide VF).zr (by omega) (tab_later (unhide HTAB) (unhide HL).below)); rintro e9 U1 ⟨rfl, hb⟩; clear tok1; rw [unhide HFT]; have S1 := hide (keep8 hb (unhide S0)); have HL := hide ((unhide HL).keep hb); have VC := hide ((unhide VC).keep hb); clear hb)
      | (go_at_call 53; go_fit (rfloor_any _ (unhide HL).qa (by omega)); rintro e9 U2 ⟨⟨v9, rfl, hN9⟩, hb⟩; obtain ⟨m1, m2, m3, m4, rfl⟩ := hN9.shape; have S2 := hide (keep8 hb (unhide S1)); have HL := hide ((unhide HL).keep hb); have VC := hide ((unhide VC).keep hb); have HN9 := hide hN9; clear hb hN9)
      | (go_at_call 18; have _t := tok2; go_fit (rtext_any _ (unhide HN9) (by omega)); rintro e9 U3 ⟨rfl, hb⟩; clear tok2 HN9; rw [unhide HFT]; have S3 := hide (keep8 hb (unhide S2)); have HL := hide ((unhide HL).keep hb); have VC := hide ((unhide VC).keep hb); clear hb)
      | (go_at_call 17; go_fit (text_any _ (unhide VC).zr (by omega) (tab_later (unhide HTAB) (unhide HL).below)); rintro e9 U4 ⟨rfl, hb⟩; rw [unhide HCT]; have S4 := hide (keep8 hb (unhide S3)); have HL := hide ((unhide HL).keep hb); clear hb)
      | (go_at_call 54; go_fit (rceil_any _ (unhide HL).qa (by omega)); rintro e9 U5 ⟨⟨v9, rfl, hN9⟩, hb⟩; obtain ⟨m1, m2, m3, m4, rfl⟩ := hN9.shape; have S5 := hide (keep8 hb (unhide S4)); have HL := hide ((unhide HL).keep hb); have HN9 := hide hN9; clear hb hN9)
      | (go_at_call 18; go_fit (rtext_any _ (unhide HN9) (by omega)); rintro e9 U6 ⟨rfl, hb⟩; clear HN9; rw [unhide HCT]; have S6 := hide (keep8 hb (unhide S5)); have HL := hide ((unhide HL).keep hb); clear hb))
  clear S0 S1 S2 S3 S4 S5 S6 p0 p1 q0 q1 r0 r1 r2 r3 VF VC HFT HCT
  obtain ⟨xc0, xc1, xc2, xc3⟩ := (unhide HL).cx
  obtain ⟨yc0, yc1, yc2, yc3⟩ := (unhide HL).cy
  go_wp2_with fail
  go_fit (qquo_any (N := 77) _ (unhide HL).rx (unhide HL).ry (by omega) ((unhide HTT).later (unhide HL).below))
  rintro e W11 ⟨hq, hb⟩
  have HL := hide ((unhide HL).keep hb)
  clear hb xc0 xc1 xc2 xc3 yc0 yc1 yc2 yc3
  rcases hq with ⟨hz, rfl⟩ | ⟨hz, v, Pq, Dq, rfl, hR, hE⟩
  · have kn := below_new W11 (.cells #[.int .i64 0, .slice none 0 0, .int .i64 0, .slice none 0 0] 52)
    have HL := hide ((unhide HL).keep kn)
    have cq := c4_new (w := W11) (.int .i64 0) (.slice none 0 0) (.int .i64 0) (.slice none 0 0) 52
    obtain ⟨p0, p1, p2, p3⟩ := (unhide HL).cb
    go_wp2_with fail
    go_fit (rqsign_any _ (unhide HL).qb)
    rintro e W12 ⟨rfl, hb⟩
    rw [sgn_zero hz]
    have B12 := below_keep hb (unhide HL).below
    obtain ⟨q0, q1, q2, q3⟩ := c4_keep hb cq
    clear kn cq p0 p1 p2 p3 hb HL
    go_wp2_with fail
    go_fit (qtext_any (N := 1) _ (rsum_zero 1 _) (by omega) (tab_later (unhide HTAB) B12))
    rintro e W13 ⟨rfl, hb⟩
    rw [qtext_nought]
    have B13 := below_keep hb B12
    go_wp2
    go_ret
    exact ⟨rfl, B13⟩
  · obtain ⟨s1, s2, s3, s4, s5, s6, s7, s8, rfl⟩ := hR.shape
    have kn := below_new W11 (.cells #[.int .i64 s1, .slice s2 s3 s4, .int .i64 s5, .slice s6 s7 s8] 52)
    have HL := hide ((unhide HL).keep kn)
    have RS := hide (RB.new hR)
    have HES := hide hE
    have HZ := hide hz
    have hsz : (sgn P' == 0) = false := by rcases sgn_val P' with ⟨_, h, _⟩ | ⟨h, _⟩ | ⟨_, h, _⟩; rw [h]; rfl; exact absurd h hz; rw [h]; rfl
    obtain ⟨p0, p1, p2, p3⟩ := (unhide HL).cb
    clear hz hR hE kn
    go_wp2_with fail
    go_fit (rqsign_any _ (unhide HL).qb)
    rintro e W12 ⟨rfl, hb⟩
    have HL := hide ((unhide HL).keep hb)
    have RS := hide ((unhide RS).keep hb)
    obtain ⟨bs, hbs⟩ : ∃ X, X = W11.heap.size := ⟨_, rfl⟩
    clear p0 p1 p2 p3 hb
    have HDP := hide (show D * P' ≠ 0 from by obtain ⟨_, _, _, _, _, _, _, _, _, _, _, h1, _⟩ := (unhide HL).qa; exact Int.mul_ne_zero (by omega) (unhide HZ))
    obtain ⟨ST, HST⟩ : ∃ S, Hid (qtext Pq Dq = S) := ⟨_, rfl⟩
    go_upto_region 27 with fail
    rw [← hbs] at RS ⊢
    clear hbs
    have HL := hide (unhide HL).drew
    have RS := hide (unhide RS).drew
    obtain ⟨p0, p1, p2, p3⟩ := (unhide RS).c
    obtain ⟨q0, q1, q2, q3⟩ := (unhide HL).cx
    obtain ⟨r0, r1, r2, r3⟩ := (unhide HL).ca
    obtain ⟨u0, u1, u2, u3⟩ := (unhide HL).cb
    have S0 := hide (show Below w.heap.size w W12.drew ∧ W12.drew.cell? ⟨bs, 0, none⟩ = some (.int .i64 s1) ∧ W12.drew.cell? ⟨bs, 1, none⟩ = some (.slice s2 s3 s4) ∧ W12.drew.cell? ⟨bs, 2, none⟩ = some (.int .i64 s5) ∧ W12.drew.cell? ⟨bs, 3, none⟩ = some (.slice s6 s7 s8) ∧ W12.drew.cell? ⟨bx, 0, none⟩ = some (.int .i64 x1) ∧ W12.drew.cell? ⟨bx, 1, none⟩ = some (.slice x2 x3 x4) ∧ W12.drew.cell? ⟨bx, 2, none⟩ = some (.int .i64 x5) ∧ W12.drew.cell? ⟨bx, 3, none⟩ = some (.slice x6 x7 x8) ∧ W12.drew.cell? ⟨ba, 0, none⟩ = some (.bool a1) ∧ W12.drew.cell? ⟨ba, 1, none⟩ = some (.slice a2 a3 a4) ∧ W12.drew.cell? ⟨ba, 2, none⟩ = some (.bool a5) ∧ W12.drew.cell? ⟨ba, 3, none⟩ = some (.slice a6 a7 a8) ∧ W12.drew.cell? ⟨bb, 0, none⟩ = some (.bool b1) ∧ W12.drew.cell? ⟨bb, 1, none⟩ = some (.slice b2 b3 b4) ∧ W12.drew.cell? ⟨bb, 2, none⟩ = some (.bool b5) ∧ W12.drew.cell? ⟨bb, 3, none⟩ = some (.slice b6 b7 b8) from ⟨(unhide HL).below, p0, p1, p2, p3, q0, q1, q2, q3, r0, r1, r2, r3, u0, u1, u2, u3⟩)
    go_region_held3 (fun w' => Below w.heap.size w w' ∧ w'.cell? ⟨bs, 0, none⟩ = some (.int .i64 s1) ∧ w'.cell? ⟨bs, 1, none⟩ = some (.slice s2 s3 s4) ∧ w'.cell? ⟨bs, 2, none⟩ = some (.int .i64 s5) ∧ w'.cell? ⟨bs, 3, none⟩ = some (.slice s6 s7 s8) ∧ w'.cell? ⟨bx, 0, none⟩ = some (.int .i64 x1) ∧ w'.cell? ⟨bx, 1, none⟩ = some (.slice x2 x3 x4) ∧ w'.cell? ⟨bx, 2, none⟩ = some (.int .i64 x5) ∧ w'.cell? ⟨bx, 3, none⟩ = some (.slice x6 x7 x8) ∧ w'.cell? ⟨ba, 0, none⟩ = some (.bool a1) ∧ w'.cell? ⟨ba, 1, none⟩ = some (.slice a2 a3 a4) ∧ w'.cell? ⟨ba, 2, none⟩ = some (.bool a5) ∧ w'.cell? ⟨ba, 3, none⟩ = some (.slice a6 a7 a8) ∧ w'.cell? ⟨bb, 0, none⟩ = some (.bool b1) ∧ w'.cell? ⟨bb, 1, none⟩ = some (.slice b2 b3 b4) ∧ w'.cell? ⟨bb, 2, none⟩ = some (.bool b5) ∧ w'.cell? ⟨bb, 3, none⟩ = some (.slice b6 b7 b8))
      (first | with_reducible exact unhide S3 | with_reducible exact unhide S2 | with_reducible exact unhide S1 | with_reducible exact unhide S0)
      (first
        | (go_at_call 33; go_fit (qtext_any _ (unhide RS).r (by omega) (tab_later (unhide HTAB) (unhide HL).below)); rintro e9 T1 ⟨rfl, hb⟩; have S1 := hide (kc16 hb (unhide S0)); have HL := hide (LS.keep (unhide HL) hb); have RS := hide (RB.keep (unhide RS) hb); rw [unhide HST]; clear hb)
        | (go_at_call 56; go_fit (rqquo_any (N := 362) _ (unhide HL).qa (unhide HL).qb (by omega) (unhide HZ)); rintro e9 T2 ⟨⟨v9, P9, D9, rfl, hQ, hE9⟩, hb⟩; have S2 := hide (kc16 hb (unhide S1)); have HL := hide (LS.keep (unhide HL) hb); have RS := hide (RB.keep (unhide RS) hb); obtain ⟨hp9, hd9⟩ := same_lowest (unhide RS).r hQ (unhide HDP) (unhide HES) hE9; subst hp9 hd9; obtain ⟨m1, m2, m3, m4, m5, m6, m7, m8, rfl⟩ := hQ.shape; have HQ9 := hide hQ; clear hQ hE9; clear hb)
        | (go_at_call 36; go_fit (rqtext_any _ (unhide HQ9) (by omega)); rintro e9 T3 ⟨rfl, hb⟩; have S3 := hide (kc16 hb (unhide S2)); have HL := hide (LS.keep (unhide HL) hb); have RS := hide (RB.keep (unhide RS) hb); rw [unhide HST]; clear HQ9; clear hb))
    clear S0 S1 S2 S3 p0 p1 p2 p3 q0 q1 q2 q3 r0 r1 r2 r3 u0 u1 u2 u3
    go_wp2
    go_ret
    exact ⟨rfl, (unhide HL).below⟩
end Go.Proofs.YtmhebjeefdanmaaGreatDoor
