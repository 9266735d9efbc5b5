/-
  The document's reader of fractions: qread, whole.
  A fraction in a box.
  What the laws on fractions share.
  The two fractions of a law, of the document and of the program, in their boxes.
  Walks over the fractions of the document: Simplest.
  The law RatioSimplest, walked: for every two texts it answers true.
-/
import Derived.Test.YtpecanpbkbanhaaGreatDoorMWJ
import Derived.Test.YtpecanpbkbanhaaGreatDoorMQC
import Derived.Test.YtpecanpbkbanhaaGreatDoorMTB
import Derived.Test.YtpecanpbkbanhaaGreatDoorMDA
import Derived.Test.YtpecanpbkbanhaaGreatDoorMT5
import Derived.Test.YtpecanpbkbanhaaGreatDoorMT6a2
import Derived.Test.YtpecanpbkbanhaaGreatDoorMT6b
import Derived.Test.YtpecanpbkbanhaaGreatDoorMSE
import Derived.Test.YtpecanpbkbanhaaGreatDoorMF3
import Derived.Test.YtpecanpbkbanhaaGreatDoorMH6
import Derived.Deep.RegionHeld3
namespace Go.Proofs.YtpecanpbkbanhaaGreatDoor
open Go.RowKit
/-- qread. -/
theorem rqread_core (s : ByteArray) (w : World) (hs : s.size ≤ 9223372036854775807) :
    Calls Tryz.prog 131 #[.string s, .int .i64 300] w fun e w' => QRP s e w' ∧ Below w.heap.size w w' := by
  by_cases h1 : runEnd s (atOf s) = atOf s ∨ atOf s + 300 < runEnd s (atOf s)
  · exact rq_early s w hs h1
  · have h0 := runEnd_ge s _ (atOf s) rfl
    cases h2 : bAt s (runEnd s (atOf s)) 47
    · cases h3 : said s with
      | inl x =>
        by_cases h4 : bAt s (runEnd s (atOf s)) 46 = true ∧ (runEnd s (runEnd s (atOf s) + 1) = runEnd s (atOf s) + 1 ∨ runEnd s (atOf s) + 1 + 300 < runEnd s (runEnd s (atOf s) + 1))
        · exact rq_point_bad s w hs h4 ⟨by omega, by omega, h2⟩
        · exact rq_exp_bad s w hs ⟨⟨x, h3⟩, h4⟩ ⟨by omega, by omega, h2⟩
      | inr x => exact rq_dec_good s w hs ⟨x, h3⟩ ⟨by omega, by omega, h2⟩
    · exact rq_stroke s w hs ⟨by omega, by omega, h2⟩
set_option maxHeartbeats 2000000 in
/-- QRead. -/
theorem rqread_any (s : ByteArray) (w : World) (hs : s.size ≤ 9223372036854775807) :
    Calls Tryz.prog 34 #[.string s] w fun e w' => QRP s e w' ∧ Below w.heap.size w w' := by
  have hst := QK.start w
  go_enter Tryz.func34, Tryz.ntmps34
  go_wp2_with fail
  go_fit (rqread_core s _ hs)
  rintro e W1 ⟨hc, hb1⟩
  have hst1 := hst.keep hb1
  clear hst hb1
  obtain ⟨⟨x0, g0⟩, ⟨a0, n0, c0, g1⟩, ⟨x1, g2⟩, ⟨a1, n1, c1, g3⟩, gf⟩ := hst1.qb.cells
  obtain ⟨⟨y0, k0⟩, ⟨y1, k1⟩, kf⟩ := hst1.fb.cells
  have hlt := hst1.lt
  rcases hc with ⟨c, k, hsd, hc1, hc3, rfl⟩ | ⟨p, q, v, P, D, hsd, hq, rfl, hQ, hE⟩
  · have HSD := hide hsd
    clear hsd
    go_wp2
    obtain ⟨t0, t1, t2, t3, t4, t5, hB⟩ := hst1.out (.bool false) (.slice none 0 0) (.bool false) (.slice none 0 0) (.int .i64 c) (.int .i64 k)
    exact bodyPost_ret (v := .tuple #[.agg #[.bool false, .slice none 0 0, .bool false, .slice none 0 0], .agg #[.int .i64 c, .int .i64 k]]) (by simp [results, Tryz.results34, go_sem, t0, t1, t2, t3, t4, t5]) rfl ⟨Or.inl ⟨c, k, unhide HSD, hc1, hc3, rfl⟩, hB⟩
  · have HSD := hide hsd
    have HE := hide hE
    clear hsd hE
    obtain ⟨i5, i6, i7, i8, i9, i10, i11, i12, rfl, hP3, hD3, D0, hG3⟩ := hQ
    have HG3 := hide hG3
    clear hG3
    go_wp2
    obtain ⟨t0, t1, t2, t3, t4, t5, hB⟩ := hst1.out (.bool i5) (.slice i6 i7 i8) (.bool i9) (.slice i10 i11 i12) (.int .i64 0) (.int .i64 (-1))
    exact bodyPost_ret (v := .tuple #[.agg #[.bool i5, .slice i6 i7 i8, .bool i9, .slice i10 i11 i12], .agg #[.int .i64 0, .int .i64 (-1)]]) (by simp [results, Tryz.results34, go_sem, t0, t1, t2, t3, t4, t5]) rfl ⟨Or.inr ⟨p, q, _, P, D, unhide HSD, hq, rfl, ⟨_, _, _, _, _, _, _, _, rfl, hst1.nr hP3 _ _ _ _ _ _, hst1.nr hD3 _ _ _ _ _ _, D0, unhide HG3⟩, unhide HE⟩, hB⟩
end Go.Proofs.YtpecanpbkbanhaaGreatDoor
namespace Go.Proofs.YtpecanpbkbanhaaGreatDoor
open Go.RowKit
/-- A fraction in a box. -/
structure RB (N : Nat) (wr : World) (b : Nat) (x1 : Int) (x2 : Option Addr) (x3 x4 : Nat) (x5 : Int) (x6 : Option Addr) (x7 x8 : Nat) (P D : Int) : Prop where
  c : wr.cell? ⟨b, 0, none⟩ = some (.int .i64 x1) ∧ wr.cell? ⟨b, 1, none⟩ = some (.slice x2 x3 x4) ∧ wr.cell? ⟨b, 2, none⟩ = some (.int .i64 x5) ∧ wr.cell? ⟨b, 3, none⟩ = some (.slice x6 x7 x8)
  r : Rr N wr (.agg #[.int .i64 x1, .slice x2 x3 x4, .int .i64 x5, .slice x6 x7 x8]) P D
theorem RB.keep {N : Nat} {wr w1 : World} {b : Nat} {x1 : Int} {x2 : Option Addr} {x3 x4 : Nat} {x5 : Int} {x6 : Option Addr} {x7 x8 : Nat} {P D : Int} (h : RB N wr b x1 x2 x3 x4 x5 x6 x7 x8 P D) (hb : Below wr.heap.size wr w1) : RB N w1 b x1 x2 x3 x4 x5 x6 x7 x8 P D := ⟨c4_keep hb h.c, h.r.later hb⟩
theorem RB.drew {N : Nat} {wr : World} {b : Nat} {x1 : Int} {x2 : Option Addr} {x3 x4 : Nat} {x5 : Int} {x6 : Option Addr} {x7 x8 : Nat} {P D : Int} (h : RB N wr b x1 x2 x3 x4 x5 x6 x7 x8 P D) : RB N wr.drew b x1 x2 x3 x4 x5 x6 x7 x8 P D := ⟨h.c, h.r⟩
theorem RB.new {N : Nat} {w : World} {x1 : Int} {x2 : Option Addr} {x3 x4 : Nat} {x5 : Int} {x6 : Option Addr} {x7 x8 : Nat} {P D : Int} (h : Rr N w (.agg #[.int .i64 x1, .slice x2 x3 x4, .int .i64 x5, .slice x6 x7 x8]) P D) : RB N (w.alloc (.cells #[.int .i64 x1, .slice x2 x3 x4, .int .i64 x5, .slice x6 x7 x8] 52)) w.heap.size x1 x2 x3 x4 x5 x6 x7 x8 P D := ⟨c4_new _ _ _ _ _, h.later (below_new _ _)⟩
end Go.Proofs.YtpecanpbkbanhaaGreatDoor
namespace Go.Proofs.YtpecanpbkbanhaaGreatDoor
open Go.RowKit
theorem rsum_zero (N : Nat) (w : World) : Rr N w (.agg #[.int .i64 0, .slice none 0 0, .int .i64 0, .slice none 0 0]) 0 1 :=
  ⟨0, none, 0, 0, 0, none, 0, 0, 0, rfl, Zr.near _ (by decide) (by decide), Zr.near _ (by decide) (by decide), by decide, by decide, Or.inl ⟨rfl, rfl⟩⟩
theorem qtext_nought : qtext 0 1 = ⟨#[48]⟩ := by unfold qtext; rw [if_pos rfl, itoa_zero]
/-- What the document's reader answers, in one form. -/
theorem QRP.form {s : ByteArray} {e : Ending} {w' : World} (h : QRP s e w') : ∃ j1 j2 j3 j4 j5 j6 j7 j8 code pl, e = .returned (.tuple #[.agg #[.bool j1, .slice j2 j3 j4, .bool j5, .slice j6 j7 j8], .agg #[.int .i64 code, .int .i64 pl]]) ∧
    Hid (0 < code ∨ (code = 0 ∧ ∃ p q P D, said s = .inr (p, q) ∧ 0 < q ∧ Qr 362 w' (.agg #[.bool j1, .slice j2 j3 j4, .bool j5, .slice j6 j7 j8]) P D ∧ P * q = p * D)) := by
  rcases h with ⟨c, k, hs, c1, c3, rfl⟩ | ⟨p, q, v, P, D, hs, hq, rfl, hQ, hE⟩
  · exact ⟨_, _, _, _, _, _, _, _, _, _, rfl, Or.inl (by omega)⟩
  · have hQ0 := hQ
    obtain ⟨j1, j2, j3, j4, j5, j6, j7, j8, rfl, _⟩ := hQ
    exact ⟨_, _, _, _, _, _, _, _, _, _, rfl, Or.inr ⟨rfl, p, q, P, D, hs, hq, hQ0, hE⟩⟩
/-- What the program's reader answers to a text that says a number. -/
theorem RdP.good {s : ByteArray} {A : Nat → Addr} {e : Ending} {w' : World} {p q : Int} (h : RdP s A e w') (hs : said s = .inr (p, q)) : ∃ v P D, e = .returned (.tuple #[v, .nilIface]) ∧ Rr 78 w' v P D ∧ P * q = p * D := by
  rcases h with ⟨c, k, pb, h, _⟩ | ⟨p', q', v, P, D, h, _, he, hR, hE⟩
  · rw [hs] at h; exact absurd h (by simp)
  · rw [hs] at h
    obtain ⟨rfl, rfl⟩ : p = p' ∧ q = q' := by simpa using h
    exact ⟨v, P, D, he, hR, hE⟩
end Go.Proofs.YtpecanpbkbanhaaGreatDoor
namespace Go.Proofs.YtpecanpbkbanhaaGreatDoor
open Go.RowKit
/-- The two fractions, of the document and of the program, in their boxes. -/
structure LS (w : World) (ba bb bx bz : Nat) (a1 : Bool) (a2 : Option Addr) (a3 a4 : Nat) (a5 : Bool) (a6 : Option Addr) (a7 a8 : Nat) (b1 : Bool) (b2 : Option Addr) (b3 b4 : Nat) (b5 : Bool) (b6 : Option Addr) (b7 b8 : Nat) (x1 : Int) (x2 : Option Addr) (x3 x4 : Nat) (x5 : Int) (x6 : Option Addr) (x7 x8 : Nat) (y1 : Int) (y2 : Option Addr) (y3 y4 : Nat) (y5 : Int) (y6 : Option Addr) (y7 y8 : Nat) (P D P' D' : Int) (wr : World) : Prop where
  below : Below w.heap.size w wr
  ca : wr.cell? ⟨ba, 0, none⟩ = some (.bool a1) ∧ wr.cell? ⟨ba, 1, none⟩ = some (.slice a2 a3 a4) ∧ wr.cell? ⟨ba, 2, none⟩ = some (.bool a5) ∧ wr.cell? ⟨ba, 3, none⟩ = some (.slice a6 a7 a8)
  cb : wr.cell? ⟨bb, 0, none⟩ = some (.bool b1) ∧ wr.cell? ⟨bb, 1, none⟩ = some (.slice b2 b3 b4) ∧ wr.cell? ⟨bb, 2, none⟩ = some (.bool b5) ∧ wr.cell? ⟨bb, 3, none⟩ = some (.slice b6 b7 b8)
  cx : wr.cell? ⟨bx, 0, none⟩ = some (.int .i64 x1) ∧ wr.cell? ⟨bx, 1, none⟩ = some (.slice x2 x3 x4) ∧ wr.cell? ⟨bx, 2, none⟩ = some (.int .i64 x5) ∧ wr.cell? ⟨bx, 3, none⟩ = some (.slice x6 x7 x8)
  cy : wr.cell? ⟨bz, 0, none⟩ = some (.int .i64 y1) ∧ wr.cell? ⟨bz, 1, none⟩ = some (.slice y2 y3 y4) ∧ wr.cell? ⟨bz, 2, none⟩ = some (.int .i64 y5) ∧ wr.cell? ⟨bz, 3, none⟩ = some (.slice y6 y7 y8)
  qa : Qr 362 wr (.agg #[.bool a1, .slice a2 a3 a4, .bool a5, .slice a6 a7 a8]) P D
  qb : Qr 362 wr (.agg #[.bool b1, .slice b2 b3 b4, .bool b5, .slice b6 b7 b8]) P' D'
  rx : Rr 78 wr (.agg #[.int .i64 x1, .slice x2 x3 x4, .int .i64 x5, .slice x6 x7 x8]) P D
  ry : Rr 78 wr (.agg #[.int .i64 y1, .slice y2 y3 y4, .int .i64 y5, .slice y6 y7 y8]) P' D'
theorem LS.keep {w : World} {ba bb bx bz : Nat} {a1 : Bool} {a2 : Option Addr} {a3 a4 : Nat} {a5 : Bool} {a6 : Option Addr} {a7 a8 : Nat} {b1 : Bool} {b2 : Option Addr} {b3 b4 : Nat} {b5 : Bool} {b6 : Option Addr} {b7 b8 : Nat} {x1 : Int} {x2 : Option Addr} {x3 x4 : Nat} {x5 : Int} {x6 : Option Addr} {x7 x8 : Nat} {y1 : Int} {y2 : Option Addr} {y3 y4 : Nat} {y5 : Int} {y6 : Option Addr} {y7 y8 : Nat} {P D P' D' : Int} {wr w1 : World} (h : LS w ba bb bx bz a1 a2 a3 a4 a5 a6 a7 a8 b1 b2 b3 b4 b5 b6 b7 b8 x1 x2 x3 x4 x5 x6 x7 x8 y1 y2 y3 y4 y5 y6 y7 y8 P D P' D' wr) (hb : Below wr.heap.size wr w1) : LS w ba bb bx bz a1 a2 a3 a4 a5 a6 a7 a8 b1 b2 b3 b4 b5 b6 b7 b8 x1 x2 x3 x4 x5 x6 x7 x8 y1 y2 y3 y4 y5 y6 y7 y8 P D P' D' w1 :=
  ⟨below_keep hb h.below, c4_keep hb h.ca, c4_keep hb h.cb, c4_keep hb h.cx, c4_keep hb h.cy, h.qa.later hb, h.qb.later hb, h.rx.later hb, h.ry.later hb⟩
theorem LS.drew {w : World} {ba bb bx bz : Nat} {a1 : Bool} {a2 : Option Addr} {a3 a4 : Nat} {a5 : Bool} {a6 : Option Addr} {a7 a8 : Nat} {b1 : Bool} {b2 : Option Addr} {b3 b4 : Nat} {b5 : Bool} {b6 : Option Addr} {b7 b8 : Nat} {x1 : Int} {x2 : Option Addr} {x3 x4 : Nat} {x5 : Int} {x6 : Option Addr} {x7 x8 : Nat} {y1 : Int} {y2 : Option Addr} {y3 y4 : Nat} {y5 : Int} {y6 : Option Addr} {y7 y8 : Nat} {P D P' D' : Int} {wr : World} (h : LS w ba bb bx bz a1 a2 a3 a4 a5 a6 a7 a8 b1 b2 b3 b4 b5 b6 b7 b8 x1 x2 x3 x4 x5 x6 x7 x8 y1 y2 y3 y4 y5 y6 y7 y8 P D P' D' wr) : LS w ba bb bx bz a1 a2 a3 a4 a5 a6 a7 a8 b1 b2 b3 b4 b5 b6 b7 b8 x1 x2 x3 x4 x5 x6 x7 x8 y1 y2 y3 y4 y5 y6 y7 y8 P D P' D' wr.drew := ⟨h.below.drew, h.ca, h.cb, h.cx, h.cy, h.qa, h.qb, h.rx, h.ry⟩
end Go.Proofs.YtpecanpbkbanhaaGreatDoor
namespace Go.Proofs.YtpecanpbkbanhaaGreatDoor
open Go.RowKit
/-- What the document's Simplest answers. -/
def SimQ (N : Nat) (p d p' d' : Int) (e : Ending) (w' : World) : Prop :=
  (p' * d < p * d' ∧ e = .returned (.tuple #[.agg #[.bool false, .slice none 0 0, .bool false, .slice none 0 0], .bool false])) ∨
  (p * d' ≤ p' * d ∧ ∃ v, e = .returned (.tuple #[v, .bool true]) ∧ Qr N w' v (simplest p d p' d').1 (simplest p d p' d').2)
set_option maxHeartbeats 8000000 in
set_option maxRecDepth 8000 in
/-- Simplest. -/
theorem rsimplest_any {N : Nat} {v v' : Value} {p d p' d' : Int} (w : World) (h : Qr N w v p d) (h' : Qr N w v' p' d') (hN2 : 2 ≤ N) (hN : N ≤ 380) :
    Calls Tryz.prog 67 #[v, v'] w fun e w' => SimQ N p d p' d' e w' ∧ Below w.heap.size w w' := by
  obtain ⟨x1, x2, x3, x4, x5, x6, x7, x8, rfl⟩ := h.shape
  obtain ⟨y1, y2, y3, y4, y5, y6, y7, y8, rfl⟩ := h'.shape
  have HD := hide (show 0 < d ∧ 0 < d' by obtain ⟨_, _, _, _, _, _, _, _, _, _, _, h1, _⟩ := h; obtain ⟨_, _, _, _, _, _, _, _, _, _, _, h2, _⟩ := h'; exact ⟨h1, h2⟩)
  have HK := hide (BeK.start h h')
  clear h h'
  go_enter Tryz.func67, Tryz.ntmps67
  go_wp2_with fail
  obtain ⟨W0, hW0⟩ : ∃ W0, W0 = ((w.alloc (.cells #[.bool x1, .slice x2 x3 x4, .bool x5, .slice x6 x7 x8] 56)).alloc (.cells #[.bool y1, .slice y2 y3 y4, .bool y5, .slice y6 y7 y8] 56)).alloc (.cells #[.bool false, .slice none 0 0, .bool false, .slice none 0 0] 56) := ⟨_, rfl⟩
  rw [← hW0] at HK ⊢
  clear hW0
  have c0 := (unhide HK).lo.c0
  have c1 := (unhide HK).lo.c1
  have c2 := (unhide HK).lo.c2
  have c3 := (unhide HK).lo.c3
  have f0 := (unhide HK).hi.c0
  have f1 := (unhide HK).hi.c1
  have f2 := (unhide HK).hi.c2
  have f3 := (unhide HK).hi.c3
  go_wp2_with fail
  go_fit (rqcmp_any (N := N) _ (unhide HK).lo.qr (unhide HK).hi.qr (by omega))
  rintro e W1 ⟨rfl, hb⟩
  have HK := hide ((unhide HK).keep hb)
  clear hb c0 c1 c2 c3 f0 f1 f2 f3
  by_cases hc : p' * d < p * d'
  · rw [sgn_pos (by omega)]
    have HC := hide hc
    clear hc
    have hbx := (unhide HK).ret
    obtain ⟨⟨j0, g0⟩, ⟨j1, j2, j3, g1⟩, ⟨j4, g2⟩, ⟨j5, j6, j7, g3⟩, gf⟩ := hbx.cells
    have hxlt := hbx.lt
    go_wp2
    obtain ⟨st0, st1, st2, st3⟩ := hbx.stored (.bool false) (.slice none 0 0) (.bool false) (.slice none 0 0)
    exact bodyPost_ret (v := .tuple #[.agg #[.bool false, .slice none 0 0, .bool false, .slice none 0 0], .bool false]) (by simp [results, Tryz.results67, go_sem, st0, st1, st2, st3]) rfl ⟨Or.inl ⟨unhide HC, rfl⟩, below_rstored (unhide HK).below (by omega) _ _ _ _⟩
  have hsg : ¬ 0 < sgn (p * d' - p' * d) := by rcases sgn_val (p * d' - p' * d) with ⟨_, h, _⟩ | ⟨_, h, _⟩ | ⟨h, _⟩ <;> omega
  have HC := hide (show p * d' ≤ p' * d by omega)
  clear hc
  have c0 := (unhide HK).lo.c0
  have c1 := (unhide HK).lo.c1
  have c2 := (unhide HK).lo.c2
  have c3 := (unhide HK).lo.c3
  go_wp2_with fail
  go_fit (rqsign_any _ (unhide HK).lo.qr)
  rintro e W2 ⟨rfl, hb⟩
  have HK := hide ((unhide HK).keep hb)
  clear hb c0 c1 c2 c3 hsg
  have f0 := (unhide HK).hi.c0
  have f1 := (unhide HK).hi.c1
  have f2 := (unhide HK).hi.c2
  have f3 := (unhide HK).hi.c3
  go_wp2_with fail
  go_fit (rqsign_any _ (unhide HK).hi.qr)
  rintro e W3 ⟨rfl, hb⟩
  have HK := hide ((unhide HK).keep hb)
  clear hb f0 f1 f2 f3
  by_cases hp : 0 < p
  · have hp' : 0 < p' := by
      rcases Int.lt_or_le 0 p' with h | h
      · exact h
      · have h1 : 0 < p * d' := Int.mul_pos hp (unhide HD).2
        have h2 : p' * d ≤ 0 * d := Int.mul_le_mul_of_nonneg_right h (Int.le_of_lt (unhide HD).1)
        have h3 := unhide HC
        omega
    rw [sgn_pos hp, sgn_pos hp']
    have HP := hide hp
    clear hp hp'
    have c0 := (unhide HK).lo.c0
    have c1 := (unhide HK).lo.c1
    have c2 := (unhide HK).lo.c2
    have c3 := (unhide HK).lo.c3
    have f0 := (unhide HK).hi.c0
    have f1 := (unhide HK).hi.c1
    have f2 := (unhide HK).hi.c2
    have f3 := (unhide HK).hi.c3
    go_wp2_with fail
    go_fit (rbetween_any (N := N) _ (unhide HK).lo.qr (unhide HK).hi.qr hN2 hN (unhide HP) (unhide HC))
    rintro e9 Y5 ⟨⟨v5, rfl, hR5⟩, hb⟩
    have hR5 : Qr N Y5 v5 (simplest p d p' d').1 (simplest p d p' d').2 := by unfold simplest; rw [if_pos (unhide HP)]; exact hR5
    obtain ⟨o1, o2, o3, o4, o5, o6, o7, o8, rfl⟩ := hR5.shape
    have HK := hide ((unhide HK).keep hb)
    clear hb c0 c1 c2 c3 f0 f1 f2 f3
    have hbx := (unhide HK).ret
    obtain ⟨⟨j0, g0⟩, ⟨j1, j2, j3, g1⟩, ⟨j4, g2⟩, ⟨j5, j6, j7, g3⟩, gf⟩ := hbx.cells
    have hxlt := hbx.lt
    go_wp2
    obtain ⟨st0, st1, st2, st3⟩ := hbx.stored (.bool o1) (.slice o2 o3 o4) (.bool o5) (.slice o6 o7 o8)
    exact bodyPost_ret (v := .tuple #[.agg #[.bool o1, .slice o2 o3 o4, .bool o5, .slice o6 o7 o8], .bool true]) (by simp [results, Tryz.results67, go_sem, st0, st1, st2, st3]) rfl ⟨Or.inr ⟨unhide HC, _, rfl, hR5.qstored hbx _ _ _ _⟩, below_rstored (unhide HK).below (by omega) _ _ _ _⟩
  by_cases hq : p' < 0
  · have hp' : p < 0 := by
      rcases Int.lt_or_le p 0 with h | h
      · exact h
      · have h1 : p' * d < 0 := Int.mul_neg_of_neg_of_pos hq (unhide HD).1
        have h2 : 0 * d' ≤ p * d' := Int.mul_le_mul_of_nonneg_right h (Int.le_of_lt (unhide HD).2)
        have h3 := unhide HC
        omega
    rw [sgn_neg hq, sgn_neg hp']
    have HQ := hide hq
    have HP := hide hp'
    clear hp hq hp'
    have f0 := (unhide HK).hi.c0
    have f1 := (unhide HK).hi.c1
    have f2 := (unhide HK).hi.c2
    have f3 := (unhide HK).hi.c3
    go_wp2_with fail
    go_fit (rqneg_any (N := N) _ (unhide HK).hi.qr)
    rintro e9 Y1 ⟨⟨v1, rfl, hR1⟩, hb⟩
    obtain ⟨i1, i2, i3, i4, i5, i6, i7, i8, rfl⟩ := hR1.shape
    have kn := below_new Y1 (.cells #[.bool i1, .slice i2 i3 i4, .bool i5, .slice i6 i7 i8] 56)
    have HK := hide (((unhide HK).keep hb).keep kn)
    have HX := hide (QB.new hR1)
    clear hb kn hR1 f0 f1 f2 f3
    have f0 := (unhide HK).lo.c0
    have f1 := (unhide HK).lo.c1
    have f2 := (unhide HK).lo.c2
    have f3 := (unhide HK).lo.c3
    go_wp2_with fail
    go_fit (rqneg_any (N := N) _ (unhide HK).lo.qr)
    rintro e9 Y2 ⟨⟨v2, rfl, hR2⟩, hb⟩
    obtain ⟨k1, k2, k3, k4, k5, k6, k7, k8, rfl⟩ := hR2.shape
    have kn := below_new Y2 (.cells #[.bool k1, .slice k2 k3 k4, .bool k5, .slice k6 k7 k8] 56)
    have HK := hide (((unhide HK).keep hb).keep kn)
    have HX := hide (((unhide HX).keep hb).keep kn)
    have HY := hide (QB.new hR2)
    clear hb kn hR2 f0 f1 f2 f3
    have c0 := (unhide HX).c0
    have c1 := (unhide HX).c1
    have c2 := (unhide HX).c2
    have c3 := (unhide HX).c3
    have f0 := (unhide HY).c0
    have f1 := (unhide HY).c1
    have f2 := (unhide HY).c2
    have f3 := (unhide HY).c3
    go_wp2_with fail
    go_fit (rbetween_any (N := N) _ (unhide HX).qr (unhide HY).qr hN2 hN (by have := unhide HQ; omega) (by have := unhide HC; rw [Int.neg_mul, Int.neg_mul]; omega))
    rintro e9 Y3 ⟨⟨v3, rfl, hR3⟩, hb⟩
    obtain ⟨l1, l2, l3, l4, l5, l6, l7, l8, rfl⟩ := hR3.shape
    have kn := below_new Y3 (.cells #[.bool l1, .slice l2 l3 l4, .bool l5, .slice l6 l7 l8] 56)
    have HK := hide (((unhide HK).keep hb).keep kn)
    have HZ := hide (QB.new hR3)
    clear hb kn hR3 c0 c1 c2 c3 f0 f1 f2 f3 HX HY
    have c0 := (unhide HZ).c0
    have c1 := (unhide HZ).c1
    have c2 := (unhide HZ).c2
    have c3 := (unhide HZ).c3
    go_wp2_with fail
    go_fit (rqneg_any (N := N) _ (unhide HZ).qr)
    rintro e9 Y5 ⟨⟨v5, rfl, hR5⟩, hb⟩
    have hR5 : Qr N Y5 v5 (simplest p d p' d').1 (simplest p d p' d').2 := by unfold simplest; rw [if_neg (show ¬ 0 < p by have := unhide HP; omega), if_pos (unhide HQ)]; exact hR5
    obtain ⟨o1, o2, o3, o4, o5, o6, o7, o8, rfl⟩ := hR5.shape
    have HK := hide ((unhide HK).keep hb)
    clear hb c0 c1 c2 c3
    have hbx := (unhide HK).ret
    obtain ⟨⟨j0, g0⟩, ⟨j1, j2, j3, g1⟩, ⟨j4, g2⟩, ⟨j5, j6, j7, g3⟩, gf⟩ := hbx.cells
    have hxlt := hbx.lt
    go_wp2
    obtain ⟨st0, st1, st2, st3⟩ := hbx.stored (.bool o1) (.slice o2 o3 o4) (.bool o5) (.slice o6 o7 o8)
    exact bodyPost_ret (v := .tuple #[.agg #[.bool o1, .slice o2 o3 o4, .bool o5, .slice o6 o7 o8], .bool true]) (by simp [results, Tryz.results67, go_sem, st0, st1, st2, st3]) rfl ⟨Or.inr ⟨unhide HC, _, rfl, hR5.qstored hbx _ _ _ _⟩, below_rstored (unhide HK).below (by omega) _ _ _ _⟩
  · have hsp : sgn p ≤ 0 := by rcases sgn_val p with ⟨_, h, _⟩ | ⟨_, h, _⟩ | ⟨h, _⟩ <;> omega
    have hsq : 0 ≤ sgn p' := by rcases sgn_val p' with ⟨h, _⟩ | ⟨_, h, _⟩ | ⟨_, h, _⟩ <;> omega
    have hz : simplest p d p' d' = (0, 1) := by unfold simplest; rw [if_neg hp, if_neg hq]
    have HZ := hide hz
    clear hz hp hq
    go_wp2_with fail
    go_fit (rint_zero _)
    rintro e9 Y5 ⟨⟨v5, rfl, hR5⟩, hb⟩
    have hR5 : Qr N Y5 v5 (simplest p d p' d').1 (simplest p d p' d').2 := by rw [unhide HZ]; exact hR5.mono (by omega)
    obtain ⟨o1, o2, o3, o4, o5, o6, o7, o8, rfl⟩ := hR5.shape
    have HK := hide ((unhide HK).keep hb)
    clear hb hsp hsq
    have hbx := (unhide HK).ret
    obtain ⟨⟨j0, g0⟩, ⟨j1, j2, j3, g1⟩, ⟨j4, g2⟩, ⟨j5, j6, j7, g3⟩, gf⟩ := hbx.cells
    have hxlt := hbx.lt
    go_wp2
    obtain ⟨st0, st1, st2, st3⟩ := hbx.stored (.bool o1) (.slice o2 o3 o4) (.bool o5) (.slice o6 o7 o8)
    exact bodyPost_ret (v := .tuple #[.agg #[.bool o1, .slice o2 o3 o4, .bool o5, .slice o6 o7 o8], .bool true]) (by simp [results, Tryz.results67, go_sem, st0, st1, st2, st3]) rfl ⟨Or.inr ⟨unhide HC, _, rfl, hR5.qstored hbx _ _ _ _⟩, below_rstored (unhide HK).below (by omega) _ _ _ _⟩
end Go.Proofs.YtpecanpbkbanhaaGreatDoor
namespace Go.Proofs.YtpecanpbkbanhaaGreatDoor
open Go.RowKit
set_option maxHeartbeats 16000000 in
set_option maxRecDepth 8000 in
theorem ratioSimplest_law (A : Nat → Addr) (s t : ByteArray) (w : World) (hs : s.size ≤ 9223372036854775807) (ht : t.size ≤ 9223372036854775807) (h1 : w.cell? ⟨2, 0, none⟩ = some (.iface 307 (.pointer (some (A 0))))) (h2 : w.cell? ⟨3, 0, none⟩ = some (.iface 307 (.pointer (some (A 1))))) (h3 : w.cell? ⟨4, 0, none⟩ = some (.iface 307 (.pointer (some (A 2))))) (htab : Lib.TabIs Tryz.prog w "internal/strconv.uint64pow10" .u64 Lib.pow10Tab) (hT : Tab64 w) :
    Calls Tryz.prog 8 #[.string s, .string t] w fun e w' => e = .returned (.bool true) ∧ Below w.heap.size w w' := by
  have H123 := hide (And.intro h1 (And.intro h2 h3))
  have HTAB := hide htab
  have HTT := hide hT
  have HSS := hide (And.intro hs ht)
  have hss : (s.size : Int) ≤ 9223372036854775807 := by omega
  have htt : (t.size : Int) ≤ 9223372036854775807 := by omega
  clear h1 h2 h3 htab hT
  go_enter Tryz.func8, Tryz.ntmps8
  go_wp2_with fail
  go_fit (rqread_any s _ (unhide HSS).1)
  rintro e W1 ⟨hc, B1⟩
  obtain ⟨a1, a2, a3, a4, a5, a6, a7, a8, ac, ap, rfl, HA⟩ := hc.form
  clear hc
  have k1 := below_new W1 (.cells #[.bool a1, .slice a2 a3 a4, .bool a5, .slice a6 a7 a8] 56)
  have k2 := below_new (W1.alloc (.cells #[.bool a1, .slice a2 a3 a4, .bool a5, .slice a6 a7 a8] 56)) (.cells #[.int .i64 ac, .int .i64 ap] 26)
  have ca := c4_keep k2 (c4_new (w := W1) (.bool a1) (.slice a2 a3 a4) (.bool a5) (.slice a6 a7 a8) 56)
  have fa : ((W1.alloc (.cells #[.bool a1, .slice a2 a3 a4, .bool a5, .slice a6 a7 a8] 56)).alloc (.cells #[.int .i64 ac, .int .i64 ap] 26)).cell? ⟨W1.heap.size + 1, 0, none⟩ = some (.int .i64 ac) := by rw [new_cell (by simp)]; rfl
  have KA := hide (below_keep k2 k1)
  have CA := hide (And.intro ca fa)
  have BA := hide (below_keep (below_keep k2 k1) B1)
  clear ca fa k1 k2 B1
  go_wp2_with fail
  go_fit (rqread_any t _ (unhide HSS).2)
  rintro e W2 ⟨hc, B2⟩
  obtain ⟨b1, b2, b3, b4, b5, b6, b7, b8, bc, bp, rfl, HB⟩ := hc.form
  clear hc
  have k1 := below_new W2 (.cells #[.bool b1, .slice b2 b3 b4, .bool b5, .slice b6 b7 b8] 56)
  have k2 := below_new (W2.alloc (.cells #[.bool b1, .slice b2 b3 b4, .bool b5, .slice b6 b7 b8] 56)) (.cells #[.int .i64 bc, .int .i64 bp] 26)
  have cb := c4_keep k2 (c4_new (w := W2) (.bool b1) (.slice b2 b3 b4) (.bool b5) (.slice b6 b7 b8) 56)
  have fb : ((W2.alloc (.cells #[.bool b1, .slice b2 b3 b4, .bool b5, .slice b6 b7 b8] 56)).alloc (.cells #[.int .i64 bc, .int .i64 bp] 26)).cell? ⟨W2.heap.size + 1, 0, none⟩ = some (.int .i64 bc) := by rw [new_cell (by simp)]; rfl
  have k3 := below_keep (below_keep k2 k1) B2
  have fa := cell_keep k3 (unhide CA).2
  have ca := hide (c4_keep k3 (unhide CA).1)
  have KB := hide (below_keep k2 k1)
  have cb := hide cb
  have BB := below_keep k3 (unhide BA)
  have KAB := hide (below_keep k3 (unhide KA))
  clear k1 k2 k3 B2 CA BA KA
  by_cases hl1 : (400 : Int) < s.size
  · go_wp2
    go_ret
    exact ⟨rfl, BB⟩
  by_cases hl2 : (400 : Int) < t.size
  · go_wp2
    go_ret
    exact ⟨rfl, BB⟩
  rcases unhide HA with hca | ⟨rfl, p, q, P, D, hsd, hq, hQ, hE⟩
  · go_wp2
    go_ret
    exact ⟨rfl, BB⟩
  rcases unhide HB with hcb | ⟨rfl, p', q', P', D', hsd', hq', hQ', hE'⟩
  · go_wp2
    go_ret
    exact ⟨rfl, BB⟩
  have HSD := hide (And.intro hsd hsd')
  have HEE := hide (And.intro hE hE')
  have HQQ := hide (And.intro hq hq')
  have qa := hide (hQ.later (unhide KAB))
  have qb := hide (hQ'.later (unhide KB))
  clear hsd hsd' hE hE' hQ hQ' hq hq' HA HB KAB KB
  go_wp2_with fail
  go_fit (qread_any s A _ (unhide HSS).1 ((unhide HTT).later BB) (cell_keep BB (unhide H123).1) (cell_keep BB (unhide H123).2.1) (cell_keep BB (unhide H123).2.2))
  rintro e W3 ⟨hc, hb3⟩
  obtain ⟨v, P1, D1, rfl, hR, hE⟩ := hc.good (unhide HSD).1
  obtain ⟨hp1, hd1⟩ := same_lowest hR (unhide qa) (Int.ne_of_gt (unhide HQQ).1) hE (unhide HEE).1
  subst hp1 hd1
  clear hc hE fa fb
  obtain ⟨x1, x2, x3, x4, x5, x6, x7, x8, rfl⟩ := hR.shape
  have kn := below_new W3 (.cells #[.int .i64 x1, .slice x2 x3 x4, .int .i64 x5, .slice x6 x7 x8] 52)
  have kk := below_keep kn hb3
  have BB := below_keep kk BB
  have ca := hide (c4_keep kk (unhide ca))
  have cb := hide (c4_keep kk (unhide cb))
  have qa := hide ((unhide qa).later kk)
  have qb := hide ((unhide qb).later kk)
  have rx := hide (hR.later kn)
  have cx := hide (c4_new (w := W3) (.int .i64 x1) (.slice x2 x3 x4) (.int .i64 x5) (.slice x6 x7 x8) 52)
  clear kn kk hb3 hR
  go_wp2_with fail
  go_fit (qread_any t A _ (unhide HSS).2 ((unhide HTT).later BB) (cell_keep BB (unhide H123).1) (cell_keep BB (unhide H123).2.1) (cell_keep BB (unhide H123).2.2))
  rintro e W4 ⟨hc, hb4⟩
  obtain ⟨v, P2, D2, rfl, hR, hE⟩ := hc.good (unhide HSD).2
  obtain ⟨hp2, hd2⟩ := same_lowest hR (unhide qb) (Int.ne_of_gt (unhide HQQ).2) hE (unhide HEE).2
  subst hp2 hd2
  clear hc hE
  obtain ⟨y1, y2, y3, y4, y5, y6, y7, y8, rfl⟩ := hR.shape
  have kn := below_new W4 (.cells #[.int .i64 y1, .slice y2 y3 y4, .int .i64 y5, .slice y6 y7 y8] 52)
  have kk := below_keep kn hb4
  have HL := hide (show LS w W1.heap.size W2.heap.size W3.heap.size W4.heap.size a1 a2 a3 a4 a5 a6 a7 a8 b1 b2 b3 b4 b5 b6 b7 b8 x1 x2 x3 x4 x5 x6 x7 x8 y1 y2 y3 y4 y5 y6 y7 y8 P D P' D' (W4.alloc (.cells #[.int .i64 y1, .slice y2 y3 y4, .int .i64 y5, .slice y6 y7 y8] 52)) from ⟨below_keep kk BB, c4_keep kk (unhide ca), c4_keep kk (unhide cb), c4_keep kk (unhide cx), c4_new _ _ _ _ _, (unhide qa).later kk, (unhide qb).later kk, (unhide rx).later kk, hR.later kn⟩)
  clear kn kk hb4 hR BB ca cb qa qb rx cx HSD HEE HQQ H123 HSS
  obtain ⟨ba, hba⟩ : ∃ X, X = W1.heap.size := ⟨_, rfl⟩
  obtain ⟨bb, hbb⟩ : ∃ X, X = W2.heap.size := ⟨_, rfl⟩
  obtain ⟨bx, hbx⟩ : ∃ X, X = W3.heap.size := ⟨_, rfl⟩
  obtain ⟨bz, hbz⟩ : ∃ X, X = W4.heap.size := ⟨_, rfl⟩
  go_upto_region 7 with fail
  obtain ⟨V4, hV4⟩ : ∃ X, X = W4.alloc (.cells #[.int .i64 y1, .slice y2 y3 y4, .int .i64 y5, .slice y6 y7 y8] 52) := ⟨_, rfl⟩
  rw [← hba, ← hbb, ← hbx, ← hbz, ← hV4] at HL ⊢
  clear hba hbb hbx hbz hV4
  obtain ⟨xc0, xc1, xc2, xc3⟩ := (unhide HL).cx
  obtain ⟨yc0, yc1, yc2, yc3⟩ := (unhide HL).cy
  go_wp2_with fail
  go_fit (simplest_any (N := 77) _ (unhide HL).rx (unhide HL).ry (by omega))
  rintro e W5 ⟨hS, hb⟩
  rcases hS with ⟨hlt, rfl⟩ | ⟨hle, v, rfl, hR⟩
  · have HLT := hide hlt
    have kn := below_new W5 (.cells #[.int .i64 0, .slice none 0 0, .int .i64 0, .slice none 0 0] 52)
    have kk := below_keep kn hb
    have HL := hide ((unhide HL).keep kk)
    have RS := hide (RB.new (rsum_zero 1 W5))
    clear kn kk hb hlt xc0 xc1 xc2 xc3 yc0 yc1 yc2 yc3
    obtain ⟨xc0, xc1, xc2, xc3⟩ := (unhide HL).ca
    obtain ⟨yc0, yc1, yc2, yc3⟩ := (unhide HL).cb
    go_wp2_with fail
    go_fit (rsimplest_any (N := 362) _ (unhide HL).qa (unhide HL).qb (by omega) (by omega))
    rintro e W6 ⟨hS, hb⟩
    rcases hS with ⟨_, rfl⟩ | ⟨hle, _⟩
    · have kn := below_new W6 (.cells #[.bool false, .slice none 0 0, .bool false, .slice none 0 0] 56)
      have kk := below_keep kn hb
      have BB := below_keep kk (unhide HL).below
      have RS := hide ((unhide RS).keep kk)
      clear kn kk hb xc0 xc1 xc2 xc3 yc0 yc1 yc2 yc3 HL
      obtain ⟨xc0, xc1, xc2, xc3⟩ := (unhide RS).c
      go_wp2_with fail
      go_fit (qtext_any (N := 1) _ (unhide RS).r (by omega) (tab_later (unhide HTAB) BB))
      rintro e W7 ⟨rfl, hb⟩
      rw [qtext_nought]
      have BB := below_keep hb BB
      clear hb xc0 xc1 xc2 xc3 RS
      go_wp2
      go_ret
      exact ⟨rfl, BB⟩
    · have := unhide HLT
      omega
  · have HLE := hide hle
    obtain ⟨s1, s2, s3, s4, s5, s6, s7, s8, rfl⟩ := hR.shape
    have kn := below_new W5 (.cells #[.int .i64 s1, .slice s2 s3 s4, .int .i64 s5, .slice s6 s7 s8] 52)
    have kk := below_keep kn hb
    have HL := hide ((unhide HL).keep kk)
    have RS := hide (RB.new hR)
    clear kn kk hb hR hle xc0 xc1 xc2 xc3 yc0 yc1 yc2 yc3
    obtain ⟨xc0, xc1, xc2, xc3⟩ := (unhide HL).ca
    obtain ⟨yc0, yc1, yc2, yc3⟩ := (unhide HL).cb
    go_wp2_with fail
    go_fit (rsimplest_any (N := 362) _ (unhide HL).qa (unhide HL).qb (by omega) (by omega))
    rintro e W6 ⟨hS, hb⟩
    rcases hS with ⟨hlt, _⟩ | ⟨_, v, rfl, hQ⟩
    · have := unhide HLE
      omega
    obtain ⟨q1, q2, q3, q4, q5, q6, q7, q8, rfl⟩ := hQ.shape
    have kn := below_new W6 (.cells #[.bool q1, .slice q2 q3 q4, .bool q5, .slice q6 q7 q8] 56)
    have kk := below_keep kn hb
    have BB := below_keep kk (unhide HL).below
    have RS := hide ((unhide RS).keep kk)
    have qa := hide (hQ.later kn)
    have ca := hide (c4_new (w := W6) (.bool q1) (.slice q2 q3 q4) (.bool q5) (.slice q6 q7 q8) 56)
    clear kn kk hb hQ xc0 xc1 xc2 xc3 yc0 yc1 yc2 yc3 HL HLE
    go_upto_region 11 with fail
    obtain ⟨V3, hV3⟩ : ∃ X, X = W6.alloc (.cells #[.bool q1, .slice q2 q3 q4, .bool q5, .slice q6 q7 q8] 56) := ⟨_, rfl⟩
    rw [← hV3] at BB ca qa RS ⊢
    clear hV3
    obtain ⟨ST, HST⟩ : ∃ S, Hid (qtext (simplest P D P' D').1 (simplest P D P' D').2 = S) := ⟨_, rfl⟩
    obtain ⟨p0, p1, p2, p3⟩ := (unhide RS).c
    obtain ⟨r0, r1, r2, r3⟩ := unhide ca
    have S0 := hide (show Below w.heap.size w V3.drew ∧ V3.drew.cell? ⟨W5.heap.size, 0, none⟩ = some (.int .i64 s1) ∧ V3.drew.cell? ⟨W5.heap.size, 1, none⟩ = some (.slice s2 s3 s4) ∧ V3.drew.cell? ⟨W5.heap.size, 2, none⟩ = some (.int .i64 s5) ∧ V3.drew.cell? ⟨W5.heap.size, 3, none⟩ = some (.slice s6 s7 s8) ∧ V3.drew.cell? ⟨W6.heap.size, 0, none⟩ = some (.bool q1) ∧ V3.drew.cell? ⟨W6.heap.size, 1, none⟩ = some (.slice q2 q3 q4) ∧ V3.drew.cell? ⟨W6.heap.size, 2, none⟩ = some (.bool q5) ∧ V3.drew.cell? ⟨W6.heap.size, 3, none⟩ = some (.slice q6 q7 q8) from ⟨BB.drew, p0, p1, p2, p3, r0, r1, r2, r3⟩)
    go_region_held3 (fun w' => Below w.heap.size w w' ∧ w'.cell? ⟨W5.heap.size, 0, none⟩ = some (.int .i64 s1) ∧ w'.cell? ⟨W5.heap.size, 1, none⟩ = some (.slice s2 s3 s4) ∧ w'.cell? ⟨W5.heap.size, 2, none⟩ = some (.int .i64 s5) ∧ w'.cell? ⟨W5.heap.size, 3, none⟩ = some (.slice s6 s7 s8) ∧ w'.cell? ⟨W6.heap.size, 0, none⟩ = some (.bool q1) ∧ w'.cell? ⟨W6.heap.size, 1, none⟩ = some (.slice q2 q3 q4) ∧ w'.cell? ⟨W6.heap.size, 2, none⟩ = some (.bool q5) ∧ w'.cell? ⟨W6.heap.size, 3, none⟩ = some (.slice q6 q7 q8))
      (first | with_reducible exact unhide S2 | with_reducible exact unhide S1 | with_reducible exact unhide S0)
      (first
        | (go_at_call 36; go_fit (qtext_any (N := 80) V3.drew (show Rr _ V3.drew _ _ _ from (unhide RS).r) (by omega) (tab_later (unhide HTAB) BB.drew)); rintro e9 Y1 ⟨rfl, hb⟩; rw [unhide HST]; have S1 := hide (keep8 hb (unhide S0)); have qa := hide (Qr.later (w := V3.drew) (unhide qa) hb); clear hb)
        | (go_at_call 39; go_fit (rqtext_any (N := 362) _ (unhide qa) (by omega)); rintro e9 Y2 ⟨rfl, hb⟩; rw [unhide HST]; have S2 := hide (keep8 hb (unhide S1)); clear hb))
    have hB := (unhide S2).1
    go_wp2
    go_ret
    exact ⟨rfl, hB⟩
end Go.Proofs.YtpecanpbkbanhaaGreatDoor
