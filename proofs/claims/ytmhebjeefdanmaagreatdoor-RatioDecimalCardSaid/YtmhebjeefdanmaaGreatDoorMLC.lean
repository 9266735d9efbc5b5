/-
  What the laws on fractions share.
-/
import Derived.Test.YtmhebjeefdanmaaGreatDoorMQC
import Derived.Test.YtmhebjeefdanmaaGreatDoorMT7
import Derived.Test.YtmhebjeefdanmaaGreatDoorMDA
import Derived.Test.YtmhebjeefdanmaaGreatDoorMS9
namespace Go.Proofs.YtmhebjeefdanmaaGreatDoor
open Go.RowKit

theorem rsum_zero (N : Nat) (w : World) : Rr N w (.agg #[.int .i64 0, .slice none 0 0, .int .i64 0, .slice none 0 0]) 0 1 :=
  ⟨0, none, 0, 0, 0, none, 0, 0, 0, rfl, Zr.near _ (by decide) (by decide), Zr.near _ (by decide) (by decide), by decide, by decide, Or.inl ⟨rfl, rfl⟩⟩
theorem qtext_nought : qtext 0 1 = ⟨#[48]⟩ := by unfold qtext; rw [if_pos rfl, itoa_zero]
/-- What the document's reader answers, in one form. -/
theorem QRP.form {s : ByteArray} {e : Ending} {w' : World} (h : QRP s e w') : ∃ j1 j2 j3 j4 j5 j6 j7 j8 code pl, e = .returned (.tuple #[.agg #[.bool j1, .slice j2 j3 j4, .bool j5, .slice j6 j7 j8], .agg #[.int .i64 code, .int .i64 pl]]) ∧
    Hid (0 < code ∨ (code = 0 ∧ ∃ p q P D, said s = .inr (p, q) ∧ 0 < q ∧ Qr 362 w' (.agg #[.bool j1, .slice j2 j3 j4, .bool j5, .slice j6 j7 j8]) P D ∧ P * q = p * D)) := by
  rcases h with ⟨c, k, hs, c1, c3, rfl⟩ | ⟨p, q, v, P, D, hs, hq, rfl, hQ, hE⟩
  · exact ⟨_, _, _, _, _, _, _, _, _, _, rfl, Or.inl (by omega)⟩
  · have hQ0 := hQ
    obtain ⟨j1, j2, j3, j4, j5, j6, j7, j8, rfl, _⟩ := hQ
    exact ⟨_, _, _, _, _, _, _, _, _, _, rfl, Or.inr ⟨rfl, p, q, P, D, hs, hq, hQ0, hE⟩⟩
/-- What the program's reader answers to a text that says a number. -/
theorem RdP.good {s : ByteArray} {A : Nat → Addr} {e : Ending} {w' : World} {p q : Int} (h : RdP s A e w') (hs : said s = .inr (p, q)) : ∃ v P D, e = .returned (.tuple #[v, .nilIface]) ∧ Rr 78 w' v P D ∧ P * q = p * D := by
  rcases h with ⟨c, k, pb, h, _⟩ | ⟨p', q', v, P, D, h, _, he, hR, hE⟩
  · rw [hs] at h; exact absurd h (by simp)
  · rw [hs] at h
    obtain ⟨rfl, rfl⟩ : p = p' ∧ q = q' := by simpa using h
    exact ⟨v, P, D, he, hR, hE⟩

theorem kc16 {w w1 w2 : World} {b0 b1 b2 b3 b4 b5 b6 b7 b8 b9 b10 b11 b12 b13 b14 b15 o0 o1 o2 o3 o4 o5 o6 o7 o8 o9 o10 o11 o12 o13 o14 o15 : Nat} {v0 v1 v2 v3 v4 v5 v6 v7 v8 v9 v10 v11 v12 v13 v14 v15 : Value} (hb : Below w1.heap.size w1 w2) (h : Below w.heap.size w w1 ∧ w1.cell? ⟨b0, o0, none⟩ = some v0 ∧ w1.cell? ⟨b1, o1, none⟩ = some v1 ∧ w1.cell? ⟨b2, o2, none⟩ = some v2 ∧ w1.cell? ⟨b3, o3, none⟩ = some v3 ∧ w1.cell? ⟨b4, o4, none⟩ = some v4 ∧ w1.cell? ⟨b5, o5, none⟩ = some v5 ∧ w1.cell? ⟨b6, o6, none⟩ = some v6 ∧ w1.cell? ⟨b7, o7, none⟩ = some v7 ∧ w1.cell? ⟨b8, o8, none⟩ = some v8 ∧ w1.cell? ⟨b9, o9, none⟩ = some v9 ∧ w1.cell? ⟨b10, o10, none⟩ = some v10 ∧ w1.cell? ⟨b11, o11, none⟩ = some v11 ∧ w1.cell? ⟨b12, o12, none⟩ = some v12 ∧ w1.cell? ⟨b13, o13, none⟩ = some v13 ∧ w1.cell? ⟨b14, o14, none⟩ = some v14 ∧ w1.cell? ⟨b15, o15, none⟩ = some v15) : Below w.heap.size w w2 ∧ w2.cell? ⟨b0, o0, none⟩ = some v0 ∧ w2.cell? ⟨b1, o1, none⟩ = some v1 ∧ w2.cell? ⟨b2, o2, none⟩ = some v2 ∧ w2.cell? ⟨b3, o3, none⟩ = some v3 ∧ w2.cell? ⟨b4, o4, none⟩ = some v4 ∧ w2.cell? ⟨b5, o5, none⟩ = some v5 ∧ w2.cell? ⟨b6, o6, none⟩ = some v6 ∧ w2.cell? ⟨b7, o7, none⟩ = some v7 ∧ w2.cell? ⟨b8, o8, none⟩ = some v8 ∧ w2.cell? ⟨b9, o9, none⟩ = some v9 ∧ w2.cell? ⟨b10, o10, none⟩ = some v10 ∧ w2.cell? ⟨b11, o11, none⟩ = some v11 ∧ w2.cell? ⟨b12, o12, none⟩ = some v12 ∧ w2.cell? ⟨b13, o13, none⟩ = some v13 ∧ w2.cell? ⟨b14, o14, none⟩ = some v14 ∧ w2.cell? ⟨b15, o15, none⟩ = some v15 :=
  ⟨below_keep hb h.1, cell_keep hb h.2.1, cell_keep hb h.2.2.1, cell_keep hb h.2.2.2.1, cell_keep hb h.2.2.2.2.1, cell_keep hb h.2.2.2.2.2.1, cell_keep hb h.2.2.2.2.2.2.1, cell_keep hb h.2.2.2.2.2.2.2.1, cell_keep hb h.2.2.2.2.2.2.2.2.1, cell_keep hb h.2.2.2.2.2.2.2.2.2.1, cell_keep hb h.2.2.2.2.2.2.2.2.2.2.1, cell_keep hb h.2.2.2.2.2.2.2.2.2.2.2.1, cell_keep hb h.2.2.2.2.2.2.2.2.2.2.2.2.1, cell_keep hb h.2.2.2.2.2.2.2.2.2.2.2.2.2.1, cell_keep hb h.2.2.2.2.2.2.2.2.2.2.2.2.2.2.1, cell_keep hb h.2.2.2.2.2.2.2.2.2.2.2.2.2.2.2.1, cell_keep hb h.2.2.2.2.2.2.2.2.2.2.2.2.2.2.2.2⟩
/-- A fraction in a box. -/
structure RB (N : Nat) (wr : World) (b : Nat) (x1 : Int) (x2 : Option Addr) (x3 x4 : Nat) (x5 : Int) (x6 : Option Addr) (x7 x8 : Nat) (P D : Int) : Prop where
  c : wr.cell? ⟨b, 0, none⟩ = some (.int .i64 x1) ∧ wr.cell? ⟨b, 1, none⟩ = some (.slice x2 x3 x4) ∧ wr.cell? ⟨b, 2, none⟩ = some (.int .i64 x5) ∧ wr.cell? ⟨b, 3, none⟩ = some (.slice x6 x7 x8)
  r : Rr N wr (.agg #[.int .i64 x1, .slice x2 x3 x4, .int .i64 x5, .slice x6 x7 x8]) P D
theorem RB.keep {N : Nat} {wr w1 : World} {b : Nat} {x1 : Int} {x2 : Option Addr} {x3 x4 : Nat} {x5 : Int} {x6 : Option Addr} {x7 x8 : Nat} {P D : Int} (h : RB N wr b x1 x2 x3 x4 x5 x6 x7 x8 P D) (hb : Below wr.heap.size wr w1) : RB N w1 b x1 x2 x3 x4 x5 x6 x7 x8 P D := ⟨c4_keep hb h.c, h.r.later hb⟩
theorem RB.drew {N : Nat} {wr : World} {b : Nat} {x1 : Int} {x2 : Option Addr} {x3 x4 : Nat} {x5 : Int} {x6 : Option Addr} {x7 x8 : Nat} {P D : Int} (h : RB N wr b x1 x2 x3 x4 x5 x6 x7 x8 P D) : RB N wr.drew b x1 x2 x3 x4 x5 x6 x7 x8 P D := ⟨h.c, h.r⟩
theorem RB.new {N : Nat} {w : World} {x1 : Int} {x2 : Option Addr} {x3 x4 : Nat} {x5 : Int} {x6 : Option Addr} {x7 x8 : Nat} {P D : Int} (h : Rr N w (.agg #[.int .i64 x1, .slice x2 x3 x4, .int .i64 x5, .slice x6 x7 x8]) P D) : RB N (w.alloc (.cells #[.int .i64 x1, .slice x2 x3 x4, .int .i64 x5, .slice x6 x7 x8] 52)) w.heap.size x1 x2 x3 x4 x5 x6 x7 x8 P D := ⟨c4_new _ _ _ _ _, h.later (below_new _ _)⟩
end Go.Proofs.YtmhebjeefdanmaaGreatDoor
