/-
  Walks over package whole: DivMod of numbers.
-/
import Derived.Test.YtmdmcmkfhmnbeaaDoorW21
namespace Go.Proofs.YtmdmcmkfhmnbeaaDoor
open Go.RowKit

set_option maxHeartbeats 2000000 in
theorem divMod_zero (x y : Int) (a1 a2 : Option Addr) (n1 c1 n2 c2 : Nat) (w : World) (hy : sgn y = 0) :
    Calls Tryd.prog 19 #[.agg #[.int .i64 x, .slice a1 n1 c1], .agg #[.int .i64 y, .slice a2 n2 c2]] w fun e w' => e = .returned (.tuple #[.agg #[.int .i64 0, .slice none 0 0], .agg #[.int .i64 0, .slice none 0 0], .bool false]) ∧ Below w.heap.size w w' := by
  have HY := hide hy
  clear hy
  go_enter Tryd.func19, Tryd.ntmps19
  go_wp2_with fail
  go_fit (sign_any y _ _)
  rintro e W1 ⟨rfl, hb0⟩
  rw [unhide HY]
  have hT := keep22 hb0 (start22 w (.int .i64 x) (.slice a1 n1 c1) (.int .i64 y) (.slice a2 n2 c2))
  clear hb0
  have hT' := hT
  obtain ⟨hbW, hbox, hbox2, hc0, hc1, hc2, hc3⟩ := hT'
  obtain ⟨x0, a0, n0, c0, x1, a1', n1', c1', g0, g1, g2, g3, gf, gf2⟩ := boxes22 (Below.refl _ _) hT
  go_wp2
  obtain ⟨b1, b2, b3, b4, b5, b6, b7⟩ := both22 (u1 := 0) (a1 := none) (n1 := 0) (c1 := 0) (N := 1) (z1 := 0) (u2 := 0) (a2 := none) (n2 := 0) (c2 := 0) (M := 1) (z2 := 0) hT (Zr.near 1 (by decide) (by decide)) (Zr.near 1 (by decide) (by decide))
  exact bodyPost_ret (v := .tuple #[.agg #[.int .i64 0, .slice none 0 0], .agg #[.int .i64 0, .slice none 0 0], .bool false]) (by simp [results, Tryd.results19, go_sem, b1, b2, b3, b4]) rfl ⟨rfl, b7.1⟩

/-- The world behind the call of cutOff: both answers in their boxes. -/
structure DM (N : Nat) (w : World) (y u7 u8 : Int) (a2 a7 a8 : Option Addr) (n2 c2 n7 c7 n8 c8 : Nat) (q r o : Int) (wp : World) : Prop where
  below : Below w.heap.size w wp
  box1 : Box wp (w.heap.size + 2)
  box2 : Box wp (w.heap.size + 3)
  o0 : wp.cell? ⟨w.heap.size + 1, 0, none⟩ = some (.int .i64 y)
  o1 : wp.cell? ⟨w.heap.size + 1, 1, none⟩ = some (.slice a2 n2 c2)
  q0 : wp.cell? ⟨w.heap.size + 2, 0, none⟩ = some (.int .i64 u7)
  q1 : wp.cell? ⟨w.heap.size + 2, 1, none⟩ = some (.slice a7 n7 c7)
  r0 : wp.cell? ⟨w.heap.size + 3, 0, none⟩ = some (.int .i64 u8)
  r1 : wp.cell? ⟨w.heap.size + 3, 1, none⟩ = some (.slice a8 n8 c8)
  zq : Zr (N + 2) wp (.agg #[.int .i64 u7, .slice a7 n7 c7]) q
  zr : Zr (N + 2) wp (.agg #[.int .i64 u8, .slice a8 n8 c8]) r
  zo : Zr (N + 2) wp (.agg #[.int .i64 y, .slice a2 n2 c2]) o
theorem DM.keep {N : Nat} {w : World} {y u7 u8 : Int} {a2 a7 a8 : Option Addr} {n2 c2 n7 c7 n8 c8 : Nat} {q r o : Int} {wp w1 : World} (h : DM N w y u7 u8 a2 a7 a8 n2 c2 n7 c7 n8 c8 q r o wp) (hb : Below wp.heap.size wp w1) : DM N w y u7 u8 a2 a7 a8 n2 c2 n7 c7 n8 c8 q r o w1 :=
  ⟨below_keep hb h.below, h.box1.later hb, h.box2.later hb, cell_keep hb h.o0, cell_keep hb h.o1, cell_keep hb h.q0, cell_keep hb h.q1, cell_keep hb h.r0, cell_keep hb h.r1, h.zq.later hb, h.zr.later hb, h.zo.later hb⟩
theorem DM.drew {N : Nat} {w : World} {y u7 u8 : Int} {a2 a7 a8 : Option Addr} {n2 c2 n7 c7 n8 c8 : Nat} {q r o : Int} {wp : World} (h : DM N w y u7 u8 a2 a7 a8 n2 c2 n7 c7 n8 c8 q r o wp) : DM N w y u7 u8 a2 a7 a8 n2 c2 n7 c7 n8 c8 q r o wp.drew :=
  ⟨h.below.drew, h.box1, h.box2, h.o0, h.o1, h.q0, h.q1, h.r0, h.r1, h.zq, h.zr, h.zo⟩
theorem DM.frozen {N : Nat} {w : World} {y u7 u8 : Int} {a2 a7 a8 : Option Addr} {n2 c2 n7 c7 n8 c8 : Nat} {q r o : Int} {wp : World} (h : DM N w y u7 u8 a2 a7 a8 n2 c2 n7 c7 n8 c8 q r o wp) : (∀ k, wp.frozen? ⟨w.heap.size + 2, k, none⟩ = false) ∧ (∀ k, wp.frozen? ⟨w.heap.size + 3, k, none⟩ = false) := ⟨h.box1.cells.2.2, h.box2.cells.2.2⟩
/-- Both answers stored into their boxes. -/
theorem two_stores {w wp : World} (h0 : Below w.heap.size w wp) (h1 : Box wp (w.heap.size + 2)) (h2 : Box wp (w.heap.size + 3)) {N M : Nat} {u1 u2 : Int} {a1 a2 : Option Addr} {n1 c1 n2 c2 : Nat} {z1 z2 : Int} (hZ1 : Zr N wp (.agg #[.int .i64 u1, .slice a1 n1 c1]) z1) (hZ2 : Zr M wp (.agg #[.int .i64 u2, .slice a2 n2 c2]) z2) :
    let wf := (((wp.setCell ⟨w.heap.size + 2, 0, none⟩ (.int .i64 u1)).setCell ⟨w.heap.size + 2, 1, none⟩ (.slice a1 n1 c1)).setCell ⟨w.heap.size + 3, 0, none⟩ (.int .i64 u2)).setCell ⟨w.heap.size + 3, 1, none⟩ (.slice a2 n2 c2)
    wf.cell? ⟨w.heap.size + 2, 0, none⟩ = some (.int .i64 u1) ∧ wf.cell? ⟨w.heap.size + 2, 1, none⟩ = some (.slice a1 n1 c1) ∧ wf.cell? ⟨w.heap.size + 3, 0, none⟩ = some (.int .i64 u2) ∧ wf.cell? ⟨w.heap.size + 3, 1, none⟩ = some (.slice a2 n2 c2) ∧
    Zr N wf (.agg #[.int .i64 u1, .slice a1 n1 c1]) z1 ∧ Zr M wf (.agg #[.int .i64 u2, .slice a2 n2 c2]) z2 ∧ Below w.heap.size w wf ∧ Box wf (w.heap.size + 2) ∧ Box wf (w.heap.size + 3) := by
  intro wf
  obtain ⟨s0, s1⟩ := h1.stored (.int .i64 u1) (.slice a1 n1 c1)
  have h2' : Box ((wp.setCell ⟨w.heap.size + 2, 0, none⟩ (.int .i64 u1)).setCell ⟨w.heap.size + 2, 1, none⟩ (.slice a1 n1 c1)) (w.heap.size + 3) := (h2.other (by omega) _).other (by omega) _
  obtain ⟨t0, t1⟩ := h2'.stored (.int .i64 u2) (.slice a2 n2 c2)
  refine ⟨?_, ?_, t0, t1, (hZ1.stored h1 _ _).stored h2' _ _, (hZ2.stored h1 _ _).stored h2' _ _, below_stored (below_stored h0 (by omega) _ _) (by omega) _ _, ((h1.stored' _ _ _ _).other (by omega) _).other (by omega) _, h2'.stored' _ _ _ _⟩
  · show (World.setCell _ _ _).cell? _ = _
    rw [cell?_setCell_ne _ _ _ _ _ _ (by omega), cell?_setCell_ne _ _ _ _ _ _ (by omega)]; exact s0
  · show (World.setCell _ _ _).cell? _ = _
    rw [cell?_setCell_ne _ _ _ _ _ _ (by omega), cell?_setCell_ne _ _ _ _ _ _ (by omega)]; exact s1

theorem divmod_up {q r o z : Int} (h : q * o + r = z) (hr : r < 0) (hlt : iabs r < iabs o) (ho : 0 < o) : (q - 1) * o + (r + o) = z ∧ 0 ≤ r + o ∧ r + o < iabs o := by
  unfold iabs at hlt ⊢
  rw [if_pos hr, if_neg (by omega)] at hlt
  rw [if_neg (by omega)]
  refine ⟨?_, by omega, by omega⟩
  rw [Int.sub_mul, Int.one_mul]; omega
theorem divmod_down {q r o z : Int} (h : q * o + r = z) (hr : r < 0) (hlt : iabs r < iabs o) (ho : o < 0) : (q + 1) * o + (r - o) = z ∧ 0 ≤ r - o ∧ r - o < iabs o := by
  unfold iabs at hlt ⊢
  rw [if_pos hr, if_pos ho] at hlt
  rw [if_pos ho]
  refine ⟨?_, by omega, by omega⟩
  rw [Int.add_mul, Int.one_mul]; omega
end Go.Proofs.YtmdmcmkfhmnbeaaDoor
