/-
  Walks over package ratio: Mul.
  Walks over package ratio: Add.
  Walks over package ratio: Sub, Quo.
-/
import Derived.Test.YtpecanpbkbanhaaGreatDoorMQD
import Derived.Test.YtpecanpbkbanhaaGreatDoorMQE
import Derived.Deep.DeepCutAuto
namespace Go.Proofs.YtpecanpbkbanhaaGreatDoor
open Go.RowKit
theorem RBox.beside {w : World} {r q : Nat} (h : RBox w r) (hne : r ≠ q) (u u' : Value) : RBox ((w.setCell ⟨q, 0, none⟩ u).setCell ⟨q, 1, none⟩ u') r := by
  obtain ⟨r0, r1, r2, r3, r4, r5, r6, r7, hr⟩ := h
  exact ⟨r0, r1, r2, r3, r4, r5, r6, r7, by rw [Below.heap_setCell _ _ _ _ (by exact hne), Below.heap_setCell _ _ _ _ (by exact hne)]; exact hr⟩
theorem storeW10 {w w1 : World} {x y x' y' : Int} {a b a' b' : Option Addr} {n c m k n' c' m' k' : Nat} (h : Below w.heap.size w w1 ∧ RBox w1 (w.heap.size + 2) ∧ w1.cell? ⟨w.heap.size, 0, none⟩ = some (.int .i64 x) ∧ w1.cell? ⟨w.heap.size, 1, none⟩ = some (.slice a n c) ∧ w1.cell? ⟨w.heap.size, 2, none⟩ = some (.int .i64 y) ∧ w1.cell? ⟨w.heap.size, 3, none⟩ = some (.slice b m k) ∧ w1.cell? ⟨w.heap.size + 1, 0, none⟩ = some (.int .i64 x') ∧ w1.cell? ⟨w.heap.size + 1, 1, none⟩ = some (.slice a' n' c') ∧ w1.cell? ⟨w.heap.size + 1, 2, none⟩ = some (.int .i64 y') ∧ w1.cell? ⟨w.heap.size + 1, 3, none⟩ = some (.slice b' m' k')) {q : Nat} (hq : w.heap.size + 2 < q)  (u u' : Value) : Below w.heap.size w ((w1.setCell ⟨q, 0, none⟩ u).setCell ⟨q, 1, none⟩ u') ∧ RBox ((w1.setCell ⟨q, 0, none⟩ u).setCell ⟨q, 1, none⟩ u') (w.heap.size + 2) ∧ ((w1.setCell ⟨q, 0, none⟩ u).setCell ⟨q, 1, none⟩ u').cell? ⟨w.heap.size, 0, none⟩ = some (.int .i64 x) ∧ ((w1.setCell ⟨q, 0, none⟩ u).setCell ⟨q, 1, none⟩ u').cell? ⟨w.heap.size, 1, none⟩ = some (.slice a n c) ∧ ((w1.setCell ⟨q, 0, none⟩ u).setCell ⟨q, 1, none⟩ u').cell? ⟨w.heap.size, 2, none⟩ = some (.int .i64 y) ∧ ((w1.setCell ⟨q, 0, none⟩ u).setCell ⟨q, 1, none⟩ u').cell? ⟨w.heap.size, 3, none⟩ = some (.slice b m k) ∧ ((w1.setCell ⟨q, 0, none⟩ u).setCell ⟨q, 1, none⟩ u').cell? ⟨w.heap.size + 1, 0, none⟩ = some (.int .i64 x') ∧ ((w1.setCell ⟨q, 0, none⟩ u).setCell ⟨q, 1, none⟩ u').cell? ⟨w.heap.size + 1, 1, none⟩ = some (.slice a' n' c') ∧ ((w1.setCell ⟨q, 0, none⟩ u).setCell ⟨q, 1, none⟩ u').cell? ⟨w.heap.size + 1, 2, none⟩ = some (.int .i64 y') ∧ ((w1.setCell ⟨q, 0, none⟩ u).setCell ⟨q, 1, none⟩ u').cell? ⟨w.heap.size + 1, 3, none⟩ = some (.slice b' m' k') := by
  have hc : ∀ b o v, b ≠ q → w1.cell? ⟨b, o, none⟩ = some v → ((w1.setCell ⟨q, 0, none⟩ u).setCell ⟨q, 1, none⟩ u').cell? ⟨b, o, none⟩ = some v := fun b o v hb hv => by
    rw [cell?_setCell_ne _ _ _ _ _ _ (by omega), cell?_setCell_ne _ _ _ _ _ _ (by omega)]; exact hv
  exact ⟨below_stored h.1 (by omega) _ _, RBox.beside h.2.1 (by omega) _ _, hc _ _ _ (by omega) h.2.2.1, hc _ _ _ (by omega) h.2.2.2.1, hc _ _ _ (by omega) h.2.2.2.2.1, hc _ _ _ (by omega) h.2.2.2.2.2.1, hc _ _ _ (by omega) h.2.2.2.2.2.2.1, hc _ _ _ (by omega) h.2.2.2.2.2.2.2.1, hc _ _ _ (by omega) h.2.2.2.2.2.2.2.2.1, hc _ _ _ (by omega) h.2.2.2.2.2.2.2.2.2⟩
theorem two_new {W : World} {l0 r0 : Int} {l1 r1 : Option Addr} {l2 l3 r2 r3 N M : Nat} {l r : Int} (zl : Zr N W (.agg #[.int .i64 l0, .slice l1 l2 l3]) l) (zr : Zr M W (.agg #[.int .i64 r0, .slice r1 r2 r3]) r) :
    let W' := (W.alloc (.cells #[.int .i64 l0, .slice l1 l2 l3] 31)).alloc (.cells #[.int .i64 r0, .slice r1 r2 r3] 31)
    Vr W' W.heap.size l0 l1 l2 l3 N l ∧ Vr W' (W.heap.size + 1) r0 r1 r2 r3 M r :=
  ⟨(Vr.new zl).keep (below_new _ _), Vr.second zr⟩
theorem box_lt {w : World} {r : Nat} (h : Box w r) : r < w.heap.size := by
  obtain ⟨x, a, n, c, h⟩ := h
  exact (Array.getElem?_eq_some_iff.1 h).1
theorem bx1 {q q' : World} (hb : Below (q.alloc (.cells #[.int .i64 0, .slice none 0 0] 31)).heap.size (q.alloc (.cells #[.int .i64 0, .slice none 0 0] 31)) q') : Box q' q.heap.size := (box_new q).later hb
end Go.Proofs.YtpecanpbkbanhaaGreatDoor
namespace Go.Proofs.YtpecanpbkbanhaaGreatDoor
open Go.RowKit
/-- Numbers of N words lie below 2^(64 N). -/
theorem Zr.inside {N : Nat} {w : World} {v : Value} {z : Int} (h : Zr (N + 1) w v z) : -pw (N + 1) < z ∧ z < pw (N + 1) := by
  have p1 := pw_pos N
  have p2 := pw_succ N
  rcases h with ⟨_, h0, h1⟩ | ⟨s, b, off, cap, l, h1, h2, h3, h4, h5, h6, h7, h8⟩
  · omega
  · have k1 := val_lt h3
    have k2 := pw_mono h7
    have k3 := val_nonneg h3
    rcases h2 with rfl | rfl <;> omega
end Go.Proofs.YtpecanpbkbanhaaGreatDoor
namespace Go.Proofs.YtpecanpbkbanhaaGreatDoor
open Go.RowKit
theorem outW10 {w w1 : World} {x y x' y' : Int} {a b a' b' : Option Addr} {n c m k n' c' m' k' : Nat} (h : Below w.heap.size w w1 ∧ RBox w1 (w.heap.size + 2) ∧ w1.cell? ⟨w.heap.size, 0, none⟩ = some (.int .i64 x) ∧ w1.cell? ⟨w.heap.size, 1, none⟩ = some (.slice a n c) ∧ w1.cell? ⟨w.heap.size, 2, none⟩ = some (.int .i64 y) ∧ w1.cell? ⟨w.heap.size, 3, none⟩ = some (.slice b m k) ∧ w1.cell? ⟨w.heap.size + 1, 0, none⟩ = some (.int .i64 x') ∧ w1.cell? ⟨w.heap.size + 1, 1, none⟩ = some (.slice a' n' c') ∧ w1.cell? ⟨w.heap.size + 1, 2, none⟩ = some (.int .i64 y') ∧ w1.cell? ⟨w.heap.size + 1, 3, none⟩ = some (.slice b' m' k'))  (u0 : Int) (u1 : Option Addr) (u2 u3 : Nat) (u4 : Int) (u5 : Option Addr) (u6 u7 : Nat) : Below w.heap.size w ((((w1.setCell ⟨w.heap.size + 2, 0, none⟩ (.int .i64 u0)).setCell ⟨w.heap.size + 2, 1, none⟩ (.slice u1 u2 u3)).setCell ⟨w.heap.size + 2, 2, none⟩ (.int .i64 u4)).setCell ⟨w.heap.size + 2, 3, none⟩ (.slice u5 u6 u7)) ∧ RBox ((((w1.setCell ⟨w.heap.size + 2, 0, none⟩ (.int .i64 u0)).setCell ⟨w.heap.size + 2, 1, none⟩ (.slice u1 u2 u3)).setCell ⟨w.heap.size + 2, 2, none⟩ (.int .i64 u4)).setCell ⟨w.heap.size + 2, 3, none⟩ (.slice u5 u6 u7)) (w.heap.size + 2) ∧ ((((w1.setCell ⟨w.heap.size + 2, 0, none⟩ (.int .i64 u0)).setCell ⟨w.heap.size + 2, 1, none⟩ (.slice u1 u2 u3)).setCell ⟨w.heap.size + 2, 2, none⟩ (.int .i64 u4)).setCell ⟨w.heap.size + 2, 3, none⟩ (.slice u5 u6 u7)).cell? ⟨w.heap.size, 0, none⟩ = some (.int .i64 x) ∧ ((((w1.setCell ⟨w.heap.size + 2, 0, none⟩ (.int .i64 u0)).setCell ⟨w.heap.size + 2, 1, none⟩ (.slice u1 u2 u3)).setCell ⟨w.heap.size + 2, 2, none⟩ (.int .i64 u4)).setCell ⟨w.heap.size + 2, 3, none⟩ (.slice u5 u6 u7)).cell? ⟨w.heap.size, 1, none⟩ = some (.slice a n c) ∧ ((((w1.setCell ⟨w.heap.size + 2, 0, none⟩ (.int .i64 u0)).setCell ⟨w.heap.size + 2, 1, none⟩ (.slice u1 u2 u3)).setCell ⟨w.heap.size + 2, 2, none⟩ (.int .i64 u4)).setCell ⟨w.heap.size + 2, 3, none⟩ (.slice u5 u6 u7)).cell? ⟨w.heap.size, 2, none⟩ = some (.int .i64 y) ∧ ((((w1.setCell ⟨w.heap.size + 2, 0, none⟩ (.int .i64 u0)).setCell ⟨w.heap.size + 2, 1, none⟩ (.slice u1 u2 u3)).setCell ⟨w.heap.size + 2, 2, none⟩ (.int .i64 u4)).setCell ⟨w.heap.size + 2, 3, none⟩ (.slice u5 u6 u7)).cell? ⟨w.heap.size, 3, none⟩ = some (.slice b m k) ∧ ((((w1.setCell ⟨w.heap.size + 2, 0, none⟩ (.int .i64 u0)).setCell ⟨w.heap.size + 2, 1, none⟩ (.slice u1 u2 u3)).setCell ⟨w.heap.size + 2, 2, none⟩ (.int .i64 u4)).setCell ⟨w.heap.size + 2, 3, none⟩ (.slice u5 u6 u7)).cell? ⟨w.heap.size + 1, 0, none⟩ = some (.int .i64 x') ∧ ((((w1.setCell ⟨w.heap.size + 2, 0, none⟩ (.int .i64 u0)).setCell ⟨w.heap.size + 2, 1, none⟩ (.slice u1 u2 u3)).setCell ⟨w.heap.size + 2, 2, none⟩ (.int .i64 u4)).setCell ⟨w.heap.size + 2, 3, none⟩ (.slice u5 u6 u7)).cell? ⟨w.heap.size + 1, 1, none⟩ = some (.slice a' n' c') ∧ ((((w1.setCell ⟨w.heap.size + 2, 0, none⟩ (.int .i64 u0)).setCell ⟨w.heap.size + 2, 1, none⟩ (.slice u1 u2 u3)).setCell ⟨w.heap.size + 2, 2, none⟩ (.int .i64 u4)).setCell ⟨w.heap.size + 2, 3, none⟩ (.slice u5 u6 u7)).cell? ⟨w.heap.size + 1, 2, none⟩ = some (.int .i64 y') ∧ ((((w1.setCell ⟨w.heap.size + 2, 0, none⟩ (.int .i64 u0)).setCell ⟨w.heap.size + 2, 1, none⟩ (.slice u1 u2 u3)).setCell ⟨w.heap.size + 2, 2, none⟩ (.int .i64 u4)).setCell ⟨w.heap.size + 2, 3, none⟩ (.slice u5 u6 u7)).cell? ⟨w.heap.size + 1, 3, none⟩ = some (.slice b' m' k') := by
  have hc : ∀ b o v, b ≠ w.heap.size + 2 → w1.cell? ⟨b, o, none⟩ = some v → ((((w1.setCell ⟨w.heap.size + 2, 0, none⟩ (.int .i64 u0)).setCell ⟨w.heap.size + 2, 1, none⟩ (.slice u1 u2 u3)).setCell ⟨w.heap.size + 2, 2, none⟩ (.int .i64 u4)).setCell ⟨w.heap.size + 2, 3, none⟩ (.slice u5 u6 u7)).cell? ⟨b, o, none⟩ = some v := fun b o v hb hv => by
    rw [cell?_setCell_ne _ _ _ _ _ _ (by omega), cell?_setCell_ne _ _ _ _ _ _ (by omega), cell?_setCell_ne _ _ _ _ _ _ (by omega), cell?_setCell_ne _ _ _ _ _ _ (by omega)]; exact hv
  exact ⟨below_rstored h.1 (by omega) _ _ _ _, RBox.stored' h.2.1 _ _ _ _ _ _ _ _, hc _ _ _ (by omega) h.2.2.1, hc _ _ _ (by omega) h.2.2.2.1, hc _ _ _ (by omega) h.2.2.2.2.1, hc _ _ _ (by omega) h.2.2.2.2.2.1, hc _ _ _ (by omega) h.2.2.2.2.2.2.1, hc _ _ _ (by omega) h.2.2.2.2.2.2.2.1, hc _ _ _ (by omega) h.2.2.2.2.2.2.2.2.1, hc _ _ _ (by omega) h.2.2.2.2.2.2.2.2.2⟩
end Go.Proofs.YtpecanpbkbanhaaGreatDoor
