/-
  Walks over package ratio: Add.
-/
import Derived.Test.YtmhebjeefdanmaaGreatDoorMQ19
import Derived.Deep.DeepCutAuto
namespace Go.Proofs.YtmhebjeefdanmaaGreatDoor
open Go.RowKit

theorem cop_lin {p t q o : Int} (h1 : Int.gcd p o = 1) (h2 : Int.gcd t o = 1) : Int.gcd (p * t + q * o) o = 1 := by
  rw [Int.gcd_comm, Int.add_comm, Int.gcd_mul_right_add_right, Int.gcd_comm]
  have := cop_mul (p1 := p) (p2 := t) (d1 := o) (d2 := 1) h1 (by simp) h2 (by simp)
  rwa [Int.mul_one] at this
theorem cop_right {p a b : Int} (h1 : Int.gcd p a = 1) (h2 : Int.gcd p b = 1) : Int.gcd p (a * b) = 1 := by
  have := cop_mul (p1 := p) (p2 := 1) (d1 := a) (d2 := b) h1 h2 (by simp) (by simp)
  rwa [Int.mul_one] at this
theorem le_times {a b : Int} (a0 : 0 < a) (b0 : 0 < b) : a ≤ a * b := by
  have h : a * 1 ≤ a * b := Int.mul_le_mul_of_nonneg_left (by omega) (by omega)
  omega
/-- A sum, cancelled by what the denominators share. -/
theorem sum_lowest {p d p' d' : Int} (d0 : 0 < d) (d0' : 0 < d') (hg : Int.gcd p d = 1) (hg' : Int.gcd p' d' = 1) :
    ∃ g o t e T x : Int, g = (Int.gcd d d' : Int) ∧ 0 < g ∧ d = o * g ∧ d' = t * g ∧ 0 < o ∧ 0 < t ∧ e = (Int.gcd (p * t + p' * o) g : Int) ∧ 0 < e ∧ p * t + p' * o = T * e ∧ d' = x * e ∧ 0 < o * x ∧ Int.gcd T (o * x) = 1 ∧ T * (d * d') = (p * d' + p' * d) * (o * x) ∧ g ≤ d ∧ o ≤ d ∧ t ≤ d' ∧ e ≤ d := by
  obtain ⟨g, o, t, h1, g0, e1, e2, t0, ho⟩ := gcd_split (p := d) (d := d') d0'
  have o0 : 0 < o := Int.pos_of_mul_pos_left (by rw [← e1]; exact d0) g0
  obtain ⟨e, T, ge, h2, e0, e3, e4, ge0, hT⟩ := gcd_split (p := p * t + p' * o) (d := g) g0
  have c1 : Int.gcd p o = 1 := cop_part (l := 1) (r := g) (by rw [Int.mul_one, ← e1]; exact hg)
  have c2 : Int.gcd p' t = 1 := cop_part (l := 1) (r := g) (by rw [Int.mul_one, ← e2]; exact hg')
  have c3 : Int.gcd (p * t + p' * o) o = 1 := cop_lin c1 (by rw [Int.gcd_comm]; exact ho)
  have c4 : Int.gcd (p * t + p' * o) t = 1 := by rw [Int.add_comm]; exact cop_lin c2 ho
  have c5 : Int.gcd T o = 1 := cop_part (l := e) (r := 1) (by rw [← e3, Int.mul_one]; exact c3)
  have c6 : Int.gcd T t = 1 := cop_part (l := e) (r := 1) (by rw [← e3, Int.mul_one]; exact c4)
  have m1 := le_times o0 g0
  have m2 := le_times t0 g0
  have m3 := le_times g0 o0
  have m4 := le_times e0 ge0
  rw [Int.mul_comm] at m3 m4
  refine ⟨g, o, t, e, T, t * ge, h1, g0, e1, e2, o0, t0, h2, e0, e3, by rw [Int.mul_assoc, ← e4]; exact e2, Int.mul_pos o0 (Int.mul_pos t0 ge0), cop_right c5 (cop_right c6 hT), ?_, by omega, by omega, by omega, by omega⟩
  have e5 : p * d' + p' * d = (p * t + p' * o) * g := by rw [e1, e2]; grind
  rw [e5, e3, e1, e2]
  have e6 : T * e * g * (o * (t * ge)) = T * g * o * t * (ge * e) := by grind
  rw [e6, ← e4]
  grind
theorem cop_whole {p d p' : Int} (h : Int.gcd p d = 1) : Int.gcd (p + p' * d) d = 1 := by
  rw [Int.gcd_comm, Int.add_comm, Int.gcd_mul_right_add_right, Int.gcd_comm]; exact h
/-- Numbers of N words lie below 2^(64 N). -/
theorem Zr.inside {N : Nat} {w : World} {v : Value} {z : Int} (h : Zr (N + 1) w v z) : -pw (N + 1) < z ∧ z < pw (N + 1) := by
  have p1 := pw_pos N
  have p2 := pw_succ N
  rcases h with ⟨_, h0, h1⟩ | ⟨s, b, off, cap, l, h1, h2, h3, h4, h5, h6, h7, h8⟩
  · omega
  · have k1 := val_lt h3
    have k2 := pw_mono h7
    have k3 := val_nonneg h3
    rcases h2 with rfl | rfl <;> omega
theorem Zr.down {N M : Nat} {w : World} {v : Value} {z y : Int} (h : Zr M w v z) (z0 : 0 < z) (hy : z ≤ y) (hb : y < pw (N + 1)) : Zr (N + 1) w v z := h.fit (by have := pw_pos (N + 1); omega) (by omega)

theorem Zr.two {W : World} {bl br : Nat} {N : Nat} {g : Int} {v : Value} (h : Zr N W v g) (hl : Box W bl) (hr : Box W br) (hne : bl ≠ br) (l0 : Int) (l1 : Option Addr) (l2 l3 : Nat) (r0 : Int) (r1 : Option Addr) (r2 r3 : Nat) :
    Zr N ((((W.setCell ⟨bl, 0, none⟩ (.int .i64 l0)).setCell ⟨bl, 1, none⟩ (.slice l1 l2 l3)).setCell ⟨br, 0, none⟩ (.int .i64 r0)).setCell ⟨br, 1, none⟩ (.slice r1 r2 r3)) v g :=
  (h.stored hl _ _).stored ((hr.other (Ne.symm hne) _).other (Ne.symm hne) _) _ _

theorem keepW12 {w w1 w2 : World} {x y x' y' : Int} {a b a' b' : Option Addr} {n c m k n' c' m' k' : Nat} {bn : Nat} {t0 : Int} {t1 : Option Addr} {t2 t3 : Nat} (hb : Below w1.heap.size w1 w2) (h : Below w.heap.size w w1 ∧ RBox w1 (w.heap.size + 2) ∧ w1.cell? ⟨w.heap.size, 0, none⟩ = some (.int .i64 x) ∧ w1.cell? ⟨w.heap.size, 1, none⟩ = some (.slice a n c) ∧ w1.cell? ⟨w.heap.size, 2, none⟩ = some (.int .i64 y) ∧ w1.cell? ⟨w.heap.size, 3, none⟩ = some (.slice b m k) ∧ w1.cell? ⟨w.heap.size + 1, 0, none⟩ = some (.int .i64 x') ∧ w1.cell? ⟨w.heap.size + 1, 1, none⟩ = some (.slice a' n' c') ∧ w1.cell? ⟨w.heap.size + 1, 2, none⟩ = some (.int .i64 y') ∧ w1.cell? ⟨w.heap.size + 1, 3, none⟩ = some (.slice b' m' k') ∧ w1.cell? ⟨bn, 0, none⟩ = some (.int .i64 t0) ∧ w1.cell? ⟨bn, 1, none⟩ = some (.slice t1 t2 t3)) : Below w.heap.size w w2 ∧ RBox w2 (w.heap.size + 2) ∧ w2.cell? ⟨w.heap.size, 0, none⟩ = some (.int .i64 x) ∧ w2.cell? ⟨w.heap.size, 1, none⟩ = some (.slice a n c) ∧ w2.cell? ⟨w.heap.size, 2, none⟩ = some (.int .i64 y) ∧ w2.cell? ⟨w.heap.size, 3, none⟩ = some (.slice b m k) ∧ w2.cell? ⟨w.heap.size + 1, 0, none⟩ = some (.int .i64 x') ∧ w2.cell? ⟨w.heap.size + 1, 1, none⟩ = some (.slice a' n' c') ∧ w2.cell? ⟨w.heap.size + 1, 2, none⟩ = some (.int .i64 y') ∧ w2.cell? ⟨w.heap.size + 1, 3, none⟩ = some (.slice b' m' k') ∧ w2.cell? ⟨bn, 0, none⟩ = some (.int .i64 t0) ∧ w2.cell? ⟨bn, 1, none⟩ = some (.slice t1 t2 t3) :=
  ⟨below_keep hb h.1, RBox.later h.2.1 hb, cell_keep hb h.2.2.1, cell_keep hb h.2.2.2.1, cell_keep hb h.2.2.2.2.1, cell_keep hb h.2.2.2.2.2.1, cell_keep hb h.2.2.2.2.2.2.1, cell_keep hb h.2.2.2.2.2.2.2.1, cell_keep hb h.2.2.2.2.2.2.2.2.1, cell_keep hb h.2.2.2.2.2.2.2.2.2.1, cell_keep hb h.2.2.2.2.2.2.2.2.2.2.1, cell_keep hb h.2.2.2.2.2.2.2.2.2.2.2⟩
theorem storeW12 {w w1 : World} {x y x' y' : Int} {a b a' b' : Option Addr} {n c m k n' c' m' k' : Nat} {bn : Nat} {t0 : Int} {t1 : Option Addr} {t2 t3 : Nat} (h : Below w.heap.size w w1 ∧ RBox w1 (w.heap.size + 2) ∧ w1.cell? ⟨w.heap.size, 0, none⟩ = some (.int .i64 x) ∧ w1.cell? ⟨w.heap.size, 1, none⟩ = some (.slice a n c) ∧ w1.cell? ⟨w.heap.size, 2, none⟩ = some (.int .i64 y) ∧ w1.cell? ⟨w.heap.size, 3, none⟩ = some (.slice b m k) ∧ w1.cell? ⟨w.heap.size + 1, 0, none⟩ = some (.int .i64 x') ∧ w1.cell? ⟨w.heap.size + 1, 1, none⟩ = some (.slice a' n' c') ∧ w1.cell? ⟨w.heap.size + 1, 2, none⟩ = some (.int .i64 y') ∧ w1.cell? ⟨w.heap.size + 1, 3, none⟩ = some (.slice b' m' k') ∧ w1.cell? ⟨bn, 0, none⟩ = some (.int .i64 t0) ∧ w1.cell? ⟨bn, 1, none⟩ = some (.slice t1 t2 t3)) {q : Nat} (hq : w.heap.size + 2 < q) (hn : bn ≠ q) (u u' : Value) : Below w.heap.size w ((w1.setCell ⟨q, 0, none⟩ u).setCell ⟨q, 1, none⟩ u') ∧ RBox ((w1.setCell ⟨q, 0, none⟩ u).setCell ⟨q, 1, none⟩ u') (w.heap.size + 2) ∧ ((w1.setCell ⟨q, 0, none⟩ u).setCell ⟨q, 1, none⟩ u').cell? ⟨w.heap.size, 0, none⟩ = some (.int .i64 x) ∧ ((w1.setCell ⟨q, 0, none⟩ u).setCell ⟨q, 1, none⟩ u').cell? ⟨w.heap.size, 1, none⟩ = some (.slice a n c) ∧ ((w1.setCell ⟨q, 0, none⟩ u).setCell ⟨q, 1, none⟩ u').cell? ⟨w.heap.size, 2, none⟩ = some (.int .i64 y) ∧ ((w1.setCell ⟨q, 0, none⟩ u).setCell ⟨q, 1, none⟩ u').cell? ⟨w.heap.size, 3, none⟩ = some (.slice b m k) ∧ ((w1.setCell ⟨q, 0, none⟩ u).setCell ⟨q, 1, none⟩ u').cell? ⟨w.heap.size + 1, 0, none⟩ = some (.int .i64 x') ∧ ((w1.setCell ⟨q, 0, none⟩ u).setCell ⟨q, 1, none⟩ u').cell? ⟨w.heap.size + 1, 1, none⟩ = some (.slice a' n' c') ∧ ((w1.setCell ⟨q, 0, none⟩ u).setCell ⟨q, 1, none⟩ u').cell? ⟨w.heap.size + 1, 2, none⟩ = some (.int .i64 y') ∧ ((w1.setCell ⟨q, 0, none⟩ u).setCell ⟨q, 1, none⟩ u').cell? ⟨w.heap.size + 1, 3, none⟩ = some (.slice b' m' k') ∧ ((w1.setCell ⟨q, 0, none⟩ u).setCell ⟨q, 1, none⟩ u').cell? ⟨bn, 0, none⟩ = some (.int .i64 t0) ∧ ((w1.setCell ⟨q, 0, none⟩ u).setCell ⟨q, 1, none⟩ u').cell? ⟨bn, 1, none⟩ = some (.slice t1 t2 t3) := by
  have hc : ∀ b o v, b ≠ q → w1.cell? ⟨b, o, none⟩ = some v → ((w1.setCell ⟨q, 0, none⟩ u).setCell ⟨q, 1, none⟩ u').cell? ⟨b, o, none⟩ = some v := fun b o v hb hv => by
    rw [cell?_setCell_ne _ _ _ _ _ _ (by omega), cell?_setCell_ne _ _ _ _ _ _ (by omega)]; exact hv
  exact ⟨below_stored h.1 (by omega) _ _, RBox.beside h.2.1 (by omega) _ _, hc _ _ _ (by omega) h.2.2.1, hc _ _ _ (by omega) h.2.2.2.1, hc _ _ _ (by omega) h.2.2.2.2.1, hc _ _ _ (by omega) h.2.2.2.2.2.1, hc _ _ _ (by omega) h.2.2.2.2.2.2.1, hc _ _ _ (by omega) h.2.2.2.2.2.2.2.1, hc _ _ _ (by omega) h.2.2.2.2.2.2.2.2.1, hc _ _ _ (by omega) h.2.2.2.2.2.2.2.2.2.1, hc _ _ _ (by omega) h.2.2.2.2.2.2.2.2.2.2.1, hc _ _ _ (by omega) h.2.2.2.2.2.2.2.2.2.2.2⟩
theorem drewW12 {w w1 : World} {x y x' y' : Int} {a b a' b' : Option Addr} {n c m k n' c' m' k' : Nat} {bn : Nat} {t0 : Int} {t1 : Option Addr} {t2 t3 : Nat} {o : Obj} (h : Below w.heap.size w w1.drew ∧ RBox w1.drew (w.heap.size + 2) ∧ w1.drew.cell? ⟨w.heap.size, 0, none⟩ = some (.int .i64 x) ∧ w1.drew.cell? ⟨w.heap.size, 1, none⟩ = some (.slice a n c) ∧ w1.drew.cell? ⟨w.heap.size, 2, none⟩ = some (.int .i64 y) ∧ w1.drew.cell? ⟨w.heap.size, 3, none⟩ = some (.slice b m k) ∧ w1.drew.cell? ⟨w.heap.size + 1, 0, none⟩ = some (.int .i64 x') ∧ w1.drew.cell? ⟨w.heap.size + 1, 1, none⟩ = some (.slice a' n' c') ∧ w1.drew.cell? ⟨w.heap.size + 1, 2, none⟩ = some (.int .i64 y') ∧ w1.drew.cell? ⟨w.heap.size + 1, 3, none⟩ = some (.slice b' m' k') ∧ w1.drew.cell? ⟨bn, 0, none⟩ = some (.int .i64 t0) ∧ w1.drew.cell? ⟨bn, 1, none⟩ = some (.slice t1 t2 t3)) : Below w.heap.size w (w1.alloc o).drew ∧ RBox (w1.alloc o).drew (w.heap.size + 2) ∧ (w1.alloc o).drew.cell? ⟨w.heap.size, 0, none⟩ = some (.int .i64 x) ∧ (w1.alloc o).drew.cell? ⟨w.heap.size, 1, none⟩ = some (.slice a n c) ∧ (w1.alloc o).drew.cell? ⟨w.heap.size, 2, none⟩ = some (.int .i64 y) ∧ (w1.alloc o).drew.cell? ⟨w.heap.size, 3, none⟩ = some (.slice b m k) ∧ (w1.alloc o).drew.cell? ⟨w.heap.size + 1, 0, none⟩ = some (.int .i64 x') ∧ (w1.alloc o).drew.cell? ⟨w.heap.size + 1, 1, none⟩ = some (.slice a' n' c') ∧ (w1.alloc o).drew.cell? ⟨w.heap.size + 1, 2, none⟩ = some (.int .i64 y') ∧ (w1.alloc o).drew.cell? ⟨w.heap.size + 1, 3, none⟩ = some (.slice b' m' k') ∧ (w1.alloc o).drew.cell? ⟨bn, 0, none⟩ = some (.int .i64 t0) ∧ (w1.alloc o).drew.cell? ⟨bn, 1, none⟩ = some (.slice t1 t2 t3) := keepW12 (w1 := w1.drew) (w2 := (w1.alloc o).drew) (below_new w1.drew o) h
theorem storeW16 {w w1 : World} {x y x' y' : Int} {a b a' b' : Option Addr} {n c m k n' c' m' k' : Nat} {bl br : Nat} {l0 r0 : Int} {l1 r1 : Option Addr} {l2 l3 r2 r3 : Nat} {bn : Nat} {t0 : Int} {t1 : Option Addr} {t2 t3 : Nat} (h : Below w.heap.size w w1 ∧ RBox w1 (w.heap.size + 2) ∧ w1.cell? ⟨w.heap.size, 0, none⟩ = some (.int .i64 x) ∧ w1.cell? ⟨w.heap.size, 1, none⟩ = some (.slice a n c) ∧ w1.cell? ⟨w.heap.size, 2, none⟩ = some (.int .i64 y) ∧ w1.cell? ⟨w.heap.size, 3, none⟩ = some (.slice b m k) ∧ w1.cell? ⟨w.heap.size + 1, 0, none⟩ = some (.int .i64 x') ∧ w1.cell? ⟨w.heap.size + 1, 1, none⟩ = some (.slice a' n' c') ∧ w1.cell? ⟨w.heap.size + 1, 2, none⟩ = some (.int .i64 y') ∧ w1.cell? ⟨w.heap.size + 1, 3, none⟩ = some (.slice b' m' k') ∧ w1.cell? ⟨bl, 0, none⟩ = some (.int .i64 l0) ∧ w1.cell? ⟨bl, 1, none⟩ = some (.slice l1 l2 l3) ∧ w1.cell? ⟨br, 0, none⟩ = some (.int .i64 r0) ∧ w1.cell? ⟨br, 1, none⟩ = some (.slice r1 r2 r3) ∧ w1.cell? ⟨bn, 0, none⟩ = some (.int .i64 t0) ∧ w1.cell? ⟨bn, 1, none⟩ = some (.slice t1 t2 t3)) {q : Nat} (hq : w.heap.size + 2 < q) (hl : bl ≠ q) (hr : br ≠ q) (hn : bn ≠ q) (u u' : Value) : Below w.heap.size w ((w1.setCell ⟨q, 0, none⟩ u).setCell ⟨q, 1, none⟩ u') ∧ RBox ((w1.setCell ⟨q, 0, none⟩ u).setCell ⟨q, 1, none⟩ u') (w.heap.size + 2) ∧ ((w1.setCell ⟨q, 0, none⟩ u).setCell ⟨q, 1, none⟩ u').cell? ⟨w.heap.size, 0, none⟩ = some (.int .i64 x) ∧ ((w1.setCell ⟨q, 0, none⟩ u).setCell ⟨q, 1, none⟩ u').cell? ⟨w.heap.size, 1, none⟩ = some (.slice a n c) ∧ ((w1.setCell ⟨q, 0, none⟩ u).setCell ⟨q, 1, none⟩ u').cell? ⟨w.heap.size, 2, none⟩ = some (.int .i64 y) ∧ ((w1.setCell ⟨q, 0, none⟩ u).setCell ⟨q, 1, none⟩ u').cell? ⟨w.heap.size, 3, none⟩ = some (.slice b m k) ∧ ((w1.setCell ⟨q, 0, none⟩ u).setCell ⟨q, 1, none⟩ u').cell? ⟨w.heap.size + 1, 0, none⟩ = some (.int .i64 x') ∧ ((w1.setCell ⟨q, 0, none⟩ u).setCell ⟨q, 1, none⟩ u').cell? ⟨w.heap.size + 1, 1, none⟩ = some (.slice a' n' c') ∧ ((w1.setCell ⟨q, 0, none⟩ u).setCell ⟨q, 1, none⟩ u').cell? ⟨w.heap.size + 1, 2, none⟩ = some (.int .i64 y') ∧ ((w1.setCell ⟨q, 0, none⟩ u).setCell ⟨q, 1, none⟩ u').cell? ⟨w.heap.size + 1, 3, none⟩ = some (.slice b' m' k') ∧ ((w1.setCell ⟨q, 0, none⟩ u).setCell ⟨q, 1, none⟩ u').cell? ⟨bl, 0, none⟩ = some (.int .i64 l0) ∧ ((w1.setCell ⟨q, 0, none⟩ u).setCell ⟨q, 1, none⟩ u').cell? ⟨bl, 1, none⟩ = some (.slice l1 l2 l3) ∧ ((w1.setCell ⟨q, 0, none⟩ u).setCell ⟨q, 1, none⟩ u').cell? ⟨br, 0, none⟩ = some (.int .i64 r0) ∧ ((w1.setCell ⟨q, 0, none⟩ u).setCell ⟨q, 1, none⟩ u').cell? ⟨br, 1, none⟩ = some (.slice r1 r2 r3) ∧ ((w1.setCell ⟨q, 0, none⟩ u).setCell ⟨q, 1, none⟩ u').cell? ⟨bn, 0, none⟩ = some (.int .i64 t0) ∧ ((w1.setCell ⟨q, 0, none⟩ u).setCell ⟨q, 1, none⟩ u').cell? ⟨bn, 1, none⟩ = some (.slice t1 t2 t3) := by
  have hc : ∀ b o v, b ≠ q → w1.cell? ⟨b, o, none⟩ = some v → ((w1.setCell ⟨q, 0, none⟩ u).setCell ⟨q, 1, none⟩ u').cell? ⟨b, o, none⟩ = some v := fun b o v hb hv => by
    rw [cell?_setCell_ne _ _ _ _ _ _ (by omega), cell?_setCell_ne _ _ _ _ _ _ (by omega)]; exact hv
  exact ⟨below_stored h.1 (by omega) _ _, RBox.beside h.2.1 (by omega) _ _, hc _ _ _ (by omega) h.2.2.1, hc _ _ _ (by omega) h.2.2.2.1, hc _ _ _ (by omega) h.2.2.2.2.1, hc _ _ _ (by omega) h.2.2.2.2.2.1, hc _ _ _ (by omega) h.2.2.2.2.2.2.1, hc _ _ _ (by omega) h.2.2.2.2.2.2.2.1, hc _ _ _ (by omega) h.2.2.2.2.2.2.2.2.1, hc _ _ _ (by omega) h.2.2.2.2.2.2.2.2.2.1, hc _ _ _ (by omega) h.2.2.2.2.2.2.2.2.2.2.1, hc _ _ _ (by omega) h.2.2.2.2.2.2.2.2.2.2.2.1, hc _ _ _ (by omega) h.2.2.2.2.2.2.2.2.2.2.2.2.1, hc _ _ _ (by omega) h.2.2.2.2.2.2.2.2.2.2.2.2.2.1, hc _ _ _ (by omega) h.2.2.2.2.2.2.2.2.2.2.2.2.2.2.1, hc _ _ _ (by omega) h.2.2.2.2.2.2.2.2.2.2.2.2.2.2.2⟩
theorem drewW16 {w w1 : World} {x y x' y' : Int} {a b a' b' : Option Addr} {n c m k n' c' m' k' : Nat} {bl br : Nat} {l0 r0 : Int} {l1 r1 : Option Addr} {l2 l3 r2 r3 : Nat} {bn : Nat} {t0 : Int} {t1 : Option Addr} {t2 t3 : Nat} {o : Obj} (h : Below w.heap.size w w1.drew ∧ RBox w1.drew (w.heap.size + 2) ∧ w1.drew.cell? ⟨w.heap.size, 0, none⟩ = some (.int .i64 x) ∧ w1.drew.cell? ⟨w.heap.size, 1, none⟩ = some (.slice a n c) ∧ w1.drew.cell? ⟨w.heap.size, 2, none⟩ = some (.int .i64 y) ∧ w1.drew.cell? ⟨w.heap.size, 3, none⟩ = some (.slice b m k) ∧ w1.drew.cell? ⟨w.heap.size + 1, 0, none⟩ = some (.int .i64 x') ∧ w1.drew.cell? ⟨w.heap.size + 1, 1, none⟩ = some (.slice a' n' c') ∧ w1.drew.cell? ⟨w.heap.size + 1, 2, none⟩ = some (.int .i64 y') ∧ w1.drew.cell? ⟨w.heap.size + 1, 3, none⟩ = some (.slice b' m' k') ∧ w1.drew.cell? ⟨bl, 0, none⟩ = some (.int .i64 l0) ∧ w1.drew.cell? ⟨bl, 1, none⟩ = some (.slice l1 l2 l3) ∧ w1.drew.cell? ⟨br, 0, none⟩ = some (.int .i64 r0) ∧ w1.drew.cell? ⟨br, 1, none⟩ = some (.slice r1 r2 r3) ∧ w1.drew.cell? ⟨bn, 0, none⟩ = some (.int .i64 t0) ∧ w1.drew.cell? ⟨bn, 1, none⟩ = some (.slice t1 t2 t3)) : Below w.heap.size w (w1.alloc o).drew ∧ RBox (w1.alloc o).drew (w.heap.size + 2) ∧ (w1.alloc o).drew.cell? ⟨w.heap.size, 0, none⟩ = some (.int .i64 x) ∧ (w1.alloc o).drew.cell? ⟨w.heap.size, 1, none⟩ = some (.slice a n c) ∧ (w1.alloc o).drew.cell? ⟨w.heap.size, 2, none⟩ = some (.int .i64 y) ∧ (w1.alloc o).drew.cell? ⟨w.heap.size, 3, none⟩ = some (.slice b m k) ∧ (w1.alloc o).drew.cell? ⟨w.heap.size + 1, 0, none⟩ = some (.int .i64 x') ∧ (w1.alloc o).drew.cell? ⟨w.heap.size + 1, 1, none⟩ = some (.slice a' n' c') ∧ (w1.alloc o).drew.cell? ⟨w.heap.size + 1, 2, none⟩ = some (.int .i64 y') ∧ (w1.alloc o).drew.cell? ⟨w.heap.size + 1, 3, none⟩ = some (.slice b' m' k') ∧ (w1.alloc o).drew.cell? ⟨bl, 0, none⟩ = some (.int .i64 l0) ∧ (w1.alloc o).drew.cell? ⟨bl, 1, none⟩ = some (.slice l1 l2 l3) ∧ (w1.alloc o).drew.cell? ⟨br, 0, none⟩ = some (.int .i64 r0) ∧ (w1.alloc o).drew.cell? ⟨br, 1, none⟩ = some (.slice r1 r2 r3) ∧ (w1.alloc o).drew.cell? ⟨bn, 0, none⟩ = some (.int .i64 t0) ∧ (w1.alloc o).drew.cell? ⟨bn, 1, none⟩ = some (.slice t1 t2 t3) := keepW16 (w1 := w1.drew) (w2 := (w1.alloc o).drew) (below_new w1.drew o) h
theorem outW12 {w w1 : World} {x y x' y' : Int} {a b a' b' : Option Addr} {n c m k n' c' m' k' : Nat} {bn : Nat} {t0 : Int} {t1 : Option Addr} {t2 t3 : Nat} (h : Below w.heap.size w w1 ∧ RBox w1 (w.heap.size + 2) ∧ w1.cell? ⟨w.heap.size, 0, none⟩ = some (.int .i64 x) ∧ w1.cell? ⟨w.heap.size, 1, none⟩ = some (.slice a n c) ∧ w1.cell? ⟨w.heap.size, 2, none⟩ = some (.int .i64 y) ∧ w1.cell? ⟨w.heap.size, 3, none⟩ = some (.slice b m k) ∧ w1.cell? ⟨w.heap.size + 1, 0, none⟩ = some (.int .i64 x') ∧ w1.cell? ⟨w.heap.size + 1, 1, none⟩ = some (.slice a' n' c') ∧ w1.cell? ⟨w.heap.size + 1, 2, none⟩ = some (.int .i64 y') ∧ w1.cell? ⟨w.heap.size + 1, 3, none⟩ = some (.slice b' m' k') ∧ w1.cell? ⟨bn, 0, none⟩ = some (.int .i64 t0) ∧ w1.cell? ⟨bn, 1, none⟩ = some (.slice t1 t2 t3)) (hn : w.heap.size + 2 < bn) (u0 : Int) (u1 : Option Addr) (u2 u3 : Nat) (u4 : Int) (u5 : Option Addr) (u6 u7 : Nat) : Below w.heap.size w ((((w1.setCell ⟨w.heap.size + 2, 0, none⟩ (.int .i64 u0)).setCell ⟨w.heap.size + 2, 1, none⟩ (.slice u1 u2 u3)).setCell ⟨w.heap.size + 2, 2, none⟩ (.int .i64 u4)).setCell ⟨w.heap.size + 2, 3, none⟩ (.slice u5 u6 u7)) ∧ RBox ((((w1.setCell ⟨w.heap.size + 2, 0, none⟩ (.int .i64 u0)).setCell ⟨w.heap.size + 2, 1, none⟩ (.slice u1 u2 u3)).setCell ⟨w.heap.size + 2, 2, none⟩ (.int .i64 u4)).setCell ⟨w.heap.size + 2, 3, none⟩ (.slice u5 u6 u7)) (w.heap.size + 2) ∧ ((((w1.setCell ⟨w.heap.size + 2, 0, none⟩ (.int .i64 u0)).setCell ⟨w.heap.size + 2, 1, none⟩ (.slice u1 u2 u3)).setCell ⟨w.heap.size + 2, 2, none⟩ (.int .i64 u4)).setCell ⟨w.heap.size + 2, 3, none⟩ (.slice u5 u6 u7)).cell? ⟨w.heap.size, 0, none⟩ = some (.int .i64 x) ∧ ((((w1.setCell ⟨w.heap.size + 2, 0, none⟩ (.int .i64 u0)).setCell ⟨w.heap.size + 2, 1, none⟩ (.slice u1 u2 u3)).setCell ⟨w.heap.size + 2, 2, none⟩ (.int .i64 u4)).setCell ⟨w.heap.size + 2, 3, none⟩ (.slice u5 u6 u7)).cell? ⟨w.heap.size, 1, none⟩ = some (.slice a n c) ∧ ((((w1.setCell ⟨w.heap.size + 2, 0, none⟩ (.int .i64 u0)).setCell ⟨w.heap.size + 2, 1, none⟩ (.slice u1 u2 u3)).setCell ⟨w.heap.size + 2, 2, none⟩ (.int .i64 u4)).setCell ⟨w.heap.size + 2, 3, none⟩ (.slice u5 u6 u7)).cell? ⟨w.heap.size, 2, none⟩ = some (.int .i64 y) ∧ ((((w1.setCell ⟨w.heap.size + 2, 0, none⟩ (.int .i64 u0)).setCell ⟨w.heap.size + 2, 1, none⟩ (.slice u1 u2 u3)).setCell ⟨w.heap.size + 2, 2, none⟩ (.int .i64 u4)).setCell ⟨w.heap.size + 2, 3, none⟩ (.slice u5 u6 u7)).cell? ⟨w.heap.size, 3, none⟩ = some (.slice b m k) ∧ ((((w1.setCell ⟨w.heap.size + 2, 0, none⟩ (.int .i64 u0)).setCell ⟨w.heap.size + 2, 1, none⟩ (.slice u1 u2 u3)).setCell ⟨w.heap.size + 2, 2, none⟩ (.int .i64 u4)).setCell ⟨w.heap.size + 2, 3, none⟩ (.slice u5 u6 u7)).cell? ⟨w.heap.size + 1, 0, none⟩ = some (.int .i64 x') ∧ ((((w1.setCell ⟨w.heap.size + 2, 0, none⟩ (.int .i64 u0)).setCell ⟨w.heap.size + 2, 1, none⟩ (.slice u1 u2 u3)).setCell ⟨w.heap.size + 2, 2, none⟩ (.int .i64 u4)).setCell ⟨w.heap.size + 2, 3, none⟩ (.slice u5 u6 u7)).cell? ⟨w.heap.size + 1, 1, none⟩ = some (.slice a' n' c') ∧ ((((w1.setCell ⟨w.heap.size + 2, 0, none⟩ (.int .i64 u0)).setCell ⟨w.heap.size + 2, 1, none⟩ (.slice u1 u2 u3)).setCell ⟨w.heap.size + 2, 2, none⟩ (.int .i64 u4)).setCell ⟨w.heap.size + 2, 3, none⟩ (.slice u5 u6 u7)).cell? ⟨w.heap.size + 1, 2, none⟩ = some (.int .i64 y') ∧ ((((w1.setCell ⟨w.heap.size + 2, 0, none⟩ (.int .i64 u0)).setCell ⟨w.heap.size + 2, 1, none⟩ (.slice u1 u2 u3)).setCell ⟨w.heap.size + 2, 2, none⟩ (.int .i64 u4)).setCell ⟨w.heap.size + 2, 3, none⟩ (.slice u5 u6 u7)).cell? ⟨w.heap.size + 1, 3, none⟩ = some (.slice b' m' k') ∧ ((((w1.setCell ⟨w.heap.size + 2, 0, none⟩ (.int .i64 u0)).setCell ⟨w.heap.size + 2, 1, none⟩ (.slice u1 u2 u3)).setCell ⟨w.heap.size + 2, 2, none⟩ (.int .i64 u4)).setCell ⟨w.heap.size + 2, 3, none⟩ (.slice u5 u6 u7)).cell? ⟨bn, 0, none⟩ = some (.int .i64 t0) ∧ ((((w1.setCell ⟨w.heap.size + 2, 0, none⟩ (.int .i64 u0)).setCell ⟨w.heap.size + 2, 1, none⟩ (.slice u1 u2 u3)).setCell ⟨w.heap.size + 2, 2, none⟩ (.int .i64 u4)).setCell ⟨w.heap.size + 2, 3, none⟩ (.slice u5 u6 u7)).cell? ⟨bn, 1, none⟩ = some (.slice t1 t2 t3) := by
  have hc : ∀ b o v, b ≠ w.heap.size + 2 → w1.cell? ⟨b, o, none⟩ = some v → ((((w1.setCell ⟨w.heap.size + 2, 0, none⟩ (.int .i64 u0)).setCell ⟨w.heap.size + 2, 1, none⟩ (.slice u1 u2 u3)).setCell ⟨w.heap.size + 2, 2, none⟩ (.int .i64 u4)).setCell ⟨w.heap.size + 2, 3, none⟩ (.slice u5 u6 u7)).cell? ⟨b, o, none⟩ = some v := fun b o v hb hv => by
    rw [cell?_setCell_ne _ _ _ _ _ _ (by omega), cell?_setCell_ne _ _ _ _ _ _ (by omega), cell?_setCell_ne _ _ _ _ _ _ (by omega), cell?_setCell_ne _ _ _ _ _ _ (by omega)]; exact hv
  exact ⟨below_rstored h.1 (by omega) _ _ _ _, RBox.stored' h.2.1 _ _ _ _ _ _ _ _, hc _ _ _ (by omega) h.2.2.1, hc _ _ _ (by omega) h.2.2.2.1, hc _ _ _ (by omega) h.2.2.2.2.1, hc _ _ _ (by omega) h.2.2.2.2.2.1, hc _ _ _ (by omega) h.2.2.2.2.2.2.1, hc _ _ _ (by omega) h.2.2.2.2.2.2.2.1, hc _ _ _ (by omega) h.2.2.2.2.2.2.2.2.1, hc _ _ _ (by omega) h.2.2.2.2.2.2.2.2.2.1, hc _ _ _ (by omega) h.2.2.2.2.2.2.2.2.2.2.1, hc _ _ _ (by omega) h.2.2.2.2.2.2.2.2.2.2.2⟩
/-- One number in a box of its own, beside what came in. -/
def DenCut (w : World) (x : Int) (a : Option Addr) (n c : Nat) (y : Int) (b : Option Addr) (m k : Nat) (x' : Int) (a' : Option Addr) (n' c' : Nat) (y' : Int) (b' : Option Addr) (m' k' : Nat) (M : Nat) (t : Int) (tv : Value) (wx : World) : Prop :=
  ∃ bn t0 t1 t2 t3, tv = .pointer (some ⟨bn, 0, none⟩) ∧ w.heap.size + 2 < bn ∧ Box wx bn ∧ Zr M wx (.agg #[.int .i64 t0, .slice t1 t2 t3]) t ∧ (Below w.heap.size w wx ∧ RBox wx (w.heap.size + 2) ∧ wx.cell? ⟨w.heap.size, 0, none⟩ = some (.int .i64 x) ∧ wx.cell? ⟨w.heap.size, 1, none⟩ = some (.slice a n c) ∧ wx.cell? ⟨w.heap.size, 2, none⟩ = some (.int .i64 y) ∧ wx.cell? ⟨w.heap.size, 3, none⟩ = some (.slice b m k) ∧ wx.cell? ⟨w.heap.size + 1, 0, none⟩ = some (.int .i64 x') ∧ wx.cell? ⟨w.heap.size + 1, 1, none⟩ = some (.slice a' n' c') ∧ wx.cell? ⟨w.heap.size + 1, 2, none⟩ = some (.int .i64 y') ∧ wx.cell? ⟨w.heap.size + 1, 3, none⟩ = some (.slice b' m' k') ∧ wx.cell? ⟨bn, 0, none⟩ = some (.int .i64 t0) ∧ wx.cell? ⟨bn, 1, none⟩ = some (.slice t1 t2 t3))
/-- Two numbers more. -/
def PartCut (w : World) (x : Int) (a : Option Addr) (n c : Nat) (y : Int) (b : Option Addr) (m k : Nat) (x' : Int) (a' : Option Addr) (n' c' : Nat) (y' : Int) (b' : Option Addr) (m' k' : Nat) (bn : Nat) (t0 : Int) (t1 : Option Addr) (t2 t3 : Nat) (M : Nat) (l r : Int) (lv rv : Value) (wx : World) : Prop :=
  ∃ bl br l0 l1 l2 l3 r0 r1 r2 r3, lv = .pointer (some ⟨bl, 0, none⟩) ∧ rv = .pointer (some ⟨br, 0, none⟩) ∧ bl ≠ br ∧ w.heap.size + 2 < bl ∧ w.heap.size + 2 < br ∧ bn ≠ bl ∧ bn ≠ br ∧ Vr wx bl l0 l1 l2 l3 M l ∧ Vr wx br r0 r1 r2 r3 M r ∧ (Below w.heap.size w wx ∧ RBox wx (w.heap.size + 2) ∧ wx.cell? ⟨w.heap.size, 0, none⟩ = some (.int .i64 x) ∧ wx.cell? ⟨w.heap.size, 1, none⟩ = some (.slice a n c) ∧ wx.cell? ⟨w.heap.size, 2, none⟩ = some (.int .i64 y) ∧ wx.cell? ⟨w.heap.size, 3, none⟩ = some (.slice b m k) ∧ wx.cell? ⟨w.heap.size + 1, 0, none⟩ = some (.int .i64 x') ∧ wx.cell? ⟨w.heap.size + 1, 1, none⟩ = some (.slice a' n' c') ∧ wx.cell? ⟨w.heap.size + 1, 2, none⟩ = some (.int .i64 y') ∧ wx.cell? ⟨w.heap.size + 1, 3, none⟩ = some (.slice b' m' k') ∧ wx.cell? ⟨bn, 0, none⟩ = some (.int .i64 t0) ∧ wx.cell? ⟨bn, 1, none⟩ = some (.slice t1 t2 t3))
/-- One number more. -/
def TotCut (w : World) (x : Int) (a : Option Addr) (n c : Nat) (y : Int) (b : Option Addr) (m k : Nat) (x' : Int) (a' : Option Addr) (n' c' : Nat) (y' : Int) (b' : Option Addr) (m' k' : Nat) (bl br : Nat) (l0 : Int) (l1 : Option Addr) (l2 l3 : Nat) (r0 : Int) (r1 : Option Addr) (r2 r3 : Nat) (bn : Nat) (t0 : Int) (t1 : Option Addr) (t2 t3 : Nat) (K : Nat) (z : Int) (zv : Value) (wx : World) : Prop :=
  ∃ bz z0 z1 z2 z3, zv = .pointer (some ⟨bz, 0, none⟩) ∧ bl ≠ bz ∧ br ≠ bz ∧ bn ≠ bz ∧ w.heap.size + 2 < bz ∧ Vr wx bz z0 z1 z2 z3 K z ∧ (Below w.heap.size w wx ∧ RBox wx (w.heap.size + 2) ∧ wx.cell? ⟨w.heap.size, 0, none⟩ = some (.int .i64 x) ∧ wx.cell? ⟨w.heap.size, 1, none⟩ = some (.slice a n c) ∧ wx.cell? ⟨w.heap.size, 2, none⟩ = some (.int .i64 y) ∧ wx.cell? ⟨w.heap.size, 3, none⟩ = some (.slice b m k) ∧ wx.cell? ⟨w.heap.size + 1, 0, none⟩ = some (.int .i64 x') ∧ wx.cell? ⟨w.heap.size + 1, 1, none⟩ = some (.slice a' n' c') ∧ wx.cell? ⟨w.heap.size + 1, 2, none⟩ = some (.int .i64 y') ∧ wx.cell? ⟨w.heap.size + 1, 3, none⟩ = some (.slice b' m' k') ∧ wx.cell? ⟨bl, 0, none⟩ = some (.int .i64 l0) ∧ wx.cell? ⟨bl, 1, none⟩ = some (.slice l1 l2 l3) ∧ wx.cell? ⟨br, 0, none⟩ = some (.int .i64 r0) ∧ wx.cell? ⟨br, 1, none⟩ = some (.slice r1 r2 r3) ∧ wx.cell? ⟨bn, 0, none⟩ = some (.int .i64 t0) ∧ wx.cell? ⟨bn, 1, none⟩ = some (.slice t1 t2 t3))

set_option maxHeartbeats 8000000 in
set_option maxRecDepth 8000 in
/-- Add. -/
theorem qadd_any {N : Nat} {v v' : Value} {p d p' d' : Int} (w : World) (h : Rr (N + 1) w v p d) (h' : Rr (N + 1) w v' p' d') (hN : N ≤ 10000) (hT : Tab64 w) :
    Calls Tryz.prog 37 #[v, v'] w fun e w' => (∃ v P D, e = .returned v ∧ Rr (2 * N + 6) w' v P D ∧ P * (d * d') = (p * d' + p' * d) * D) ∧ Below w.heap.size w w' := by
  have h0 := h
  have h0' := h'
  obtain ⟨x, a, n, c, y, b, m, k, e, rfl, h2, h3, d0, hg, hd⟩ := h
  obtain ⟨x', a', n', c', y', b', m', k', e', rfl, h2', h3', d0', hg', hd'⟩ := h'
  have hst := W10.start w x y x' y' a b a' b' n c m k n' c' m' k'
  have HT := hide hT
  have HG := hide (And.intro hg hg')
  have HD := hide hd
  have HD' := hide hd'
  have HD0 := hide (And.intro d0 d0')
  clear hT hg hg' hd hd' d0 d0'
  obtain ⟨bw, HBW⟩ : ∃ bw, Hid (decide (d = 1 ∨ d' = 1) = bw) := ⟨_, rfl⟩
  go_enter Tryz.func37, Tryz.ntmps37
  go_upto_region 1 with fail
  obtain ⟨W0, hW0⟩ : ∃ W0, W0 = ((w.alloc (.cells #[.int .i64 x, .slice a n c, .int .i64 y, .slice b m k] 52)).alloc (.cells #[.int .i64 x', .slice a' n' c', .int .i64 y', .slice b' m' k'] 52)).alloc (.cells #[.int .i64 0, .slice none 0 0, .int .i64 0, .slice none 0 0] 52) := ⟨_, rfl⟩
  rw [← hW0] at hst
  first | rw [← hW0] | (change Code.wp _ _ _ _ (((w.alloc (.cells #[.int .i64 x, .slice a n c, .int .i64 y, .slice b m k] 52)).alloc (.cells #[.int .i64 x', .slice a' n' c', .int .i64 y', .slice b' m' k'] 52)).alloc (.cells #[.int .i64 0, .slice none 0 0, .int .i64 0, .slice none 0 0] 52)); rw [← hW0])
  clear hW0
  go_cut [16] (fun bv wx => bv = .bool bw ∧ W10 w x a n c y b m k x' a' n' c' y' b' m' k' wx)
  case first =>
    obtain ⟨hB, hr, e0, e1, e2, e3, f0, f1, f2, f3⟩ := hst
    go_wp2_with fail
    go_fit (isWhole_any _ (h0.later hB))
    rintro e W1 ⟨rfl, hb1⟩
    have hst := W10.keep hb1 ⟨hB, hr, e0, e1, e2, e3, f0, f1, f2, f3⟩
    clear hb1 hB hr e0 e1 e2 e3 f0 f1 f2 f3
    by_cases hw1 : d = 1
    · subst hw1
      obtain ⟨hB, hr, e0, e1, e2, e3, f0, f1, f2, f3⟩ := hst
      go_wp2
      go_meet
      exact ⟨by rw [← unhide HBW]; simp, ⟨hB, hr, e0, e1, e2, e3, f0, f1, f2, f3⟩⟩
    · obtain ⟨hB, hr, e0, e1, e2, e3, f0, f1, f2, f3⟩ := hst
      go_wp2_with fail
      go_fit (isWhole_any _ (h0'.later hB))
      rintro e W2 ⟨rfl, hb2⟩
      have hst := W10.keep hb2 ⟨hB, hr, e0, e1, e2, e3, f0, f1, f2, f3⟩
      clear hB hr e0 e1 e2 e3 f0 f1 f2 f3 hb2
      go_wp2
      go_meet
      exact ⟨by rw [← unhide HBW]; simp [hw1], hst⟩
  case rest =>
    obtain ⟨rfl, hst⟩ := hcut
    obtain ⟨W1, rfl⟩ : ∃ X, X = wc := ⟨_, rfl⟩
    rcases bw with _ | _
    rotate_left
    · have hw : d = 1 ∨ d' = 1 := of_decide_eq_true (unhide HBW)
      have hdd : ∃ D eD : Int, Hid ((d = 1 ∧ D = d' ∧ eD = e') ∨ (d ≠ 1 ∧ D = d ∧ eD = e)) := by
        by_cases h1 : d = 1
        · exact ⟨d', e', Or.inl ⟨h1, rfl, rfl⟩⟩
        · exact ⟨d, e, Or.inr ⟨h1, rfl, rfl⟩⟩
      obtain ⟨D, eD, HDD⟩ := hdd
      have HW := hide hw
      clear hw
      obtain ⟨hB, hr, e0, e1, e2, e3, f0, f1, f2, f3⟩ := hst
      go_upto_region 3 with fail
      obtain ⟨W2, hW2⟩ : ∃ W2, W2 = W1.alloc (.cells #[.int .i64 y, .slice b m k] 31) := ⟨_, rfl⟩
      have kn := below_new W1 (.cells #[.int .i64 y, .slice b m k] 31)
      have hvd := Vr.new (h3.later hB)
      rw [← hW2] at kn hvd
      first | rw [← hW2] | (change Code.wp _ _ _ _ (W1.alloc (.cells #[.int .i64 y, .slice b m k] 31)); rw [← hW2])
      clear hW2
      have hlt1 := hr.lt
      have hst := W10.keep kn ⟨hB, hr, e0, e1, e2, e3, f0, f1, f2, f3⟩
      clear hB hr e0 e1 e2 e3 f0 f1 f2 f3 kn
      obtain ⟨hB, hr, e0, e1, e2, e3, f0, f1, f2, f3⟩ := hst
      go_wp2_with fail
      go_fit (isWhole_any _ (h0.later hB))
      rintro e W3 ⟨rfl, hb3⟩
      have hst := W10.keep hb3 ⟨hB, hr, e0, e1, e2, e3, f0, f1, f2, f3⟩
      have hvd := hvd.keep hb3
      clear hB hr e0 e1 e2 e3 f0 f1 f2 f3 hb3
      obtain ⟨hB, hr, e0, e1, e2, e3, f0, f1, f2, f3⟩ := hst
      go_upto_if 20 with fail
      go_cut [5] (fun tv wx => DenCut w x a n c y b m k x' a' n' c' y' b' m' k' (N + 1) eD tv wx)
      case first =>
        have vd0 := hvd.c0
        have vd1 := hvd.c1
        have vdf := hvd.frozen
        have vdl := hvd.lt
        have nb0 : W1.heap.size ≠ w.heap.size := by omega
        by_cases hw1 : d = 1
        · subst hw1
          go_wp2
          go_meet
          obtain ⟨hB9, hr9, e09, e19, e29, e39, f09, f19, f29, f39⟩ := storeW10 ⟨hB, hr, e0, e1, e2, e3, f0, f1, f2, f3⟩ (q := W1.heap.size) (by omega) (.int .i64 y') (.slice b' m' k')
          have hs := hvd.box.stored (.int .i64 y') (.slice b' m' k')
          have hE : eD = e' := by rcases unhide HDD with ⟨_, _, h⟩ | ⟨h, _⟩; exact h; exact absurd rfl h
          exact ⟨_, _, _, _, _, rfl, by omega, hvd.box.stored' _ _ _ _, hE ▸ ((h3'.later hB).stored hvd.box _ _), hB9, hr9, e09, e19, e29, e39, f09, f19, f29, f39, hs.1, hs.2⟩
        · go_wp2
          go_meet
          have hE : eD = e := by rcases unhide HDD with ⟨h, _⟩ | ⟨_, _, h⟩; exact absurd h hw1; exact h
          exact ⟨_, _, _, _, _, rfl, by omega, hvd.box, hE ▸ hvd.zr, hB, hr, e0, e1, e2, e3, f0, f1, f2, f3, vd0, vd1⟩
      case rest =>
        obtain ⟨bn, t0, t1, t2, t3, rfl, qbn, hbn, ZT, hst⟩ := hcut
        obtain ⟨W4, rfl⟩ : ∃ X, X = wc := ⟨_, rfl⟩
        clear hB hr e0 e1 e2 e3 f0 f1 f2 f3 hvd hlt1
        obtain ⟨hB, hr, e0, e1, e2, e3, f0, f1, f2, f3, nc0, nc1⟩ := hst
        have ZN := hide ZT
        clear ZT
        go_wp2_with fail
        have tok1 : True := trivial
        have S0 := hide (show Below w.heap.size w W4.drew ∧ RBox W4.drew (w.heap.size + 2) ∧ W4.drew.cell? ⟨w.heap.size, 0, none⟩ = some (.int .i64 x) ∧ W4.drew.cell? ⟨w.heap.size, 1, none⟩ = some (.slice a n c) ∧ W4.drew.cell? ⟨w.heap.size, 2, none⟩ = some (.int .i64 y) ∧ W4.drew.cell? ⟨w.heap.size, 3, none⟩ = some (.slice b m k) ∧ W4.drew.cell? ⟨w.heap.size + 1, 0, none⟩ = some (.int .i64 x') ∧ W4.drew.cell? ⟨w.heap.size + 1, 1, none⟩ = some (.slice a' n' c') ∧ W4.drew.cell? ⟨w.heap.size + 1, 2, none⟩ = some (.int .i64 y') ∧ W4.drew.cell? ⟨w.heap.size + 1, 3, none⟩ = some (.slice b' m' k') ∧ W4.drew.cell? ⟨bn, 0, none⟩ = some (.int .i64 t0) ∧ W4.drew.cell? ⟨bn, 1, none⟩ = some (.slice t1 t2 t3) from ⟨hB.drew, hr, e0, e1, e2, e3, f0, f1, f2, f3, nc0, nc1⟩)
        go_region_held3 (fun w' => Below w.heap.size w w' ∧ RBox w' (w.heap.size + 2) ∧ w'.cell? ⟨w.heap.size, 0, none⟩ = some (.int .i64 x) ∧ w'.cell? ⟨w.heap.size, 1, none⟩ = some (.slice a n c) ∧ w'.cell? ⟨w.heap.size, 2, none⟩ = some (.int .i64 y) ∧ w'.cell? ⟨w.heap.size, 3, none⟩ = some (.slice b m k) ∧ w'.cell? ⟨w.heap.size + 1, 0, none⟩ = some (.int .i64 x') ∧ w'.cell? ⟨w.heap.size + 1, 1, none⟩ = some (.slice a' n' c') ∧ w'.cell? ⟨w.heap.size + 1, 2, none⟩ = some (.int .i64 y') ∧ w'.cell? ⟨w.heap.size + 1, 3, none⟩ = some (.slice b' m' k') ∧ w'.cell? ⟨bn, 0, none⟩ = some (.int .i64 t0) ∧ w'.cell? ⟨bn, 1, none⟩ = some (.slice t1 t2 t3))
          (first | with_reducible exact unhide S3 | with_reducible exact unhide S2 | with_reducible exact unhide S1 | with_reducible exact unhide S0 | with_reducible exact outW12 (unhide S3) qbn _ _ _ _ _ _ _ _)
          (first
            | (go_at_call 106; have _t := tok1; go_fit (qtimes_any (N := N) (D := d') _ (h0.later (And.left (by assumption))) (h3'.later (And.left (by assumption))) (unhide HD') (by omega)); rintro e q1 ⟨⟨v1, rfl, hP1⟩, hb1⟩; clear tok1; obtain ⟨i1, i2, i3, i4, rfl⟩ := hP1.shape; have S1 := hide (keepW12 hb1 (unhide S0)); replace ZN := hide (Zr.later (w := W4.drew) (unhide ZN) hb1); clear hb1)
            | (go_at_call 106; go_fit (qtimes_any (N := N) (D := d) _ (h0'.later (And.left (by assumption))) (h3.later (And.left (by assumption))) (unhide HD) (by omega)); rintro e q2 ⟨⟨v2, rfl, hP2⟩, hb2⟩; obtain ⟨i5, i6, i7, i8, rfl⟩ := hP2.shape; have S2 := hide (keepW12 hb2 (unhide S1)); replace ZN := hide ((unhide ZN).later hb2); replace hP1 := hP1.later hb2; clear hb2)
            | (go_at_call 12; go_fit (add_any (N := N + 1 + N) _ hP1 hP2 (by omega)); rintro e q3 ⟨⟨v3, rfl, hP3⟩, hb3⟩; obtain ⟨i9, i10, i11, i12, rfl⟩ := hP3.shape; have S3 := hide (keepW12 hb3 (unhide S2)); replace ZN := hide ((unhide ZN).later hb3); have hbx := (unhide S3).2.1; obtain ⟨⟨j0, g0⟩, ⟨j1, j2, j3, g1⟩, ⟨j4, g2⟩, ⟨j5, j6, j7, g3⟩, gf⟩ := hbx.cells; have hlt := hbx.lt; clear hb3))
        have hB3 := (unhide S3).1
        have hbx := (unhide S3).2.1
        go_wp2
        obtain ⟨st0, st1, st2, st3⟩ := hbx.stored (.int .i64 i9) (.slice i10 i11 i12) (.int .i64 t0) (.slice t1 t2 t3)
        have hR : 0 < D ∧ Int.gcd (p * d' + p' * d) D = 1 ∧ ((D = 1 ∧ eD = 0) ∨ (1 < D ∧ eD = D)) ∧ (p * d' + p' * d) * (d * d') = (p * d' + p' * d) * D := by
          obtain ⟨k1, k2⟩ := unhide HD0
          obtain ⟨k3, k4⟩ := unhide HG
          rcases unhide HDD with ⟨h1, rfl, rfl⟩ | ⟨h1, rfl, rfl⟩
          · subst h1
            exact ⟨k2, by rw [Int.mul_one, Int.add_comm]; exact cop_whole k4, unhide HD', by rw [Int.one_mul]⟩
          · have h2 : d' = 1 := (unhide HW).resolve_left h1
            subst h2
            exact ⟨k1, by rw [Int.mul_one]; exact cop_whole k3, unhide HD, by rw [Int.mul_one D]⟩
        obtain ⟨r1, r2, r3, r4⟩ := hR
        exact bodyPost_ret (v := .agg #[.int .i64 i9, .slice i10 i11 i12, .int .i64 t0, .slice t1 t2 t3]) (by simp [results, Tryz.results37, go_sem, st0, st1, st2, st3]) rfl ⟨⟨_, p * d' + p' * d, D, rfl, ⟨_, _, _, _, _, _, _, _, eD, rfl, (hP3.rstored hbx _ _ _ _).mono (by omega), ((unhide ZN).rstored hbx _ _ _ _).mono (by omega), r1, r2, r3⟩, r4⟩, below_rstored hB3 (by omega) _ _ _ _⟩
    · have hw : ¬ (d = 1 ∨ d' = 1) := of_decide_eq_false (unhide HBW)
      have he : e = d := by rcases unhide HD with ⟨h, _⟩ | ⟨_, h⟩; exact absurd (Or.inl h) hw; exact h
      have he' : e' = d' := by rcases unhide HD' with ⟨h, _⟩ | ⟨_, h⟩; exact absurd (Or.inr h) hw; exact h
      subst he he'
      obtain ⟨g, u, t, q, T, z, hsg, g0, eu, et, u0, t0, hq, q0, eT, ez, uz, hcop, hfin, m1, m2, m3, m4⟩ := sum_lowest (unhide HD0).1 (unhide HD0).2 (unhide HG).1 (unhide HG).2
      have HSG := hide hsg
      have HQ := hide hq
      have HE := hide (And.intro eu (And.intro et (And.intro eT ez)))
      have HFIN := hide (And.intro hcop hfin)
      have HP := hide (And.intro g0 (And.intro u0 (And.intro t0 (And.intro q0 uz))))
      have HM := hide (And.intro m1 (And.intro m2 (And.intro m3 m4)))
      have HI := hide (And.intro h3.inside.2 h3'.inside.2)
      clear hsg hq eu et eT ez hcop hfin g0 u0 t0 q0 uz m1 m2 m3 m4 hw
      obtain ⟨hB, hr, e0, e1, e2, e3, f0, f1, f2, f3⟩ := hst
      go_wp2_with fail
      go_fit (gcd_any (N := N) _ (h3.later hB) (h3'.later hB) (by omega) ((unhide HT).later hB))
      rintro e9 W2 ⟨⟨v2, rfl, hG⟩, hb2⟩
      obtain ⟨t0, t1, t2, t3, rfl⟩ := hG.shape
      have hst := W10.keep hb2 ⟨hB, hr, e0, e1, e2, e3, f0, f1, f2, f3⟩
      clear hB hr e0 e1 e2 e3 f0 f1 f2 f3 hb2
      obtain ⟨hB, hr, e0, e1, e2, e3, f0, f1, f2, f3⟩ := hst
      have hG : Zr (N + 1) W2 (.agg #[.int .i64 t0, .slice t1 t2 t3]) g := (hG.eq (unhide HSG).symm).down (unhide HP).1 (unhide HM).1 (unhide HI).1
      go_upto_region 7 with fail
      obtain ⟨W3, hW3⟩ : ∃ W3, W3 = W2.alloc (.cells #[.int .i64 t0, .slice t1 t2 t3] 31) := ⟨_, rfl⟩
      have kn := below_new W2 (.cells #[.int .i64 t0, .slice t1 t2 t3] 31)
      have hvg := Vr.new hG
      have qbn := hr.lt
      obtain ⟨bn, hbn⟩ : ∃ bn, bn = W2.heap.size := ⟨_, rfl⟩
      rw [← hW3] at kn hvg
      rw [← hbn] at hvg qbn
      have hst := W10.keep kn ⟨hB, hr, e0, e1, e2, e3, f0, f1, f2, f3⟩
      clear hB hr e0 e1 e2 e3 f0 f1 f2 f3 kn
      first | rw [← hW3] | (change Code.wp _ _ _ _ (W2.alloc (.cells #[.int .i64 t0, .slice t1 t2 t3] 31)); rw [← hW3])
      try rw [← hbn]
      clear hW3 hG hbn
      obtain ⟨hB, hr, e0, e1, e2, e3, f0, f1, f2, f3⟩ := hst
      have nc0 := hvg.c0
      have nc1 := hvg.c1
      have lbn := hvg.lt
      have ZG := hide hvg.zr
      clear hvg
      go_cut [7, 8] (fun lv rv wx => PartCut w x a n c y b m k x' a' n' c' y' b' m' k' bn t0 t1 t2 t3 (N + 1) u t lv rv wx ∧ Hid (Zr (N + 1) wx (.agg #[.int .i64 t0, .slice t1 t2 t3]) g))
      case first =>
        have tok1 : True := trivial
        have hlt3 := hr.lt
        have S0 := hide (show Below w.heap.size w W3.drew ∧ RBox W3.drew (w.heap.size + 2) ∧ W3.drew.cell? ⟨w.heap.size, 0, none⟩ = some (.int .i64 x) ∧ W3.drew.cell? ⟨w.heap.size, 1, none⟩ = some (.slice a n c) ∧ W3.drew.cell? ⟨w.heap.size, 2, none⟩ = some (.int .i64 y) ∧ W3.drew.cell? ⟨w.heap.size, 3, none⟩ = some (.slice b m k) ∧ W3.drew.cell? ⟨w.heap.size + 1, 0, none⟩ = some (.int .i64 x') ∧ W3.drew.cell? ⟨w.heap.size + 1, 1, none⟩ = some (.slice a' n' c') ∧ W3.drew.cell? ⟨w.heap.size + 1, 2, none⟩ = some (.int .i64 y') ∧ W3.drew.cell? ⟨w.heap.size + 1, 3, none⟩ = some (.slice b' m' k') ∧ W3.drew.cell? ⟨bn, 0, none⟩ = some (.int .i64 t0) ∧ W3.drew.cell? ⟨bn, 1, none⟩ = some (.slice t1 t2 t3) from ⟨hB.drew, hr, e0, e1, e2, e3, f0, f1, f2, f3, nc0, nc1⟩)
        go_region_held3 (fun w' => Below w.heap.size w w' ∧ RBox w' (w.heap.size + 2) ∧ w'.cell? ⟨w.heap.size, 0, none⟩ = some (.int .i64 x) ∧ w'.cell? ⟨w.heap.size, 1, none⟩ = some (.slice a n c) ∧ w'.cell? ⟨w.heap.size, 2, none⟩ = some (.int .i64 y) ∧ w'.cell? ⟨w.heap.size, 3, none⟩ = some (.slice b m k) ∧ w'.cell? ⟨w.heap.size + 1, 0, none⟩ = some (.int .i64 x') ∧ w'.cell? ⟨w.heap.size + 1, 1, none⟩ = some (.slice a' n' c') ∧ w'.cell? ⟨w.heap.size + 1, 2, none⟩ = some (.int .i64 y') ∧ w'.cell? ⟨w.heap.size + 1, 3, none⟩ = some (.slice b' m' k') ∧ w'.cell? ⟨bn, 0, none⟩ = some (.int .i64 t0) ∧ w'.cell? ⟨bn, 1, none⟩ = some (.slice t1 t2 t3))
          (first | with_reducible exact unhide S2 | with_reducible exact unhide S1 | with_reducible exact unhide S0 | with_reducible exact keepW12 (below_new _ _) (by assumption) | with_reducible exact drewW12 (by assumption) | with_reducible exact storeW12 (unhide S2) qa na _ _ | with_reducible exact storeW12 (unhide S2) qb nb _ _ | with_reducible exact storeW12 (storeW12 (unhide S2) qa na _ _) qb nb _ _ | with_reducible exact storeW12 (storeW12 (unhide S2) qb nb _ _) qa na _ _ | with_reducible exact keepW12 (below_new _ _) (unhide S2) | with_reducible exact keepW12 (below_new2 _ _ _) (unhide S2) | with_reducible exact keepW12 (below_new _ _) (storeW12 (unhide S2) qa na _ _))
          (first
            | (go_at_call 107; have _t := tok1; go_fit (part_any (N := N) (q := u) _ (h3.later (And.left (by assumption))) ((unhide ZG).later (by first | exact (Below.refl _ _).drew | exact (below_new _ _).drew | exact (below_new2 _ _ _).drew)) (unhide HP).1 (unhide HE).1 (by omega)); rintro e9 q1 ⟨⟨v1, rfl, hP1⟩, hb1⟩; clear tok1; obtain ⟨i1, i2, i3, i4, rfl⟩ := hP1.shape; have S1 := hide (keepW12 hb1 (by assumption)); have hq1 := below_keep hb1 (show Below W3.heap.size W3 _ from (by first | exact (Below.refl _ _).drew | exact (below_new _ _).drew | exact (below_new2 _ _ _).drew)); have sz1 := hq1.size; (first | (have BXa : Hid (Box q1 W3.heap.size) := (by with_reducible exact hide (bx2ad hb1)); have BXb : Hid (Box q1 (W3.heap.size + 1)) := (by with_reducible exact hide (bx2bd hb1)); have qa : w.heap.size + 2 < W3.heap.size := hlt3; have qb : w.heap.size + 2 < W3.heap.size + 1 := Nat.lt_succ_of_lt qa; have hab : W3.heap.size < W3.heap.size + 1 := Nat.lt_succ_self _; have qs : W3.heap.size ≤ W3.heap.size := Nat.le_refl _) | (have hab := box_lt (unhide BXa); have BXb : Hid (Box q1 W3.heap.size) := (by with_reducible exact hide (bx1d hb1)); have qb : w.heap.size + 2 < W3.heap.size := hlt3; replace BXa := hide ((unhide BXa).later hq1)) | (have BXa : Hid (Box q1 W3.heap.size) := (by with_reducible exact hide (bx1d hb1)); have qa : w.heap.size + 2 < W3.heap.size := hlt3; have qs : W3.heap.size ≤ W3.heap.size := Nat.le_refl _) | (replace BXa := hide ((unhide BXa).later hq1); replace BXb := hide ((unhide BXb).later hq1)) | (replace BXa := hide ((unhide BXa).later hq1)) | skip); replace ZG := hide ((unhide ZG).later hq1); clear hb1 hq1)
            | (go_at_call 107; go_fit (part_any (N := N) (q := t) _ (h3'.later (And.left (by assumption))) ((unhide ZG).later (by first | exact Below.refl _ _ | exact below_new _ _ | exact below_new2 _ _ _)) (unhide HP).1 (unhide HE).2.1 (by omega)); rintro e9 q2 ⟨⟨v2, rfl, hP2⟩, hb2⟩; obtain ⟨i5, i6, i7, i8, rfl⟩ := hP2.shape; have S2 := hide (keepW12 hb2 (by assumption)); have hq2 := below_keep hb2 (show Below q1.heap.size q1 _ from (by first | exact Below.refl _ _ | exact below_new _ _ | exact below_new2 _ _ _)); (first | (have BXa : Hid (Box q2 q1.heap.size) := (by with_reducible exact hide (bx2a hb2)); have BXb : Hid (Box q2 (q1.heap.size + 1)) := (by with_reducible exact hide (bx2b hb2)); have qa : w.heap.size + 2 < q1.heap.size := (unhide S1).2.1.lt; have qb : w.heap.size + 2 < q1.heap.size + 1 := Nat.lt_succ_of_lt qa; have hab : q1.heap.size < q1.heap.size + 1 := Nat.lt_succ_self _; have qs : W3.heap.size ≤ q1.heap.size := sz1) | (have hab := box_lt (unhide BXa); have BXb : Hid (Box q2 q1.heap.size) := (by with_reducible exact hide (bx1 hb2)); have qb : w.heap.size + 2 < q1.heap.size := (unhide S1).2.1.lt; replace BXa := hide ((unhide BXa).later hq2)) | (have BXa : Hid (Box q2 q1.heap.size) := (by with_reducible exact hide (bx1 hb2)); have qa : w.heap.size + 2 < q1.heap.size := (unhide S1).2.1.lt; have qs : W3.heap.size ≤ q1.heap.size := sz1) | (replace BXa := hide ((unhide BXa).later hq2); replace BXb := hide ((unhide BXb).later hq2)) | (replace BXa := hide ((unhide BXa).later hq2)) | skip); replace ZG := hide ((unhide ZG).later hq2); have ZL := hide ((hP1.later hq2).down (unhide HP).2.1 (unhide HM).2.1 (unhide HI).1); have ZR := hide (hP2.down (unhide HP).2.2.1 (unhide HM).2.2.1 (unhide HI).2); have q2s := (unhide S2).2.1.lt; have lb2 := Nat.lt_of_lt_of_le lbn (Nat.le_trans sz1 hq2.size); (first | (obtain ⟨⟨z0, zz0⟩, ⟨z1, z2, z3, zz1⟩, zzf⟩ := (unhide BXa).cells; obtain ⟨⟨y0, yy0⟩, ⟨y1, y2, y3, yy1⟩, yyf⟩ := (unhide BXb).cells; have hlb := box_lt (unhide BXa); have hrb := box_lt (unhide BXb); have hn1 := Nat.ne_of_lt hab; have hn2 := Nat.ne_of_gt hab; have na := Nat.ne_of_lt (Nat.lt_of_lt_of_le lbn qs); have nb := Nat.ne_of_lt (Nat.lt_trans (Nat.lt_of_lt_of_le lbn qs) hab)) | (obtain ⟨⟨z0, zz0⟩, ⟨z1, z2, z3, zz1⟩, zzf⟩ := (unhide BXa).cells; have hlb := box_lt (unhide BXa); have hn1 := Nat.ne_of_lt hlb; have hn2 := Nat.ne_of_gt hlb; have na := Nat.ne_of_lt (Nat.lt_of_lt_of_le lbn qs)) | skip); clear hb2 hq2 hP1 hP2))
        all_goals
          go_wp2
          go_meet
          first
            | (have hv := two_new (unhide ZL) (unhide ZR); exact ⟨⟨_, _, _, _, _, _, _, _, _, _, rfl, rfl, Nat.ne_of_lt (Nat.lt_succ_self _), q2s, Nat.lt_succ_of_lt q2s, Nat.ne_of_lt lb2, Nat.ne_of_lt (Nat.lt_succ_of_lt lb2), ⟨hv.1.c0, hv.1.c1, hv.1.box, hv.1.zr⟩, ⟨hv.2.c0, hv.2.c1, hv.2.box, hv.2.zr⟩, keepW12 (below_new2 _ _ _) (unhide S2)⟩, hide ((unhide ZG).later (below_new2 _ _ _))⟩)
            | (have hv := two_new (unhide ZR) (unhide ZL); exact ⟨⟨_, _, _, _, _, _, _, _, _, _, rfl, rfl, Nat.ne_of_gt (Nat.lt_succ_self _), Nat.lt_succ_of_lt q2s, q2s, Nat.ne_of_lt (Nat.lt_succ_of_lt lb2), Nat.ne_of_lt lb2, ⟨hv.2.c0, hv.2.c1, hv.2.box, hv.2.zr⟩, ⟨hv.1.c0, hv.1.c1, hv.1.box, hv.1.zr⟩, keepW12 (below_new2 _ _ _) (unhide S2)⟩, hide ((unhide ZG).later (below_new2 _ _ _))⟩)
            | (have hv := one_in (unhide BXa) (unhide ZL) (unhide ZR); exact ⟨⟨_, _, _, _, _, _, _, _, _, _, rfl, rfl, hn1, qa, q2s, na, Nat.ne_of_lt lb2, ⟨hv.1.c0, hv.1.c1, hv.1.box, hv.1.zr⟩, ⟨hv.2.c0, hv.2.c1, hv.2.box, hv.2.zr⟩, keepW12 (below_new _ _) (storeW12 (unhide S2) qa na _ _)⟩, hide (((unhide ZG).stored (unhide BXa) _ _).later (below_new _ _))⟩)
            | (have hv := one_in (unhide BXa) (unhide ZR) (unhide ZL); exact ⟨⟨_, _, _, _, _, _, _, _, _, _, rfl, rfl, hn2, q2s, qa, Nat.ne_of_lt lb2, na, ⟨hv.2.c0, hv.2.c1, hv.2.box, hv.2.zr⟩, ⟨hv.1.c0, hv.1.c1, hv.1.box, hv.1.zr⟩, keepW12 (below_new _ _) (storeW12 (unhide S2) qa na _ _)⟩, hide (((unhide ZG).stored (unhide BXa) _ _).later (below_new _ _))⟩)
            | (have hv := two_in (unhide BXa) (unhide BXb) hn1 (unhide ZL) (unhide ZR); exact ⟨⟨_, _, _, _, _, _, _, _, _, _, rfl, rfl, hn1, qa, qb, na, nb, ⟨hv.1.c0, hv.1.c1, hv.1.box, hv.1.zr⟩, ⟨hv.2.c0, hv.2.c1, hv.2.box, hv.2.zr⟩, storeW12 (storeW12 (unhide S2) qa na _ _) qb nb _ _⟩, hide (Zr.two (unhide ZG) (unhide BXa) (unhide BXb) hn1 _ _ _ _ _ _ _ _)⟩)
            | (have hv := two_in (unhide BXb) (unhide BXa) hn2 (unhide ZL) (unhide ZR); exact ⟨⟨_, _, _, _, _, _, _, _, _, _, rfl, rfl, hn2, qb, qa, nb, na, ⟨hv.1.c0, hv.1.c1, hv.1.box, hv.1.zr⟩, ⟨hv.2.c0, hv.2.c1, hv.2.box, hv.2.zr⟩, storeW12 (storeW12 (unhide S2) qb nb _ _) qa na _ _⟩, hide (Zr.two (unhide ZG) (unhide BXb) (unhide BXa) hn2 _ _ _ _ _ _ _ _)⟩)
      case rest =>
        obtain ⟨⟨bl, br, l0, l1, l2, l3, r0, r1, r2, r3, rfl, rfl, hne, qbl, qbr, nbl, nbr, hvl, hvr, hst⟩, ZG⟩ := hcut
        obtain ⟨W4, rfl⟩ : ∃ X, X = wc := ⟨_, rfl⟩
        clear hB hr e0 e1 e2 e3 f0 f1 f2 f3 nc0 nc1 lbn
        obtain ⟨hB, hr, e0, e1, e2, e3, f0, f1, f2, f3, nc0, nc1⟩ := hst
        have lc0 := hvl.c0
        have lc1 := hvl.c1
        have rc0 := hvr.c0
        have rc1 := hvr.c1
        have lbl := hvl.lt
        have lbr := hvr.lt
        have lbn : bn < W4.heap.size := World.block_lt_of_cell? _ _ nc0
        have hlt4 := hr.lt
        have ZL := hide hvl.zr
        have ZR := hide hvr.zr
        clear hvl hvr
        go_upto_region 8 with fail
        go_cut [9] (fun zv wx => TotCut w x a n c y b m k x' a' n' c' y' b' m' k' bl br l0 l1 l2 l3 r0 r1 r2 r3 bn t0 t1 t2 t3 (2 * N + 3) (p * t + p' * u) zv wx ∧ Hid (Zr (N + 1) wx (.agg #[.int .i64 t0, .slice t1 t2 t3]) g) ∧ Hid (Zr (N + 1) wx (.agg #[.int .i64 l0, .slice l1 l2 l3]) u))
        case first =>
          have tok1 : True := trivial
          have S0 := hide (show Below w.heap.size w W4.drew ∧ RBox W4.drew (w.heap.size + 2) ∧ W4.drew.cell? ⟨w.heap.size, 0, none⟩ = some (.int .i64 x) ∧ W4.drew.cell? ⟨w.heap.size, 1, none⟩ = some (.slice a n c) ∧ W4.drew.cell? ⟨w.heap.size, 2, none⟩ = some (.int .i64 y) ∧ W4.drew.cell? ⟨w.heap.size, 3, none⟩ = some (.slice b m k) ∧ W4.drew.cell? ⟨w.heap.size + 1, 0, none⟩ = some (.int .i64 x') ∧ W4.drew.cell? ⟨w.heap.size + 1, 1, none⟩ = some (.slice a' n' c') ∧ W4.drew.cell? ⟨w.heap.size + 1, 2, none⟩ = some (.int .i64 y') ∧ W4.drew.cell? ⟨w.heap.size + 1, 3, none⟩ = some (.slice b' m' k') ∧ W4.drew.cell? ⟨bl, 0, none⟩ = some (.int .i64 l0) ∧ W4.drew.cell? ⟨bl, 1, none⟩ = some (.slice l1 l2 l3) ∧ W4.drew.cell? ⟨br, 0, none⟩ = some (.int .i64 r0) ∧ W4.drew.cell? ⟨br, 1, none⟩ = some (.slice r1 r2 r3) ∧ W4.drew.cell? ⟨bn, 0, none⟩ = some (.int .i64 t0) ∧ W4.drew.cell? ⟨bn, 1, none⟩ = some (.slice t1 t2 t3) from ⟨hB.drew, hr, e0, e1, e2, e3, f0, f1, f2, f3, lc0, lc1, rc0, rc1, nc0, nc1⟩)
          go_region_held3 (fun w' => Below w.heap.size w w' ∧ RBox w' (w.heap.size + 2) ∧ w'.cell? ⟨w.heap.size, 0, none⟩ = some (.int .i64 x) ∧ w'.cell? ⟨w.heap.size, 1, none⟩ = some (.slice a n c) ∧ w'.cell? ⟨w.heap.size, 2, none⟩ = some (.int .i64 y) ∧ w'.cell? ⟨w.heap.size, 3, none⟩ = some (.slice b m k) ∧ w'.cell? ⟨w.heap.size + 1, 0, none⟩ = some (.int .i64 x') ∧ w'.cell? ⟨w.heap.size + 1, 1, none⟩ = some (.slice a' n' c') ∧ w'.cell? ⟨w.heap.size + 1, 2, none⟩ = some (.int .i64 y') ∧ w'.cell? ⟨w.heap.size + 1, 3, none⟩ = some (.slice b' m' k') ∧ w'.cell? ⟨bl, 0, none⟩ = some (.int .i64 l0) ∧ w'.cell? ⟨bl, 1, none⟩ = some (.slice l1 l2 l3) ∧ w'.cell? ⟨br, 0, none⟩ = some (.int .i64 r0) ∧ w'.cell? ⟨br, 1, none⟩ = some (.slice r1 r2 r3) ∧ w'.cell? ⟨bn, 0, none⟩ = some (.int .i64 t0) ∧ w'.cell? ⟨bn, 1, none⟩ = some (.slice t1 t2 t3))
            (first | with_reducible exact unhide S3 | with_reducible exact unhide S2 | with_reducible exact unhide S1 | with_reducible exact unhide S0 | with_reducible exact keepW16 (below_new _ _) (by assumption) | with_reducible exact drewW16 (by assumption) | with_reducible exact storeW16 (unhide S3) qa nl nr nn _ _ | with_reducible exact keepW16 (below_new _ _) (unhide S3))
            (first
              | (go_at_call 14; have _t := tok1; go_fit (mul_any (N := N) _ (h2.later (And.left (by assumption))) ((unhide ZR).later (by first | exact (Below.refl _ _).drew | exact (below_new _ _).drew | exact (below_new2 _ _ _).drew)) (by omega)); rintro e9 q1 ⟨⟨v1, rfl, hP1⟩, hb1⟩; clear tok1; obtain ⟨i1, i2, i3, i4, rfl⟩ := hP1.shape; have S1 := hide (keepW16 hb1 (by assumption)); have hq1 := below_keep hb1 (show Below W4.heap.size W4 _ from (by first | exact (Below.refl _ _).drew | exact (below_new _ _).drew | exact (below_new2 _ _ _).drew)); have sz1 := hq1.size; (first | (have BXa : Hid (Box q1 W4.heap.size) := (by with_reducible exact hide (bx2ad hb1)); have BXb : Hid (Box q1 (W4.heap.size + 1)) := (by with_reducible exact hide (bx2bd hb1)); have qa : w.heap.size + 2 < W4.heap.size := hlt4; have qb : w.heap.size + 2 < W4.heap.size + 1 := Nat.lt_succ_of_lt qa; have hab : W4.heap.size < W4.heap.size + 1 := Nat.lt_succ_self _; have qs : W4.heap.size ≤ W4.heap.size := Nat.le_refl _) | (have hab := box_lt (unhide BXa); have BXb : Hid (Box q1 W4.heap.size) := (by with_reducible exact hide (bx1d hb1)); have qb : w.heap.size + 2 < W4.heap.size := hlt4; replace BXa := hide ((unhide BXa).later hq1)) | (have BXa : Hid (Box q1 W4.heap.size) := (by with_reducible exact hide (bx1d hb1)); have qa : w.heap.size + 2 < W4.heap.size := hlt4; have qs : W4.heap.size ≤ W4.heap.size := Nat.le_refl _) | (replace BXa := hide ((unhide BXa).later hq1); replace BXb := hide ((unhide BXb).later hq1)) | (replace BXa := hide ((unhide BXa).later hq1)) | skip); replace ZG := hide ((unhide ZG).later hq1); replace ZL := hide ((unhide ZL).later hq1); clear hb1 hq1)
              | (go_at_call 14; go_fit (mul_any (N := N) _ (h2'.later (And.left (by assumption))) ((unhide ZL).later (by first | exact Below.refl _ _ | exact below_new _ _ | exact below_new2 _ _ _)) (by omega)); rintro e9 q2 ⟨⟨v2, rfl, hP2⟩, hb2⟩; obtain ⟨i5, i6, i7, i8, rfl⟩ := hP2.shape; have S2 := hide (keepW16 hb2 (by assumption)); have hq2 := below_keep hb2 (show Below q1.heap.size q1 _ from (by first | exact Below.refl _ _ | exact below_new _ _ | exact below_new2 _ _ _)); have sz2 := Nat.le_trans sz1 hq2.size; (first | (have BXa : Hid (Box q2 q1.heap.size) := (by with_reducible exact hide (bx2a hb2)); have BXb : Hid (Box q2 (q1.heap.size + 1)) := (by with_reducible exact hide (bx2b hb2)); have qa : w.heap.size + 2 < q1.heap.size := (unhide S1).2.1.lt; have qb : w.heap.size + 2 < q1.heap.size + 1 := Nat.lt_succ_of_lt qa; have hab : q1.heap.size < q1.heap.size + 1 := Nat.lt_succ_self _; have qs : W4.heap.size ≤ q1.heap.size := sz1) | (have hab := box_lt (unhide BXa); have BXb : Hid (Box q2 q1.heap.size) := (by with_reducible exact hide (bx1 hb2)); have qb : w.heap.size + 2 < q1.heap.size := (unhide S1).2.1.lt; replace BXa := hide ((unhide BXa).later hq2)) | (have BXa : Hid (Box q2 q1.heap.size) := (by with_reducible exact hide (bx1 hb2)); have qa : w.heap.size + 2 < q1.heap.size := (unhide S1).2.1.lt; have qs : W4.heap.size ≤ q1.heap.size := sz1) | (replace BXa := hide ((unhide BXa).later hq2); replace BXb := hide ((unhide BXb).later hq2)) | (replace BXa := hide ((unhide BXa).later hq2)) | skip); replace ZG := hide ((unhide ZG).later hq2); replace ZL := hide ((unhide ZL).later hq2); replace hP1 := hP1.later hq2; clear hb2 hq2)
              | (go_at_call 12; go_fit (add_any (N := N + 1 + N) _ (hP1.later (by first | exact Below.refl _ _ | exact below_new _ _ | exact below_new2 _ _ _)) (hP2.later (by first | exact Below.refl _ _ | exact below_new _ _ | exact below_new2 _ _ _)) (by omega)); rintro e9 q3 ⟨⟨v3, rfl, hM3⟩, hb3⟩; obtain ⟨i9, i10, i11, i12, rfl⟩ := hM3.shape; have S3 := hide (keepW16 hb3 (by assumption)); have hq3 := below_keep hb3 (show Below q2.heap.size q2 _ from (by first | exact Below.refl _ _ | exact below_new _ _ | exact below_new2 _ _ _)); have sz3 := Nat.le_trans sz2 hq3.size; (first | (have BXa : Hid (Box q3 q2.heap.size) := (by with_reducible exact hide (bx2a hb3)); have BXb : Hid (Box q3 (q2.heap.size + 1)) := (by with_reducible exact hide (bx2b hb3)); have qa : w.heap.size + 2 < q2.heap.size := (unhide S2).2.1.lt; have qb : w.heap.size + 2 < q2.heap.size + 1 := Nat.lt_succ_of_lt qa; have hab : q2.heap.size < q2.heap.size + 1 := Nat.lt_succ_self _; have qs : W4.heap.size ≤ q2.heap.size := sz2) | (have hab := box_lt (unhide BXa); have BXb : Hid (Box q3 q2.heap.size) := (by with_reducible exact hide (bx1 hb3)); have qb : w.heap.size + 2 < q2.heap.size := (unhide S2).2.1.lt; replace BXa := hide ((unhide BXa).later hq3)) | (have BXa : Hid (Box q3 q2.heap.size) := (by with_reducible exact hide (bx1 hb3)); have qa : w.heap.size + 2 < q2.heap.size := (unhide S2).2.1.lt; have qs : W4.heap.size ≤ q2.heap.size := sz2) | (replace BXa := hide ((unhide BXa).later hq3); replace BXb := hide ((unhide BXb).later hq3)) | (replace BXa := hide ((unhide BXa).later hq3)) | skip); replace ZG := hide ((unhide ZG).later hq3); replace ZL := hide ((unhide ZL).later hq3); have q3s := (unhide S3).2.1.lt; have HM3 := hide hM3; (first | (obtain ⟨⟨z0, zz0⟩, ⟨z1, z2, z3, zz1⟩, zzf⟩ := (unhide BXa).cells; have hlb := box_lt (unhide BXa); have nl := Nat.ne_of_lt (Nat.lt_of_lt_of_le lbl qs); have nr := Nat.ne_of_lt (Nat.lt_of_lt_of_le lbr qs); have nn := Nat.ne_of_lt (Nat.lt_of_lt_of_le lbn qs)) | skip); clear hb3 hq3 hP1 hP2 hM3))
          all_goals
            go_wp2
            go_meet
            first
              | exact ⟨⟨_, _, _, _, _, rfl, Nat.ne_of_lt (Nat.lt_of_lt_of_le lbl sz3), Nat.ne_of_lt (Nat.lt_of_lt_of_le lbr sz3), Nat.ne_of_lt (Nat.lt_of_lt_of_le lbn sz3), q3s, (Vr.new (unhide HM3)).mono (by omega), keepW16 (below_new _ _) (unhide S3)⟩, hide ((unhide ZG).later (below_new _ _)), hide ((unhide ZL).later (below_new _ _))⟩
              | exact ⟨⟨_, _, _, _, _, rfl, nl, nr, nn, qa, (Vr.in (unhide BXa) (unhide HM3)).mono (by omega), storeW16 (unhide S3) qa nl nr nn _ _⟩, hide ((unhide ZG).stored (unhide BXa) _ _), hide ((unhide ZL).stored (unhide BXa) _ _)⟩
        case rest =>
          obtain ⟨⟨bz, z0, z1, z2, z3, rfl, nlz, nrz, nnz, qbz, hvz, hst⟩, ZG, ZL⟩ := hcut
          obtain ⟨W5, rfl⟩ : ∃ X, X = wc := ⟨_, rfl⟩
          clear hB hr e0 e1 e2 e3 f0 f1 f2 f3 nc0 nc1 lc0 lc1 rc0 rc1 lbn lbl lbr hlt4
          obtain ⟨hB, hr, e0, e1, e2, e3, f0, f1, f2, f3, lc0, lc1, rc0, rc1, nc0, nc1⟩ := hst
          have zc0 := hvz.c0
          have zc1 := hvz.c1
          go_wp2_with fail
          go_fit (gcd_any (N := 2 * N + 2) _ hvz.zr ((unhide ZG).mono (by omega)) (by omega) ((unhide HT).later hB))
          rintro e9 W6 ⟨⟨v6, rfl, hG⟩, hb6⟩
          obtain ⟨x0, x1, x2, x3, rfl⟩ := hG.shape
          have hG : Zr (N + 1) W6 (.agg #[.int .i64 x0, .slice x1 x2 x3]) q := (hG.eq (unhide HQ).symm).down (unhide HP).2.2.2.1 (unhide HM).2.2.2 (unhide HI).1
          have hvz := hvz.keep hb6
          have ZL := hide ((unhide ZL).later hb6)
          have hst := W10.keep hb6 ⟨hB, hr, e0, e1, e2, e3, f0, f1, f2, f3⟩
          have lc0 := cell_keep hb6 lc0
          have lc1 := cell_keep hb6 lc1
          clear hB hr e0 e1 e2 e3 f0 f1 f2 f3 nc0 nc1 rc0 rc1 zc0 zc1 hb6 ZG
          obtain ⟨hB, hr, e0, e1, e2, e3, f0, f1, f2, f3⟩ := hst
          have qbx := hr.lt
          go_upto_region 10 with fail
          obtain ⟨W7, hW7⟩ : ∃ W7, W7 = W6.alloc (.cells #[.int .i64 x0, .slice x1 x2 x3] 31) := ⟨_, rfl⟩
          have kn := below_new W6 (.cells #[.int .i64 x0, .slice x1 x2 x3] 31)
          have hvx := Vr.new hG
          obtain ⟨bx, hbx⟩ : ∃ bx, bx = W6.heap.size := ⟨_, rfl⟩
          rw [← hW7] at kn hvx
          rw [← hbx] at hvx qbx
          have hst := W10.keep kn ⟨hB, hr, e0, e1, e2, e3, f0, f1, f2, f3⟩
          have hvz := hvz.keep kn
          have ZL := hide ((unhide ZL).later kn)
          have lc0 := cell_keep kn lc0
          have lc1 := cell_keep kn lc1
          clear hB hr e0 e1 e2 e3 f0 f1 f2 f3 kn
          first | rw [← hW7] | (change Code.wp _ _ _ _ (W6.alloc (.cells #[.int .i64 x0, .slice x1 x2 x3] 31)); rw [← hW7])
          try rw [← hbx]
          clear hW7 hG hbx
          obtain ⟨hB, hr, e0, e1, e2, e3, f0, f1, f2, f3⟩ := hst
          have rc0 := hvz.c0
          have rc1 := hvz.c1
          have nc0 := hvx.c0
          have nc1 := hvx.c1
          have ZZ := hide hvz.zr
          have ZX := hide hvx.zr
          clear hvz hvx
          have tok1 : True := trivial
          have S0 := hide (show Below w.heap.size w W7.drew ∧ RBox W7.drew (w.heap.size + 2) ∧ W7.drew.cell? ⟨w.heap.size, 0, none⟩ = some (.int .i64 x) ∧ W7.drew.cell? ⟨w.heap.size, 1, none⟩ = some (.slice a n c) ∧ W7.drew.cell? ⟨w.heap.size, 2, none⟩ = some (.int .i64 y) ∧ W7.drew.cell? ⟨w.heap.size, 3, none⟩ = some (.slice b m k) ∧ W7.drew.cell? ⟨w.heap.size + 1, 0, none⟩ = some (.int .i64 x') ∧ W7.drew.cell? ⟨w.heap.size + 1, 1, none⟩ = some (.slice a' n' c') ∧ W7.drew.cell? ⟨w.heap.size + 1, 2, none⟩ = some (.int .i64 y') ∧ W7.drew.cell? ⟨w.heap.size + 1, 3, none⟩ = some (.slice b' m' k') ∧ W7.drew.cell? ⟨bl, 0, none⟩ = some (.int .i64 l0) ∧ W7.drew.cell? ⟨bl, 1, none⟩ = some (.slice l1 l2 l3) ∧ W7.drew.cell? ⟨bz, 0, none⟩ = some (.int .i64 z0) ∧ W7.drew.cell? ⟨bz, 1, none⟩ = some (.slice z1 z2 z3) ∧ W7.drew.cell? ⟨bx, 0, none⟩ = some (.int .i64 x0) ∧ W7.drew.cell? ⟨bx, 1, none⟩ = some (.slice x1 x2 x3) from ⟨hB.drew, hr, e0, e1, e2, e3, f0, f1, f2, f3, lc0, lc1, rc0, rc1, nc0, nc1⟩)
          go_region_held3 (fun w' => Below w.heap.size w w' ∧ RBox w' (w.heap.size + 2) ∧ w'.cell? ⟨w.heap.size, 0, none⟩ = some (.int .i64 x) ∧ w'.cell? ⟨w.heap.size, 1, none⟩ = some (.slice a n c) ∧ w'.cell? ⟨w.heap.size, 2, none⟩ = some (.int .i64 y) ∧ w'.cell? ⟨w.heap.size, 3, none⟩ = some (.slice b m k) ∧ w'.cell? ⟨w.heap.size + 1, 0, none⟩ = some (.int .i64 x') ∧ w'.cell? ⟨w.heap.size + 1, 1, none⟩ = some (.slice a' n' c') ∧ w'.cell? ⟨w.heap.size + 1, 2, none⟩ = some (.int .i64 y') ∧ w'.cell? ⟨w.heap.size + 1, 3, none⟩ = some (.slice b' m' k') ∧ w'.cell? ⟨bl, 0, none⟩ = some (.int .i64 l0) ∧ w'.cell? ⟨bl, 1, none⟩ = some (.slice l1 l2 l3) ∧ w'.cell? ⟨bz, 0, none⟩ = some (.int .i64 z0) ∧ w'.cell? ⟨bz, 1, none⟩ = some (.slice z1 z2 z3) ∧ w'.cell? ⟨bx, 0, none⟩ = some (.int .i64 x0) ∧ w'.cell? ⟨bx, 1, none⟩ = some (.slice x1 x2 x3))
            (first | with_reducible exact unhide S4 | with_reducible exact unhide S3 | with_reducible exact unhide S2 | with_reducible exact unhide S1 | with_reducible exact unhide S0 | with_reducible exact outW16 (unhide S4) qbl qbz qbx _ _ _ _ _ _ _ _)
            (first
              | (go_at_call 107; have _t := tok1; go_fit (part_any (N := 2 * N + 2) (q := T) _ (Zr.later (w := W7) (unhide ZZ) (by first | exact (Below.refl _ _).drew | exact (below_new _ _).drew | exact (below_new2 _ _ _).drew)) ((Zr.later (w := W7) (unhide ZX) (by first | exact (Below.refl _ _).drew | exact (below_new _ _).drew | exact (below_new2 _ _ _).drew)).mono (by omega)) (unhide HP).2.2.2.1 (unhide HE).2.2.1 (by omega)); rintro e9 q1 ⟨⟨v1, rfl, hP1⟩, hb1⟩; clear tok1; obtain ⟨i1, i2, i3, i4, rfl⟩ := hP1.shape; have S1 := hide (keepW16 hb1 (unhide S0)); replace ZX := hide (Zr.later (w := W7.drew) (unhide ZX) hb1); replace ZL := hide (Zr.later (w := W7.drew) (unhide ZL) hb1); clear hb1)
              | (go_at_call 107; go_fit (part_any (N := N) (q := z) _ (h3'.later (And.left (by assumption))) (unhide ZX) (unhide HP).2.2.2.1 (unhide HE).2.2.2 (by omega)); rintro e9 q2 ⟨⟨v2, rfl, hP2⟩, hb2⟩; obtain ⟨i5, i6, i7, i8, rfl⟩ := hP2.shape; have S2 := hide (keepW16 hb2 (unhide S1)); replace ZL := hide ((unhide ZL).later hb2); replace hP1 := hP1.later hb2; clear hb2)
              | (go_at_call 14; go_fit (mul_any (N := N + 2) _ ((unhide ZL).mono (by omega)) hP2 (by omega)); rintro e9 q3 ⟨⟨v3, rfl, hP3⟩, hb3⟩; obtain ⟨i9, i10, i11, i12, rfl⟩ := hP3.shape; have S3 := hide (keepW16 hb3 (unhide S2)); replace hP1 := hP1.later hb3; clear hb3)
              | (go_at_call 108; go_fit (lowest_any (N := 2 * N + 5) _ (hP1.mono (by omega)) (hP3.mono (by omega)) (unhide HP).2.2.2.2 (unhide HFIN).1 (by omega)); rintro e9 q4 ⟨⟨v4, rfl, hR4⟩, hb4⟩; obtain ⟨u0, u1, u2, u3, u4, u5, u6, u7, e8, rfl, hP4, hD4, D0, hG4, hE4⟩ := hR4; have HG4 := hide hG4; have HD4 := hide hE4; clear hG4 hE4; have S4 := hide (keepW16 hb4 (unhide S3)); have hbx := (unhide S4).2.1; obtain ⟨⟨j0, g0⟩, ⟨j1, j2, j3, g1⟩, ⟨j4, g2⟩, ⟨j5, j6, j7, g3⟩, gf⟩ := hbx.cells; have hlt := hbx.lt; clear hb4))
          have hB3 := (unhide S4).1
          have hbx := (unhide S4).2.1
          go_wp2
          obtain ⟨st0, st1, st2, st3⟩ := hbx.stored (.int .i64 u0) (.slice u1 u2 u3) (.int .i64 u4) (.slice u5 u6 u7)
          exact bodyPost_ret (v := .agg #[.int .i64 u0, .slice u1 u2 u3, .int .i64 u4, .slice u5 u6 u7]) (by simp [results, Tryz.results37, go_sem, st0, st1, st2, st3]) rfl ⟨⟨_, T, u * z, rfl, ⟨_, _, _, _, _, _, _, _, e8, rfl, hP4.rstored hbx _ _ _ _, hD4.rstored hbx _ _ _ _, D0, unhide HG4, unhide HD4⟩, (unhide HFIN).2⟩, below_rstored hB3 (by omega) _ _ _ _⟩
end Go.Proofs.YtmhebjeefdanmaaGreatDoor
