/-
  The mathematics of the document's between: whole parts are taken away, what is left is turned around.
  Rows of one's own: numbers of the document's, and bools, appended to.
-/
import Derived.Test.YtpecanpbkbanhaaGreatDoorMHA
namespace Go.Proofs.YtpecanpbkbanhaaGreatDoor
open Go.RowKit
/-- The whole number not below a fraction. -/
theorem ceil_cases {A B : Int} (b0 : 0 < B) : (A % B = 0 ∧ -((-A) / B) = A / B) ∨ (A % B ≠ 0 ∧ -((-A) / B) = A / B + 1) := by
  have h1 := Int.emod_add_mul_ediv A B
  have h2 := Int.emod_nonneg A (show B ≠ 0 by omega)
  have h3 := Int.emod_lt_of_pos A b0
  by_cases h : A % B = 0
  · refine Or.inl ⟨h, ?_⟩
    have : (-A) / B = -(A / B) := by
      rw [show -A = (-(A / B)) * B by rw [Int.neg_mul, Int.mul_comm]; omega]
      exact Int.mul_ediv_cancel _ (by omega)
    omega
  · refine Or.inr ⟨h, ?_⟩
    have : (-A) / B = -(A / B) - 1 := by
      rw [show -A = (B - A % B) + (-(A / B) - 1) * B by rw [Int.sub_mul, Int.neg_mul, Int.mul_comm (A / B)]; omega, Int.add_mul_ediv_right _ _ (by omega), Int.ediv_eq_zero_of_lt (by omega) (by omega)]
      omega
    omega
/-- How between stands to what it was asked, in its loop. -/
structure Btw (N F : Nat) (p d p' d' : Int) (L : List Int) (A B C D : Int) : Prop where
  a0 : 0 < A
  b0 : 0 < B
  d0 : 0 < D
  le : A * D ≤ C * B
  ex : ∃ f : Nat, B + D ≤ f ∧ blt L (sq f A B C D) = sq F p d p' d' ∧ ∀ j, j ≤ L.length → (blt (L.drop j) (sq f A B C D)).1 < 10000 ^ N ∧ (blt (L.drop j) (sq f A B C D)).2 < 10000 ^ N
  nn : ∀ k ∈ L, 0 ≤ k
  big : A < 10000 ^ N ∧ B < 10000 ^ N ∧ C < 10000 ^ N ∧ D < 10000 ^ N
  r1 : 2 ^ L.length * (A * B) ≤ 2 * (10000 ^ N * 10000 ^ N) ∧ 2 ^ L.length * (C * D) ≤ 2 * (10000 ^ N * 10000 ^ N)
  r2 : L = [] ∨ (B ≤ A ∧ D ≤ C)
theorem mul_small {x y M : Int} (x0 : 0 ≤ x) (hx : x < M) (hy : y < M) (M0 : 0 < M) : x * y ≤ M * M := by
  have h1 : x * y ≤ x * M := Int.mul_le_mul_of_nonneg_left (by omega) x0
  have h2 : x * M ≤ M * M := Int.mul_le_mul_of_nonneg_right (by omega) (by omega)
  omega
theorem sq_small {f : Nat} {A B C D : Int} (a0 : 0 < A) (b0 : 0 < B) (d0 : 0 < D) (le : A * D ≤ C * B) (hf : B + D ≤ f) : (sq f A B C D).1 ≤ A ∧ (sq f A B C D).2 ≤ B := by
  obtain ⟨_, _, _, _, _, h⟩ := sq_good f A B C D a0 b0 d0 le hf
  have := h A B b0 (Int.le_refl _) le
  exact ⟨this.2, this.1⟩
theorem Btw.start {N : Nat} {p d p' d' : Int} (p0 : 0 < p) (d0 : 0 < d) (d1 : 0 < d') (le : p * d' ≤ p' * d) (hp : p < 10000 ^ N) (hd : d < 10000 ^ N) (hp' : p' < 10000 ^ N) (hd' : d' < 10000 ^ N) : Btw N (d + d').toNat p d p' d' [] p d p' d' := by
  have M0 : (0 : Int) < 10000 ^ N := Int.pow_pos (by decide)
  have h1 := mul_small (Int.le_of_lt p0) hp hd M0
  have h2 := mul_small (Int.le_of_lt d1) hd' hp' M0
  have h3 : (0 : Int) < 10000 ^ N * 10000 ^ N := Int.mul_pos M0 M0
  obtain ⟨s1, s2⟩ := sq_small (f := (d + d').toNat) p0 d0 d1 le (by omega)
  refine ⟨p0, d0, d1, le, ⟨_, by omega, rfl, fun j hj => ?_⟩, fun k hk => (by cases hk), ⟨hp, hd, hp', hd'⟩, ?_, Or.inl rfl⟩
  · rw [List.drop_nil]
    show (sq _ p d p' d').1 < _ ∧ (sq _ p d p' d').2 < _
    omega
  · rw [Int.mul_comm p' d']
    simp only [List.length_nil, Int.pow_zero, Int.one_mul]
    omega
theorem half_mod {C D : Int} (d0 : 0 < D) (h : D ≤ C) : 2 * (C % D) ≤ C := by
  have h1 := Int.emod_add_mul_ediv C D
  have h3 := Int.emod_lt_of_pos C d0
  have h4 : 1 ≤ C / D := (Int.le_ediv_iff_mul_le d0).2 (by omega)
  have h5 : D * 1 ≤ D * (C / D) := Int.mul_le_mul_of_nonneg_left h4 (by omega)
  omega
theorem Btw.step {N F : Nat} {p d p' d' : Int} {L : List Int} {A B C D : Int} (h : Btw N F p d p' d' L A B C D) (h1 : A % B ≠ 0) (h2 : ¬ A / B < C / D) : Btw N F p d p' d' (L ++ [A / B]) D (C % D) B (A % B) := by
  obtain ⟨a0, b0, d0, le, ⟨f, hf, he, hs⟩, nn, ⟨g1, g2, g3, g4⟩, ⟨r1, r1'⟩, r2⟩ := h
  have M0 : (0 : Int) < 10000 ^ N := Int.pow_pos (by decide)
  obtain ⟨e, t0, t1, s0, s1, hk⟩ := sq_next b0 d0 le h1 h2
  obtain ⟨f, rfl⟩ : ∃ f', f = f' + 1 := ⟨f - 1, by omega⟩
  have hst := sq_step (f := f) h1 h2
  obtain ⟨u1, u2⟩ := sq_small (f := f) d0 s0 t0 hk (by omega)
  have kn : 0 ≤ A / B := Int.ediv_nonneg (by omega) (by omega)
  have pw : (0 : Int) < 2 ^ L.length := Int.pow_pos (by decide)
  refine ⟨d0, s0, t0, hk, ⟨f, by omega, by rw [blt_snoc, ← hst]; exact he, fun j hj => ?_⟩, fun k hk => ?_, ⟨g4, by omega, g2, by omega⟩, ?_, Or.inr ⟨by omega, by omega⟩⟩
  · rw [List.length_append, List.length_singleton] at hj
    rcases Nat.lt_or_ge L.length j with hl | hl
    · rw [List.drop_eq_nil_of_le (by rw [List.length_append, List.length_singleton]; omega)]
      show (sq f D (C % D) B (A % B)).1 < _ ∧ (sq f D (C % D) B (A % B)).2 < _
      omega
    · rw [List.drop_append_of_le_length hl, blt_snoc, ← hst]
      exact hs j hl
  · rcases List.mem_append.1 hk with hk | hk
    · exact nn k hk
    · rw [List.mem_singleton.1 hk]; exact kn
  · rw [List.length_append, List.length_singleton, Int.pow_succ]
    rcases r2 with rfl | ⟨q1, q2⟩
    · have k1 := mul_small (x := D) (y := C % D) (by omega) g4 (by omega) M0
      have k2 := mul_small (x := B) (y := A % B) (by omega) g2 (by omega) M0
      simp only [List.length_nil, Int.pow_zero, Int.one_mul]
      omega
    · have k1 := half_mod d0 q2
      have k2 := half_mod b0 q1
      have l1 : D * (2 * (C % D)) ≤ D * C := Int.mul_le_mul_of_nonneg_left k1 (by omega)
      have l2 : B * (2 * (A % B)) ≤ B * A := Int.mul_le_mul_of_nonneg_left k2 (by omega)
      have m1 : 2 ^ L.length * (D * (2 * (C % D))) ≤ 2 ^ L.length * (D * C) := Int.mul_le_mul_of_nonneg_left l1 (by omega)
      have m2 : 2 ^ L.length * (B * (2 * (A % B))) ≤ 2 ^ L.length * (B * A) := Int.mul_le_mul_of_nonneg_left l2 (by omega)
      rw [Int.mul_comm C D] at r1'
      rw [Int.mul_comm A B] at r1
      have e1 : 2 ^ L.length * 2 * (D * (C % D)) = 2 ^ L.length * (D * (2 * (C % D))) := by grind
      have e2 : 2 ^ L.length * 2 * (B * (A % B)) = 2 ^ L.length * (B * (2 * (A % B))) := by grind
      omega
/-- The rounds are few. -/
theorem Btw.few {N F : Nat} {p d p' d' : Int} {L : List Int} {A B C D : Int} (h : Btw N F p d p' d' L A B C D) : L.length ≤ 28 * N + 1 := by
  have k0 : (0 : Int) < A * B := Int.mul_pos h.a0 h.b0
  have pw : (0 : Int) < 2 ^ L.length := Int.pow_pos (by decide)
  have k1 : (2 : Int) ^ L.length * 1 ≤ 2 ^ L.length * (A * B) := Int.mul_le_mul_of_nonneg_left (by omega) (by omega)
  have k2 : (2 : Int) ^ L.length ≤ 2 * (10000 ^ N * 10000 ^ N) := by have := h.r1.1; omega
  have k3 : 2 ^ L.length ≤ 2 * (10000 ^ N * 10000 ^ N) := by
    refine Int.ofNat_le.1 ?_
    rw [Int.natCast_mul, Int.natCast_mul, Int.natCast_pow, Int.natCast_pow]
    exact k2
  have k4 : 10000 ^ N ≤ (2 ^ 14) ^ N := Nat.pow_le_pow_left (by decide) N
  have k5 : 10000 ^ N * 10000 ^ N ≤ (2 ^ 14) ^ N * (2 ^ 14) ^ N := Nat.mul_le_mul k4 k4
  have k6 : 2 ^ L.length ≤ 2 ^ (28 * N + 1) := by
    rw [show 2 ^ (28 * N + 1) = 2 * ((2 ^ 14) ^ N * (2 ^ 14) ^ N) by rw [← Nat.pow_mul, ← Nat.pow_add, Nat.pow_succ, Nat.mul_comm]; congr 2; omega]
    omega
  exact (Nat.pow_le_pow_iff_right (by decide)).1 k6
/-- Where it ends: a whole number lies between both. -/
theorem Btw.done {N F : Nat} {p d p' d' : Int} {L : List Int} {A B C D : Int} (h : Btw N F p d p' d' L A B C D) (hu : -((-A) / B) * D ≤ C) : 0 < -((-A) / B) ∧ blt L (-((-A) / B), 1) = sq F p d p' d' ∧ ∀ j, j ≤ L.length → (blt (L.drop j) (-((-A) / B), 1)).1 < 10000 ^ N ∧ (blt (L.drop j) (-((-A) / B), 1)).2 < 10000 ^ N := by
  obtain ⟨a0, b0, d0, le, ⟨f, hf, he, hs⟩, -, -, -, -⟩ := h
  have hg := sq_good f A B C D a0 b0 d0 le hf
  obtain ⟨f, rfl⟩ : ∃ f', f = f' + 1 := ⟨f - 1, by omega⟩
  have key : sq (f + 1) A B C D = (-((-A) / B), 1) := by
    rcases ceil_cases (A := A) b0 with ⟨c1, c2⟩ | ⟨c1, c2⟩
    · rw [sq_whole c1, c2]
    · rw [c2] at hu ⊢
      have : A / B + 1 ≤ C / D := (Int.le_ediv_iff_mul_le d0).2 hu
      rw [sq_up c1 (by omega)]
  rw [key] at he hs hg
  exact ⟨hg.1, he, hs⟩
/-- Where it goes on: none does. -/
theorem Btw.more {N F : Nat} {p d p' d' : Int} {L : List Int} {A B C D : Int} (h : Btw N F p d p' d' L A B C D) (hu : ¬ -((-A) / B) * D ≤ C) : A % B ≠ 0 ∧ ¬ A / B < C / D := by
  have hb := sq_below h.b0 h.d0 h.le
  have k1 : C / D * D ≤ C := Int.ediv_mul_le C (by have := h.d0; omega)
  rcases ceil_cases (A := A) h.b0 with ⟨c1, c2⟩ | ⟨c1, c2⟩
  · rw [c2] at hu
    have : A / B * D ≤ C / D * D := Int.mul_le_mul_of_nonneg_right hb (by have := h.d0; omega)
    omega
  · refine ⟨c1, fun hlt => hu ?_⟩
    rw [c2]
    have : (A / B + 1) * D ≤ C / D * D := Int.mul_le_mul_of_nonneg_right (by omega) (by have := h.d0; omega)
    omega
end Go.Proofs.YtpecanpbkbanhaaGreatDoor
namespace Go.Proofs.YtpecanpbkbanhaaGreatDoor
open Go.RowKit
theorem Sl.grown {w w' : World} {sl v : Value} {D : List Int} {base size n : Nat} {e : TypeId} {xs : List Value} (h : Sl w sl D) (hown : w.ownsRow base e size v n xs) (he : e ≠ 3) (hg : w.grownBy w' v.ownBlock) : Sl w' sl D := by
  rcases h with h | ⟨b, cap, h1, h2, h3, h4, cur, h5⟩
  · exact Or.inl h
  · have hne : some b ≠ v.ownBlock := by
      intro hv
      obtain ⟨_, ⟨rfl, _⟩ | ⟨g, cap', cur', rfl, _, hgg, _⟩⟩ := hown
      · simp [Value.ownBlock] at hv
      · have hbg : b = g := by simpa [Value.ownBlock] using hv
        subst hbg
        rw [hgg] at h5
        exact he (Obj.cells.inj (Option.some.inj h5)).2.1
    have hk := hg.block b (Array.getElem?_eq_some_iff.1 h5).1 hne
    exact Or.inr ⟨b, cap, h1, h2, h3, fun k hk' => hg.cell (h4 k hk') hne, cur, by rw [hk]; exact h5⟩
theorem Nr.grown {N : Nat} {w w' : World} {u v : Value} {z : Int} {base size n : Nat} {e : TypeId} {xs : List Value} (h : Nr N w u z) (hown : w.ownsRow base e size v n xs) (he : e ≠ 3) (hg : w.grownBy w' v.ownBlock) : Nr N w' u z := by
  obtain ⟨neg, sl, D, h1, h2, h3⟩ := h
  exact ⟨neg, sl, D, h1, h2.grown hown he hg, h3⟩
theorem Qr.grown {N : Nat} {w w' : World} {u v : Value} {p d : Int} {base size n : Nat} {e : TypeId} {xs : List Value} (h : Qr N w u p d) (hown : w.ownsRow base e size v n xs) (he : e ≠ 3) (hg : w.grownBy w' v.ownBlock) : Qr N w' u p d := by
  obtain ⟨x, a, n, c, y, b, m, k, h1, h2, h3, h4⟩ := h
  exact ⟨x, a, n, c, y, b, m, k, h1, h2.grown hown he hg, h3.grown hown he hg, h4⟩
theorem QBox.grown {w w' : World} {r : Nat} {v : Value} {base size n : Nat} {e : TypeId} {xs : List Value} (h : QBox w r) (hown : w.ownsRow base e size v n xs) (he : e ≠ 56) (hg : w.grownBy w' v.ownBlock) : some r ≠ v.ownBlock ∧ QBox w' r := by
  obtain ⟨x, a, n', c, y, b, m, k, h⟩ := h
  have hne : some r ≠ v.ownBlock := by
    intro hv
    obtain ⟨_, ⟨rfl, _⟩ | ⟨g, cap', cur', rfl, _, hgg, _⟩⟩ := hown
    · simp [Value.ownBlock] at hv
    · have hbg : r = g := by simpa [Value.ownBlock] using hv
      subst hbg
      rw [hgg] at h
      exact he (Obj.cells.inj (Option.some.inj h)).2.1
  exact ⟨hne, x, a, n', c, y, b, m, k, by rw [hg.block r (Array.getElem?_eq_some_iff.1 h).1 hne]; exact h⟩
theorem QB.grown {w w' : World} {r : Nat} {x y : Bool} {a b : Option Addr} {n c m k N : Nat} {p d : Int} {v : Value} {base size n' : Nat} {e : TypeId} {xs : List Value} (h : QB w r x a n c y b m k N p d) (hown : w.ownsRow base e size v n' xs) (he : e ≠ 3) (he' : e ≠ 56) (hg : w.grownBy w' v.ownBlock) : QB w' r x a n c y b m k N p d := by
  obtain ⟨hne, hb⟩ := h.box.grown hown he' hg
  exact ⟨hg.cell h.c0 hne, hg.cell h.c1 hne, hg.cell h.c2 hne, hg.cell h.c3 hne, hb, h.qr.grown hown he hg⟩
theorem own_later {w w' : World} {base size n : Nat} {e : TypeId} {v : Value} {xs : List Value} (h : w.ownsRow base e size v n xs) (hb : Below w.heap.size w w') : w'.ownsRow base e size v n xs := by
  obtain ⟨h0, h | ⟨g, cap, cur, h1, h2, h3, h4⟩⟩ := h
  · exact ⟨h0, Or.inl h⟩
  · exact ⟨h0, Or.inr ⟨g, cap, cur, h1, h2, by rw [hb.block g (Array.getElem?_eq_some_iff.1 h3).1]; exact h3, h4⟩⟩
theorem own_qstored {w : World} {base size n r : Nat} {e : TypeId} {v : Value} {xs : List Value} (h : w.ownsRow base e size v n xs) (hr : QBox w r) (he : e ≠ 56) (u0 u1 u2 u3 : Value) : ((((w.setCell ⟨r, 0, none⟩ u0).setCell ⟨r, 1, none⟩ u1).setCell ⟨r, 2, none⟩ u2).setCell ⟨r, 3, none⟩ u3).ownsRow base e size v n xs := by
  obtain ⟨h0, h | ⟨g, cap, cur, h1, h2, h3, h4⟩⟩ := h
  · exact ⟨h0, Or.inl h⟩
  · have hne : g ≠ r := by
      rintro rfl
      obtain ⟨x, a, n, c, y, b', m, k, hq⟩ := hr
      rw [hq] at h3
      exact he (Obj.cells.inj (Option.some.inj h3)).2.1.symm
    exact ⟨h0, Or.inr ⟨g, cap, cur, h1, h2, by rw [Below.heap_setCell _ _ _ _ hne, Below.heap_setCell _ _ _ _ hne, Below.heap_setCell _ _ _ _ hne, Below.heap_setCell _ _ _ _ hne]; exact h3, h4⟩⟩
/-- A row of numbers of the document's, one's own. -/
def Pr (N : Nat) (w : World) (base : Nat) (v : Value) (L : List Int) : Prop :=
  ∃ xs, w.ownsRow base 24 2 v L.length xs ∧ ∀ i, i < L.length → ∃ x a n c, xs[i * 2]? = some (.bool x) ∧ xs[i * 2 + 1]? = some (.slice a n c) ∧ Nr N w (.agg #[.bool x, .slice a n c]) (nth L i)
theorem Pr.nil (N : Nat) (w : World) (base : Nat) : Pr N w base (.slice none 0 0) [] := ⟨[], World.ownsRow_nil _ _ _ _, fun i hi => by simp at hi⟩
theorem Pr.later {N : Nat} {w w' : World} {base : Nat} {v : Value} {L : List Int} (h : Pr N w base v L) (hb : Below w.heap.size w w') : Pr N w' base v L := by
  obtain ⟨xs, h1, h2⟩ := h
  refine ⟨xs, own_later h1 hb, fun i hi => ?_⟩
  obtain ⟨x, a, n, c, k1, k2, k3⟩ := h2 i hi
  exact ⟨x, a, n, c, k1, k2, k3.later hb⟩
theorem Pr.qstored {N : Nat} {w : World} {base r : Nat} {v : Value} {L : List Int} (h : Pr N w base v L) (hr : QBox w r) (u0 u1 u2 u3 : Value) : Pr N ((((w.setCell ⟨r, 0, none⟩ u0).setCell ⟨r, 1, none⟩ u1).setCell ⟨r, 2, none⟩ u2).setCell ⟨r, 3, none⟩ u3) base v L := by
  obtain ⟨xs, h1, h2⟩ := h
  refine ⟨xs, own_qstored h1 hr (by decide) _ _ _ _, fun i hi => ?_⟩
  obtain ⟨x, a, n, c, k1, k2, k3⟩ := h2 i hi
  exact ⟨x, a, n, c, k1, k2, k3.qstored hr _ _ _ _⟩
theorem Pr.ps {N : Nat} {w : World} {base : Nat} {v : Value} {L : List Int} (h : Pr N w base v L) : Ps N w v L := by
  obtain ⟨xs, h1, h2⟩ := h
  have hc := @World.ownsRow.cells _ _ _ _ _ _ _ h1
  obtain ⟨h0, ⟨rfl, h3⟩ | ⟨g, cap, cur, rfl, h4, h5, h6, h7, h8, h9⟩⟩ := h1
  · exact Or.inl ⟨rfl, List.eq_nil_of_length_eq_zero h3⟩
  · refine Or.inr ⟨g, cap, rfl, h6, h7, fun i hi => ?_⟩
    obtain ⟨x, a, n, c, k1, k2, k3⟩ := h2 i hi
    refine ⟨x, a, n, c, ?_, ?_, k3⟩
    · have := hc (g := g) rfl _ _ k1
      rw [show (⟨g, 0, none⟩ : Addr).add (i * 2) = ⟨g, i * 2, none⟩ by rcases i with _ | i <;> simp [Addr.add]] at this
      exact this
    · have := hc (g := g) rfl _ _ k2
      simpa [Addr.add] using this
theorem Pr.snoc {N : Nat} {w w0 : World} {base : Nat} {v v' : Value} {L : List Int} {xs : List Value} {x : Bool} {a : Option Addr} {n c : Nat} {z : Int} (hown : w0.ownsRow base 24 2 v L.length xs) (h2 : ∀ i, i < L.length → ∃ x a n c, xs[i * 2]? = some (.bool x) ∧ xs[i * 2 + 1]? = some (.slice a n c) ∧ Nr N w0 (.agg #[.bool x, .slice a n c]) (nth L i)) (hz : Nr N w0 (.agg #[.bool x, .slice a n c]) z)
    (hnew : w.ownsRow base 24 2 v' (L.length + 1) (xs ++ [.bool x, .slice a n c])) (hg : w0.grownBy w v.ownBlock) : Pr N w base v' (L ++ [z]) := by
  have hl : xs.length = L.length * 2 := hown.1
  refine ⟨_, by rw [List.length_append, List.length_singleton]; exact hnew, fun i hi => ?_⟩
  rw [List.length_append, List.length_singleton] at hi
  rcases Nat.lt_or_ge i L.length with hlt | hge
  · obtain ⟨x', a', n', c', k1, k2, k3⟩ := h2 i hlt
    refine ⟨x', a', n', c', ?_, ?_, ?_⟩
    · rw [List.getElem?_append_left (by omega)]; exact k1
    · rw [List.getElem?_append_left (by omega)]; exact k2
    · have e : nth (L ++ [z]) i = nth L i := by simp [nth, List.getElem?_append_left hlt]
      rw [e]
      exact k3.grown hown (by decide) hg
  · obtain rfl : i = L.length := by omega
    refine ⟨x, a, n, c, ?_, ?_, ?_⟩
    · rw [List.getElem?_append_right (by omega), hl]; simp
    · rw [List.getElem?_append_right (by omega), hl]; simp
    · rw [nth_snoc]; exact hz.grown hown (by decide) hg
theorem info_num : (Tryz.prog.info? 24).map (fun i => (i.zero, i.size, i.bytes)) = some (some (.agg #[.bool false, .slice none 0 0]), 2, 32) := by kernel_rfl
theorem info_bool : (Tryz.prog.info? 4).map (fun i => (i.zero, i.size, i.bytes)) = some (some (.bool false), 1, 1) := by kernel_rfl
theorem wpList_pushN {ops : Array Oper} {rest : List Oper} {o : Oper} {A : Act} {w w0 : World} {Q : Exit → Act → World → Prop} (hgd : o.guard = none) (s x : Operand)
    (ho : o.op = .call { callee := .builtin .append, args := #[s, x], argTypes := #[246, 246] }) {N : Nat} {L : List Int} (base : Nat) (v : Value) (hs : A.eval s = v) (hP : Pr N w0 base v L)
    {u : Bool} {a : Option Addr} {n c : Nat} {z : Int} (hz : Nr N w0 (.agg #[.bool u, .slice a n c]) z) (hx : A.eval x = .slice (some ⟨w0.heap.size, 0, none⟩) 1 1) (hw : w = w0.alloc (.cells #[.bool u, .slice a n c] 24)) (hn : L.length ≤ 100000000) (hbase : base ≤ w0.heap.size)
    (h : ∀ v' w', Pr N w' base v' (L ++ [z]) → (∃ xs, w.ownsRow base 24 2 v L.length xs) → w.grownBy w' v.ownBlock → wpList Tryz.prog ops Q rest (A.put o.dst v') w') : wpList Tryz.prog ops Q (o :: rest) A w := by
  obtain ⟨i0, hi, hz0, hz1, hz2⟩ := info_parts info_num
  subst hw
  obtain ⟨xs, hown, h2⟩ := hP
  have kn := below_new w0 (.cells #[.bool u, .slice a n c] 24)
  have hown' := hown.alloc (.cells #[.bool u, .slice a n c] 24)
  refine wpList_append_own _ hgd s x 246 ho base 24 i0 _ 2 32 Tryz.underlying246 hi hz0 hz1 hz2 rfl (by decide) v L.length xs hs hown' ⟨w0.heap.size, 0, none⟩ 1 1 [.bool u, .slice a n c] hx rfl ?_ ?_ ?_ ?_ ?_ (fun v' w' h1 h3 _ => h v' w' (Pr.snoc hown' (fun i hi => ?_) (hz.later kn) h1 h3) ⟨xs, hown'⟩ h3)
  · intro j u' hj
    match j, hj with
    | 0, hj => simp at hj; subst hj; simp [Addr.add]
    | 1, hj => simp at hj; subst hj; simp [Addr.add]
  · intro u' hu
    simp at hu
    rcases hu with rfl | rfl <;> rfl
  · unfold maxLen; omega
  · omega
  · simp; omega
  · obtain ⟨x', a', n', c', k1, k2, k3⟩ := h2 i hi
    exact ⟨x', a', n', c', k1, k2, k3.later kn⟩
end Go.Proofs.YtpecanpbkbanhaaGreatDoor
