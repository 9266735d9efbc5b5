/-
  Walks over the fractions of the document: between.
-/
import Derived.Test.YtpecanpbkbanhaaGreatDoorMQE
import Derived.Test.YtpecanpbkbanhaaGreatDoorMHC
import Derived.Test.YtpecanpbkbanhaaGreatDoorMH3
namespace Go.Proofs.YtpecanpbkbanhaaGreatDoor
open Go.RowKit
/-- What between has in its boxes and rows. -/
structure BeK (w : World) (N : Nat) (A B C D : Int) (x1 : Bool) (x2 : Option Addr) (x3 x4 : Nat) (x5 : Bool) (x6 : Option Addr) (x7 x8 : Nat) (y1 : Bool) (y2 : Option Addr) (y3 y4 : Nat) (y5 : Bool) (y6 : Option Addr) (y7 y8 : Nat) (pv tv : Value) (L : List Int) (n : Nat) (wr : World) : Prop where
  below : Below w.heap.size w wr
  ret : QBox wr (w.heap.size + 1 + 1)
  lo : QB wr w.heap.size x1 x2 x3 x4 x5 x6 x7 x8 N A B
  hi : QB wr (w.heap.size + 1) y1 y2 y3 y4 y5 y6 y7 y8 N C D
  parts : Pr N wr (w.heap.size + 1 + 1 + 1) pv L
  tn : ∃ ys, wr.ownsRow (w.heap.size + 1 + 1 + 1) 4 1 tv n ys
theorem BeK.keep {w w1 w2 : World} {N : Nat} {A B C D : Int} {x1 x5 y1 y5 : Bool} {x2 x6 y2 y6 : Option Addr} {x3 x4 x7 x8 y3 y4 y7 y8 : Nat} {pv tv : Value} {L : List Int} {n : Nat} (h : BeK w N A B C D x1 x2 x3 x4 x5 x6 x7 x8 y1 y2 y3 y4 y5 y6 y7 y8 pv tv L n w1) (hb : Below w1.heap.size w1 w2) : BeK w N A B C D x1 x2 x3 x4 x5 x6 x7 x8 y1 y2 y3 y4 y5 y6 y7 y8 pv tv L n w2 := by
  obtain ⟨h1, h2, h3, h4, h5, ys, h6⟩ := h
  exact ⟨below_keep hb h1, h2.later hb, h3.keep hb, h4.keep hb, h5.later hb, ys, own_later h6 hb⟩
theorem BeK.drew {w w1 : World} {N : Nat} {A B C D : Int} {x1 x5 y1 y5 : Bool} {x2 x6 y2 y6 : Option Addr} {x3 x4 x7 x8 y3 y4 y7 y8 : Nat} {pv tv : Value} {L : List Int} {n : Nat} (h : BeK w N A B C D x1 x2 x3 x4 x5 x6 x7 x8 y1 y2 y3 y4 y5 y6 y7 y8 pv tv L n w1) : BeK w N A B C D x1 x2 x3 x4 x5 x6 x7 x8 y1 y2 y3 y4 y5 y6 y7 y8 pv tv L n w1.drew := by
  obtain ⟨h1, h2, h3, h4, h5, ys, h6⟩ := h
  exact ⟨h1.drew, h2, h3.drew, h4.drew, h5, ys, h6⟩
theorem BeK.side {w w1 : World} {N : Nat} {A B C D : Int} {x1 x5 y1 y5 : Bool} {x2 x6 y2 y6 : Option Addr} {x3 x4 x7 x8 y3 y4 y7 y8 : Nat} {pv tv : Value} {L : List Int} {n : Nat} {q : Nat} (h : BeK w N A B C D x1 x2 x3 x4 x5 x6 x7 x8 y1 y2 y3 y4 y5 y6 y7 y8 pv tv L n w1) (hq : QBox w1 q) (hlo : w.heap.size + 1 + 1 < q) (u0 u1 u2 u3 : Value) : BeK w N A B C D x1 x2 x3 x4 x5 x6 x7 x8 y1 y2 y3 y4 y5 y6 y7 y8 pv tv L n ((((w1.setCell ⟨q, 0, none⟩ u0).setCell ⟨q, 1, none⟩ u1).setCell ⟨q, 2, none⟩ u2).setCell ⟨q, 3, none⟩ u3) := by
  obtain ⟨h1, h2, h3, h4, h5, ys, h6⟩ := h
  exact ⟨below_rstored h1 (by omega) _ _ _ _, h2.aside (by omega) _ _ _ _, h3.beside hq (by omega) _ _ _ _, h4.beside hq (by omega) _ _ _ _, h5.qstored hq _ _ _ _, ys, own_qstored h6 hq (by decide) _ _ _ _⟩
theorem BeK.putLo {w w1 : World} {N : Nat} {A B C D P Q : Int} {x1 x5 y1 y5 u1 u5 : Bool} {x2 x6 y2 y6 u2 u6 : Option Addr} {x3 x4 x7 x8 y3 y4 y7 y8 u3 u4 u7 u8 : Nat} {pv tv : Value} {L : List Int} {n : Nat} (h : BeK w N A B C D x1 x2 x3 x4 x5 x6 x7 x8 y1 y2 y3 y4 y5 y6 y7 y8 pv tv L n w1) (hR : Qr N w1 (.agg #[.bool u1, .slice u2 u3 u4, .bool u5, .slice u6 u7 u8]) P Q) : BeK w N P Q C D u1 u2 u3 u4 u5 u6 u7 u8 y1 y2 y3 y4 y5 y6 y7 y8 pv tv L n ((((w1.setCell ⟨w.heap.size, 0, none⟩ (.bool u1)).setCell ⟨w.heap.size, 1, none⟩ (.slice u2 u3 u4)).setCell ⟨w.heap.size, 2, none⟩ (.bool u5)).setCell ⟨w.heap.size, 3, none⟩ (.slice u6 u7 u8)) := by
  obtain ⟨h1, h2, h3, h4, h5, ys, h6⟩ := h
  exact ⟨below_rstored h1 (by omega) _ _ _ _, h2.aside (by omega) _ _ _ _, QB.put h3.box hR, h4.beside h3.box (by omega) _ _ _ _, h5.qstored h3.box _ _ _ _, ys, own_qstored h6 h3.box (by decide) _ _ _ _⟩
theorem BeK.putHi {w w1 : World} {N : Nat} {A B C D P Q : Int} {x1 x5 y1 y5 u1 u5 : Bool} {x2 x6 y2 y6 u2 u6 : Option Addr} {x3 x4 x7 x8 y3 y4 y7 y8 u3 u4 u7 u8 : Nat} {pv tv : Value} {L : List Int} {n : Nat} (h : BeK w N A B C D x1 x2 x3 x4 x5 x6 x7 x8 y1 y2 y3 y4 y5 y6 y7 y8 pv tv L n w1) (hR : Qr N w1 (.agg #[.bool u1, .slice u2 u3 u4, .bool u5, .slice u6 u7 u8]) P Q) : BeK w N A B P Q x1 x2 x3 x4 x5 x6 x7 x8 u1 u2 u3 u4 u5 u6 u7 u8 pv tv L n ((((w1.setCell ⟨w.heap.size + 1, 0, none⟩ (.bool u1)).setCell ⟨w.heap.size + 1, 1, none⟩ (.slice u2 u3 u4)).setCell ⟨w.heap.size + 1, 2, none⟩ (.bool u5)).setCell ⟨w.heap.size + 1, 3, none⟩ (.slice u6 u7 u8)) := by
  obtain ⟨h1, h2, h3, h4, h5, ys, h6⟩ := h
  exact ⟨below_rstored h1 (by omega) _ _ _ _, h2.aside (by omega) _ _ _ _, h3.beside h4.box (by omega) _ _ _ _, QB.put h4.box hR, h5.qstored h4.box _ _ _ _, ys, own_qstored h6 h4.box (by decide) _ _ _ _⟩
theorem NB.qside {w : World} {b q : Nat} {x : Bool} {a : Option Addr} {n c N : Nat} {z : Int} (h : NB w b x a n c N z) (hq : QBox w q) (u0 u1 u2 u3 : Value) : NB ((((w.setCell ⟨q, 0, none⟩ u0).setCell ⟨q, 1, none⟩ u1).setCell ⟨q, 2, none⟩ u2).setCell ⟨q, 3, none⟩ u3) b x a n c N z := by
  obtain ⟨h0, h1, ⟨x', a', n', c', h2⟩, h3⟩ := h
  have hne : b ≠ q := by
    rintro rfl
    obtain ⟨_, _, _, _, _, _, _, _, hq⟩ := hq
    rw [hq] at h2
    exact absurd (Obj.cells.inj (Option.some.inj h2)).2.1 (by decide)
  have hc : ∀ o v, w.cell? ⟨b, o, none⟩ = some v → ((((w.setCell ⟨q, 0, none⟩ u0).setCell ⟨q, 1, none⟩ u1).setCell ⟨q, 2, none⟩ u2).setCell ⟨q, 3, none⟩ u3).cell? ⟨b, o, none⟩ = some v := fun o v hv => by
    rw [cell?_setCell_ne _ _ _ _ _ _ (by omega), cell?_setCell_ne _ _ _ _ _ _ (by omega), cell?_setCell_ne _ _ _ _ _ _ (by omega), cell?_setCell_ne _ _ _ _ _ _ (by omega)]
    exact hv
  exact ⟨hc _ _ h0, hc _ _ h1, ⟨x', a', n', c', by rw [Below.heap_setCell _ _ _ _ hne, Below.heap_setCell _ _ _ _ hne, Below.heap_setCell _ _ _ _ hne, Below.heap_setCell _ _ _ _ hne]; exact h2⟩, h3.qstored hq _ _ _ _⟩
theorem sub_low {A B P D : Int} {N : Nat} {w : World} {v : Value} (h : Qr N w v P D) (b0 : 0 < B) (hg : Int.gcd A B = 1) (e : P * (B * 1) = (A * 1 + (-(A / B)) * B) * D) : P = A % B ∧ D = B := by
  have h3 := Int.emod_add_mul_ediv A B
  have e0 : A * 1 + (-(A / B)) * B = A % B := by rw [Int.neg_mul, Int.mul_comm (A / B)]; omega
  rw [e0, Int.mul_one] at e
  refine h.low (o := B) (z := A % B) (by omega) e b0 ?_ rfl
  rw [← hg, ← Int.emod_add_mul_ediv A B, Int.mul_comm B]
  simp [Int.gcd_comm]
theorem BeK.start {w : World} {N : Nat} {A B C D : Int} {x1 x5 y1 y5 : Bool} {x2 x6 y2 y6 : Option Addr} {x3 x4 x7 x8 y3 y4 y7 y8 : Nat} (h : Qr N w (.agg #[.bool x1, .slice x2 x3 x4, .bool x5, .slice x6 x7 x8]) A B) (h' : Qr N w (.agg #[.bool y1, .slice y2 y3 y4, .bool y5, .slice y6 y7 y8]) C D) :
    BeK w N A B C D x1 x2 x3 x4 x5 x6 x7 x8 y1 y2 y3 y4 y5 y6 y7 y8 (.slice none 0 0) (.slice none 0 0) [] 0 (((w.alloc (.cells #[.bool x1, .slice x2 x3 x4, .bool x5, .slice x6 x7 x8] 56)).alloc (.cells #[.bool y1, .slice y2 y3 y4, .bool y5, .slice y6 y7 y8] 56)).alloc (.cells #[.bool false, .slice none 0 0, .bool false, .slice none 0 0] 56)) := by
  have k1 := below_new w (.cells #[.bool x1, .slice x2 x3 x4, .bool x5, .slice x6 x7 x8] 56)
  have k2 := below_new (w.alloc (.cells #[.bool x1, .slice x2 x3 x4, .bool x5, .slice x6 x7 x8] 56)) (.cells #[.bool y1, .slice y2 y3 y4, .bool y5, .slice y6 y7 y8] 56)
  have k3 := below_new ((w.alloc (.cells #[.bool x1, .slice x2 x3 x4, .bool x5, .slice x6 x7 x8] 56)).alloc (.cells #[.bool y1, .slice y2 y3 y4, .bool y5, .slice y6 y7 y8] 56)) (.cells #[.bool false, .slice none 0 0, .bool false, .slice none 0 0] 56)
  have q1 := ((QB.new h).keep k2).keep k3
  have q2 := (QB.new (h'.later k1)).keep k3
  have q3 := qbox_new ((w.alloc (.cells #[.bool x1, .slice x2 x3 x4, .bool x5, .slice x6 x7 x8] 56)).alloc (.cells #[.bool y1, .slice y2 y3 y4, .bool y5, .slice y6 y7 y8] 56)) false none 0 0 false none 0 0
  rw [show (w.alloc (.cells #[.bool x1, .slice x2 x3 x4, .bool x5, .slice x6 x7 x8] 56)).heap.size = w.heap.size + 1 by simp] at q2
  rw [show ((w.alloc (.cells #[.bool x1, .slice x2 x3 x4, .bool x5, .slice x6 x7 x8] 56)).alloc (.cells #[.bool y1, .slice y2 y3 y4, .bool y5, .slice y6 y7 y8] 56)).heap.size = w.heap.size + 1 + 1 by simp] at q3
  exact ⟨below_keep k3 (below_keep k2 k1), q3, q1, q2, Pr.nil _ _ _, [], World.ownsRow_nil _ _ _ _⟩
theorem kh4 {w w1 w2 : World} {v0 v1 v2 v3 v4 v5 : Value} {q r : Nat} (hb : Below w1.heap.size w1 w2) (h : Below w.heap.size w w1 ∧ w1.cell? ⟨q, 0, none⟩ = some v0 ∧ w1.cell? ⟨q, 1, none⟩ = some v1 ∧ w1.cell? ⟨r, 0, none⟩ = some v2 ∧ w1.cell? ⟨r, 1, none⟩ = some v3 ∧ w1.cell? ⟨r, 2, none⟩ = some v4 ∧ w1.cell? ⟨r, 3, none⟩ = some v5) : Below w.heap.size w w2 ∧ w2.cell? ⟨q, 0, none⟩ = some v0 ∧ w2.cell? ⟨q, 1, none⟩ = some v1 ∧ w2.cell? ⟨r, 0, none⟩ = some v2 ∧ w2.cell? ⟨r, 1, none⟩ = some v3 ∧ w2.cell? ⟨r, 2, none⟩ = some v4 ∧ w2.cell? ⟨r, 3, none⟩ = some v5 := by
  obtain ⟨h0, h1, h2, h3, h4, h5, h6⟩ := h
  exact ⟨below_keep hb h0, cell_keep hb h1, cell_keep hb h2, cell_keep hb h3, cell_keep hb h4, cell_keep hb h5, cell_keep hb h6⟩
theorem wpList_pushB {ops : Array Oper} {rest : List Oper} {o : Oper} {A : Act} {w w0 : World} {Q : Exit → Act → World → Prop} (hgd : o.guard = none) (s x : Operand)
    (ho : o.op = .call { callee := .builtin .append, args := #[s, x], argTypes := #[247, 247] }) (base : Nat) (v : Value) (n : Nat) (hs : A.eval s = v) (hP : ∃ ys, w0.ownsRow base 4 1 v n ys)
    (u : Bool) (hx : A.eval x = .slice (some ⟨w0.heap.size, 0, none⟩) 1 1) (hw : w = w0.alloc (.cells #[.bool u] 4)) (hn : n ≤ 100000000) (hbase : base ≤ w0.heap.size)
    (h : ∀ v' w', (∃ ys, w'.ownsRow base 4 1 v' (n + 1) ys) → w.grownBy w' v.ownBlock → wpList Tryz.prog ops Q rest (A.put o.dst v') w') : wpList Tryz.prog ops Q (o :: rest) A w := by
  obtain ⟨i0, hi, hz0, hz1, hz2⟩ := info_parts info_bool
  subst hw
  obtain ⟨ys, hown⟩ := hP
  refine wpList_append_own _ hgd s x 247 ho base 4 i0 _ 1 1 Tryz.underlying247 hi hz0 hz1 hz2 rfl (by decide) v n ys hs (hown.alloc _) ⟨w0.heap.size, 0, none⟩ 1 1 [.bool u] hx rfl ?_ ?_ ?_ ?_ ?_ (fun v' w' h1 h3 _ => h v' w' ⟨_, h1⟩ h3)
  · intro j u' hj
    match j, hj with
    | 0, hj => simp at hj; subst hj; simp [Addr.add]
  · intro u' hu; simp at hu; subst hu; rfl
  · unfold maxLen; omega
  · omega
  · simp; omega
theorem NB.grown {w w' : World} {q : Nat} {x : Bool} {a : Option Addr} {n c N : Nat} {z : Int} {v : Value} {base size n' : Nat} {e : TypeId} {xs : List Value} (h : NB w q x a n c N z) (hown : w.ownsRow base e size v n' xs) (he : e ≠ 3) (hne : some q ≠ v.ownBlock) (hg : w.grownBy w' v.ownBlock) : NB w' q x a n c N z := by
  obtain ⟨h0, h1, ⟨x', a', n', c', h2⟩, h3⟩ := h
  exact ⟨hg.cell h0 hne, hg.cell h1 hne, ⟨x', a', n', c', by rw [hg.block q (Array.getElem?_eq_some_iff.1 h2).1 hne]; exact h2⟩, h3.grown hown he hg⟩
theorem NB.grownT {w w' : World} {q : Nat} {x : Bool} {a : Option Addr} {n c N : Nat} {z : Int} {v : Value} {base n' : Nat} (h : NB w q x a n c N z) (hown : ∃ ys, w.ownsRow base 4 1 v n' ys) (hg : w.grownBy w' v.ownBlock) : NB w' q x a n c N z := by
  obtain ⟨ys, hown⟩ := hown
  refine h.grown hown (by decide) (fun hv => ?_) hg
  obtain ⟨_, _, ⟨x', a', n', c', h2⟩, _⟩ := h
  obtain ⟨_, ⟨rfl, _⟩ | ⟨g, cap', cur', rfl, _, hgg, _⟩⟩ := hown
  · simp [Value.ownBlock] at hv
  · have hbg : q = g := by simpa [Value.ownBlock] using hv
    subst hbg
    rw [hgg] at h2
    exact absurd (Obj.cells.inj (Option.some.inj h2)).2.1 (by decide)
theorem own_slice {w : World} {v : Value} {base size n : Nat} {e : TypeId} {xs : List Value} (h : w.ownsRow base e size v n xs) : ∃ a k c, v = .slice a k c := by
  obtain ⟨_, ⟨rfl, _⟩ | ⟨g, cap, cur, rfl, _⟩⟩ := h
  · exact ⟨_, _, _, rfl⟩
  · exact ⟨_, _, _, rfl⟩
theorem own_apart {w : World} {v v' : Value} {base base' size size' n n' : Nat} {e e' : TypeId} {xs xs' : List Value} (h : w.ownsRow base e size v n xs) (h' : w.ownsRow base' e' size' v' n' xs') (he : e ≠ e') : v.ownBlock = none ∨ v.ownBlock ≠ v'.ownBlock := by
  obtain ⟨_, ⟨rfl, _⟩ | ⟨g, cap, cur, rfl, _, hg, _⟩⟩ := h
  · exact Or.inl rfl
  · refine Or.inr fun hv => ?_
    obtain ⟨_, ⟨rfl, _⟩ | ⟨g', cap', cur', rfl, _, hg', _⟩⟩ := h'
    · simp [Value.ownBlock] at hv
    · have hbg : g = g' := by simpa [Value.ownBlock] using hv
      subst hbg
      rw [hg] at hg'
      exact he (Obj.cells.inj (Option.some.inj hg')).2.1
theorem BeK.pushed {w w1 w2 : World} {N : Nat} {A B C D : Int} {x1 x5 y1 y5 : Bool} {x2 x6 y2 y6 : Option Addr} {x3 x4 x7 x8 y3 y4 y7 y8 : Nat} {pv tv pv' : Value} {L L' : List Int} {n : Nat} (h : BeK w N A B C D x1 x2 x3 x4 x5 x6 x7 x8 y1 y2 y3 y4 y5 y6 y7 y8 pv tv L n w1) (hg : w1.grownBy w2 pv.ownBlock) (hP : Pr N w2 (w.heap.size + 1 + 1 + 1) pv' L') : BeK w N A B C D x1 x2 x3 x4 x5 x6 x7 x8 y1 y2 y3 y4 y5 y6 y7 y8 pv' tv L' n w2 := by
  obtain ⟨h1, h2, h3, h4, ⟨xs, h5, _⟩, ys, h6⟩ := h
  have hlt := h5.lt
  exact ⟨h1.grown hg h1.size (fun k hk => by have := (hlt k hk).1; omega), (h2.grown h5 (by decide) hg).2, h3.grown h5 (by decide) (by decide) hg, h4.grown h5 (by decide) (by decide) hg, hP, ys, h6.kept hg (own_apart h6 h5 (by decide))⟩
theorem BeK.pushedT {w w1 w2 : World} {N : Nat} {A B C D : Int} {x1 x5 y1 y5 : Bool} {x2 x6 y2 y6 : Option Addr} {x3 x4 x7 x8 y3 y4 y7 y8 : Nat} {pv tv tv' : Value} {L : List Int} {n n' : Nat} (h : BeK w N A B C D x1 x2 x3 x4 x5 x6 x7 x8 y1 y2 y3 y4 y5 y6 y7 y8 pv tv L n w1) (hg : w1.grownBy w2 tv.ownBlock) (hT : ∃ ys, w2.ownsRow (w.heap.size + 1 + 1 + 1) 4 1 tv' n' ys) : BeK w N A B C D x1 x2 x3 x4 x5 x6 x7 x8 y1 y2 y3 y4 y5 y6 y7 y8 pv tv' L n' w2 := by
  obtain ⟨h1, h2, h3, h4, ⟨xs, h5, h7⟩, ys, h6⟩ := h
  have hlt := h6.lt
  refine ⟨h1.grown hg h1.size (fun k hk => by have := (hlt k hk).1; omega), (h2.grown h6 (by decide) hg).2, h3.grown h6 (by decide) (by decide) hg, h4.grown h6 (by decide) (by decide) hg, ⟨xs, h5.kept hg (own_apart h5 h6 (by decide)), fun i hi => ?_⟩, hT⟩
  obtain ⟨x, a, n, c, k1, k2, k3⟩ := h7 i hi
  exact ⟨x, a, n, c, k1, k2, k3.grown h6 (by decide) hg⟩
set_option maxHeartbeats 8000000 in
set_option maxRecDepth 8000 in
/-- between. -/
theorem rbetween_any {N : Nat} {v v' : Value} {p d p' d' : Int} (w : World) (h : Qr N w v p d) (h' : Qr N w v' p' d') (hN2 : 2 ≤ N) (hN : N ≤ 380) (p0 : 0 < p) (hle : p * d' ≤ p' * d) :
    Calls Tryz.prog 142 #[v, v'] w fun e w' => (∃ v, e = .returned v ∧ Qr N w' v (sq (d + d').toNat p d p' d').1 (sq (d + d').toNat p d p' d').2) ∧ Below w.heap.size w w' := by
  obtain ⟨x1, x2, x3, x4, x5, x6, x7, x8, rfl⟩ := h.shape
  obtain ⟨y1, y2, y3, y4, y5, y6, y7, y8, rfl⟩ := h'.shape
  obtain ⟨F, hF⟩ : ∃ F, F = (d + d').toNat := ⟨_, rfl⟩
  have HBT : Hid (Btw N F p d p' d' [] p d p' d') := by
    obtain ⟨_, _, _, _, _, _, _, _, e, g1, g2, d0, _⟩ := h
    obtain ⟨_, _, _, _, _, _, _, _, e', g1', g2', d0', _⟩ := h'
    rw [hF]
    exact hide (Btw.start p0 d0 d0' hle g1.abs.2 g2.abs.2 g1'.abs.2 g2'.abs.2)
  rw [← hF]
  have HK := hide (BeK.start h h')
  clear h h' hle p0 hF
  go_enter Tryz.func142, Tryz.ntmps142
  go_wp2_with fail
  go_loopg [5, 6] (d + d').toNat (fun gk pv tv wr => ∃ L A B C D x1 x2 x3 x4 x5 x6 x7 x8 y1 y2 y3 y4 y5 y6 y7 y8, gk = (B + D).toNat ∧ Hid (Btw N F p d p' d' L A B C D) ∧ Hid (BeK w N A B C D x1 x2 x3 x4 x5 x6 x7 x8 y1 y2 y3 y4 y5 y6 y7 y8 pv tv L L.length wr))
  case atStart => exact ⟨[], _, _, _, _, _, _, _, _, _, _, _, _, _, _, _, _, _, _, _, _, rfl, HBT, HK⟩
  case round =>
    clear HK HBT
    obtain ⟨L, A, B, C, D, x1, x2, x3, x4, x5, x6, x7, x8, y1, y2, y3, y4, y5, y6, y7, y8, hgk, HBT, HK⟩ := hrel
    have HGK := hide hgk
    clear hgk
    have c0 := (unhide HK).lo.c0
    have c1 := (unhide HK).lo.c1
    have c2 := (unhide HK).lo.c2
    have c3 := (unhide HK).lo.c3
    go_wp2_with fail
    go_fit (rceil_any (N := N) _ (unhide HK).lo.qr (by omega))
    rintro e9 Y1 ⟨⟨v1, rfl, hU⟩, hb⟩
    obtain ⟨U, hUe⟩ : ∃ U, U = -((-A) / B) := ⟨_, rfl⟩
    rw [← hUe] at hU
    have HU := hide hUe
    obtain ⟨u1, u2, u3, u4, rfl⟩ := hU.shape
    have k1 := below_new Y1 (.cells #[.bool u1, .slice u2 u3 u4] 24)
    have HK := hide (((unhide HK).keep hb).keep k1)
    have HQ := hide (NB.new hU)
    clear hb k1 hU hUe c0 c1 c2 c3
    go_wp2_with fail
    obtain ⟨V1, hV1⟩ : ∃ V1, V1 = Y1.alloc (.cells #[.bool u1, .slice u2 u3 u4] 24) := ⟨_, rfl⟩
    obtain ⟨b7, hb7⟩ : ∃ b7, b7 = Y1.heap.size := ⟨_, rfl⟩
    rw [← hV1] at HK HQ ⊢
    rw [← hb7] at HQ ⊢
    clear hV1 hb7
    have e0 := (unhide HQ).c0
    have e1 := (unhide HQ).c1
    have f0 := (unhide HK).hi.c0
    have f1 := (unhide HK).hi.c1
    have f2 := (unhide HK).hi.c2
    have f3 := (unhide HK).hi.c3
    have S0 := hide (show Below w.heap.size w V1.drew ∧ V1.drew.cell? ⟨b7, 0, none⟩ = some (.bool u1) ∧ V1.drew.cell? ⟨b7, 1, none⟩ = some (.slice u2 u3 u4) ∧ V1.drew.cell? ⟨w.heap.size + 1, 0, none⟩ = some (.bool y1) ∧ V1.drew.cell? ⟨w.heap.size + 1, 1, none⟩ = some (.slice y2 y3 y4) ∧ V1.drew.cell? ⟨w.heap.size + 1, 2, none⟩ = some (.bool y5) ∧ V1.drew.cell? ⟨w.heap.size + 1, 3, none⟩ = some (.slice y6 y7 y8) from ⟨(unhide HK).below.drew, e0, e1, f0, f1, f2, f3⟩)
    have HK := hide (unhide HK).drew
    have HQ := hide (unhide HQ).drew
    go_region_held3 (fun w' => Below w.heap.size w w' ∧ w'.cell? ⟨b7, 0, none⟩ = some (.bool u1) ∧ w'.cell? ⟨b7, 1, none⟩ = some (.slice u2 u3 u4) ∧ w'.cell? ⟨w.heap.size + 1, 0, none⟩ = some (.bool y1) ∧ w'.cell? ⟨w.heap.size + 1, 1, none⟩ = some (.slice y2 y3 y4) ∧ w'.cell? ⟨w.heap.size + 1, 2, none⟩ = some (.bool y5) ∧ w'.cell? ⟨w.heap.size + 1, 3, none⟩ = some (.slice y6 y7 y8))
      (first | with_reducible exact unhide S2 | with_reducible exact unhide S1 | with_reducible exact unhide S0)
      (first
        | (go_at_call 206; go_fit (rwhole_any (N := N + 1) _ (unhide HQ).nr); rintro e9 Y2 ⟨⟨v1, rfl, hR1⟩, hb⟩; obtain ⟨i1, i2, i3, i4, i5, i6, i7, i8, rfl⟩ := hR1.shape; have S1 := hide (kh4 hb (unhide S0)); have HK1 := hide ((unhide HK).keep hb); have HQ1 := hide ((unhide HQ).keep hb); clear hb)
        | (go_at_call 49; go_fit (rqcmp_any (N := N + 1 + 1) _ hR1 ((unhide HK1).hi.qr.mono (by omega)) (by omega)); rintro e9 Y3 ⟨rfl, hb⟩; have S2 := hide (kh4 hb (unhide S1)); have HK2 := hide ((unhide HK1).keep hb); have HQ2 := hide ((unhide HQ1).keep hb); clear hb))
    clear HK HQ HK1 HQ1 S0 S1 hR1 e0 e1 f0 f1 f2 f3
    by_cases hc : U * D ≤ C
    · have hsg : sgn (U * D - C) ≤ 0 := by rcases sgn_val (U * D - C) with ⟨_, h, _⟩ | ⟨_, h, _⟩ | ⟨h, _⟩ <;> omega
      obtain ⟨U0, hbl, hsm⟩ := (unhide HBT).done (by rw [← unhide HU]; exact hc)
      rw [← unhide HU] at U0 hbl hsm
      have HB1 := hide hbl
      have HB2 := hide hsm
      have HNN := hide (unhide HBT).nn
      clear hbl hsm
      have e0 := (unhide HQ2).c0
      have e1 := (unhide HQ2).c1
      go_wp2_with fail
      go_fit (rwhole_any (N := N + 1) _ (unhide HQ2).nr)
      rintro e9 Y4 ⟨⟨v4, rfl, hR4⟩, hb⟩
      have hR4 := hR4.fit (M := N) (by have h8 : (0 : Int) < 10000 ^ N := Int.pow_pos (by decide); omega) (by have h9 := (unhide HB2 L.length (Nat.le_refl _)).1; rw [List.drop_length] at h9; exact h9) (by have h9 := (unhide HB2 L.length (Nat.le_refl _)).2; rw [List.drop_length] at h9; exact h9)
      obtain ⟨i1, i2, i3, i4, i5, i6, i7, i8, rfl⟩ := hR4.shape
      have HK3 := hide ((unhide HK2).keep hb)
      clear hb e0 e1
      go_wp2_with fail
      go_fit (rbuilt_any (N := N) (L := L) _ (unhide HK3).parts.ps hR4 hN2 (by omega) U0 (unhide HNN) (unhide HB2))
      rintro e9 Y5 ⟨⟨v5, rfl, hR5⟩, hb⟩
      rw [unhide HB1] at hR5
      obtain ⟨o1, o2, o3, o4, o5, o6, o7, o8, rfl⟩ := hR5.shape
      have HK4 := hide ((unhide HK3).keep hb)
      clear hb hR4
      have hbx := (unhide HK4).ret
      obtain ⟨⟨j0, g0⟩, ⟨j1, j2, j3, g1⟩, ⟨j4, g2⟩, ⟨j5, j6, j7, g3⟩, gf⟩ := hbx.cells
      have hxlt := hbx.lt
      go_wp2
      obtain ⟨st0, st1, st2, st3⟩ := hbx.stored (.bool o1) (.slice o2 o3 o4) (.bool o5) (.slice o6 o7 o8)
      exact bodyPost_ret (v := .agg #[.bool o1, .slice o2 o3 o4, .bool o5, .slice o6 o7 o8]) (by simp [results, Tryz.results142, go_sem, st0, st1, st2, st3]) rfl ⟨⟨_, rfl, hR5.qstored hbx _ _ _ _⟩, below_rstored (unhide HK4).below (by omega) _ _ _ _⟩
    · have hsg : ¬ sgn (U * D - C) ≤ 0 := by rw [sgn_pos (by omega)]; decide
      obtain ⟨hm1, hm2⟩ := (unhide HBT).more (by rw [← unhide HU]; exact hc)
      have HM := hide (And.intro hm1 hm2)
      have HBS := hide ((unhide HBT).step hm1 hm2)
      clear hm1 hm2 hc HU HQ2
      have c0 := (unhide HK2).lo.c0
      have c1 := (unhide HK2).lo.c1
      have c2 := (unhide HK2).lo.c2
      have c3 := (unhide HK2).lo.c3
      go_wp2_with fail
      go_fit (rfloor_any (N := N) _ (unhide HK2).lo.qr (by omega))
      rintro e9 Y4 ⟨⟨v4, rfl, hF4⟩, hb⟩
      obtain ⟨f1, f2, f3, f4, rfl⟩ := hF4.shape
      have hq0 : 0 ≤ A / B := Int.ediv_nonneg (by have := (unhide HBT).a0; omega) (by have := (unhide HBT).b0; omega)
      have hF4 := hF4.fit (M := N) (by have h8 : (0 : Int) < 10000 ^ N := Int.pow_pos (by decide); omega) (by have h7 := (unhide HBT).big.1; have h6 := Int.ediv_le_self B (show 0 ≤ A by have := (unhide HBT).a0; omega); omega)
      have k1 := below_new Y4 (.cells #[.bool f1, .slice f2 f3 f4] 24)
      have HKy := hide ((unhide HK2).keep hb)
      have HK := hide ((unhide HKy).keep k1)
      have HQ := hide (NB.new hF4)
      have hlen : L.length ≤ 100000000 := by have := (unhide HBT).few; omega
      have hplt : ∀ k, u5.ownBlock = some k → k < Y4.heap.size := fun k hk => by
        obtain ⟨xs, h5, _⟩ := (unhide HKy).parts
        exact (h5.lt k hk).2
      have HPL := hide hplt
      clear hb k1 hF4 c0 c1 c2 c3 HK2 S2 hplt
      obtain ⟨V2, hV2⟩ : ∃ V2, V2 = Y4.alloc (.cells #[.bool f1, .slice f2 f3 f4] 24) := ⟨_, rfl⟩
      obtain ⟨b9, hb9⟩ : ∃ b9, b9 = Y4.heap.size := ⟨_, rfl⟩
      rw [← hV2] at HK HQ
      rw [← hb9] at HQ
      have e0 := (unhide HQ).c0
      have e1 := (unhide HQ).c1
      have hbs : w.heap.size + 1 + 1 + 1 ≤ V2.heap.size := by have := (unhide HK).ret.lt; omega
      obtain ⟨pa, pn, pc, rfl⟩ := (unhide HK).parts.ps.shape
      obtain ⟨ta, tb, tc, rfl⟩ : ∃ a k c, u6 = .slice a k c := by obtain ⟨ys, hy⟩ := (unhide HK).tn; exact own_slice hy
      go_upto_region 8 with fail
      change Code.wp _ _ _ _ (Y4.alloc (.cells #[.bool f1, .slice f2 f3 f4] 24))
      rw [← hV2, ← hb9]
      have HB9 := hide hb9
      clear hV2 hb9
      go_upto_region 9 with (at_builtin; refine wpList_pushN rfl _ _ rfl (w.heap.size + 1 + 1 + 1) _ rfl (unhide HK).parts (unhide HQ).nr rfl rfl hlen hbs ?_; intro pv' Z1 hP1 hown1 hgr1)
      have kn := below_new V2 (.cells #[.bool f1, .slice f2 f3 f4] 24)
      have HK1 := hide (((unhide HK).keep kn).pushed hgr1 hP1)
      obtain ⟨xs1, ho1⟩ := hown1
      have HQ1 := hide (((unhide HQ).keep kn).grown ho1 (by decide) (fun hv => by have := unhide HPL _ hv.symm; have := unhide HB9; omega) hgr1)
      have hbs1 : w.heap.size + 1 + 1 + 1 ≤ Z1.heap.size := by have := (unhide HK1).ret.lt; omega
      clear kn hgr1 hP1 ho1 HK HQ HKy HPL hbs e0 e1
      go_upto_region 10 with (at_builtin; refine wpList_pushB rfl _ _ rfl (w.heap.size + 1 + 1 + 1) _ L.length rfl (unhide HK1).tn true rfl rfl hlen hbs1 ?_; intro tv' Z2 hT2 hgr2)
      have kn := below_new Z1 (.cells #[.bool true] 4)
      have HK := hide (((unhide HK1).keep kn).pushedT hgr2 hT2)
      have HQ := hide (((unhide HQ1).keep kn).grownT ((unhide HK1).keep kn).tn hgr2)
      clear kn hgr2 hT2 HK1 HQ1 hbs1
      obtain ⟨pa', pn', pc', rfl⟩ := (unhide HK).parts.ps.shape
      obtain ⟨ta', tb', tc', rfl⟩ : ∃ a k c, tv' = .slice a k c := by obtain ⟨ys, hy⟩ := (unhide HK).tn; exact own_slice hy
      have hAB : 0 < B ∧ Int.gcd A B = 1 := by obtain ⟨_, _, _, _, _, _, _, _, _, _, _, h1, h2⟩ := (unhide HK).lo.qr; exact ⟨h1, h2⟩
      have HAB := hide hAB
      clear hAB hlen hsg
      have c0 := (unhide HK).lo.c0
      have c1 := (unhide HK).lo.c1
      have c2 := (unhide HK).lo.c2
      have c3 := (unhide HK).lo.c3
      have d0 := (unhide HQ).c0
      have d1 := (unhide HQ).c1
      have hlt := (unhide HK).lo.box.lt
      have hlt9 := (unhide HQ).lt
      go_cut [10] from 12 to 46 (fun v10 wx => ∃ q r1 r2 r3 r4 r5 r6 r7 r8, v10 = .pointer (some ⟨q, 0, none⟩) ∧ w.heap.size + 1 + 1 < q ∧ Hid (BeK w N A B C D x1 x2 x3 x4 x5 x6 x7 x8 y1 y2 y3 y4 y5 y6 y7 y8 (.slice pa' pn' pc') (.slice ta' tb' tc') (L ++ [A / B]) (L.length + 1) wx) ∧ Hid (NB wx b9 f1 f2 f3 f4 N (A / B)) ∧ Hid (QB wx q r1 r2 r3 r4 r5 r6 r7 r8 N (A % B) B))
      case first =>
        go_region_with (first
          | (go_at_call 206; (first | (go_fit (rwhole_any (N := N) _ (unhide HQ).drew.nr)) | (go_fit (rwhole_any (N := N) _ ((unhide HQ).drew.keep (below_new _ _)).nr))); rintro e9 Y5 ⟨⟨v5, rfl, hR5⟩, hb5⟩; obtain ⟨i1, i2, i3, i4, i5, i6, i7, i8, rfl⟩ := hR5.shape; have HK5 : Hid (BeK w N A B C D x1 x2 x3 x4 x5 x6 x7 x8 y1 y2 y3 y4 y5 y6 y7 y8 (.slice pa' pn' pc') (.slice ta' tb' tc') (L ++ [A / B]) (L.length + 1) Y5) := hide (by first | exact (unhide HK).drew.keep hb5 | exact ((unhide HK).drew.keep (below_new _ _)).keep hb5); have HQ5 : Hid (NB Y5 b9 f1 f2 f3 f4 N (A / B)) := hide (by first | exact (unhide HQ).drew.keep hb5 | exact ((unhide HQ).drew.keep (below_new _ _)).keep hb5); have m0 := (unhide HK5).lo.c0; have m1 := (unhide HK5).lo.c1; have m2 := (unhide HK5).lo.c2; have m3 := (unhide HK5).lo.c3; have mlt := (unhide HK5).lo.box.lt; have hb5 := hide hb5)
          | (go_at_call 45; (first | (go_fit (rqsub_any (N := N + 1) _ ((unhide HK5).lo.qr.mono (by omega)) hR5 (by omega))) | (go_fit (rqsub_any (N := N + 1) _ (((unhide HK5).keep (below_new _ _)).lo.qr.mono (by omega)) (hR5.later (below_new _ _)) (by omega)))); rintro e9 Y6 ⟨⟨v6, P2, D2, rfl, hR6, hE⟩, hb6⟩; obtain ⟨hq1, hq2⟩ := sub_low hR6 (unhide HAB).1 (unhide HAB).2 hE; rw [hq1, hq2] at hR6; clear hq1 hq2 hE; have hR6 := hR6.fit (M := N) (by have h9 := Int.emod_nonneg A (show B ≠ 0 by have := (unhide HAB).1; omega); have h8 : (0 : Int) < 10000 ^ N := Int.pow_pos (by decide); omega) (by have h9 := Int.emod_lt_of_pos A (unhide HAB).1; have h8 := (unhide HBT).big.2.1; omega) (unhide HBT).big.2.1; obtain ⟨o1, o2, o3, o4, o5, o6, o7, o8, rfl⟩ := hR6.shape; have HK6 : Hid (BeK w N A B C D x1 x2 x3 x4 x5 x6 x7 x8 y1 y2 y3 y4 y5 y6 y7 y8 (.slice pa' pn' pc') (.slice ta' tb' tc') (L ++ [A / B]) (L.length + 1) Y6) := hide (by first | exact (unhide HK5).keep hb6 | exact ((unhide HK5).keep (below_new _ _)).keep hb6); have HQ6 : Hid (NB Y6 b9 f1 f2 f3 f4 N (A / B)) := hide (by first | exact (unhide HQ5).keep hb6 | exact ((unhide HQ5).keep (below_new _ _)).keep hb6); (first | (have hbx : QBox Y6 Z2.heap.size := (QBox.later (qbox_new Z2.drew false none 0 0 false none 0 0) (unhide hb5)).later hb6; obtain ⟨⟨j0, g0⟩, ⟨j1, j2, j3, g1⟩, ⟨j4, g2⟩, ⟨j5, j6, j7, g3⟩, gf⟩ := hbx.cells; have hxlt := hbx.lt) | (have hbx : QBox Y6 Y5.heap.size := (qbox_new Y5 false none 0 0 false none 0 0).later hb6; obtain ⟨⟨j0, g0⟩, ⟨j1, j2, j3, g1⟩, ⟨j4, g2⟩, ⟨j5, j6, j7, g3⟩, gf⟩ := hbx.cells; have hxlt := hbx.lt) | (have _h : Below Y5.heap.size Y5 Y6 := hb6)); clear hb6))
        all_goals
          go_wp2
          go_meet
          first
            | exact ⟨_, _, _, _, _, _, _, _, _, rfl, (unhide HK6).ret.lt, hide ((unhide HK6).keep (below_new _ _)), hide ((unhide HQ6).keep (below_new _ _)), hide (QB.new hR6)⟩
            | exact ⟨_, _, _, _, _, _, _, _, _, rfl, (unhide HK5).ret.lt, hide ((unhide HK6).side hbx (unhide HK5).ret.lt _ _ _ _), hide ((unhide HQ6).qside hbx _ _ _ _), hide (QB.put hbx hR6)⟩
            | exact ⟨_, _, _, _, _, _, _, _, _, rfl, (unhide HK).ret.lt, hide ((unhide HK6).side hbx (unhide HK).ret.lt _ _ _ _), hide ((unhide HQ6).qside hbx _ _ _ _), hide (QB.put hbx hR6)⟩
      case rest =>
        obtain ⟨q, r1, r2, r3, r4, r5, r6, r7, r8, rfl, hq, HK, HQ, HX⟩ := hcut
        obtain ⟨Z3, rfl⟩ : ∃ X, X = wc := ⟨_, rfl⟩
        have hCD : 0 < D ∧ Int.gcd C D = 1 := by obtain ⟨_, _, _, _, _, _, _, _, _, _, _, h1, h2⟩ := (unhide HK).hi.qr; exact ⟨h1, h2⟩
        have HCD := hide hCD
        have hdv : A / B = C / D := by have h1 := sq_below (unhide HBT).b0 (unhide HBT).d0 (unhide HBT).le; have h2 := (unhide HM).2; omega
        have HDV := hide hdv
        clear hCD hdv c0 c1 c2 c3 d0 d1 hlt hlt9
        have c0 := (unhide HK).hi.c0
        have c1 := (unhide HK).hi.c1
        have c2 := (unhide HK).hi.c2
        have c3 := (unhide HK).hi.c3
        have d0 := (unhide HQ).c0
        have d1 := (unhide HQ).c1
        have hlt := (unhide HK).hi.box.lt
        have hlt9 := (unhide HQ).lt
        have hltq := (unhide HX).box.lt
        go_wp2_with fail
        go_cut [11] from 12 to 46 (fun v11 wx => ∃ q' s1 s2 s3 s4 s5 s6 s7 s8, v11 = .pointer (some ⟨q', 0, none⟩) ∧ w.heap.size + 1 + 1 < q' ∧ Hid (BeK w N A B C D x1 x2 x3 x4 x5 x6 x7 x8 y1 y2 y3 y4 y5 y6 y7 y8 (.slice pa' pn' pc') (.slice ta' tb' tc') (L ++ [A / B]) (L.length + 1) wx) ∧ Hid (QB wx q r1 r2 r3 r4 r5 r6 r7 r8 N (A % B) B) ∧ Hid (QB wx q' s1 s2 s3 s4 s5 s6 s7 s8 N (C % D) D))
        case first =>
          go_region_with (first
            | (go_at_call 206; (first | (go_fit (rwhole_any (N := N) _ (unhide HQ).drew.nr)) | (go_fit (rwhole_any (N := N) _ ((unhide HQ).drew.keep (below_new _ _)).nr))); rintro e9 Y5 ⟨⟨v5, rfl, hR5⟩, hb5⟩; rw [unhide HDV] at hR5; obtain ⟨i1, i2, i3, i4, i5, i6, i7, i8, rfl⟩ := hR5.shape; have HK5 : Hid (BeK w N A B C D x1 x2 x3 x4 x5 x6 x7 x8 y1 y2 y3 y4 y5 y6 y7 y8 (.slice pa' pn' pc') (.slice ta' tb' tc') (L ++ [A / B]) (L.length + 1) Y5) := hide (by first | exact (unhide HK).drew.keep hb5 | exact ((unhide HK).drew.keep (below_new _ _)).keep hb5); have HX5 : Hid (QB Y5 q r1 r2 r3 r4 r5 r6 r7 r8 N (A % B) B) := hide (by first | exact (unhide HX).drew.keep hb5 | exact ((unhide HX).drew.keep (below_new _ _)).keep hb5); have m0 := (unhide HK5).hi.c0; have m1 := (unhide HK5).hi.c1; have m2 := (unhide HK5).hi.c2; have m3 := (unhide HK5).hi.c3; have mlt := (unhide HK5).hi.box.lt; have hb5 := hide hb5)
            | (go_at_call 45; (first | (go_fit (rqsub_any (N := N + 1) _ ((unhide HK5).hi.qr.mono (by omega)) hR5 (by omega))) | (go_fit (rqsub_any (N := N + 1) _ (((unhide HK5).keep (below_new _ _)).hi.qr.mono (by omega)) (hR5.later (below_new _ _)) (by omega)))); rintro e9 Y6 ⟨⟨v6, P2, D2, rfl, hR6, hE⟩, hb6⟩; obtain ⟨hq1, hq2⟩ := sub_low hR6 (unhide HCD).1 (unhide HCD).2 hE; rw [hq1, hq2] at hR6; clear hq1 hq2 hE; have hR6 := hR6.fit (M := N) (by have h9 := Int.emod_nonneg C (show D ≠ 0 by have := (unhide HCD).1; omega); have h8 : (0 : Int) < 10000 ^ N := Int.pow_pos (by decide); omega) (by have h9 := Int.emod_lt_of_pos C (unhide HCD).1; have h8 := (unhide HBT).big.2.2.2; omega) (unhide HBT).big.2.2.2; obtain ⟨o1, o2, o3, o4, o5, o6, o7, o8, rfl⟩ := hR6.shape; have HK6 : Hid (BeK w N A B C D x1 x2 x3 x4 x5 x6 x7 x8 y1 y2 y3 y4 y5 y6 y7 y8 (.slice pa' pn' pc') (.slice ta' tb' tc') (L ++ [A / B]) (L.length + 1) Y6) := hide (by first | exact (unhide HK5).keep hb6 | exact ((unhide HK5).keep (below_new _ _)).keep hb6); have HX6 : Hid (QB Y6 q r1 r2 r3 r4 r5 r6 r7 r8 N (A % B) B) := hide (by first | exact (unhide HX5).keep hb6 | exact ((unhide HX5).keep (below_new _ _)).keep hb6); (first | (have hbx : QBox Y6 Z3.heap.size := (QBox.later (qbox_new Z3.drew false none 0 0 false none 0 0) (unhide hb5)).later hb6; obtain ⟨⟨j0, g0⟩, ⟨j1, j2, j3, g1⟩, ⟨j4, g2⟩, ⟨j5, j6, j7, g3⟩, gf⟩ := hbx.cells; have hxlt := hbx.lt) | (have hbx : QBox Y6 Y5.heap.size := (qbox_new Y5 false none 0 0 false none 0 0).later hb6; obtain ⟨⟨j0, g0⟩, ⟨j1, j2, j3, g1⟩, ⟨j4, g2⟩, ⟨j5, j6, j7, g3⟩, gf⟩ := hbx.cells; have hxlt := hbx.lt) | (have _h : Below Y5.heap.size Y5 Y6 := hb6)); clear hb6))
          all_goals
            go_wp2
            go_meet
            first
              | exact ⟨_, _, _, _, _, _, _, _, _, rfl, (unhide HK6).ret.lt, hide ((unhide HK6).keep (below_new _ _)), hide ((unhide HX6).keep (below_new _ _)), hide (QB.new hR6)⟩
              | exact ⟨_, _, _, _, _, _, _, _, _, rfl, (unhide HK5).ret.lt, hide ((unhide HK6).side hbx (unhide HK5).ret.lt _ _ _ _), hide ((unhide HX6).beside hbx (Nat.ne_of_lt (unhide HX5).box.lt) _ _ _ _), hide (QB.put hbx hR6)⟩
              | exact ⟨_, _, _, _, _, _, _, _, _, rfl, (unhide HK).ret.lt, hide ((unhide HK6).side hbx (unhide HK).ret.lt _ _ _ _), hide ((unhide HX6).beside hbx (Nat.ne_of_lt (unhide HX).box.lt) _ _ _ _), hide (QB.put hbx hR6)⟩
        case rest =>
          obtain ⟨q', s1, s2, s3, s4, s5, s6, s7, s8, rfl, hq', HK, HX, HY⟩ := hcut
          obtain ⟨Z4, rfl⟩ : ∃ X, X = wc := ⟨_, rfl⟩
          have HP := hide (show 0 < C % D ∧ 0 < A % B ∧ Int.gcd D (C % D) = 1 ∧ Int.gcd B (A % B) = 1 from ⟨(unhide HBS).b0, (unhide HBS).d0, by obtain ⟨_, _, _, _, _, _, _, _, _, _, _, h1, h2⟩ := (unhide HY).qr; rw [Int.gcd_comm]; exact h2, by obtain ⟨_, _, _, _, _, _, _, _, _, _, _, h1, h2⟩ := (unhide HX).qr; rw [Int.gcd_comm]; exact h2⟩)
          clear c0 c1 c2 c3 d0 d1 hlt hlt9 hltq
          have c0 := (unhide HY).c0
          have c1 := (unhide HY).c1
          have c2 := (unhide HY).c2
          have c3 := (unhide HY).c3
          have hlt := (unhide HY).box.lt
          go_wp2_with fail
          go_cut [] from 12 to 46 (fun wx => ∃ o1 o2 o3 o4 o5 o6 o7 o8, Hid (BeK w N D (C % D) C D o1 o2 o3 o4 o5 o6 o7 o8 y1 y2 y3 y4 y5 y6 y7 y8 (.slice pa' pn' pc') (.slice ta' tb' tc') (L ++ [A / B]) (L.length + 1) wx) ∧ Hid (QB wx q r1 r2 r3 r4 r5 r6 r7 r8 N (A % B) B))
          case first =>
            go_region_with (first
              | (go_at_call 141; go_fit (rint_one _); rintro e9 Y1 ⟨⟨v1, rfl, hR1⟩, hb1⟩; obtain ⟨i1, i2, i3, i4, i5, i6, i7, i8, rfl⟩ := hR1.shape; have HK1 := hide ((unhide HK).drew.keep hb1); have HX1 := hide ((unhide HX).drew.keep hb1); have HY1 := hide ((unhide HY).drew.keep hb1); have f0 := (unhide HY1).c0; have f1 := (unhide HY1).c1; have f2 := (unhide HY1).c2; have f3 := (unhide HY1).c3; have flt := (unhide HY1).box.lt; clear hb1)
              | (go_at_call 59; go_fit (rqquo_any (N := N) _ (hR1.mono hN2) (unhide HY1).qr (by omega) (by have := (unhide HP).1; omega)); rintro e9 Y2 ⟨⟨v2, P2, D2, rfl, hR2, hE⟩, hb2⟩; obtain ⟨hq1, hq2⟩ := hR2.low (p := D) (d := C % D) (by have := (unhide HP).1; omega) hE (unhide HP).1 (unhide HP).2.2.1 (by rw [Int.one_mul, Int.one_mul]); rw [hq1, hq2] at hR2; clear hq1 hq2 hE; have hR2 := hR2.fit (M := N) (by have h9 := (unhide HBS).a0; have h8 : (0 : Int) < 10000 ^ N := Int.pow_pos (by decide); omega) (unhide HBS).big.1 (unhide HBS).big.2.1; obtain ⟨o1, o2, o3, o4, o5, o6, o7, o8, rfl⟩ := hR2.shape; have HK2 := hide ((unhide HK1).keep hb2); have HX2 := hide ((unhide HX1).keep hb2); have hbx := (unhide HK2).lo.box; obtain ⟨⟨j0, g0⟩, ⟨j1, j2, j3, g1⟩, ⟨j4, g2⟩, ⟨j5, j6, j7, g3⟩, gf⟩ := hbx.cells; have hxlt := hbx.lt; clear hb2))
            all_goals
              go_wp2
              go_meet
              exact ⟨_, _, _, _, _, _, _, _, hide ((unhide HK2).putLo hR2), hide ((unhide HX2).beside hbx (by omega) _ _ _ _)⟩
          case rest =>
            obtain ⟨o1, o2, o3, o4, o5, o6, o7, o8, HK, HX⟩ := hcut
            obtain ⟨Z5, rfl⟩ : ∃ X, X = wc := ⟨_, rfl⟩
            clear c0 c1 c2 c3 hlt HY
            have c0 := (unhide HX).c0
            have c1 := (unhide HX).c1
            have c2 := (unhide HX).c2
            have c3 := (unhide HX).c3
            have hlt := (unhide HX).box.lt
            go_wp2_with fail
            go_region_with (first
              | (go_at_call 141; go_fit (rint_one _); rintro e9 Y1 ⟨⟨v1, rfl, hR1⟩, hb1⟩; obtain ⟨i1, i2, i3, i4, i5, i6, i7, i8, rfl⟩ := hR1.shape; have HK1 := hide ((unhide HK).drew.keep hb1); have HX1 := hide ((unhide HX).drew.keep hb1); have f0 := (unhide HX1).c0; have f1 := (unhide HX1).c1; have f2 := (unhide HX1).c2; have f3 := (unhide HX1).c3; have flt := (unhide HX1).box.lt; clear hb1)
              | (go_at_call 59; go_fit (rqquo_any (N := N) _ (hR1.mono hN2) (unhide HX1).qr (by omega) (by have := (unhide HP).2.1; omega)); rintro e9 Y2 ⟨⟨v2, P2, D2, rfl, hR2, hE⟩, hb2⟩; obtain ⟨hq1, hq2⟩ := hR2.low (p := B) (d := A % B) (by have := (unhide HP).2.1; omega) hE (unhide HP).2.1 (unhide HP).2.2.2 (by rw [Int.one_mul, Int.one_mul]); rw [hq1, hq2] at hR2; clear hq1 hq2 hE; have hR2 := hR2.fit (M := N) (by have h9 := (unhide HAB).1; have h8 : (0 : Int) < 10000 ^ N := Int.pow_pos (by decide); omega) (unhide HBS).big.2.2.1 (unhide HBS).big.2.2.2; obtain ⟨z1, z2, z3, z4, z5, z6, z7, z8, rfl⟩ := hR2.shape; have HK2 := hide ((unhide HK1).keep hb2); have hbx := (unhide HK2).hi.box; obtain ⟨⟨j0, g0⟩, ⟨j1, j2, j3, g1⟩, ⟨j4, g2⟩, ⟨j5, j6, j7, g3⟩, gf⟩ := hbx.cells; have hxlt := hbx.lt; clear hb2))
            all_goals
              go_wp2
              go_roundg (C % D + A % B).toNat
              case measure => have h1 := unhide HGK; have h2 := Int.emod_lt_of_pos C (unhide HCD).1; have h3 := Int.emod_lt_of_pos A (unhide HAB).1; have h4 := (unhide HP).1; have h5 := (unhide HP).2.1; omega
              case rel => exact ⟨L ++ [A / B], D, C % D, B, A % B, _, _, _, _, _, _, _, _, _, _, _, _, _, _, _, _, rfl, HBS, hide (by rw [List.length_append, List.length_singleton]; exact (unhide HK2).putHi hR2)⟩
end Go.Proofs.YtpecanpbkbanhaaGreatDoor
