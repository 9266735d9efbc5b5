/-
 What Product keeps: the columns' rows, made rows beside others.
-/
import Derived.Test.YtkifiolkfdicoaaGreatDoorMEA
import Derived.Test.YtkifiolkfdicoaaGreatDoorMK4
import Derived.Test.YtkifiolkfdicoaaGreatDoorMK5
import Derived.Test.YtkifiolkfdicoaaGreatDoorMKB
import Derived.Test.YtkifiolkfdicoaaGreatDoorMKW
import Derived.ArgAppend
namespace Go.Proofs.YtkifiolkfdicoaaGreatDoor
open Go.RowKit
structure Beside (g : Nat) (w w' : World) : Prop where
 chg : Chg NoWord 52 w w' ∨ Chg NoWord 183 w w' ∨ Chg NoWord 118 w w'
 block : ∀ b, b ≠ g → w'.heap[b]? = w.heap[b]?
theorem Zr.beside {g T : Nat} {w w' : World} {v : Value} {z : Int} (h : Zr T w v z) (hb : Beside g w w') : Zr T w' v z := by
 rcases hb.chg with hc | hc | hc
 · exact h.chg hc noWord_word
 · exact h.chg hc noWord_word
 · exact h.chg hc noWord_word
theorem Rr.beside {g T : Nat} {w w' : World} {v : Value} {p d : Int} (h : Rr T w v p d) (hb : Beside g w w') : Rr T w' v p d := by
 rcases hb.chg with hc | hc | hc
 · exact h.chg hc noWord_word
 · exact h.chg hc noWord_word
 · exact h.chg hc noWord_word
def Zs (T lo hi : Nat) (w : World) (v : Value) (zs : List Int) : Prop := Rows 2 (ZE T) w v zs ∧ ∀ g, v.ownBlock = some g → zs ≠ [] → lo ≤ g ∧ g < hi
theorem Zs.later {T lo hi : Nat} {w w' : World} {v : Value} {zs : List Int} (h : Zs T lo hi w v zs) (hb : Below w.heap.size w w') : Zs T lo hi w' v zs := ⟨h.1.later (ZE.stays (K := NoWord) _ 52 noWord_word) hb, h.2⟩
theorem Zs.mono {T lo hi hi' : Nat} {w : World} {v : Value} {zs : List Int} (h : Zs T lo hi w v zs) (hh : hi ≤ hi') : Zs T lo hi' w v zs := ⟨h.1, fun g hg hn => by have := h.2 g hg hn; omega⟩
theorem Zs.beside {T lo hi g : Nat} {w w' : World} {v : Value} {zs : List Int} (h : Zs T lo hi w v zs) (hb : Beside g w w') (hg : g < lo ∨ hi ≤ g) : Zs T lo hi w' v zs := by
 obtain ⟨⟨a, c, rfl, h1, h2, h3⟩, h4⟩ := h
 refine ⟨⟨a, c, rfl, h1, h2, ?_⟩, h4⟩
 rcases h3 with h3 | ⟨b, o, rfl, h3⟩
 · exact Or.inl h3
 · refine Or.inr ⟨b, o, rfl, fun i x hx => ?_⟩
   obtain ⟨cs, hl, hcs, y1, y2, y3, y4, e, hz⟩ := h3 i x hx
   have hne : b ≠ g := by have := h4 b rfl (fun e => by rw [e] at hx; simp at hx); omega
   exact ⟨cs, hl, fun j u hu => by rw [World.cell?_of_block (a := ⟨b, _, none⟩) (hb.block b hne)]; exact hcs j u hu, y1, y2, y3, y4, e, hz.beside hb⟩
theorem Rr.posD {N : Nat} {w : World} {v : Value} {p d : Int} (h : Rr N w v p d) : 0 < d := by
 obtain ⟨x, a, n, c, y, b, m, k, e, rfl, h2, h3, d0, hg, hd⟩ := h
 exact d0
theorem wpOp_append {P : Program} {ops : Array Oper} {Q : Exit → Act → World → Prop} {i : Nat} {K : Act → World → Prop} {a : Act} {w : World} {o : Oper} (ho : ops[i]? = some o) (hgd : o.guard = none) (s x : Operand) (T : TypeId) (hop : o.op = .call { callee := .builtin .append, args := #[s, x], argTypes := #[T, T] }) {v1 v2 v' : Value} {w' : World} (hs : a.eval s = v1) (hx : a.eval x = v2) (hr : (Builtin.append_ #[T, T] o.type #[v1, v2]).run P w = .ok v' w') (h : K (a.put o.dst v') w') : wpOp P ops Q i K a w := by
 refine wpOp_step ho fun K' hK => ?_
 rw [if_pos (by simp [Region.wanted, hgd])]
 unfold Oper.wp execOp
 simp only [hop, resolve, invoke, builtin, Sem.run_bind, Sem.run_pure, Result.andThen_ok, List.map_toArray, List.map_cons, List.map_nil, hs, hx, hr]
 exact hK _ _ h
theorem Rr.lowD {N : Nat} {w : World} {v : Value} {p d : Int} (h : Rr N w v p d) : Int.gcd p d = 1 := by
 obtain ⟨x, a, n, c, y, b, m, k, e, rfl, h2, h3, d0, hg, hd⟩ := h
 exact hg
theorem Zs.make {T lo : Nat} {w : World} {v : Value} {zs : List Int} (h : Rows 2 (ZE T) w v zs) (hv : ∀ g, v.ownBlock = some g → lo ≤ g) : Zs T lo w.heap.size w v zs := by
 refine ⟨h, fun g hg hn => ⟨hv g hg, ?_⟩⟩
 obtain ⟨a, c, rfl⟩ := h.shape
 obtain ⟨x, hx⟩ : ∃ x, zs[0]? = some x := ⟨zs[0]'(List.length_pos_iff.2 hn), by simp [List.length_pos_iff.2 hn]⟩
 obtain ⟨b, o, rfl, cs, hl, hcs, y1, y2, y3, y4, rfl, _⟩ := h.at hx
 obtain rfl : b = g := by simpa [Value.ownBlock] using hg
 obtain ⟨c', t, f, hb, _⟩ := cell_block (hcs 0 _ rfl)
 exact (Array.getElem?_eq_some_iff.1 hb).1
theorem Fill.beside {N : Nat} {w w' : World} {g g' n : Nat} {L : List (Int × Int)} (h : Fill NoWord 4 (RE N) 52 w g n L) (hb : Beside g' w w') (hne : g ≠ g') : Fill NoWord 4 (RE N) 52 w' g n L := by
 obtain ⟨cur, h1, h2, h3, h4, h5⟩ := h
 refine ⟨cur, by rw [hb.block g hne]; exact h1, h2, h3, h4, fun i x hx => ?_⟩
 obtain ⟨cs, hl, hcs, y1, y2, y3, y4, y5, y6, y7, y8, e, hr⟩ := h5 i x hx
 exact ⟨cs, hl, hcs, y1, y2, y3, y4, y5, y6, y7, y8, e, hr.beside hb⟩
theorem Tab.beside {t : TypeId} {w w' : World} {g g' n : Nat} {f : Nat → Value} (h : Tab t w g n f) (hb : Beside g' w w') (hne : g ≠ g') : Tab t w' g n f := by
 obtain ⟨cur, h1, h2, h3⟩ := h
 exact ⟨cur, by rw [hb.block g hne]; exact h1, h2, h3⟩
theorem Tab.kinds {t : TypeId} {w : World} {g n : Nat} {f : Nat → Value} (h : Tab t w g n f) (hf : ∀ i, i < n → IsSl (f i)) (i : Nat) (v : Value) : Chg NoWord t w (w.setCell ⟨g, i, none⟩ v) := by
 obtain ⟨cur, h1, h2, h3⟩ := h
 refine setCell_chg h1 (fun u hu => ?_) v
 obtain ⟨k, hk⟩ := List.getElem?_of_mem hu
 rw [Array.getElem?_toList] at hk
 have hk' := (Array.getElem?_eq_some_iff.1 hk).1
 have := h3 k (by omega)
 rw [hk] at this
 obtain rfl := Option.some.inj this
 exact (hf k (by omega)).noInt.noWord
theorem Tab.besideZ {w : World} {g n : Nat} {f : Nat → Value} (h : Tab 183 w g n f) (hf : ∀ i, i < n → IsSl (f i)) (i : Nat) (v : Value) : Beside g w (w.setCell ⟨g, i, none⟩ v) := ⟨Or.inr (Or.inl (h.kinds hf i v)), fun _ hb => Below.heap_setCell _ _ _ _ hb⟩
theorem Tab.besideR {w : World} {g n : Nat} {f : Nat → Value} (h : Tab 118 w g n f) (hf : ∀ i, i < n → IsSl (f i)) (i : Nat) (v : Value) : Beside g w (w.setCell ⟨g, i, none⟩ v) := ⟨Or.inr (Or.inr (h.kinds hf i v)), fun _ hb => Below.heap_setCell _ _ _ _ hb⟩
theorem beside_put4 {w : World} {g o : Nat} {u0 u1 u2 u3 : Value} (hc : Chg NoWord 52 w ((((w.setCell ⟨g, o, none⟩ u0).setCell ⟨g, o + 1, none⟩ u1).setCell ⟨g, o + 2, none⟩ u2).setCell ⟨g, o + 3, none⟩ u3)) : Beside g w ((((w.setCell ⟨g, o, none⟩ u0).setCell ⟨g, o + 1, none⟩ u1).setCell ⟨g, o + 2, none⟩ u2).setCell ⟨g, o + 3, none⟩ u3) :=
 ⟨Or.inl hc, fun b hb => by rw [Below.heap_setCell _ _ _ _ hb, Below.heap_setCell _ _ _ _ hb, Below.heap_setCell _ _ _ _ hb, Below.heap_setCell _ _ _ _ hb]⟩
def Scd (L : List (Int × Int)) (zs : List Int) (x : Int × Int) : Prop := 0 < x.1 ∧ 0 < x.2 ∧ zs.length = L.length ∧ ∀ (i : Nat) (z : Int) (y : Int × Int), zs[i]? = some z → L[i]? = some y → z * y.2 * x.2 = y.1 * x.1
structure Cols (M : List (List (Int × Int))) (T R ga gb m lo hi : Nat) (f : Nat → Value) (zz : Nat → List Int) (bs : List (Int × Int)) (w : World) : Prop where
 ta : Tab 183 w ga m f
 fb : Fill NoWord 4 (RE R) 52 w gb m bs
 sl : ∀ i, i < m → IsSl (f i)
 zs : ∀ i x, bs[i]? = some x → Zs T lo hi w (f i) (zz i) ∧ Scd (colOf i M) (zz i) x
 lo : ga < lo ∧ gb < lo ∧ ga ≠ gb ∧ lo ≤ hi
theorem Cols.later {M : List (List (Int × Int))} {T R ga gb m lo hi : Nat} {f : Nat → Value} {zz : Nat → List Int} {bs : List (Int × Int)} {w w' : World} (h : Cols M T R ga gb m lo hi f zz bs w) (hb : Below w.heap.size w w') : Cols M T R ga gb m lo hi f zz bs w' :=
 ⟨h.ta.later hb, h.fb.later (RE.stays _ _ noWord_word) hb, h.sl, fun i x hx => ⟨(h.zs i x hx).1.later hb, (h.zs i x hx).2⟩, h.lo⟩
theorem Cols.mono {M : List (List (Int × Int))} {T R ga gb m lo hi hi' : Nat} {f : Nat → Value} {zz : Nat → List Int} {bs : List (Int × Int)} {w : World} (h : Cols M T R ga gb m lo hi f zz bs w) (hh : hi ≤ hi') : Cols M T R ga gb m lo hi' f zz bs w :=
 ⟨h.ta, h.fb, h.sl, fun i x hx => ⟨(h.zs i x hx).1.mono hh, (h.zs i x hx).2⟩, by have := h.lo; omega⟩
theorem Cols.drew {M : List (List (Int × Int))} {T R ga gb m lo hi : Nat} {f : Nat → Value} {zz : Nat → List Int} {bs : List (Int × Int)} {w : World} (h : Cols M T R ga gb m lo hi f zz bs w) : Cols M T R ga gb m lo hi f zz bs w.drew := h.later (Below.refl _ _).drew
theorem Cols.beside {M : List (List (Int × Int))} {T R ga gb m lo hi g : Nat} {f : Nat → Value} {zz : Nat → List Int} {bs : List (Int × Int)} {w w' : World} (h : Cols M T R ga gb m lo hi f zz bs w) (hb : Beside g w w') (hg : hi ≤ g) : Cols M T R ga gb m lo hi f zz bs w' :=
 ⟨h.ta.beside hb (by have := h.lo; omega), h.fb.beside hb (by have := h.lo; omega), h.sl, fun i x hx => ⟨(h.zs i x hx).1.beside hb (Or.inr hg), (h.zs i x hx).2⟩, h.lo⟩
theorem Cols.next {M : List (List (Int × Int))} {T R ga gb m lo hi : Nat} {f : Nat → Value} {zz : Nat → List Int} {bs : List (Int × Int)} {w : World} (h : Cols M T R ga gb m lo hi f zz bs w) {v : Value} {z : List Int} {x : Int × Int} {u0 u2 : Int} {a1 a3 : Option Addr} {n1 c1 n3 c3 : Nat} (hi' : bs.length < m) (hv : IsSl v) (hz : Zs T lo hi w v z) (hs : Scd (colOf bs.length M) z x) (hr : Rr R w (.agg #[.int .i64 u0, .slice a1 n1 c1, .int .i64 u2, .slice a3 n3 c3]) x.1 x.2) :
   let w' := (((((w.setCell ⟨ga, bs.length, none⟩ v).setCell ⟨gb, bs.length * 4, none⟩ (.int .i64 u0)).setCell ⟨gb, bs.length * 4 + 1, none⟩ (.slice a1 n1 c1)).setCell ⟨gb, bs.length * 4 + 2, none⟩ (.int .i64 u2)).setCell ⟨gb, bs.length * 4 + 3, none⟩ (.slice a3 n3 c3))
   Cols M T R ga gb m lo hi (fun j => if j = bs.length then v else f j) (fun j => if j = bs.length then z else zz j) (bs ++ [x]) w' := by
 intro w'
 obtain ⟨l1, l2, l3, l4⟩ := h.lo
 have b1 := h.ta.besideZ h.sl bs.length v
 have hf1 := h.fb.beside b1 (Ne.symm l3)
 obtain ⟨f2, c2⟩ := hf1.put4 (u0 := .int .i64 u0) (u1 := .slice a1 n1 c1) (u2 := .int .i64 u2) (u3 := .slice a3 n3 c3) (x := x) (RE.stays _ _ noWord_word) hi' (kd_r _ _ _ _ _ _ _ _) ⟨_, _, _, _, _, _, _, _, rfl, hr.beside b1⟩
 have b2 := beside_put4 c2
 refine ⟨(h.ta.set hi' v).beside b2 l3, f2, fun i hi'' => ?_, fun i y hy => ?_, ⟨l1, l2, l3, l4⟩⟩
 · by_cases e : i = bs.length
   · rw [if_pos e]; exact hv
   · rw [if_neg e]; exact h.sl i hi''
 · by_cases e : i = bs.length
   · subst e
     rw [if_pos rfl, if_pos rfl]
     simp at hy
     subst hy
     exact ⟨(hz.beside b1 (Or.inl l1)).beside b2 (Or.inl l2), hs⟩
   · rw [if_neg e, if_neg e]
     have hlt := (List.getElem?_eq_some_iff.1 hy).1
     rw [List.length_append, List.length_singleton] at hlt
     rw [List.getElem?_append_left (by omega)] at hy
     exact ⟨((h.zs i y hy).1.beside b1 (Or.inl l1)).beside b2 (Or.inl l2), (h.zs i y hy).2⟩
theorem RB.beside {N g : Nat} {wr w1 : World} {b : Nat} {x1 : Int} {x2 : Option Addr} {x3 x4 : Nat} {x5 : Int} {x6 : Option Addr} {x7 x8 : Nat} {P D : Int} (h : RB N wr b x1 x2 x3 x4 x5 x6 x7 x8 P D) (hb : Beside g wr w1) (hne : b ≠ g) : RB N w1 b x1 x2 x3 x4 x5 x6 x7 x8 P D := by
 have hc : ∀ o v, wr.cell? ⟨b, o, none⟩ = some v → w1.cell? ⟨b, o, none⟩ = some v := fun o v hv => by rw [World.cell?_of_block (a := ⟨b, o, none⟩) (hb.block b hne)]; exact hv
 obtain ⟨⟨c0, c1, c2, c3⟩, hr⟩ := h
 exact ⟨⟨hc _ _ c0, hc _ _ c1, hc _ _ c2, hc _ _ c3⟩, hr.beside hb⟩
theorem Tab.congr {t : TypeId} {w : World} {g n : Nat} {f f' : Nat → Value} (h : Tab t w g n f) (hf : ∀ k, k < n → f k = f' k) : Tab t w g n f' := by
 obtain ⟨cur, h1, h2, h3⟩ := h
 exact ⟨cur, h1, h2, fun i hi => by rw [h3 i hi, hf i hi]⟩
structure Outs (X : List (Int × Int)) (g1 g2 n m i j : Nat) (AA : Nat → Option Addr) (w : World) : Prop where
 room : Fill NoWord 4 (RE 20000) 52 w g1 (n * m) (X.take (i * m + j))
 tab : Tab 118 w g2 n (fun k => .slice (AA k) (if k < i then m else if k = i then j else 0) m)
theorem Outs.later {X : List (Int × Int)} {g1 g2 n m i j : Nat} {AA : Nat → Option Addr} {w w' : World} (h : Outs X g1 g2 n m i j AA w) (hb : Below w.heap.size w w') : Outs X g1 g2 n m i j AA w' := ⟨h.room.later (RE.stays _ _ noWord_word) hb, h.tab.later hb⟩
theorem Outs.start {X : List (Int × Int)} {g1 g2 n m : Nat} {AA : Nat → Option Addr} {w : World} (h1 : Fill NoWord 4 (RE 20000) 52 w g1 (n * m) []) (h2 : Tab 118 w g2 n (fun i => .slice (AA i) 0 m)) : Outs X g1 g2 n m 0 0 AA w :=
 ⟨by simpa using h1, h2.congr fun k hk => by simp⟩
theorem Outs.next {X : List (Int × Int)} {g1 g2 n m i : Nat} {AA : Nat → Option Addr} {w : World} (h : Outs X g1 g2 n m i m AA w) : Outs X g1 g2 n m (i + 1) 0 AA w :=
 ⟨by have := h.room; rwa [show i * m + m = (i + 1) * m + 0 by rw [Nat.add_mul]; omega] at this, h.tab.congr fun k hk => by
   by_cases h1 : k < i
   · rw [if_pos h1, if_pos (by omega)]
   · by_cases h2 : k = i
     · rw [if_neg h1, if_pos h2, if_pos (by omega)]
     · rw [if_neg h1, if_neg h2, if_neg (by omega)]; simp⟩
theorem dot_scd {P1 D1 P2 D2 : Int} : ∀ (r c : List (Int × Int)) (a b : List Int), c.length = r.length → a.length = r.length → b.length = r.length → (∀ (i : Nat) (z : Int) (y : Int × Int), a[i]? = some z → r[i]? = some y → z * y.2 * D1 = y.1 * P1) → (∀ (i : Nat) (z : Int) (y : Int × Int), b[i]? = some z → c[i]? = some y → z * y.2 * D2 = y.1 * P2) → dot a b * cden r c * (D1 * D2) = cnum r c * (P1 * P2)
 | [], c, a, b, h1, h2, h3, _, _ => by
   obtain rfl : a = [] := List.eq_nil_of_length_eq_zero h2
   simp [dot, cnum]
 | x :: r, [], a, b, h1, _, _, _, _ => by simp at h1
 | x :: r, y :: c, [], b, _, h2, _, _, _ => by simp at h2
 | x :: r, y :: c, p :: a, [], _, _, h3, _, _ => by simp at h3
 | x :: r, y :: c, p :: a, q :: b, h1, h2, h3, h4, h5 => by
   have ih := dot_scd r c a b (by simpa using h1) (by simpa using h2) (by simpa using h3) (fun i z y hz hy => h4 (i + 1) z y (by simpa using hz) (by simpa using hy)) (fun i z y hz hy => h5 (i + 1) z y (by simpa using hz) (by simpa using hy))
   have e1 := h4 0 p x rfl rfl
   have e2 := h5 0 q y rfl rfl
   simp only [dot, cden, cnum]
   generalize dot a b = d at *
   generalize cden r c = e at *
   generalize cnum r c = n at *
   have k1 : p * q * (x.2 * y.2) * (D1 * D2) = x.1 * y.1 * (P1 * P2) := by
     have : p * q * (x.2 * y.2) * (D1 * D2) = (p * x.2 * D1) * (q * y.2 * D2) := by grind
     rw [this, e1, e2]; grind
   have k2 : (p * q + d) * (x.2 * y.2 * e) * (D1 * D2) = (p * q * (x.2 * y.2) * (D1 * D2)) * e + x.2 * y.2 * (d * e * (D1 * D2)) := by grind
   rw [k2, k1, ih]; grind
theorem ent_scd {r c : List (Int × Int)} {a b : List Int} {x1 x2 : Int × Int} {P3 D3 P D : Int} (h1 : Scd r a x1) (h2 : Scd c b x2) (hl : c.length = r.length) (hd : 0 < cden r c) (h3 : P3 * (x1.2 * x2.2) = (x1.1 * x2.1) * D3) (d3 : 0 < D3) (h4 : P * P3 = (dot a b * D3) * D) (d4 : 0 < D) (hg : Int.gcd P D = 1) : ent r c = (P, D) := by
 have e := dot_scd (P1 := x1.1) (D1 := x1.2) (P2 := x2.1) (D2 := x2.2) r c a b hl h1.2.2.1 (by rw [h2.2.2.1, hl]) h1.2.2.2 h2.2.2.2
 have q1 : 0 < x1.2 * x2.2 := Int.mul_pos h1.2.1 h2.2.1
 have q2 : 0 < x1.1 * x2.1 := Int.mul_pos h1.1 h2.1
 have q3 : 0 < P3 * (x1.2 * x2.2) := by rw [h3]; exact Int.mul_pos q2 d3
 refine ent_is hd ?_ d4 hg
 refine Int.eq_of_mul_eq_mul_right (Int.ne_of_gt q3) ?_
 generalize x1.2 * x2.2 = u at *
 generalize x1.1 * x2.1 = v at *
 generalize dot a b = d at *
 generalize cden r c = n at *
 generalize cnum r c = k at *
 have k1 : P * n * (P3 * u) = (P * P3) * n * u := by grind
 have k2 : (d * D3 * D) * n * u = (d * n * u) * D3 * D := by grind
 have k3 : k * v * D3 * D = k * D * (v * D3) := by grind
 rw [k1, h4, k2, e, k3, h3]
structure PrS (w : World) (ys : Nat) (M : List (List (Int × Int))) (ga gb m lo hi : Nat) (f : Nat → Value) (zz : Nat → List Int) (bs X : List (Int × Int)) (g1 g2 n k j : Nat) (AA : Nat → Option Addr) (lo2 q : Nat) (va : Value) (a : List Int) (r1 : Int) (r2 : Option Addr) (r3 r4 : Nat) (r5 : Int) (r6 : Option Addr) (r7 r8 : Nat) (P D : Int) (Z : World → Prop) (jr : Nat) (wr : World) : Prop where
 below : Below w.heap.size w wr
 ys : ys ≤ wr.heap.size
 cols : Cols M 547 1100 ga gb m lo hi f zz bs wr
 room : Fill NoWord 4 (RE 20000) 52 wr g1 (n * m) (X.take (k * m + jr))
 tab : Tab 118 wr g2 n (fun i => .slice (AA i) (if i < k then m else if i = k then j else 0) m)
 zs : Zs 547 lo2 q wr va a
 rb : RB 1100 wr q r1 r2 r3 r4 r5 r6 r7 r8 P D
 z : Z wr
theorem PrS.later {w : World} {ys : Nat} {M : List (List (Int × Int))} {ga gb m lo hi : Nat} {f : Nat → Value} {zz : Nat → List Int} {bs X : List (Int × Int)} {g1 g2 n k j : Nat} {AA : Nat → Option Addr} {lo2 q : Nat} {va : Value} {a : List Int} {r1 : Int} {r2 : Option Addr} {r3 r4 : Nat} {r5 : Int} {r6 : Option Addr} {r7 r8 : Nat} {P D : Int} {Z : World → Prop} {jr : Nat} {wr w' : World} (h : PrS w ys M ga gb m lo hi f zz bs X g1 g2 n k j AA lo2 q va a r1 r2 r3 r4 r5 r6 r7 r8 P D Z jr wr) (hZ : ∀ W W' : World, Z W → Below W.heap.size W W' → Z W') (hb : Below wr.heap.size wr w') : PrS w ys M ga gb m lo hi f zz bs X g1 g2 n k j AA lo2 q va a r1 r2 r3 r4 r5 r6 r7 r8 P D Z jr w' :=
 ⟨below_keep hb h.below, Nat.le_trans h.ys hb.size, h.cols.later hb, h.room.later (RE.stays _ _ noWord_word) hb, h.tab.later hb, h.zs.later hb, h.rb.keep hb, hZ _ _ h.z hb⟩
def ZB (gb j : Nat) (s1 : Int) (s2 : Option Addr) (s3 s4 : Nat) (s5 : Int) (s6 : Option Addr) (s7 s8 : Nat) (p d : Int) (W : World) : Prop := (W.cell? ⟨gb, j * 4, none⟩ = some (.int .i64 s1) ∧ W.cell? ⟨gb, j * 4 + 1, none⟩ = some (.slice s2 s3 s4) ∧ W.cell? ⟨gb, j * 4 + 2, none⟩ = some (.int .i64 s5) ∧ W.cell? ⟨gb, j * 4 + 3, none⟩ = some (.slice s6 s7 s8)) ∧ Rr 1100 W (.agg #[.int .i64 s1, .slice s2 s3 s4, .int .i64 s5, .slice s6 s7 s8]) p d
theorem ZB.later {gb j : Nat} {s1 : Int} {s2 : Option Addr} {s3 s4 : Nat} {s5 : Int} {s6 : Option Addr} {s7 s8 : Nat} {p d : Int} (W W' : World) (h : ZB gb j s1 s2 s3 s4 s5 s6 s7 s8 p d W) (hb : Below W.heap.size W W') : ZB gb j s1 s2 s3 s4 s5 s6 s7 s8 p d W' :=
 ⟨⟨cell_keep hb h.1.1, cell_keep hb h.1.2.1, cell_keep hb h.1.2.2.1, cell_keep hb h.1.2.2.2⟩, h.2.later hb⟩
theorem ZB.beside {gb j g : Nat} {s1 : Int} {s2 : Option Addr} {s3 s4 : Nat} {s5 : Int} {s6 : Option Addr} {s7 s8 : Nat} {p d : Int} (hne : gb ≠ g) (W W' : World) (h : ZB gb j s1 s2 s3 s4 s5 s6 s7 s8 p d W) (hb : Beside g W W') : ZB gb j s1 s2 s3 s4 s5 s6 s7 s8 p d W' := by
 have hc : ∀ o v, W.cell? ⟨gb, o, none⟩ = some v → W'.cell? ⟨gb, o, none⟩ = some v := fun o v hv => by rw [World.cell?_of_block (a := ⟨gb, o, none⟩) (hb.block gb hne)]; exact hv
 exact ⟨⟨hc _ _ h.1.1, hc _ _ h.1.2.1, hc _ _ h.1.2.2.1, hc _ _ h.1.2.2.2⟩, h.2.beside hb⟩
theorem PrS.store {w : World} {ys : Nat} {M : List (List (Int × Int))} {ga gb m lo hi : Nat} {f : Nat → Value} {zz : Nat → List Int} {bs X : List (Int × Int)} {g1 g2 n k j : Nat} {AA : Nat → Option Addr} {lo2 q : Nat} {va : Value} {a : List Int} {r1 : Int} {r2 : Option Addr} {r3 r4 : Nat} {r5 : Int} {r6 : Option Addr} {r7 r8 : Nat} {P D : Int} {Z : World → Prop} {W : World} (h : PrS w ys M ga gb m lo hi f zz bs X g1 g2 n k j AA lo2 q va a r1 r2 r3 r4 r5 r6 r7 r8 P D Z (j + 1) W) (hZ : ∀ W W' : World, Z W → Beside g2 W W' → Z W') (hk : k < n) (hg : hi ≤ g2) (hg12 : g1 ≠ g2) (hlo : g2 < lo2) (hlq : lo2 ≤ q) (hw : w.heap.size ≤ g2) :
   PrS w ys M ga gb m lo hi f zz bs X g1 g2 n k (j + 1) AA lo2 q va a r1 r2 r3 r4 r5 r6 r7 r8 P D Z (j + 1) (W.setCell ⟨g2, k, none⟩ (.slice (AA k) (j + 1) m)) ∧ Beside g2 W (W.setCell ⟨g2, k, none⟩ (.slice (AA k) (j + 1) m)) := by
 have hbe := h.tab.besideR (fun i _ => ⟨_, _, _, rfl⟩) k (.slice (AA k) (j + 1) m)
 refine ⟨⟨h.below.setCell (p := ⟨g2, k, none⟩) hw _, by simpa using h.ys, h.cols.beside hbe hg, h.room.beside hbe hg12, (h.tab.set hk _).congr fun i hi => ?_, h.zs.beside hbe (Or.inl hlo), h.rb.beside hbe (by omega), hZ _ _ h.z hbe⟩, hbe⟩
 by_cases e : i = k
 · subst e
   rw [if_pos rfl, if_neg (by omega), if_pos rfl]
 · rw [if_neg e, if_neg e]
   by_cases e2 : i < k
   · rw [if_pos e2, if_pos e2]
   · rw [if_neg e2, if_neg e2, if_neg e]
theorem PrS.append {w : World} {ys : Nat} {M : List (List (Int × Int))} {ga gb m lo hi : Nat} {f : Nat → Value} {zz : Nat → List Int} {bs X : List (Int × Int)} {g1 g2 n k j : Nat} {AA : Nat → Option Addr} {lo2 q : Nat} {va : Value} {a : List Int} {r1 : Int} {r2 : Option Addr} {r3 r4 : Nat} {r5 : Int} {r6 : Option Addr} {r7 r8 : Nat} {P D : Int} {Z : World → Prop} {W : World} {gq : Nat} {t1 : Int} {t2 : Option Addr} {t3 t4 : Nat} {t5 : Int} {t6 : Option Addr} {t7 t8 : Nat} {x : Int × Int} (h : PrS w ys M ga gb m lo hi f zz bs X g1 g2 n k j AA lo2 q va a r1 r2 r3 r4 r5 r6 r7 r8 P D Z j W) (hZ : ∀ W W' : World, Z W → Beside g1 W W' → Z W') (ht : RB 20000 W gq t1 t2 t3 t4 t5 t6 t7 t8 x.1 x.2) (hx : X[k * m + j]? = some x) (hk : k < n) (hj : j < m) (hA : AA k = some ⟨g1, k * m * 4, none⟩) (hg : hi ≤ g1) (hg12 : g1 ≠ g2) (hlo : g1 < lo2) (hlq : lo2 ≤ q) (hw : w.heap.size ≤ g1) :
   (Builtin.append_ #[118, 118] 118 #[.slice (AA k) j m, .slice (some ⟨gq, 0, none⟩) 1 1]).run Tryz.prog W = .ok (.slice (AA k) (j + 1) m) ((((W.setCell ⟨g1, (k * m + j) * 4, none⟩ (.int .i64 t1)).setCell ⟨g1, (k * m + j) * 4 + 1, none⟩ (.slice t2 t3 t4)).setCell ⟨g1, (k * m + j) * 4 + 2, none⟩ (.int .i64 t5)).setCell ⟨g1, (k * m + j) * 4 + 3, none⟩ (.slice t6 t7 t8)) ∧ PrS w ys M ga gb m lo hi f zz bs X g1 g2 n k j AA lo2 q va a r1 r2 r3 r4 r5 r6 r7 r8 P D Z (j + 1) ((((W.setCell ⟨g1, (k * m + j) * 4, none⟩ (.int .i64 t1)).setCell ⟨g1, (k * m + j) * 4 + 1, none⟩ (.slice t2 t3 t4)).setCell ⟨g1, (k * m + j) * 4 + 2, none⟩ (.int .i64 t5)).setCell ⟨g1, (k * m + j) * 4 + 3, none⟩ (.slice t6 t7 t8)) ∧ Beside g1 W ((((W.setCell ⟨g1, (k * m + j) * 4, none⟩ (.int .i64 t1)).setCell ⟨g1, (k * m + j) * 4 + 1, none⟩ (.slice t2 t3 t4)).setCell ⟨g1, (k * m + j) * 4 + 2, none⟩ (.int .i64 t5)).setCell ⟨g1, (k * m + j) * 4 + 3, none⟩ (.slice t6 t7 t8)) := by
 have hlen : (X.take (k * m + j)).length = k * m + j := by
   rw [List.length_take]; have := (List.getElem?_eq_some_iff.1 hx).1; omega
 have hlt : k * m + j < n * m := by
   have h1 : (k + 1) * m ≤ n * m := Nat.mul_le_mul_right _ hk
   rw [Nat.add_mul] at h1; omega
 obtain ⟨f2, c2⟩ := h.room.put4 (u0 := .int .i64 t1) (u1 := .slice t2 t3 t4) (u2 := .int .i64 t5) (u3 := .slice t6 t7 t8) (x := x) (RE.stays _ _ noWord_word) (by rw [hlen]; exact hlt) (kd_r _ _ _ _ _ _ _ _) ⟨_, _, _, _, _, _, _, _, rfl, ht.r⟩
 rw [hlen] at f2 c2
 have hbe := beside_put4 c2
 refine ⟨?_, ⟨below_put4 h.below hw _ _ _ _, by simpa using h.ys, h.cols.beside hbe hg, ?_, h.tab.beside hbe (Ne.symm hg12), h.zs.beside hbe (Or.inl hlo), h.rb.beside hbe (by omega), hZ _ _ h.z hbe⟩, hbe⟩
 · obtain ⟨i0, hi0, hz0, hz1, hz2⟩ := info_parts info_r
   have hoff : ∀ o, o < 4 → k * m * 4 + j * i0.size + o = (k * m + j) * 4 + o := fun o ho => by rw [hz1]; omega
   have hrun := run_append_room_cells (P := Tryz.prog) W 118 118 52 i0 Tryz.underlying118 hi0 g1 (k * m * 4) j m ⟨gq, 0, none⟩ 1 1 [.int .i64 t1, .slice t2 t3 t4, .int .i64 t5, .slice t6 t7 t8] (by rw [hz1]; rfl) (fun o u hu => ?_) (one_r _ _ _ _ _ _ _ _) hj (fun o ho => ?_) (fun o ho => h.room.free _)
   · rw [hA, hrun, hz1, show k * m * 4 + j * 4 = (k * m + j) * 4 by omega]
     rfl
   · match o, hu with
     | 0, hu => obtain rfl : _ = u := by simpa using hu
                exact ht.c.1
     | 1, hu => obtain rfl : _ = u := by simpa using hu
                exact ht.c.2.1
     | 2, hu => obtain rfl : _ = u := by simpa using hu
                exact ht.c.2.2.1
     | 3, hu => obtain rfl : _ = u := by simpa using hu
                exact ht.c.2.2.2
   · rw [hoff o (by simpa using ho)]
     obtain ⟨u, hu⟩ := h.room.cell (o := (k * m + j) * 4 + o) (by simp at ho; omega)
     rw [hu]; rfl
 · rw [← Nat.add_assoc, take_next hx]; exact f2
theorem Cols.at {M : List (List (Int × Int))} {T ga gb m lo hi j : Nat} {f : Nat → Value} {zz : Nat → List Int} {bs : List (Int × Int)} {W : World} {x : Int × Int} (h : Cols M T 1100 ga gb m lo hi f zz bs W) (hx : bs[j]? = some x) : ∃ s1 s2 s3 s4 s5 s6 s7 s8, ZB gb j s1 s2 s3 s4 s5 s6 s7 s8 x.1 x.2 W := by
 obtain ⟨cur, h1, h2, h3, h4, h5⟩ := h.fb
 obtain ⟨cs, hl, hcs, s1, s2, s3, s4, s5, s6, s7, s8, rfl, hr⟩ := h5 j x hx
 exact ⟨s1, s2, s3, s4, s5, s6, s7, s8, ⟨block_cell h1 (hcs 0 _ rfl), block_cell h1 (hcs 1 _ rfl), block_cell h1 (hcs 2 _ rfl), block_cell h1 (hcs 3 _ rfl)⟩, hr⟩
theorem cden_pos : ∀ (a b : List (Int × Int)), (∀ x ∈ a, 0 < x.2) → (∀ x ∈ b, 0 < x.2) → 0 < cden a b
 | [], _, _, _ => by simp [cden]
 | _ :: _, [], _, _ => by simp [cden]
 | x :: a, y :: b, h1, h2 => by
   simp only [cden]
   exact Int.mul_pos (Int.mul_pos (h1 x (by simp)) (h2 y (by simp))) (cden_pos a b (fun z hz => h1 z (by simp [hz])) (fun z hz => h2 z (by simp [hz])))
theorem Rows.dens {N : Nat} {w : World} {v : Value} {r : List (Int × Int)} (h : Rows 4 (RE N) w v r) : ∀ x ∈ r, 0 < x.2 := by
 intro x hx
 obtain ⟨i, hi⟩ := List.getElem?_of_mem hx
 obtain ⟨a, c, rfl⟩ := h.shape
 obtain ⟨b, o, _, cs, _, _, y1, y2, y3, y4, y5, y6, y7, y8, _, hr⟩ := h.at hi
 exact hr.posD
theorem Rows.colDens {N c : Nat} {w : World} {v : Value} {M : List (List (Int × Int))} (h : Rows 1 (LE 4 (RE N)) w v M) : ∀ x ∈ colOf c M, 0 < x.2 := by
 intro x hx
 rw [colOf, List.mem_map] at hx
 obtain ⟨r, hr, rfl⟩ := hx
 obtain ⟨i, hi⟩ := List.getElem?_of_mem hr
 obtain ⟨a, d, rfl⟩ := h.shape
 obtain ⟨b, o, _, cs, _, _, u, _, hu⟩ := h.at hi
 rw [List.getD_eq_getElem?_getD]
 rcases hc : r[c]? with _ | y
 · show (0 : Int) < 1; decide
 · exact hu.dens y (List.mem_of_getElem? hc)
theorem flat_at {α : Type} {m : Nat} : ∀ (T : List (List α)) (k j : Nat) (r : List α) (x : α), (∀ r ∈ T, r.length = m) → T[k]? = some r → r[j]? = some x → T.flatten[k * m + j]? = some x
 | [], _, _, _, _, _, h, _ => by simp at h
 | t :: T, 0, j, r, x, hm, h, hx => by
   obtain rfl : t = r := by simpa using h
   rw [List.flatten_cons, Nat.zero_mul, Nat.zero_add, List.getElem?_append_left (List.getElem?_eq_some_iff.1 hx).1]
   exact hx
 | t :: T, k + 1, j, r, x, hm, h, hx => by
   have hl := hm t (by simp)
   have ih := flat_at T k j r x (fun r hr => hm r (by simp [hr])) (by simpa using h) hx
   rw [List.flatten_cons, List.getElem?_append_right (by rw [hl, Nat.add_mul]; omega), hl, show (k + 1) * m + j - m = k * m + j by rw [Nat.add_mul]; omega]
   exact ih
theorem prod_at {L M : List (List (Int × Int))} {r : List (Int × Int)} {k j : Nat} (h : L[k]? = some r) (hj : j < wide M) : (prodT L M).flatten[k * wide M + j]? = some (ent r (colOf j M)) := by
 refine flat_at (m := wide M) (prodT L M) k j ((List.range (wide M)).map fun j => ent r (colOf j M)) _ (fun r hr => ?_) ?_ ?_
 · rw [prodT, List.mem_map] at hr
   obtain ⟨s, _, rfl⟩ := hr
   simp
 · rw [prodT, List.getElem?_map, h]; rfl
 · rw [List.getElem?_map, List.getElem?_range hj]; rfl
def PW (S : Nat → World → Prop) (E : World → Prop) (j : Nat) (L : Nat → Bool) (w : World) : Prop := (L 17 = false ∧ L 19 = false ∧ S j w) ∨ (L 17 = true ∧ L 19 = false ∧ S (j + 1) w) ∨ (L 19 = true ∧ (∀ i, i < 20 → L i = true) ∧ E w)
theorem PW.open {S : Nat → World → Prop} {E : World → Prop} {j i : Nat} {L : Nat → Bool} {w : World} (h : PW S E j L w) (hi : L i = false) (h20 : i < 20) (h17 : i ≠ 17) (h19 : i ≠ 19) : ∃ jr, S jr w ∧ ∀ w', S jr w' → PW S E j (fun j => if j = i then true else L j) w' := by
 rcases h with ⟨a1, a2, a3⟩ | ⟨a1, a2, a3⟩ | ⟨_, a2, _⟩
 · exact ⟨j, a3, fun w' h => Or.inl ⟨by show (if 17 = i then true else L 17) = _; rw [if_neg (Ne.symm h17)]; exact a1, by show (if 19 = i then true else L 19) = _; rw [if_neg (Ne.symm h19)]; exact a2, h⟩⟩
 · exact ⟨j + 1, a3, fun w' h => Or.inr (Or.inl ⟨by show (if 17 = i then true else L 17) = _; rw [if_neg (Ne.symm h17)]; exact a1, by show (if 19 = i then true else L 19) = _; rw [if_neg (Ne.symm h19)]; exact a2, h⟩)⟩
 · rw [a2 i h20] at hi; cases hi
def PF (_g1 g2 gb n k m j lo2 : Nat) (AA : Nat → Option Addr) (va vf : Value) (S P D P' D' : Int) (R R' : Value) (x : Int × Int) : Nat → Value → World → Prop
 | 0, v, _ => v = .slice (some ⟨g2, 0, none⟩) n n
 | 1, v, _ => v = .int .i64 (k : Int)
 | 2, v, _ => v = .slice (some ⟨g2, 0, none⟩) n n
 | 3, v, _ => v = .int .i64 (k : Int)
 | 4, v, _ => v = .pointer (some ⟨g2, k, none⟩)
 | 5, v, _ => v = .slice (AA k) j m
 | 6, v, _ => v = va
 | 7, v, _ => v = vf
 | 8, v, w => Zr 1095 w v S
 | 9, v, _ => v = R
 | 10, v, _ => v = .slice (some ⟨gb, 0, none⟩) m m
 | 11, v, _ => v = .int .i64 (j : Int)
 | 12, v, _ => v = .pointer (some ⟨gb, j * 4, none⟩)
 | 13, v, _ => v = R'
 | 14, v, w => ∃ P3 D3, Rr 4406 w v P3 D3 ∧ P3 * (D * D') = (P * P') * D3
 | 15, v, w => Rr 20000 w v x.1 x.2
 | 16, v, w => ∃ gq t1 t2 t3 t4 t5 t6 t7 t8, v = .slice (some ⟨gq, 0, none⟩) 1 1 ∧ lo2 ≤ gq ∧ RB 20000 w gq t1 t2 t3 t4 t5 t6 t7 t8 x.1 x.2
 | 17, v, _ => v = .slice (AA k) (j + 1) m
 | 18, v, _ => v = .pointer (some ⟨g2, k, none⟩)
 | _, _, _ => True
theorem PF.later {g1 g2 gb n k m j lo2 i : Nat} {AA : Nat → Option Addr} {va vf : Value} {S P D P' D' : Int} {R R' : Value} {x : Int × Int} {v : Value} {w w' : World} (h : PF g1 g2 gb n k m j lo2 AA va vf S P D P' D' R R' x i v w) (hb : Below w.heap.size w w') : PF g1 g2 gb n k m j lo2 AA va vf S P D P' D' R R' x i v w' := by
 rcases i with _ | _ | _ | _ | _ | _ | _ | _ | _ | _ | _ | _ | _ | _ | _ | _ | _ | _ | _ | _
 all_goals first | exact h | exact Zr.later h hb | exact Rr.later h hb | skip
 · obtain ⟨P3, D3, h1, h2⟩ := h
   exact ⟨P3, D3, h1.later hb, h2⟩
 · obtain ⟨gq, t1, t2, t3, t4, t5, t6, t7, t8, h1, h2, h3⟩ := h
   exact ⟨gq, t1, t2, t3, t4, t5, t6, t7, t8, h1, h2, h3.keep hb⟩
theorem PF.beside {g1 g2 gb n k m j lo2 i g : Nat} {AA : Nat → Option Addr} {va vf : Value} {S P D P' D' : Int} {R R' : Value} {x : Int × Int} {v : Value} {w w' : World} (h : PF g1 g2 gb n k m j lo2 AA va vf S P D P' D' R R' x i v w) (hb : Beside g w w') (hg : g < lo2) : PF g1 g2 gb n k m j lo2 AA va vf S P D P' D' R R' x i v w' := by
 rcases i with _ | _ | _ | _ | _ | _ | _ | _ | _ | _ | _ | _ | _ | _ | _ | _ | _ | _ | _ | _
 all_goals first | exact h | exact Zr.beside h hb | exact Rr.beside h hb | skip
 · obtain ⟨P3, D3, h1, h2⟩ := h
   exact ⟨P3, D3, h1.beside hb, h2⟩
 · obtain ⟨gq, t1, t2, t3, t4, t5, t6, t7, t8, h1, h2, h3⟩ := h
   exact ⟨gq, t1, t2, t3, t4, t5, t6, t7, t8, h1, h2, h3.beside hb (by omega)⟩
theorem Outs.rows {T : List (List (Int × Int))} {g1 g2 n m : Nat} {AA : Nat → Option Addr} {w : World} (h : Outs T.flatten g1 g2 n m n 0 AA w) (hT : T.length = n) (hm : ∀ r ∈ T, r.length = m) (hn : n ≤ 6) (hm6 : m ≤ 6) (hA : ∀ i, i < n → 0 < m → AA i = some ⟨g1, i * m * 4, none⟩) : Rows 1 (LE 4 (RE 20000)) w (.slice (some ⟨g2, 0, none⟩) n n) T := by
 refine ⟨_, n, by rw [hT], by omega, by unfold maxLen; omega, Or.inr ⟨g2, 0, rfl, fun i r hr => ⟨[.slice (AA i) m m], rfl, fun j u hu => ?_, ⟨_, rfl, ?_⟩⟩⟩⟩
 · have hi : i < n := by rw [← hT]; exact (List.getElem?_eq_some_iff.1 hr).1
   have hj : j = 0 := by have := (List.getElem?_eq_some_iff.1 hu).1; simpa using this
   subst hj
   obtain rfl : _ = u := by simpa using hu
   have hc := h.tab.cell hi
   rw [if_pos hi] at hc
   rw [show 0 + (i * 1 + 0) = i by omega]
   exact hc
 · have hi : i < n := by rw [← hT]; exact (List.getElem?_eq_some_iff.1 hr).1
   have hrl := hm r (List.mem_of_getElem? hr)
   rcases Nat.eq_zero_or_pos m with h0 | h0
   · exact ⟨_, m, by rw [hrl], by omega, by unfold maxLen; omega, Or.inl (List.eq_nil_of_length_eq_zero (by omega))⟩
   · refine ⟨_, m, by rw [hrl], by omega, by unfold maxLen; omega, Or.inr ⟨g1, i * m * 4, hA i hi h0, fun j x hx => ?_⟩⟩
     have hj : j < m := by rw [← hrl]; exact (List.getElem?_eq_some_iff.1 hx).1
     have hX := flat_at T i j r x hm hr hx
     have hlt : i * m + j < n * m := by
       have h1 : (i + 1) * m ≤ n * m := Nat.mul_le_mul_right _ hi
       rw [Nat.add_mul] at h1; omega
     obtain ⟨cur, h1, h2, h3, h4, h5⟩ := h.room
     obtain ⟨cs, hl, hcs, he⟩ := h5 (i * m + j) x (by rw [List.getElem?_take, if_pos (by omega)]; exact hX)
     exact ⟨cs, hl, fun o u hu => by rw [show i * m * 4 + (j * 4 + o) = (i * m + j) * 4 + o by omega]; exact block_cell h1 (hcs o u hu), he⟩
theorem prodT_len {L M : List (List (Int × Int))} : (prodT L M).length = L.length ∧ ∀ r ∈ prodT L M, r.length = wide M := by
 refine ⟨by simp [prodT], fun r hr => ?_⟩
 rw [prodT, List.mem_map] at hr
 obtain ⟨s, _, rfl⟩ := hr
 simp
end Go.Proofs.YtkifiolkfdicoaaGreatDoor
