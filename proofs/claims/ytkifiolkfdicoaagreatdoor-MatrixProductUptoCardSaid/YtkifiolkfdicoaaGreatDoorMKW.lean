/-
 Walks over package matrix: scaled.
-/
import Derived.Test.YtkifiolkfdicoaaGreatDoorMK5
import Derived.Test.YtkifiolkfdicoaaGreatDoorMK6
namespace Go.Proofs.YtkifiolkfdicoaaGreatDoor
open Go.RowKit
theorem ScK.putAb {A : Nat → Addr} {w w1 : World} {b1 b2 T : Nat} {a a' s x1 y1 u1 : Int} {x2 y2 u2 : Option Addr} {x3 x4 y3 y4 u3 u4 : Nat} (h : ScK A w b1 b2 T a s x1 x2 x3 x4 y1 y2 y3 y4 w1) (hz : Zr T w1 (.agg #[.int .i64 u1, .slice u2 u3 u4]) a') (hA : Env A w) : ScK A w b1 b2 T a' s u1 u2 u3 u4 y1 y2 y3 y4 ((w1.setCell ⟨b1, 0, none⟩ (.int .i64 u1)).setCell ⟨b1, 1, none⟩ (.slice u2 u3 u4)) := by
 have hb := below_stored h.below (Nat.le_of_lt h.l1) (.int .i64 u1) (.slice u2 u3 u4)
 exact ⟨hb, hA.later hb, h.ret.aside2 (by have := h.l1; omega) _ _, h.ab.store hz, h.sh.other h.ab.box (Ne.symm h.ne) _ _ _ _, h.l1, h.l2, h.ne⟩
theorem ScK.putSh {A : Nat → Addr} {w w1 : World} {b1 b2 T : Nat} {a s s' x1 y1 u1 : Int} {x2 y2 u2 : Option Addr} {x3 x4 y3 y4 u3 u4 : Nat} (h : ScK A w b1 b2 T a s x1 x2 x3 x4 y1 y2 y3 y4 w1) (hz : Zr T w1 (.agg #[.int .i64 u1, .slice u2 u3 u4]) s') (hA : Env A w) : ScK A w b1 b2 T a s' x1 x2 x3 x4 u1 u2 u3 u4 ((w1.setCell ⟨b2, 0, none⟩ (.int .i64 u1)).setCell ⟨b2, 1, none⟩ (.slice u2 u3 u4)) := by
 have hb := below_stored h.below (Nat.le_of_lt h.l2) (.int .i64 u1) (.slice u2 u3 u4)
 exact ⟨hb, hA.later hb, h.ret.aside2 (by have := h.l2; omega) _ _, h.ab.other h.sh.box h.ne _ _ _ _, h.sh.store hz, h.l1, h.l2, h.ne⟩
def Abv (N : Nat) (L : List (Int × Int)) (i : Nat) (a : Int) : Prop := 0 < a ∧ a < pw (N * i + 1) ∧ ∀ x ∈ L.take i, x.2 ∣ a
theorem Abv.next {N : Nat} {L : List (Int × Int)} {i : Nat} {a g q : Int} {x : Int × Int} (h : Abv N L i a) (hx : L[i]? = some x) (d0 : 0 < x.2) (dN : x.2 < pw N) (hg : g = (Int.gcd a x.2 : Int)) (hq : q * g = a) : Abv N L (i + 1) (q * x.2) := by
 obtain ⟨h1, h2, h3⟩ := h
 obtain ⟨k1, k2, k3, k4, _⟩ := lcm_next h1 d0 hg hq
 refine ⟨k1, ?_, all_next hx (fun y hy => Int.dvd_trans (h3 y hy) k2) k3⟩
 rw [show N * (i + 1) + 1 = (N * i + 1) + N by rw [Nat.mul_add]; omega, pw_add]
 have e1 : a * x.2 < pw (N * i + 1) * x.2 := Int.mul_lt_mul_of_pos_right h2 d0
 have e2 : pw (N * i + 1) * x.2 ≤ pw (N * i + 1) * pw N := Int.mul_le_mul_of_nonneg_left (by omega) (Int.le_of_lt (pw_pos _))
 omega
theorem Rr.den {N : Nat} {w : World} {v : Value} {p d : Int} (h : Rr (N + 1) w v p d) : 0 < d ∧ d < pw (N + 1) ∧ -pw (N + 1) < p ∧ p < pw (N + 1) := by
 obtain ⟨x, a, n, c, y, b, m, k, e, rfl, h2, h3, d0, hg, hd⟩ := h
 refine ⟨d0, ?_, h2.inside.1, h2.inside.2⟩
 rcases hd with ⟨rfl, _⟩ | ⟨_, rfl⟩
 · rw [pw_succ]; have := pw_pos N; omega
 · exact h3.inside.2
def ScW (A : Nat → Addr) (w : World) (b1 b2 T : Nat) (a q : Int) (x : Int × Int) (x1 : Int) (x2 : Option Addr) (x3 x4 : Nat) (p1 : Int) (p2 : Option Addr) (p3 p4 : Nat) (p5 : Int) (p6 : Option Addr) (p7 p8 : Nat) (br M : Nat) (L : Nat → Bool) (wr : World) : Prop :=
 (L 9 = false ∧ ScK A w b1 b2 T a 0 x1 x2 x3 x4 0 none 0 0 wr ∧ RB M wr br p1 p2 p3 p4 p5 p6 p7 p8 x.1 x.2) ∨ (L 9 = true ∧ (∀ i, i < 10 → L i = true) ∧ ∃ m1 m2 m3 m4, ScK A w b1 b2 T (q * x.2) 0 m1 m2 m3 m4 0 none 0 0 wr)
def ScF (M : Nat) (_a g q : Int) (x : Int × Int) (x1 : Int) (x2 : Option Addr) (x3 x4 : Nat) (p1 : Int) (p2 : Option Addr) (p3 p4 : Nat) (p5 : Int) (p6 : Option Addr) (p7 p8 : Nat) : Nat → Value → World → Prop
 | 0, v, _ => v = .agg #[.int .i64 x1, .slice x2 x3 x4]
 | 1, v, _ => v = .agg #[.int .i64 x1, .slice x2 x3 x4]
 | 2, v, _ => v = .agg #[.int .i64 p1, .slice p2 p3 p4, .int .i64 p5, .slice p6 p7 p8]
 | 3, v, wr => Zr M wr v x.2
 | 4, v, wr => Zr (2 * (M + 6 * M + 1) + 1) wr v g
 | 5, v, wr => Zr (2 * (M + 6 * M + 1) + 3) wr v q
 | 6, v, _ => v = .agg #[.int .i64 p1, .slice p2 p3 p4, .int .i64 p5, .slice p6 p7 p8]
 | 7, v, wr => Zr M wr v x.2
 | 8, v, wr => Zr (M + 6 * M + 1) wr v (q * x.2)
 | _, _, _ => True
theorem ScF.later {M : Nat} {a g q : Int} {x : Int × Int} {x1 p1 p5 : Int} {x2 p2 p6 : Option Addr} {x3 x4 p3 p4 p7 p8 j : Nat} {v : Value} {wr w1 : World} (h : ScF M a g q x x1 x2 x3 x4 p1 p2 p3 p4 p5 p6 p7 p8 j v wr) (hb : Below wr.heap.size wr w1) : ScF M a g q x x1 x2 x3 x4 p1 p2 p3 p4 p5 p6 p7 p8 j v w1 := by
 rcases j with _ | _ | _ | _ | _ | _ | _ | _ | _ | _
 · exact h
 · exact h
 · exact h
 · exact Zr.later h hb
 · exact Zr.later h hb
 · exact Zr.later h hb
 · exact h
 · exact Zr.later h hb
 · exact Zr.later h hb
 · exact h
theorem ScF.stored {M : Nat} {a g q : Int} {x : Int × Int} {x1 p1 p5 : Int} {x2 p2 p6 : Option Addr} {x3 x4 p3 p4 p7 p8 j b : Nat} {v : Value} {wr : World} (h : ScF M a g q x x1 x2 x3 x4 p1 p2 p3 p4 p5 p6 p7 p8 j v wr) (hb : Box wr b) (u u' : Value) : ScF M a g q x x1 x2 x3 x4 p1 p2 p3 p4 p5 p6 p7 p8 j v ((wr.setCell ⟨b, 0, none⟩ u).setCell ⟨b, 1, none⟩ u') := by
 rcases j with _ | _ | _ | _ | _ | _ | _ | _ | _ | _
 · exact h
 · exact h
 · exact h
 · exact Zr.stored h hb _ _
 · exact Zr.stored h hb _ _
 · exact Zr.stored h hb _ _
 · exact h
 · exact Zr.stored h hb _ _
 · exact Zr.stored h hb _ _
 · exact h
def Scz (T : Nat) (L : List (Int × Int)) (i : Nat) (a : Int) (zs : List Int) (s : Int) : Prop := zs = (L.take i).map (fun x => x.1 * (a / x.2)) ∧ 0 ≤ s ∧ s < pw T ∧ (∀ z ∈ zs, s ∣ z) ∧ (s = 0 → ∀ z ∈ zs, z = 0)
theorem Box.lt {w : World} {r : Nat} (h : Box w r) : r < w.heap.size := by
 obtain ⟨x, a, n, c, h⟩ := h
 exact (Array.getElem?_eq_some_iff.1 h).1
theorem allown {K : Value → Prop} {k : Nat} {α : Type} {E : World → List Value → α → Prop} {t : TypeId} {w : World} {base : Nat} {v : Value} {L : List α} (h : OwnR K k E t w base v L) : ∀ g, v.ownBlock = some g → base ≤ g ∧ g < w.heap.size := by
 obtain ⟨xs, h1, _⟩ := h
 exact h1.own.lt
structure Sc2 (A : Nat → Addr) (w : World) (b1 b2 T : Nat) (a s : Int) (x1 : Int) (x2 : Option Addr) (x3 x4 : Nat) (y1 : Int) (y2 : Option Addr) (y3 y4 : Nat) (br M : Nat) (p1 : Int) (p2 : Option Addr) (p3 p4 : Nat) (p5 : Int) (p6 : Option Addr) (p7 p8 : Nat) (P D : Int) (ov : Value) (zs : List Int) (wr : World) : Prop where
 k : ScK A w b1 b2 T a s x1 x2 x3 x4 y1 y2 y3 y4 wr
 r : RB M wr br p1 p2 p3 p4 p5 p6 p7 p8 P D
 o : OwnR NoWord 2 (ZE T) 31 wr (b2 + 1) ov zs
theorem Sc2.keep {A : Nat → Addr} {w wr w1 : World} {b1 b2 T br M : Nat} {a s x1 y1 p1 p5 P D : Int} {x2 y2 p2 p6 : Option Addr} {x3 x4 y3 y4 p3 p4 p7 p8 : Nat} {ov : Value} {zs : List Int} (h : Sc2 A w b1 b2 T a s x1 x2 x3 x4 y1 y2 y3 y4 br M p1 p2 p3 p4 p5 p6 p7 p8 P D ov zs wr) (hb : Below wr.heap.size wr w1) : Sc2 A w b1 b2 T a s x1 x2 x3 x4 y1 y2 y3 y4 br M p1 p2 p3 p4 p5 p6 p7 p8 P D ov zs w1 := ⟨h.k.keep hb, h.r.keep hb, h.o.later (ZE.stays _ _ noWord_word) hb⟩
theorem Sc2.drew {A : Nat → Addr} {w wr : World} {b1 b2 T br M : Nat} {a s x1 y1 p1 p5 P D : Int} {x2 y2 p2 p6 : Option Addr} {x3 x4 y3 y4 p3 p4 p7 p8 : Nat} {ov : Value} {zs : List Int} (h : Sc2 A w b1 b2 T a s x1 x2 x3 x4 y1 y2 y3 y4 br M p1 p2 p3 p4 p5 p6 p7 p8 P D ov zs wr) : Sc2 A w b1 b2 T a s x1 x2 x3 x4 y1 y2 y3 y4 br M p1 p2 p3 p4 p5 p6 p7 p8 P D ov zs wr.drew := ⟨h.k.drew, h.r.drew, h.o.later (ZE.stays _ _ noWord_word) (Below.refl _ _).drew⟩
theorem Sc2.cs {A : Nat → Addr} {w w' : World} {b1 b2 T br M : Nat} {a s x1 y1 p1 p5 P D : Int} {x2 y2 p2 p6 : Option Addr} {x3 x4 y3 y4 p3 p4 p7 p8 : Nat} {ov : Value} {zs : List Int} (h : Sc2 A w b1 b2 T a s x1 x2 x3 x4 y1 y2 y3 y4 br M p1 p2 p3 p4 p5 p6 p7 p8 P D ov zs w') : w'.cell? ⟨b1, 0, none⟩ = some (.int .i64 x1) ∧ w'.cell? ⟨b1, 1, none⟩ = some (.slice x2 x3 x4) ∧ w'.cell? ⟨br, 0, none⟩ = some (.int .i64 p1) ∧ w'.cell? ⟨br, 1, none⟩ = some (.slice p2 p3 p4) ∧ w'.cell? ⟨br, 2, none⟩ = some (.int .i64 p5) ∧ w'.cell? ⟨br, 3, none⟩ = some (.slice p6 p7 p8) := ⟨h.k.ab.c0, h.k.ab.c1, h.r.c.1, h.r.c.2.1, h.r.c.2.2.1, h.r.c.2.2.2⟩
theorem Sc2.put {A : Nat → Addr} {w w1 : World} {b1 b2 T br M q : Nat} {a s x1 y1 p1 p5 P D : Int} {x2 y2 p2 p6 : Option Addr} {x3 x4 y3 y4 p3 p4 p7 p8 : Nat} {ov : Value} {zs : List Int} (h : Sc2 A w b1 b2 T a s x1 x2 x3 x4 y1 y2 y3 y4 br M p1 p2 p3 p4 p5 p6 p7 p8 P D ov zs w1) (u u' : Value) (h1 : b1 ≠ q) (h2 : br ≠ q) : let w' := (w1.setCell ⟨q, 0, none⟩ u).setCell ⟨q, 1, none⟩ u'
   w'.cell? ⟨b1, 0, none⟩ = some (.int .i64 x1) ∧ w'.cell? ⟨b1, 1, none⟩ = some (.slice x2 x3 x4) ∧ w'.cell? ⟨br, 0, none⟩ = some (.int .i64 p1) ∧ w'.cell? ⟨br, 1, none⟩ = some (.slice p2 p3 p4) ∧ w'.cell? ⟨br, 2, none⟩ = some (.int .i64 p5) ∧ w'.cell? ⟨br, 3, none⟩ = some (.slice p6 p7 p8) := by
 intro w'
 have hc : ∀ b o v, b ≠ q → w1.cell? ⟨b, o, none⟩ = some v → w'.cell? ⟨b, o, none⟩ = some v := fun b o v hb hv => by
   show (World.setCell _ _ _).cell? _ = _
   rw [cell?_setCell_ne _ _ _ _ _ _ (by omega), cell?_setCell_ne _ _ _ _ _ _ (by omega)]
   exact hv
 obtain ⟨k1, k2, k3, k4, k5, k6⟩ := h.cs
 exact ⟨hc _ _ _ h1 k1, hc _ _ _ h1 k2, hc _ _ _ h2 k3, hc _ _ _ h2 k4, hc _ _ _ h2 k5, hc _ _ _ h2 k6⟩
theorem OwnR.boxed {w : World} {T base q : Nat} {v : Value} {zs : List Int} (h : OwnR NoWord 2 (ZE T) 31 w base v zs) (hq : Box w q) (hne : ∀ g, v.ownBlock = some g → g ≠ q) (u u' : Value) : OwnR NoWord 2 (ZE T) 31 ((w.setCell ⟨q, 0, none⟩ u).setCell ⟨q, 1, none⟩ u') base v zs := by
 obtain ⟨xs, h1, h2⟩ := h
 have hb : ∀ g, v.ownBlock = some g → ((w.setCell ⟨q, 0, none⟩ u).setCell ⟨q, 1, none⟩ u').heap[g]? = w.heap[g]? := fun g hg => by rw [Below.heap_setCell _ _ _ _ (hne g hg), Below.heap_setCell _ _ _ _ (hne g hg)]
 refine ⟨xs, ⟨?_, fun g hg o u0 hu => h1.kinds g hg o u0 (by rw [World.cell?_of_block (a := ⟨g, o, none⟩) (hb g hg)] at hu; exact hu)⟩, fun i x hx => ?_⟩
 · obtain ⟨h0, h | ⟨g, cap, cur, e1, e2, e3, e4⟩⟩ := h1.own
   · exact ⟨h0, Or.inl h⟩
   · exact ⟨h0, Or.inr ⟨g, cap, cur, e1, e2, by rw [hb g (by rw [e1]; rfl)]; exact e3, e4⟩⟩
 · obtain ⟨cs, hl, hcs, y1, y2, y3, y4, e, hz⟩ := h2 i x hx
   exact ⟨cs, hl, hcs, y1, y2, y3, y4, e, hz.stored hq _ _⟩
theorem ScK.aside {A : Nat → Addr} {w w1 : World} {b1 b2 T q : Nat} {a s x1 y1 : Int} {x2 y2 : Option Addr} {x3 x4 y3 y4 : Nat} (h : ScK A w b1 b2 T a s x1 x2 x3 x4 y1 y2 y3 y4 w1) (hA : Env A w) (hq : Box w1 q) (h0 : w.heap.size < q) (h1 : b1 ≠ q) (h2 : b2 ≠ q) (u1 : Int) (u2 : Option Addr) (u3 u4 : Nat) : ScK A w b1 b2 T a s x1 x2 x3 x4 y1 y2 y3 y4 ((w1.setCell ⟨q, 0, none⟩ (.int .i64 u1)).setCell ⟨q, 1, none⟩ (.slice u2 u3 u4)) := by
 have hb := below_stored h.below (Nat.le_of_lt h0) (.int .i64 u1) (.slice u2 u3 u4)
 exact ⟨hb, hA.later hb, h.ret.aside2 (by omega) _ _, h.ab.other hq h1 _ _ _ _, h.sh.other hq h2 _ _ _ _, h.l1, h.l2, h.ne⟩
theorem Vr.grown {w w' : World} {b : Nat} {u : Int} {a : Option Addr} {n c N : Nat} {z : Int} {row : Option Nat} {e : TypeId} (h : Vr w b u a n c N z) (hg : w.grownBy w' row) (hne : some b ≠ row) (hc : Chg NoWord e w w') : Vr w' b u a n c N z := by
 obtain ⟨c0, c1, ⟨x, a', n', c', hb⟩, hz⟩ := h
 exact ⟨hg.cell c0 hne, hg.cell c1 hne, ⟨x, a', n', c', by rw [hg.block b (Array.getElem?_eq_some_iff.1 hb).1 hne]; exact hb⟩, hz.chg hc noWord_word⟩
theorem ScK.grown {A : Nat → Addr} {w w1 w2 : World} {b1 b2 T : Nat} {a s x1 y1 : Int} {x2 y2 : Option Addr} {x3 x4 y3 y4 : Nat} {row : Option Nat} {e : TypeId} (h : ScK A w b1 b2 T a s x1 x2 x3 x4 y1 y2 y3 y4 w1) (hA : Env A w) (hg : w1.grownBy w2 row) (hc : Chg NoWord e w1 w2) (hr : ∀ g, row = some g → w.heap.size < g ∧ g ≠ b1 ∧ g ≠ b2) : ScK A w b1 b2 T a s x1 x2 x3 x4 y1 y2 y3 y4 w2 := by
 have hb : Below w.heap.size w w2 := h.below.grown hg h.below.size (fun k hk => Nat.le_of_lt (hr k hk).1)
 obtain ⟨x, a', n, c, y, b', m, k, hx⟩ := h.ret
 exact ⟨hb, hA.later hb, ⟨x, a', n, c, y, b', m, k, by rw [hg.block _ (Array.getElem?_eq_some_iff.1 hx).1 (fun hv => by have := (hr _ hv.symm).1; omega)]; exact hx⟩, h.ab.grown hg (fun hv => (hr _ hv.symm).2.1 rfl) hc, h.sh.grown hg (fun hv => (hr _ hv.symm).2.2 rfl) hc, h.l1, h.l2, h.ne⟩
theorem Scz.next {T : Nat} {L : List (Int × Int)} {i : Nat} {a s : Int} {zs : List Int} {x : Int × Int} (h : Scz T L i a zs s) (hx : L[i]? = some x) (hz : -pw T < x.1 * (a / x.2) ∧ x.1 * (a / x.2) < pw T) : Scz T L (i + 1) a (zs ++ [x.1 * (a / x.2)]) (Int.gcd s (x.1 * (a / x.2))) := by
 obtain ⟨h1, h2, h3, h4, h5⟩ := h
 have g1 : (Int.gcd s (x.1 * (a / x.2)) : Int) ∣ s := Int.gcd_dvd_left ..
 have g2 : (Int.gcd s (x.1 * (a / x.2)) : Int) ∣ x.1 * (a / x.2) := Int.gcd_dvd_right ..
 refine ⟨by rw [take_next hx, List.map_append, h1]; rfl, by omega, ?_, fun z hz' => ?_, fun h0 z hz' => ?_⟩
 · rcases Int.lt_or_le 0 s with hs | hs
   · have := Int.le_of_dvd hs g1; omega
   · obtain rfl : s = 0 := by omega
     rw [Int.gcd_zero_left]
     omega
 · rcases List.mem_append.1 hz' with hz' | hz'
   · exact Int.dvd_trans g1 (h4 z hz')
   · simp at hz'; subst hz'; exact g2
 · rw [h0] at g1 g2
   have e1 := Int.zero_dvd.1 g1
   have e2 := Int.zero_dvd.1 g2
   rcases List.mem_append.1 hz' with hz' | hz'
   · exact h5 e1 z hz'
   · simp at hz'; subst hz'; exact e2
def ScP (n M T : Nat) (L : List (Int × Int)) (e : Ending) (w' : World) : Prop := ∃ v u zs P D, e = .returned (.tuple #[v, u]) ∧ (∀ g, v.ownBlock = some g → n ≤ g) ∧ Rows 2 (ZE T) w' v zs ∧ Rr M w' u P D ∧ 0 < P ∧ zs.length = L.length ∧ ∀ (i : Nat) (z : Int) (x : Int × Int), zs[i]? = some z → L[i]? = some x → z * x.2 * D = x.1 * P
theorem OwnR.rboxed {w : World} {T base q : Nat} {v : Value} {zs : List Int} (h : OwnR NoWord 2 (ZE T) 31 w base v zs) (hq : RBox w q) (hne : ∀ g, v.ownBlock = some g → g ≠ q) (u0 u1 u2 u3 : Value) : OwnR NoWord 2 (ZE T) 31 ((((w.setCell ⟨q, 0, none⟩ u0).setCell ⟨q, 1, none⟩ u1).setCell ⟨q, 2, none⟩ u2).setCell ⟨q, 3, none⟩ u3) base v zs := by
 obtain ⟨xs, h1, h2⟩ := h
 have hb : ∀ g, v.ownBlock = some g → ((((w.setCell ⟨q, 0, none⟩ u0).setCell ⟨q, 1, none⟩ u1).setCell ⟨q, 2, none⟩ u2).setCell ⟨q, 3, none⟩ u3).heap[g]? = w.heap[g]? := fun g hg => by rw [Below.heap_setCell _ _ _ _ (hne g hg), Below.heap_setCell _ _ _ _ (hne g hg), Below.heap_setCell _ _ _ _ (hne g hg), Below.heap_setCell _ _ _ _ (hne g hg)]
 refine ⟨xs, ⟨?_, fun g hg o u hu => h1.kinds g hg o u (by rw [World.cell?_of_block (a := ⟨g, o, none⟩) (hb g hg)] at hu; exact hu)⟩, fun i x hx => ?_⟩
 · obtain ⟨h0, h | ⟨g, cap, cur, e1, e2, e3, e4⟩⟩ := h1.own
   · exact ⟨h0, Or.inl h⟩
   · exact ⟨h0, Or.inr ⟨g, cap, cur, e1, e2, (hb g (by rw [e1]; rfl)).trans e3, e4⟩⟩
 · obtain ⟨cs, hl, hcs, y1, y2, y3, y4, e, hz⟩ := h2 i x hx
   exact ⟨cs, hl, hcs, y1, y2, y3, y4, e, hz.rstored hq _ _ _ _⟩
theorem div_fit {z s P : Int} (hz : -P < z ∧ z < P) (s0 : 0 ≤ s) (hs : s ≠ 0) : -P < z / s ∧ z / s < P := by
 have h1 := Int.ediv_mul_le z hs
 rcases Int.le_total 0 z with h | h
 · have h2 := Int.ediv_le_self s h
   have h3 := Int.ediv_nonneg h s0
   omega
 · have h2 : z ≤ z / s := (Int.le_ediv_iff_mul_le (by omega)).2 (by
     have : z * s ≤ z * 1 := Int.mul_le_mul_of_nonpos_left h (by omega)
     omega)
   have h3 : z / s ≤ 0 := by
     rcases Int.lt_or_le 0 (z / s) with h4 | h4
     · have : 0 < z / s * s := Int.mul_pos h4 (by omega)
       omega
     · exact h4
   omega
theorem scz_zero {K : Nat} {T : Nat} {L : List (Int × Int)} {a s : Int} {zs : List Int} (hA : 0 < a ∧ a < pw K ∧ ∀ x ∈ L, x.2 ∣ a) (h : zs = L.map (fun x => x.1 * (a / x.2)) ∧ 0 ≤ s ∧ s < pw T ∧ (∀ z ∈ zs, s ∣ z) ∧ (s = 0 → ∀ z ∈ zs, z = 0)) (hs : s = 0) : ∀ (i : Nat) (z : Int) (x : Int × Int), zs[i]? = some z → L[i]? = some x → z * x.2 * 1 = x.1 * 1 := by
 intro i z x hz hx
 have h1 := h.2.2.2.2 hs z (List.mem_of_getElem? hz)
 rw [h.1, List.getElem?_map, hx] at hz
 have h2 : x.1 * (a / x.2) = z := by simpa using hz
 rw [h1] at h2 ⊢
 have h3 : a / x.2 ≠ 0 := by
   intro h4
   have h5 := Int.ediv_mul_cancel (hA.2.2 x (List.mem_of_getElem? hx))
   rw [h4] at h5
   omega
 rcases Int.mul_eq_zero.1 h2 with h4 | h4
 · rw [h4]; simp
 · exact absurd h4 h3
theorem own_cell {K : Value → Prop} {k : Nat} {α : Type} {E : World → List Value → α → Prop} {t : TypeId} {w : World} {base g n cap o : Nat} {L : List α} (h : OwnR K k E t w base (.slice (some ⟨g, 0, none⟩) n cap) L) (ho : o < L.length * k) : ∃ u, w.cell? ⟨g, o, none⟩ = some u := by
 obtain ⟨xs, h1, _⟩ := h
 obtain ⟨_, ⟨h0, _⟩ | ⟨g', cap', cur, h0, _, hg, h3, _, h5, _⟩⟩ := h1.own
 · cases h0
 · obtain ⟨rfl, _⟩ : g = g' ∧ _ := by simpa using h0
   have : L.length * k ≤ cap' * k := Nat.mul_le_mul_right _ h3
   exact ⟨cur[o]'(by omega), block_cell hg (by simp)⟩
theorem own_free {K : Value → Prop} {k : Nat} {α : Type} {E : World → List Value → α → Prop} {t : TypeId} {w : World} {base g n cap : Nat} {L : List α} (h : OwnR K k E t w base (.slice (some ⟨g, 0, none⟩) n cap) L) : ∀ o, w.frozen? ⟨g, o, none⟩ = false := by
 intro o
 obtain ⟨xs, h1, _⟩ := h
 obtain ⟨_, ⟨h0, _⟩ | ⟨g', cap', cur, h0, _, hg, _⟩⟩ := h1.own
 · cases h0
 · obtain ⟨rfl, _⟩ : g = g' ∧ _ := by simpa using h0
   simp [World.frozen?, hg]
theorem set_next {zs ms : List Int} {s z : Int} {i : Nat} (hz : zs[i]? = some z) (h : ∀ (j : Nat) (z : Int), zs[j]? = some z → ms[j]? = some (if j < i then z / s else z)) : ∀ (j : Nat) (y : Int), zs[j]? = some y → (ms.set i (z / s))[j]? = some (if j < i + 1 then y / s else y) := by
 intro j y hy
 by_cases hji : j = i
 · subst hji
   rw [hz] at hy
   obtain rfl : z = y := by simpa using hy
   have := h j z hz
   rw [List.getElem?_set_self (List.getElem?_eq_some_iff.1 this).1, if_pos (by omega)]
 · rw [List.getElem?_set_ne (Ne.symm hji), h j y hy]
   by_cases hlt : j < i
   · rw [if_pos hlt, if_pos (by omega)]
   · rw [if_neg hlt, if_neg (by omega)]
theorem Vr.setRow {w : World} {b g o : Nat} {u : Int} {a : Option Addr} {n c N : Nat} {z : Int} {e : TypeId} {u0 u1 : Value} (h : Vr w b u a n c N z) (hne : b ≠ g) (hc : Chg NoWord e w ((w.setCell ⟨g, o, none⟩ u0).setCell ⟨g, o + 1, none⟩ u1)) : Vr ((w.setCell ⟨g, o, none⟩ u0).setCell ⟨g, o + 1, none⟩ u1) b u a n c N z := by
 obtain ⟨c0, c1, ⟨x, a', n', c', hb⟩, hz⟩ := h
 exact ⟨by rw [cell?_setCell_ne _ _ _ _ _ _ (by omega), cell?_setCell_ne _ _ _ _ _ _ (by omega)]; exact c0, by rw [cell?_setCell_ne _ _ _ _ _ _ (by omega), cell?_setCell_ne _ _ _ _ _ _ (by omega)]; exact c1, ⟨x, a', n', c', by rw [Below.heap_setCell _ _ _ _ hne, Below.heap_setCell _ _ _ _ hne]; exact hb⟩, hz.chg hc noWord_word⟩
theorem ScK.setRow {A : Nat → Addr} {w w1 : World} {b1 b2 T g o : Nat} {a s x1 y1 : Int} {x2 y2 : Option Addr} {x3 x4 y3 y4 : Nat} {e : TypeId} {u0 u1 : Value} (h : ScK A w b1 b2 T a s x1 x2 x3 x4 y1 y2 y3 y4 w1) (hA : Env A w) (h0 : w.heap.size < g) (h1 : b1 ≠ g) (h2 : b2 ≠ g) (hc : Chg NoWord e w1 ((w1.setCell ⟨g, o, none⟩ u0).setCell ⟨g, o + 1, none⟩ u1)) : ScK A w b1 b2 T a s x1 x2 x3 x4 y1 y2 y3 y4 ((w1.setCell ⟨g, o, none⟩ u0).setCell ⟨g, o + 1, none⟩ u1) := by
 have hb : Below w.heap.size w ((w1.setCell ⟨g, o, none⟩ u0).setCell ⟨g, o + 1, none⟩ u1) := (h.below.setCell (p := ⟨g, o, none⟩) (Nat.le_of_lt h0) _).setCell (p := ⟨g, o + 1, none⟩) (Nat.le_of_lt h0) _
 obtain ⟨x, a', n, c, y, b', m, k, hx⟩ := h.ret
 exact ⟨hb, hA.later hb, ⟨x, a', n, c, y, b', m, k, by rw [Below.heap_setCell _ _ _ _ (Nat.ne_of_lt h0), Below.heap_setCell _ _ _ _ (Nat.ne_of_lt h0)]; exact hx⟩, h.ab.setRow h1 hc, h.sh.setRow h2 hc, h.l1, h.l2, h.ne⟩
theorem scz_end {K : Nat} {T : Nat} {L : List (Int × Int)} {a s P D : Int} {zs ms : List Int} (hA : 0 < a ∧ a < pw K ∧ ∀ x ∈ L, x.2 ∣ a) (h : zs = L.map (fun x => x.1 * (a / x.2)) ∧ 0 ≤ s ∧ s < pw T ∧ (∀ z ∈ zs, s ∣ z) ∧ (s = 0 → ∀ z ∈ zs, z = 0)) (hs : s ≠ 0) (hE : P * s = a * D) (D0 : 0 < D) (hl : ms.length = zs.length) (hm : ∀ (j : Nat) (z : Int), zs[j]? = some z → ms[j]? = some (if j < zs.length then z / s else z)) : 0 < P ∧ ms.length = L.length ∧ ∀ (i : Nat) (z : Int) (x : Int × Int), ms[i]? = some z → L[i]? = some x → z * x.2 * D = x.1 * P := by
 have s0 : 0 < s := by have := h.2.1; omega
 refine ⟨?_, by rw [hl, h.1, List.length_map], fun i z x hz hx => ?_⟩
 · rcases Int.lt_or_le 0 P with hp | hp
   · exact hp
   · have h1 : P * s ≤ 0 * s := Int.mul_le_mul_of_nonneg_right hp (by omega)
     have h2 : 0 < a * D := Int.mul_pos hA.1 D0
     omega
 · have h1 : zs[i]? = some (x.1 * (a / x.2)) := by rw [h.1, List.getElem?_map, hx]; rfl
   have h2 := hm i _ h1
   rw [hz, if_pos (List.getElem?_eq_some_iff.1 h1).1] at h2
   have h3 : z = x.1 * (a / x.2) / s := by simpa using h2
   have h4 := Int.ediv_mul_cancel (h.2.2.2.1 _ (List.mem_of_getElem? h1))
   rw [← h3] at h4
   have h5 := Int.ediv_mul_cancel (hA.2.2 x (List.mem_of_getElem? hx))
   refine Int.eq_of_mul_eq_mul_right hs ?_
   have e1 : z * x.2 * D * s = (z * s) * x.2 * D := by grind
   have e2 : x.1 * P * s = x.1 * (P * s) := by grind
   rw [e1, e2, h4, hE]
   have e3 : x.1 * (a / x.2) * x.2 * D = x.1 * (a / x.2 * x.2) * D := by grind
   rw [e3, h5]
   grind
theorem scz_fit {N M : Nat} {L : List (Int × Int)} {a : Int} {x : Int × Int} {W : World} {v : Value} (hA : 0 < a ∧ a < pw ((N + 1) * L.length + 1) ∧ ∀ x ∈ L, x.2 ∣ a) (hx : 0 < x.2 ∧ x.2 < pw (N + 1) ∧ -pw (N + 1) < x.1 ∧ x.1 < pw (N + 1)) (hq : a / x.2 * x.2 = a) (hl : L.length ≤ 6) (h : Zr M W v (x.1 * (a / x.2))) : Zr (N + 1 + 6 * (N + 1) + 1) W v (x.1 * (a / x.2)) := by
 have q0 : 0 ≤ a / x.2 := Int.ediv_nonneg (by omega) (by omega)
 have q1 : a / x.2 ≤ a := by
   have : a / x.2 * 1 ≤ a / x.2 * x.2 := Int.mul_le_mul_of_nonneg_left (by omega) q0
   omega
 have p0 := pw_pos (N + 1)
 have p1 := pw_pos (6 * (N + 1) + 1)
 have h1 : pw ((N + 1) * L.length + 1) ≤ pw (6 * (N + 1) + 1) := pw_mono (by have : (N + 1) * L.length ≤ (N + 1) * 6 := Nat.mul_le_mul_left _ hl; omega)
 have e : pw (N + 1 + 6 * (N + 1) + 1) = pw (N + 1) * pw (6 * (N + 1) + 1) := by rw [← pw_add]; congr 1
 have h2 : x.1.natAbs * (a / x.2).natAbs < (pw (N + 1)).natAbs * (pw (6 * (N + 1) + 1)).natAbs := Nat.mul_lt_mul'' (by omega) (by omega)
 rw [← Int.natAbs_mul, ← Int.natAbs_mul] at h2
 have h3 : 0 < pw (N + 1) * pw (6 * (N + 1) + 1) := Int.mul_pos p0 p1
 exact h.fit (by rw [e]; omega) (by rw [e]; omega)
set_option maxHeartbeats 16000000 in
set_option maxRecDepth 8000 in
theorem scaled_any {A : Nat → Addr} {N : Nat} {v : Value} {L : List (Int × Int)} (w : World) (hA : Env A w) (h : Rows 4 (RE (N + 1)) w v L) (hl : L.length ≤ 6) (hN : N ≤ 1000) :
   Calls Tryz.prog 144 #[v] w fun e w' => ScP w.heap.size (2 * (N + 1 + 6 * (N + 1) + 1) + 6) (N + 1 + 6 * (N + 1) + 1) L e w' ∧ Below w.heap.size w w' := by
 obtain ⟨sa, sc, rfl⟩ := h.shape
 have HR := hide h
 have HA := hide hA
 have kn := below_new w (.cells #[.int .i64 0, .slice none 0 0, .int .i64 0, .slice none 0 0] 52)
 have hq := rbox_new w 0 none 0 0 0 none 0 0
 have HQ := hide (And.intro kn hq)
 clear h hA kn hq
 go_enter Tryz.func144, Tryz.ntmps144
 go_wp2_with fail
 go_fit (of_any 1 _)
 rintro e W1 ⟨rfl, B1⟩
 have k1 := below_new W1 (.cells #[.int .i64 1, .slice none 0 0] 31)
 have k2 := below_new (W1.alloc (.cells #[.int .i64 1, .slice none 0 0] 31)) (.cells #[.int .i64 0, .slice none 0 0] 31)
 have hb := below_keep k2 (below_keep k1 (below_keep B1 (unhide HQ).1))
 have hlt := ((unhide HQ).2.later B1).lt
 have q2 := Vr.new (w := W1.alloc (.cells #[.int .i64 1, .slice none 0 0] 31)) (Zr.near (z := 0) (N + 1 + 6 * (N + 1) + 1) (by decide) (by decide))
 rw [show (W1.alloc (.cells #[.int .i64 1, .slice none 0 0] 31)).heap.size = W1.heap.size + 1 by simp] at q2
 have HK : Hid (ScK A w W1.heap.size (W1.heap.size + 1) (N + 1 + 6 * (N + 1) + 1) 1 0 1 none 0 0 0 none 0 0 ((W1.alloc (.cells #[.int .i64 1, .slice none 0 0] 31)).alloc (.cells #[.int .i64 0, .slice none 0 0] 31))) := hide ⟨hb, (unhide HA).later hb, (((unhide HQ).2.later B1).later k1).later k2, (Vr.new (Zr.near _ (by decide) (by decide))).keep k2, q2, hlt, by omega, by omega⟩
 clear k1 k2 hb hlt q2 B1 HQ
 obtain ⟨b1, hb1⟩ : ∃ b, b = W1.heap.size := ⟨_, rfl⟩
 obtain ⟨b2, hb2⟩ : ∃ b, b = W1.heap.size + 1 := ⟨_, rfl⟩
 go_wp2_with fail
 have HB12 : Hid (b2 = b1 + 1) := hide (by omega)
 rw [← hb2, ← hb1] at HK ⊢
 clear hb1 hb2
 go_loopg [17] L.length (fun gk iv wr => ∃ (i : Nat) (a x1 : Int) (x2 : Option Addr) (x3 x4 : Nat), i ≤ L.length ∧ gk = L.length - i ∧ iv = .int .i64 (i : Int) ∧ Hid (Abv (N + 1) L i a) ∧ Hid (ScK A w b1 b2 (N + 1 + 6 * (N + 1) + 1) a 0 x1 x2 x3 x4 0 none 0 0 wr))
 case atStart => exact ⟨0, 1, _, _, _, _, by omega, by omega, rfl, hide ⟨by decide, by show (1 : Int) < pw 1; decide, by simp⟩, HK⟩
 case round =>
   clear HK
   obtain ⟨i, a, x1, x2, x3, x4, hi, hgk, rfl, HV, HK⟩ := hrel
   by_cases hil : i < L.length
   · obtain ⟨x, hx⟩ : ∃ s, L[i]? = some s := ⟨L[i], by simp [hil]⟩
     obtain ⟨b, o, rfl, cs, _, hcs, p1, p2, p3, p4, p5, p6, p7, p8, rfl, hX⟩ := (unhide HR).at hx
     have c0 : wr.cell? ⟨b, o + i * 4, none⟩ = some (.int .i64 p1) := cell_keep (unhide HK).below (by simpa using hcs 0 _ rfl)
     have c1 : wr.cell? ⟨b, o + i * 4 + 1, none⟩ = some (.slice p2 p3 p4) := cell_keep (unhide HK).below (hcs 1 _ rfl)
     have c2 : wr.cell? ⟨b, o + i * 4 + 2, none⟩ = some (.int .i64 p5) := cell_keep (unhide HK).below (hcs 2 _ rfl)
     have c3 : wr.cell? ⟨b, o + i * 4 + 3, none⟩ = some (.slice p6 p7 p8) := cell_keep (unhide HK).below (hcs 3 _ rfl)
     have HX := hide hx
     have HDN := hide hX.den
     have hil' : (i : Int) < (L.length : Int) := by omega
     have kn := below_new wr (.cells #[.int .i64 p1, .slice p2 p3 p4, .int .i64 p5, .slice p6 p7 p8] 52)
     have HRB := hide (RB.new (hX.later (unhide HK).below))
     have HK := hide ((unhide HK).keep kn)
     clear hx hcs hX kn
     go_upto_region 5 with fail
     obtain ⟨V, hV⟩ : ∃ V, V = wr.alloc (.cells #[.int .i64 p1, .slice p2 p3 p4, .int .i64 p5, .slice p6 p7 p8] 52) := ⟨_, rfl⟩
     obtain ⟨br, hbr⟩ : ∃ b, b = wr.heap.size := ⟨_, rfl⟩
     rw [← hV] at HK HRB ⊢
     rw [← hbr] at HRB ⊢
     have HGI := hide (And.intro hgk (And.intro hi hil))
     clear hV hbr c0 c1 c2 c3 hgk hi hil
     have z0 := (unhide HK).ab.c0
     have z1 := (unhide HK).ab.c1
     obtain ⟨q0, q1, q2, q3⟩ := (unhide HRB).c
     have hgq := Int.ediv_mul_cancel (show (Int.gcd a x.2 : Int) ∣ a from Int.gcd_dvd_left ..)
     have hnx := lcm_next (unhide HV).1 (unhide HDN).1 rfl hgq
     have HE1 := hide (show (Int.gcd a x.2 : Int) ≠ 0 by have := hnx.2.2.2.2.1; omega)
     have HE2 := hide hgq
     have HFT : Hid (∀ (M : Nat) W v, Zr M W v (a / (Int.gcd a x.2 : Int) * x.2) → Zr (N + 1 + 6 * (N + 1) + 1) W v (a / (Int.gcd a x.2 : Int) * x.2)) := hide fun M W v h => by
       obtain ⟨k1, k2, _⟩ := (unhide HV).next (unhide HX) (unhide HDN).1 (unhide HDN).2.1 rfl (unhide HE2)
       have h3 : pw ((N + 1) * (i + 1) + 1) ≤ pw (N + 1 + 6 * (N + 1) + 1) := pw_mono (by have h4 := (unhide HGI).2.2; have h5 : (N + 1) * (i + 1) ≤ (N + 1) * 6 := Nat.mul_le_mul_left _ (by omega); omega)
       exact h.fit (by have := pw_pos (N + 1 + 6 * (N + 1) + 1); omega) (by omega)
     clear hgq hnx
     obtain ⟨g, hgd⟩ : ∃ g, g = (Int.gcd a x.2 : Int) := ⟨_, rfl⟩
     obtain ⟨qq, hqd⟩ : ∃ q, q = a / (Int.gcd a x.2 : Int) := ⟨_, rfl⟩
     rw [← hgd] at HE1
     rw [← hqd] at HE2 HFT
     rw [← hgd] at HE2
     have HGD := hide (And.intro hgd hqd)
     clear hgd hqd z0 z1 q0 q1 q2 q3
     refine wp_region_facts (by kernel_rfl) (by kernel_rfl) (by kernel_rfl) (ScW A w b1 b2 (N + 1 + 6 * (N + 1) + 1) a qq x x1 x2 x3 x4 p1 p2 p3 p4 p5 p6 p7 p8 br (N + 1)) (ScF (N + 1) a g qq x x1 x2 x3 x4 p1 p2 p3 p4 p5 p6 p7 p8) (Or.inl ⟨rfl, (unhide HK).drew, (unhide HRB).drew⟩) ?_ ?_
     · intro L' vals w1 i' o' hW hF hL ho hdep
       have hi' : i' < 10 := (Array.getElem?_eq_some_iff.1 ho).1
       rcases hW with ⟨h9, hK, hR⟩ | ⟨_, hall, _⟩
       rotate_left
       · exact absurd (hall i' hi') (by rw [hL]; decide)
       rcases (by omega : i' = 0 ∨ i' = 1 ∨ i' = 2 ∨ i' = 3 ∨ i' = 4 ∨ i' = 5 ∨ i' = 6 ∨ i' = 7 ∨ i' = 8 ∨ i' = 9) with rfl | rfl | rfl | rfl | rfl | rfl | rfl | rfl | rfl | rfl
       · obtain rfl := Option.some.inj ho
         have z0 := hK.ab.c0; have z1 := hK.ab.c1
         refine wpOp_step rfl (fun K hK' => ?_)
         simp only [frameOf, List.map_cons, List.map_nil, Act.put, List.setIfInBounds_toArray, List.set_cons_zero, List.set_cons_succ]
         go_simp
         exact hK' _ _ ⟨.agg #[.int .i64 x1, .slice x2 x3 x4], (by show _ = Act.put _ (some 21) _; simp only [frameOf, List.map_cons, List.map_nil, Act.put, List.setIfInBounds_toArray, List.set_cons_zero, List.set_cons_succ]), rfl, Or.inl ⟨by simp [h9], hK, hR⟩, hF⟩
       · obtain rfl := Option.some.inj ho
         have z0 := hK.ab.c0; have z1 := hK.ab.c1
         refine wpOp_step rfl (fun K hK' => ?_)
         simp only [frameOf, List.map_cons, List.map_nil, Act.put, List.setIfInBounds_toArray, List.set_cons_zero, List.set_cons_succ]
         go_simp
         exact hK' _ _ ⟨.agg #[.int .i64 x1, .slice x2 x3 x4], (by show _ = Act.put _ (some 22) _; simp only [frameOf, List.map_cons, List.map_nil, Act.put, List.setIfInBounds_toArray, List.set_cons_zero, List.set_cons_succ]), rfl, Or.inl ⟨by simp [h9], hK, hR⟩, hF⟩
       · obtain rfl := Option.some.inj ho
         obtain ⟨q0, q1, q2, q3⟩ := hR.c
         refine wpOp_step rfl (fun K hK' => ?_)
         simp only [frameOf, List.map_cons, List.map_nil, Act.put, List.setIfInBounds_toArray, List.set_cons_zero, List.set_cons_succ]
         go_simp
         exact hK' _ _ ⟨.agg #[.int .i64 p1, .slice p2 p3 p4, .int .i64 p5, .slice p6 p7 p8], (by show _ = Act.put _ (some 23) _; simp only [frameOf, List.map_cons, List.map_nil, Act.put, List.setIfInBounds_toArray, List.set_cons_zero, List.set_cons_succ]), rfl, Or.inl ⟨by simp [h9], hK, hR⟩, hF⟩
       · obtain rfl := Option.some.inj ho
         have f2 := hF 2 (hdep ⟨2, .data⟩ (by simp) rfl)
         refine wpOp_step rfl (fun K hK' => ?_)
         simp only [frameOf, List.map_cons, List.map_nil, Act.put, List.setIfInBounds_toArray, List.set_cons_zero, List.set_cons_succ]
         go_simp
         rw [show vals 2 = _ from f2]; go_fit (den_any (N := N + 1) _ hR.r)
         rintro e9 Y ⟨⟨v, rfl, hV⟩, hb⟩
         exact hK' _ _ ⟨v, (by show _ = Act.put _ (some 24) _; simp only [frameOf, List.map_cons, List.map_nil, Act.put, List.setIfInBounds_toArray, List.set_cons_zero, List.set_cons_succ, show vals 2 = _ from f2]), hV, Or.inl ⟨by simp [h9], hK.keep hb, hR.keep hb⟩, fun j hj => ScF.later (hF j hj) hb⟩
       · obtain rfl := Option.some.inj ho
         have f1 := hF 1 (hdep ⟨1, .data⟩ (by simp) rfl)
         have f3 := hF 3 (hdep ⟨3, .data⟩ (by simp) rfl)
         refine wpOp_step rfl (fun K hK' => ?_)
         simp only [frameOf, List.map_cons, List.map_nil, Act.put, List.setIfInBounds_toArray, List.set_cons_zero, List.set_cons_succ]
         go_simp
         rw [show vals 1 = _ from f1]; go_fit (gcd_any (N := N + 1 + 6 * (N + 1)) _ hK.ab.zr (Zr.mono f3 (by omega)) (by omega) hK.env.t64)
         rintro e9 Y ⟨⟨v, rfl, hV⟩, hb⟩
         exact hK' _ _ ⟨v, (by show _ = Act.put _ (some 25) _; simp only [frameOf, List.map_cons, List.map_nil, Act.put, List.setIfInBounds_toArray, List.set_cons_zero, List.set_cons_succ, show vals 1 = _ from f1]), (by rw [← (unhide HGD).1] at hV; exact hV), Or.inl ⟨by simp [h9], hK.keep hb, hR.keep hb⟩, fun j hj => ScF.later (hF j hj) hb⟩
       · obtain rfl := Option.some.inj ho
         have f0 := hF 0 (hdep ⟨0, .data⟩ (by simp) rfl)
         have f4 := hF 4 (hdep ⟨4, .data⟩ (by simp) rfl)
         refine wpOp_step rfl (fun K hK' => ?_)
         simp only [frameOf, List.map_cons, List.map_nil, Act.put, List.setIfInBounds_toArray, List.set_cons_zero, List.set_cons_succ]
         go_simp
         rw [show vals 0 = _ from f0]; go_fit (exact_any (N := 2 * (N + 1 + 6 * (N + 1) + 1)) _ (hK.ab.zr.mono (by omega)) f4 (unhide HE1) (unhide HE2) (by omega))
         rintro e9 Y ⟨⟨v, rfl, hV⟩, hb⟩
         exact hK' _ _ ⟨v, (by show _ = Act.put _ (some 26) _; simp only [frameOf, List.map_cons, List.map_nil, Act.put, List.setIfInBounds_toArray, List.set_cons_zero, List.set_cons_succ, show vals 0 = _ from f0]), hV, Or.inl ⟨by simp [h9], hK.keep hb, hR.keep hb⟩, fun j hj => ScF.later (hF j hj) hb⟩
       · obtain rfl := Option.some.inj ho
         obtain ⟨q0, q1, q2, q3⟩ := hR.c
         refine wpOp_step rfl (fun K hK' => ?_)
         simp only [frameOf, List.map_cons, List.map_nil, Act.put, List.setIfInBounds_toArray, List.set_cons_zero, List.set_cons_succ]
         go_simp
         exact hK' _ _ ⟨.agg #[.int .i64 p1, .slice p2 p3 p4, .int .i64 p5, .slice p6 p7 p8], (by show _ = Act.put _ (some 27) _; simp only [frameOf, List.map_cons, List.map_nil, Act.put, List.setIfInBounds_toArray, List.set_cons_zero, List.set_cons_succ]), rfl, Or.inl ⟨by simp [h9], hK, hR⟩, hF⟩
       · obtain rfl := Option.some.inj ho
         have f6 := hF 6 (hdep ⟨6, .data⟩ (by simp) rfl)
         refine wpOp_step rfl (fun K hK' => ?_)
         simp only [frameOf, List.map_cons, List.map_nil, Act.put, List.setIfInBounds_toArray, List.set_cons_zero, List.set_cons_succ]
         go_simp
         rw [show vals 6 = _ from f6]; go_fit (den_any (N := N + 1) _ hR.r)
         rintro e9 Y ⟨⟨v, rfl, hV⟩, hb⟩
         exact hK' _ _ ⟨v, (by show _ = Act.put _ (some 28) _; simp only [frameOf, List.map_cons, List.map_nil, Act.put, List.setIfInBounds_toArray, List.set_cons_zero, List.set_cons_succ, show vals 6 = _ from f6]), hV, Or.inl ⟨by simp [h9], hK.keep hb, hR.keep hb⟩, fun j hj => ScF.later (hF j hj) hb⟩
       · obtain rfl := Option.some.inj ho
         have f5 := hF 5 (hdep ⟨5, .data⟩ (by simp) rfl)
         have f7 := hF 7 (hdep ⟨7, .data⟩ (by simp) rfl)
         refine wpOp_step rfl (fun K hK' => ?_)
         simp only [frameOf, List.map_cons, List.map_nil, Act.put, List.setIfInBounds_toArray, List.set_cons_zero, List.set_cons_succ]
         go_simp
         go_fit (mul_any (N := 2 * (N + 1 + 6 * (N + 1) + 1) + 2) _ f5 (Zr.mono f7 (by omega)) (by omega))
         rintro e9 Y ⟨⟨v, rfl, hV⟩, hb⟩
         exact hK' _ _ ⟨v, (by show _ = Act.put _ (some 29) _; simp only [frameOf, List.map_cons, List.map_nil, Act.put, List.setIfInBounds_toArray, List.set_cons_zero, List.set_cons_succ]), unhide HFT _ _ _ hV, Or.inl ⟨by simp [h9], hK.keep hb, hR.keep hb⟩, fun j hj => ScF.later (hF j hj) hb⟩
       · obtain rfl := Option.some.inj ho
         have f8 := hF 8 (hdep ⟨8, .data⟩ (by simp) rfl)
         obtain ⟨m1, m2, m3, m4, hv8⟩ := Zr.shape f8
         rw [hv8] at f8
         obtain ⟨⟨x0, g0⟩, ⟨a0, n0, c0', g1⟩, gf⟩ := hK.ab.box.cells
         have hlt := hK.ab.lt
         refine wpOp_step rfl (fun K hK' => ?_)
         simp only [frameOf, List.map_cons, List.map_nil, Act.put, List.setIfInBounds_toArray, List.set_cons_zero, List.set_cons_succ]
         rw [hv8]
         go_simp
         refine hK' _ _ ⟨undef, (by show _ = Act.put _ (none) _; simp only [frameOf, List.map_cons, List.map_nil, Act.put, List.setIfInBounds_toArray, List.set_cons_zero, List.set_cons_succ, hv8]), trivial, Or.inr ⟨rfl, ?_, m1, m2, m3, m4, hK.putAb f8 (unhide HA)⟩, ?_⟩
         · intro i hi
           rcases (by omega : i = 0 ∨ i = 1 ∨ i = 2 ∨ i = 3 ∨ i = 4 ∨ i = 5 ∨ i = 6 ∨ i = 7 ∨ i = 8 ∨ i = 9) with rfl | rfl | rfl | rfl | rfl | rfl | rfl | rfl | rfl | rfl
           all_goals first | rfl | exact hdep ⟨_, .phase⟩ (by simp) rfl
         · exact fun j hj => ScF.stored (hF j hj) hK.ab.box _ _
     · intro L' vals w1 hW hF
       rcases hW with ⟨h9, _⟩ | ⟨_, _, m1, m2, m3, m4, hK⟩
       · have := (hF 9 (by decide)).1
         rw [h9] at this
         cases this
       have HK := hide hK
       clear hK hF
       obtain ⟨hgk, hi, hil⟩ := unhide HGI
       simp only [frameOf, List.map_cons, List.map_nil, Act.put, List.setIfInBounds_toArray, List.set_cons_zero, List.set_cons_succ]
       go_wp2
       go_roundg (L.length - (i + 1))
       case measure => omega
       case rel => exact ⟨i + 1, qq * x.2, _, _, _, _, by omega, rfl, by go_num, hide (by have h1 := (unhide HV).next (unhide HX) (unhide HDN).1 (unhide HDN).2.1 (unhide HGD).1 (unhide HE2); exact h1), HK⟩
   · obtain rfl : i = L.length := by omega
     clear hil hi hgk
     have hAV := unhide HV
     rw [Abv, List.take_length] at hAV
     have HAV := hide hAV
     clear hAV HV
     have HO : Hid (OwnR NoWord 2 (ZE (N + 1 + 6 * (N + 1) + 1)) 31 wr (b2 + 1) (.slice none 0 0) []) := hide (OwnR.nil _ _ _ _ _ _)
     go_wp2_with fail
     go_loopg [2, 33] L.length (fun gk ov iv wr => ∃ (i : Nat) (s y1 : Int) (y2 : Option Addr) (y3 y4 : Nat) (zs : List Int), i ≤ L.length ∧ gk = L.length - i ∧ iv = .int .i64 (i : Int) ∧ Hid (zs.length = i) ∧ Hid (Scz (N + 1 + 6 * (N + 1) + 1) L i a zs s) ∧ Hid (ScK A w b1 b2 (N + 1 + 6 * (N + 1) + 1) a s x1 x2 x3 x4 y1 y2 y3 y4 wr) ∧ Hid (OwnR NoWord 2 (ZE (N + 1 + 6 * (N + 1) + 1)) 31 wr (b2 + 1) ov zs))
     case atStart => exact ⟨0, 0, _, _, _, _, [], by omega, by omega, rfl, hide rfl, hide ⟨by simp, by omega, pw_pos _, by simp, by simp⟩, HK, HO⟩
     case round =>
       clear HK HO
       obtain ⟨i, s, y1, y2, y3, y4, zs, hi, hgk, rfl, HZL, HV, HK, HO⟩ := hrel
       obtain ⟨oa, oc, rfl⟩ := (unhide HO).slice
       by_cases hil : i < L.length
       · obtain ⟨x, hx⟩ : ∃ s, L[i]? = some s := ⟨L[i], by simp [hil]⟩
         obtain ⟨b, o, rfl, cs, _, hcs, p1, p2, p3, p4, p5, p6, p7, p8, rfl, hX⟩ := (unhide HR).at hx
         have c0 : wr.cell? ⟨b, o + i * 4, none⟩ = some (.int .i64 p1) := cell_keep (unhide HK).below (by simpa using hcs 0 _ rfl)
         have c1 : wr.cell? ⟨b, o + i * 4 + 1, none⟩ = some (.slice p2 p3 p4) := cell_keep (unhide HK).below (hcs 1 _ rfl)
         have c2 : wr.cell? ⟨b, o + i * 4 + 2, none⟩ = some (.int .i64 p5) := cell_keep (unhide HK).below (hcs 2 _ rfl)
         have c3 : wr.cell? ⟨b, o + i * 4 + 3, none⟩ = some (.slice p6 p7 p8) := cell_keep (unhide HK).below (hcs 3 _ rfl)
         have HX := hide hx
         have HDN := hide hX.den
         have hil' : (i : Int) < (L.length : Int) := by omega
         have kn := below_new wr (.cells #[.int .i64 p1, .slice p2 p3 p4, .int .i64 p5, .slice p6 p7 p8] 52)
         have HRB := hide (RB.new (hX.later (unhide HK).below))
         have HKo := HK
         have HK := hide ((unhide HK).keep kn)
         have HB2L := hide (unhide HKo).sh.lt
         have HLT := hide (fun g (hg : (Value.slice oa zs.length oc).ownBlock = some g) => (by obtain ⟨xs, h1, _⟩ := unhide HO; exact h1.own.lt g hg : b2 + 1 ≤ g ∧ g < wr.heap.size))
         have HO := hide ((unhide HO).later (ZE.stays _ _ noWord_word) kn)
         clear hx hcs hX kn
         go_upto_region 10 with fail
         obtain ⟨V, hV⟩ : ∃ V, V = wr.alloc (.cells #[.int .i64 p1, .slice p2 p3 p4, .int .i64 p5, .slice p6 p7 p8] 52) := ⟨_, rfl⟩
         obtain ⟨br, hbr⟩ : ∃ b, b = wr.heap.size := ⟨_, rfl⟩
         rw [← hV] at HK HRB HO ⊢
         rw [← hbr] at HRB HLT ⊢
         have HLT1 : Hid (b1 < b2 + 1 ∧ b1 ≠ b2 ∧ b2 < br) := hide ⟨by have := unhide HB12; omega, by have := unhide HB12; omega, by rw [hbr]; exact (unhide HB2L)⟩
         have HGI := hide (And.intro hgk (And.intro hi hil))
         clear hV hbr c0 c1 c2 c3 hgk hi hil
         have HE2 : Hid (a / x.2 * x.2 = a) := hide (Int.ediv_mul_cancel ((unhide HAV).2.2 x (List.mem_of_getElem? (unhide HX))))
         have HFT : Hid (∀ (M : Nat) W v, Zr M W v (x.1 * (a / x.2)) → Zr (N + 1 + 6 * (N + 1) + 1) W v (x.1 * (a / x.2))) := hide fun M W v h => (scz_fit (unhide HAV) (unhide HDN) (unhide HE2) hl h)
         have HD0 := hide (show x.2 ≠ 0 by have := (unhide HDN).1; omega)
         have HK0 := HK
         have HRB0 := HRB
         have HO0 := HO
         go_cut [10] from 34 to 51 (fun v10 wx => ∃ q m1 m2 m3 m4, v10 = .pointer (some ⟨q, 0, none⟩) ∧ br < q ∧ Hid (Vr wx q m1 m2 m3 m4 (N + 1 + 6 * (N + 1) + 1) (x.1 * (a / x.2))) ∧ Hid (ScK A w b1 b2 (N + 1 + 6 * (N + 1) + 1) a s x1 x2 x3 x4 y1 y2 y3 y4 wx) ∧ Hid (OwnR NoWord 2 (ZE (N + 1 + 6 * (N + 1) + 1)) 31 wx (b2 + 1) (.slice oa zs.length oc) zs))
         case first =>
           have HS0 : Hid (Sc2 A w b1 b2 (N + 1 + 6 * (N + 1) + 1) a s x1 x2 x3 x4 y1 y2 y3 y4 br (N + 1) p1 p2 p3 p4 p5 p6 p7 p8 x.1 x.2 (.slice oa zs.length oc) zs V) := hide ⟨unhide HK0, unhide HRB0, unhide HO0⟩
           have HS := hide (unhide HS0).drew
           have n0 := (unhide HS0).k.ab.lt
           have n1 := (unhide HS0).r.lt
           have n2 := (unhide HS0).k.l1
           have n3 := (unhide HS0).k.l2
           have n4 := (unhide HS0).k.sh.lt
           clear HK HRB HO HK0 HRB0 HO0
           go_region_held3 (fun w' => w'.cell? ⟨b1, 0, none⟩ = some (.int .i64 x1) ∧ w'.cell? ⟨b1, 1, none⟩ = some (.slice x2 x3 x4) ∧ w'.cell? ⟨br, 0, none⟩ = some (.int .i64 p1) ∧ w'.cell? ⟨br, 1, none⟩ = some (.slice p2 p3 p4) ∧ w'.cell? ⟨br, 2, none⟩ = some (.int .i64 p5) ∧ w'.cell? ⟨br, 3, none⟩ = some (.slice p6 p7 p8))
             (first | with_reducible exact (unhide HS).cs | with_reducible exact ((unhide HS).keep (below_new _ _)).cs | with_reducible exact (((unhide HS0).keep (below_new _ _)).drew).cs | with_reducible exact Sc2.put (unhide HS) _ _ (by omega) (by omega))
             (first
               | (go_at_call 37; (first | go_fit (num_any (N := N + 1) _ (unhide HS).r.r) | go_fit (num_any (N := N + 1) _ ((unhide HS).keep (below_new _ _)).r.r) | go_fit (num_any (N := N + 1) _ ((unhide HS0).keep (below_new _ _)).drew.r.r)); rintro e9 Y1 ⟨⟨vn, rfl, hNm⟩, hb⟩; obtain ⟨i1, i2, i3, i4, rfl⟩ := hNm.shape; (try have hD : Zr _ Y1 _ _ := (by first | exact hD.later hb | exact (hD.later (below_new _ _)).later hb)); (try have hE : Zr _ Y1 _ _ := (by first | exact hE.later hb | exact (hE.later (below_new _ _)).later hb)); (first | (have HS := hide ((unhide HS).keep hb); try have hbx := hbx.later hb) | (have HS := hide (((unhide HS).keep (below_new _ _)).keep hb); have hbx := (box_new _).later hb) | (have HS := hide ((((unhide HS0).keep (below_new _ _)).drew).keep hb); have hbx := (show Box (V.alloc (.cells #[.int .i64 0, .slice none 0 0] 31)).drew V.heap.size from box_new V).later hb)); have l0 := (unhide HS).k.ab.lt; have l1 := (unhide HS).r.lt; have l2 := (unhide HS).k.sh.lt; (try (obtain ⟨⟨g0, h0⟩, ⟨g1, g2, g3, h1⟩, gf⟩ := hbx.cells; have hxlt := hbx.lt)); clear hb)
               | (go_at_call 38; (first | go_fit (den_any (N := N + 1) _ (unhide HS).r.r) | go_fit (den_any (N := N + 1) _ ((unhide HS).keep (below_new _ _)).r.r)); rintro e9 Y2 ⟨⟨vd, rfl, hD⟩, hb⟩; obtain ⟨j1, j2, j3, j4, rfl⟩ := hD.shape; (try have hNm : Zr _ Y2 _ _ := (by first | exact hNm.later hb | exact (hNm.later (below_new _ _)).later hb)); (try have hE : Zr _ Y2 _ _ := (by first | exact hE.later hb | exact (hE.later (below_new _ _)).later hb)); (first | (have HS := hide ((unhide HS).keep hb); try have hbx := hbx.later hb) | (have HS := hide (((unhide HS).keep (below_new _ _)).keep hb); have hbx := (box_new _).later hb) | (have HS := hide ((((unhide HS0).keep (below_new _ _)).drew).keep hb); have hbx := (show Box (V.alloc (.cells #[.int .i64 0, .slice none 0 0] 31)).drew V.heap.size from box_new V).later hb)); have l0 := (unhide HS).k.ab.lt; have l1 := (unhide HS).r.lt; have l2 := (unhide HS).k.sh.lt; (try (obtain ⟨⟨g0, h0⟩, ⟨g1, g2, g3, h1⟩, gf⟩ := hbx.cells; have hxlt := hbx.lt)); clear hb)
               | (go_at_call 208; (first | go_fit (exact_any (N := N + 1 + 6 * (N + 1)) _ (unhide HS).k.ab.zr (hD.mono (by omega)) (unhide HD0) (unhide HE2) (by omega)) | go_fit (exact_any (N := N + 1 + 6 * (N + 1)) _ ((unhide HS).keep (below_new _ _)).k.ab.zr ((hD.later (below_new _ _)).mono (by omega)) (unhide HD0) (unhide HE2) (by omega))); rintro e9 Y3 ⟨⟨ve, rfl, hE⟩, hb⟩; obtain ⟨k1, k2, k3, k4, rfl⟩ := hE.shape; (try have hNm : Zr _ Y3 _ _ := (by first | exact hNm.later hb | exact (hNm.later (below_new _ _)).later hb)); (try have hD : Zr _ Y3 _ _ := (by first | exact hD.later hb | exact (hD.later (below_new _ _)).later hb)); (first | (have HS := hide ((unhide HS).keep hb); try have hbx := hbx.later hb) | (have HS := hide (((unhide HS).keep (below_new _ _)).keep hb); have hbx := (box_new _).later hb) | (have HS := hide ((((unhide HS0).keep (below_new _ _)).drew).keep hb); have hbx := (show Box (V.alloc (.cells #[.int .i64 0, .slice none 0 0] 31)).drew V.heap.size from box_new V).later hb)); have l0 := (unhide HS).k.ab.lt; have l1 := (unhide HS).r.lt; have l2 := (unhide HS).k.sh.lt; (try (obtain ⟨⟨g0, h0⟩, ⟨g1, g2, g3, h1⟩, gf⟩ := hbx.cells; have hxlt := hbx.lt)); clear hb)
               | (go_at_call 17; (first | go_fit (mul_any (N := N + 1 + 6 * (N + 1) + 2) _ (hNm.mono (by omega)) hE (by omega)) | go_fit (mul_any (N := N + 1 + 6 * (N + 1) + 2) _ ((hNm.later (below_new _ _)).mono (by omega)) (hE.later (below_new _ _)) (by omega))); rintro e9 Y4 ⟨⟨vm, rfl, hM⟩, hb⟩; have hM := unhide HFT _ _ _ hM; obtain ⟨o1, o2, o3, o4, rfl⟩ := hM.shape; (try have hNm : Zr _ Y4 _ _ := (by first | exact hNm.later hb | exact (hNm.later (below_new _ _)).later hb)); (try have hD : Zr _ Y4 _ _ := (by first | exact hD.later hb | exact (hD.later (below_new _ _)).later hb)); (try have hE : Zr _ Y4 _ _ := (by first | exact hE.later hb | exact (hE.later (below_new _ _)).later hb)); (first | (have HS := hide ((unhide HS).keep hb); try have hbx := hbx.later hb) | (have HS := hide (((unhide HS).keep (below_new _ _)).keep hb); have hbx := (box_new _).later hb) | (have HS := hide ((((unhide HS0).keep (below_new _ _)).drew).keep hb); have hbx := (show Box (V.alloc (.cells #[.int .i64 0, .slice none 0 0] 31)).drew V.heap.size from box_new V).later hb)); have l0 := (unhide HS).k.ab.lt; have l1 := (unhide HS).r.lt; have l2 := (unhide HS).k.sh.lt; (try (obtain ⟨⟨g0, h0⟩, ⟨g1, g2, g3, h1⟩, gf⟩ := hbx.cells; have hxlt := hbx.lt)); clear hb))
           all_goals
             go_wp2
             go_meet
             first
               | exact ⟨_, _, _, _, _, rfl, (unhide HS).r.lt, hide (Vr.new hM), hide ((unhide HS).keep (below_new _ _)).k, hide ((unhide HS).keep (below_new _ _)).o⟩
               | exact ⟨_, _, _, _, _, rfl, (by omega), hide (Vr.in hbx hM), hide ((unhide HS).k.aside (unhide HA) hbx (by omega) (by omega) (by omega) _ _ _ _), hide ((unhide HS).o.boxed hbx (fun g hg => (by have := unhide HLT g hg; omega)) _ _)⟩
         case rest =>
           obtain ⟨q, m1, m2, m3, m4, rfl, hq, HZ, HK, HO⟩ := hcut
           obtain ⟨Z, rfl⟩ : ∃ X, X = wc := ⟨_, rfl⟩
           have z0 := (unhide HZ).c0
           have z1 := (unhide HZ).c1
           have hbs : b2 + 1 ≤ Z.heap.size := (unhide HK).sh.lt
           have hLn : zs.length ≤ 100000000 := by have := unhide HGI; have := unhide HZL; omega
           go_upto_region 12 with (at_builtin; refine wpList_pushE rfl _ _ _ rfl Tryz.underlying183 info_z rfl (by decide) (by decide) zk_z (ZE.stays _ _ noWord_word) (b2 + 1) _ rfl (unhide HO) [.int .i64 m1, .slice m2 m3 m4] rfl (one_z _ _ _ _) (kd_z _ _ _ _) ⟨_, _, _, _, rfl, (unhide HZ).zr⟩ rfl rfl hLn hbs ?_; intro ov' Z1 hO1 hc1 hgr1 hge1)
           have kn := below_new Z (.cells #[.int .i64 m1, .slice m2 m3 m4] 31)
           have hrow : ∀ g, (Value.slice oa zs.length oc).ownBlock = some g → w.heap.size < g ∧ g ≠ b1 ∧ g ≠ b2 := fun g hg => by
             have h1 := unhide HLT g hg
             have h2 := (unhide HK).l2
             have h3 := (unhide HLT1)
             omega
           have HZ := hide (((unhide HZ).keep kn).grown hgr1 (fun hv => by have := unhide HLT _ hv.symm; omega) hc1)
           have HK := hide (((unhide HK).keep kn).grown (unhide HA) hgr1 hc1 hrow)
           have HO := hide hO1
           clear kn hrow hgr1 hc1 hO1 hge1 z0 z1 hbs hLn
           have z0 := (unhide HZ).c0
           have z1 := (unhide HZ).c1
           have s0 := (unhide HK).sh.c0
           have s1 := (unhide HK).sh.c1
           go_wp2_with fail
           go_fit (gcd_any (N := N + 1 + 6 * (N + 1)) _ (unhide HK).sh.zr (unhide HZ).zr (by omega) (unhide HK).env.t64)
           rintro e9 Y ⟨⟨vg, rfl, hG⟩, hb⟩
           have hzz := (unhide HZ).zr.inside
           have hN2 := (unhide HV).next (unhide HX) hzz
           have hG := hG.fit (M := (N + 1 + 6 * (N + 1) + 1)) (by have := hN2.2.1; have := pw_pos (N + 1 + 6 * (N + 1) + 1); omega) hN2.2.2.1
           obtain ⟨k1, k2, k3, k4, rfl⟩ := hG.shape
           have HN2 := hide hN2
           have HK := hide ((unhide HK).keep hb)
           have HLT2 := hide (fun g (hg : ov'.ownBlock = some g) => (by obtain ⟨xs, h1, _⟩ := unhide HO; exact h1.own.lt g hg : b2 + 1 ≤ g ∧ g < _))
           have HO := hide ((unhide HO).later (ZE.stays _ _ noWord_word) hb)
           obtain ⟨⟨x0, g0⟩, ⟨a0, n0, c0', g1⟩, gf⟩ := (unhide HK).sh.box.cells
           have hlt := (unhide HK).sh.lt
           clear hb hzz hN2 s0 s1 z0 z1
           obtain ⟨hgk, hi, hil⟩ := unhide HGI
           go_wp2
           go_roundg (L.length - (i + 1))
           case measure => omega
           case rel => exact ⟨i + 1, _, _, _, _, _, zs ++ [x.1 * (a / x.2)], by omega, rfl, by go_num, hide (by have := unhide HZL; simp [this]), HN2, hide ((unhide HK).putSh hG (unhide HA)), hide ((unhide HO).boxed (unhide HK).sh.box (fun g hg => (by have := (unhide HLT2 g hg).1; omega)) _ _)⟩
       · obtain rfl : i = L.length := by omega
         clear hil hi hgk
         have hSZ := unhide HV
         rw [Scz, List.take_length] at hSZ
         have HSZ := hide hSZ
         clear hSZ HV
         have s0 := (unhide HK).sh.c0
         have s1 := (unhide HK).sh.c1
         obtain ⟨near, sa', sn, sc', hve, hsg, _⟩ := (unhide HK).sh.zr.sgn
         obtain ⟨rfl, rfl, rfl, rfl⟩ : y1 = near ∧ y2 = sa' ∧ y3 = sn ∧ y4 = sc' := by simpa using hve
         have HSG := hide hsg
         have HON := hide (allown (unhide HO))
         clear hve hsg
         go_wp2_with fail
         go_fit (sign_any y1 (.slice y2 y3 y4) _)
         rintro e W2 ⟨rfl, B2⟩
         rw [unhide HSG]
         have HK := hide ((unhide HK).keep B2)
         have HO := hide ((unhide HO).later (ZE.stays _ _ noWord_word) B2)
         clear B2 s0 s1
         by_cases hs0 : s = 0
         · rw [show sgn s = 0 by rw [hs0]; rfl]
           go_wp2_with fail
           go_fit (rint_any 1 _ (by decide) (by decide))
           rintro e W3 ⟨⟨v1, rfl, hR1⟩, B3⟩
           obtain ⟨o1, o2, o3, o4, o5, o6, o7, o8, rfl⟩ := hR1.shape
           have HK := hide ((unhide HK).keep B3)
           have HO := hide ((unhide HO).later (ZE.stays _ _ noWord_word) B3)
           clear B3
           obtain ⟨⟨m0, n0⟩, ⟨m1, m2, m3, n1⟩, ⟨m4, n2⟩, ⟨m5, m6, m7, n3⟩, nf⟩ := (unhide HK).ret.cells
           have hlt := (unhide HK).ret.lt
           go_wp2
           obtain ⟨st0, st1, st2, st3⟩ := (unhide HK).ret.stored (.int .i64 o1) (.slice o2 o3 o4) (.int .i64 o5) (.slice o6 o7 o8)
           exact bodyPost_ret (v := .tuple #[.slice oa zs.length oc, .agg #[.int .i64 o1, .slice o2 o3 o4, .int .i64 o5, .slice o6 o7 o8]]) (by simp [results, Tryz.results144, go_sem, st0, st1, st2, st3]) rfl ⟨⟨_, _, zs, 1, 1, rfl, (fun g hg => (by have := (unhide HON g hg).1; have := (unhide HK).l2; omega)), ((unhide HO).rboxed (unhide HK).ret (fun g hg => (by have := (unhide HON g hg).1; have := (unhide HK).l2; omega)) _ _ _ _).rows, (hR1.mono (by omega)).rstored (unhide HK).ret _ _ _ _, by decide, unhide HZL, scz_zero (unhide HAV) (unhide HSZ) hs0⟩, below_rstored (unhide HK).below (Nat.le_refl _) _ _ _ _⟩
         have hs1 : ((sgn s) == 0) = false := by have := sgn_some hs0; simpa using this
         have HS0 := hide hs0
         clear hs0
         go_wp2_with fail
         go_loopg [59] zs.length (fun gk iv wr => ∃ (i : Nat) (ms : List Int), i ≤ zs.length ∧ gk = zs.length - i ∧ iv = .int .i64 (i : Int) ∧ Hid (ms.length = zs.length) ∧ Hid (∀ (j : Nat) (z : Int), zs[j]? = some z → ms[j]? = some (if j < i then z / s else z)) ∧ Hid (ScK A w b1 b2 (N + 1 + 6 * (N + 1) + 1) a s x1 x2 x3 x4 y1 y2 y3 y4 wr) ∧ Hid (OwnR NoWord 2 (ZE (N + 1 + 6 * (N + 1) + 1)) 31 wr (b2 + 1) (.slice oa zs.length oc) ms))
         case atStart => exact ⟨0, zs, by omega, by omega, rfl, hide rfl, hide (fun j z hj => by rw [if_neg (by omega)]; exact hj), HK, HO⟩
         case round =>
           clear HK HO
           obtain ⟨i, ms, hi, hgk, rfl, HML, HMS, HK, HO⟩ := hrel
           by_cases hil : i < zs.length
           · obtain ⟨z, hz⟩ : ∃ s, zs[i]? = some s := ⟨zs[i], by simp [hil]⟩
             have hmz := unhide HMS i z hz
             rw [if_neg (by omega)] at hmz
             obtain ⟨g, rfl⟩ : ∃ g, oa = some ⟨g, 0, none⟩ := by
               obtain ⟨xs, h1, _⟩ := unhide HO
               obtain ⟨_, ⟨h0, h3⟩ | ⟨g, cap, cur, h0, _⟩⟩ := h1.own
               · rw [unhide HML] at h3; omega
               · exact ⟨g, by simp at h0; exact h0.1⟩
             obtain ⟨b', o', hbo, cs, _, hcs, p1, p2, p3, p4, rfl, hX⟩ := (unhide HO).rows.at hmz
             obtain ⟨rfl, rfl⟩ : g = b' ∧ 0 = o' := by simpa using hbo
             have c0 : wr.cell? ⟨g, i * 2, none⟩ = some (.int .i64 p1) := by simpa using hcs 0 _ rfl
             have c1 : wr.cell? ⟨g, i * 2 + 1, none⟩ = some (.slice p2 p3 p4) := by have := hcs 1 _ rfl; rw [Nat.zero_add] at this; exact this
             have hil' : (i : Int) < (zs.length : Int) := by omega
             have kn := below_new wr (.cells #[.int .i64 p1, .slice p2 p3 p4] 31)
             have HZ := hide (Vr.new hX)
             have HI := hide hz
             have HK := hide ((unhide HK).keep kn)
             have HO := hide ((unhide HO).later (ZE.stays _ _ noWord_word) kn)
             have HGI := hide (And.intro hgk (And.intro hi hil))
             clear hz hmz hbo hcs hX kn hgk hi hil
             have z0 := (unhide HZ).c0
             have z1 := (unhide HZ).c1
             have s0 := (unhide HK).sh.c0
             have s1 := (unhide HK).sh.c1
             go_wp2_with fail
             go_fit (exact_any (N := N + 1 + 6 * (N + 1)) (q := z / s) _ (unhide HZ).zr (unhide HK).sh.zr (unhide HS0) (Int.ediv_mul_cancel ((unhide HSZ).2.2.2.1 z (List.mem_of_getElem? (unhide HI)))) (by omega))
             rintro e W3 ⟨⟨v1, rfl, hE⟩, B3⟩
             have hE := hE.fit (M := (N + 1 + 6 * (N + 1) + 1)) (div_fit (unhide HZ).zr.inside (unhide HSZ).2.1 (unhide HS0)).1 (div_fit (unhide HZ).zr.inside (unhide HSZ).2.1 (unhide HS0)).2
             obtain ⟨o1, o2, o3, o4, rfl⟩ := hE.shape
             have HK := hide ((unhide HK).keep B3)
             have HO := hide ((unhide HO).later (ZE.stays _ _ noWord_word) B3)
             have HE := hide hE
             clear B3 z0 z1 s0 s1 c0 c1 hE
             have hgl := (allown (unhide HO) g rfl).1
             have hmi : i < ms.length := by have := unhide HGI; have := unhide HML; omega
             obtain ⟨f1, f2⟩ := (unhide HO).set2 (i := i) (x := z / s) (ZE.stays _ _ noWord_word) hmi (kd_z o1 o2 o3 o4) ⟨_, _, _, _, rfl, unhide HE⟩
             have HF1 := hide f1
             have HK2 := hide ((unhide HK).setRow (unhide HA) (g := g) (o := i * 2) (by have := (unhide HK).l2; omega) (by have := unhide HB12; omega) (by omega) f2)
             have e0 : ∃ u, W3.cell? ⟨g, i * 2, none⟩ = some u := own_cell (unhide HO) (o := i * 2) (by omega)
             have e1 : ∃ u, W3.cell? ⟨g, i * 2 + 1, none⟩ = some u := own_cell (unhide HO) (o := i * 2 + 1) (by omega)
             have gf : ∀ o, W3.frozen? ⟨g, o, none⟩ = false := own_free (unhide HO)
             obtain ⟨a0, e0⟩ := e0
             obtain ⟨a1, e1⟩ := e1
             obtain ⟨hgk, hi, hil⟩ := unhide HGI
             have him : (i : Int) + 1 ≤ 100 := by have := unhide HZL; omega
             clear f1 f2
             go_wp2
             go_roundg (zs.length - (i + 1))
             case measure => omega
             case rel => exact ⟨i + 1, ms.set i (z / s), by omega, rfl, by go_num, hide (by rw [List.length_set]; exact unhide HML), hide (set_next (unhide HI) (unhide HMS)), HK2, HF1⟩
           · obtain rfl : i = zs.length := by omega
             clear hil hi hgk
             have z0 := (unhide HK).ab.c0
             have z1 := (unhide HK).ab.c1
             have s0 := (unhide HK).sh.c0
             have s1 := (unhide HK).sh.c1
             have HON := hide (allown (unhide HO))
             go_wp2_with fail
             go_fit (rof_ratio (N := N + 1 + 6 * (N + 1)) _ (unhide HK).ab.zr (unhide HK).sh.zr (by omega) (unhide HK).env.t64)
             rintro e W3 ⟨ho, B3⟩
             obtain ⟨v1, P, D, rfl, hR, hE⟩ := ho.good (unhide HS0)
             obtain ⟨o1, o2, o3, o4, o5, o6, o7, o8, rfl⟩ := hR.shape
             have HE := hide hE
             have HK := hide ((unhide HK).keep B3)
             have HO := hide ((unhide HO).later (ZE.stays _ _ noWord_word) B3)
             clear B3 z0 z1 s0 s1 ho hE
             obtain ⟨⟨m0, n0⟩, ⟨m1, m2, m3, n1⟩, ⟨m4, n2⟩, ⟨m5, m6, m7, n3⟩, nf⟩ := (unhide HK).ret.cells
             have hlt := (unhide HK).ret.lt
             go_upto_region 22 with fail
             obtain ⟨V, hV⟩ : ∃ V, V = (((W3.setCell ⟨w.heap.size, 0, none⟩ (.int .i64 o1)).setCell ⟨w.heap.size, 1, none⟩ (.slice o2 o3 o4)).setCell ⟨w.heap.size, 2, none⟩ (.int .i64 o5)).setCell ⟨w.heap.size, 3, none⟩ (.slice o6 o7 o8) := ⟨_, rfl⟩
             have hst := (unhide HK).ret.stored (.int .i64 o1) (.slice o2 o3 o4) (.int .i64 o5) (.slice o6 o7 o8)
             have hbx := (unhide HK).ret.stored' o1 o2 o3 o4 o5 o6 o7 o8
             have HRV := hide (hR.rstored (unhide HK).ret (.int .i64 o1) (.slice o2 o3 o4) (.int .i64 o5) (.slice o6 o7 o8))
             have HOV := hide ((unhide HO).rboxed (unhide HK).ret (fun g hg => (by have := (unhide HON g hg).1; have := (unhide HK).l2; omega)) (.int .i64 o1) (.slice o2 o3 o4) (.int .i64 o5) (.slice o6 o7 o8))
             have BV := hide (below_rstored (unhide HK).below (Nat.le_refl _) (.int .i64 o1) (.slice o2 o3 o4) (.int .i64 o5) (.slice o6 o7 o8))
             first | rw [← hV] | skip
             rw [← hV] at hst hbx HRV HOV BV
             have HWB := hide (unhide HK).l2
             clear hV n0 n1 n2 n3 nf hlt hR HK HO
             obtain ⟨st0, st1, st2, st3⟩ := hst
             obtain ⟨_, _, _, _, nf⟩ := hbx.cells
             have hlt := hbx.lt
             have HFIN := hide (scz_end (unhide HAV) (unhide HSZ) (unhide HS0) (unhide HE) (by obtain ⟨_, _, _, _, _, _, _, _, _, _, _, _, d0, _⟩ := unhide HRV; exact d0) (unhide HML) (unhide HMS))
             go_region
             all_goals
               go_wp2
               obtain ⟨t0, t1, t2, t3⟩ := hbx.stored (.int .i64 o1) (.slice o2 o3 o4) (.int .i64 o5) (.slice o6 o7 o8)
               exact bodyPost_ret (v := .tuple #[.slice oa zs.length oc, .agg #[.int .i64 o1, .slice o2 o3 o4, .int .i64 o5, .slice o6 o7 o8]]) (by simp [results, Tryz.results144, go_sem, t0, t1, t2, t3]) rfl ⟨⟨_, _, ms, P, D, rfl, (fun g hg => (by have := (unhide HON g hg).1; have := unhide HWB; omega)), (((unhide HOV).rboxed hbx (fun g hg => (by have := (unhide HON g hg).1; have := unhide HWB; omega)) _ _ _ _).later (ZE.stays _ _ noWord_word) (Below.refl _ _).drew).rows, show Rr _ (World.drew _) _ _ _ from (unhide HRV).rstored hbx _ _ _ _, (unhide HFIN).1, (unhide HFIN).2.1, (unhide HFIN).2.2⟩, (below_rstored (unhide BV) (Nat.le_refl _) _ _ _ _).drew⟩
end Go.Proofs.YtkifiolkfdicoaaGreatDoor
