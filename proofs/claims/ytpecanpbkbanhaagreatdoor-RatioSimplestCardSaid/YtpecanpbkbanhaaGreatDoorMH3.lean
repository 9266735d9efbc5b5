/-
  Walks over the fractions of the document: built.
-/
import Derived.Test.YtpecanpbkbanhaaGreatDoorMHA
import Derived.Deep.DeepCutAuto
namespace Go.Proofs.YtpecanpbkbanhaaGreatDoor
open Go.RowKit
/-- What built has in its boxes. -/
structure BuK (w : World) (N : Nat) (p d : Int) (x : Bool) (a : Option Addr) (n c : Nat) (y : Bool) (b : Option Addr) (m k : Nat) (wr : World) : Prop where
  below : Below w.heap.size w wr
  ret : QBox wr (w.heap.size + 1)
  out : QB wr (w.heap.size + 1 + 1) x a n c y b m k N p d
theorem BuK.keep {w w1 w2 : World} {N : Nat} {p d : Int} {x y : Bool} {a b : Option Addr} {n c m k : Nat} (h : BuK w N p d x a n c y b m k w1) (hb : Below w1.heap.size w1 w2) : BuK w N p d x a n c y b m k w2 := ⟨below_keep hb h.below, h.ret.later hb, h.out.keep hb⟩
theorem BuK.drew {w w1 : World} {N : Nat} {p d : Int} {x y : Bool} {a b : Option Addr} {n c m k : Nat} (h : BuK w N p d x a n c y b m k w1) : BuK w N p d x a n c y b m k w1.drew := ⟨h.below.drew, h.ret, h.out.drew⟩
/-- And the turned one. -/
structure BuJ (w : World) (N : Nat) (p d : Int) (x : Bool) (a : Option Addr) (n c : Nat) (y : Bool) (b : Option Addr) (m k : Nat) (q : Nat) (x' : Bool) (a' : Option Addr) (n' c' : Nat) (y' : Bool) (b' : Option Addr) (m' k' : Nat) (wr : World) : Prop where
  k : BuK w N p d x a n c y b m k wr
  inv : QB wr q x' a' n' c' y' b' m' k' N d p
  hi : w.heap.size + 1 + 1 < q
theorem BuJ.mk' {w Y : World} {N : Nat} {p d : Int} {x y : Bool} {a b : Option Addr} {n c m k : Nat} {q : Nat} {x' y' : Bool} {a' b' : Option Addr} {n' c' m' k' : Nat} (h : BuK w N p d x a n c y b m k Y) (hq : QBox Y q) (hlo : w.heap.size + 1 + 1 < q) (hR : Qr N Y (.agg #[.bool x', .slice a' n' c', .bool y', .slice b' m' k']) d p) :
    BuJ w N p d x a n c y b m k q x' a' n' c' y' b' m' k' ((((Y.setCell ⟨q, 0, none⟩ (.bool x')).setCell ⟨q, 1, none⟩ (.slice a' n' c')).setCell ⟨q, 2, none⟩ (.bool y')).setCell ⟨q, 3, none⟩ (.slice b' m' k')) :=
  ⟨⟨below_rstored h.below (by omega) _ _ _ _, h.ret.aside (by omega) _ _ _ _, h.out.beside hq (by omega) _ _ _ _⟩, QB.put hq hR, hlo⟩
theorem BuJ.new' {w Y : World} {N : Nat} {p d : Int} {x y : Bool} {a b : Option Addr} {n c m k : Nat} {x' y' : Bool} {a' b' : Option Addr} {n' c' m' k' : Nat} (h : BuK w N p d x a n c y b m k Y) (hR : Qr N Y (.agg #[.bool x', .slice a' n' c', .bool y', .slice b' m' k']) d p) :
    BuJ w N p d x a n c y b m k Y.heap.size x' a' n' c' y' b' m' k' (Y.alloc (.cells #[.bool x', .slice a' n' c', .bool y', .slice b' m' k'] 56)) :=
  ⟨h.keep (below_new _ _), QB.new hR, h.out.box.lt⟩
theorem kh6 {w w1 w2 : World} {v0 v1 v2 v3 v4 v5 : Value} {q g i : Nat} (hb : Below w1.heap.size w1 w2) (h : Below w.heap.size w w1 ∧ w1.cell? ⟨q, 0, none⟩ = some v0 ∧ w1.cell? ⟨q, 1, none⟩ = some v1 ∧ w1.cell? ⟨q, 2, none⟩ = some v2 ∧ w1.cell? ⟨q, 3, none⟩ = some v3 ∧ w1.cell? ⟨g, i * 2, none⟩ = some v4 ∧ w1.cell? ⟨g, i * 2 + 1, none⟩ = some v5) : Below w.heap.size w w2 ∧ w2.cell? ⟨q, 0, none⟩ = some v0 ∧ w2.cell? ⟨q, 1, none⟩ = some v1 ∧ w2.cell? ⟨q, 2, none⟩ = some v2 ∧ w2.cell? ⟨q, 3, none⟩ = some v3 ∧ w2.cell? ⟨g, i * 2, none⟩ = some v4 ∧ w2.cell? ⟨g, i * 2 + 1, none⟩ = some v5 := by
  obtain ⟨h0, h1, h2, h3, h4, h5, h6⟩ := h
  exact ⟨below_keep hb h0, cell_keep hb h1, cell_keep hb h2, cell_keep hb h3, cell_keep hb h4, cell_keep hb h5, cell_keep hb h6⟩
theorem kh6_store {w w1 : World} {r q g i : Nat} {v0 v1 v2 v3 v4 v5 u0 u1 u2 u3 : Value} (h : Below w.heap.size w w1 ∧ w1.cell? ⟨q, 0, none⟩ = some v0 ∧ w1.cell? ⟨q, 1, none⟩ = some v1 ∧ w1.cell? ⟨q, 2, none⟩ = some v2 ∧ w1.cell? ⟨q, 3, none⟩ = some v3 ∧ w1.cell? ⟨g, i * 2, none⟩ = some v4 ∧ w1.cell? ⟨g, i * 2 + 1, none⟩ = some v5) (hr : w.heap.size ≤ r) (hq : q ≠ r) (hg : g ≠ r) :
    let w2 := (((w1.setCell ⟨r, 0, none⟩ u0).setCell ⟨r, 1, none⟩ u1).setCell ⟨r, 2, none⟩ u2).setCell ⟨r, 3, none⟩ u3
    Below w.heap.size w w2 ∧ w2.cell? ⟨q, 0, none⟩ = some v0 ∧ w2.cell? ⟨q, 1, none⟩ = some v1 ∧ w2.cell? ⟨q, 2, none⟩ = some v2 ∧ w2.cell? ⟨q, 3, none⟩ = some v3 ∧ w2.cell? ⟨g, i * 2, none⟩ = some v4 ∧ w2.cell? ⟨g, i * 2 + 1, none⟩ = some v5 := by
  intro w2
  obtain ⟨k1, k3, k4, k5, k6, k7, k8⟩ := h
  have hc : ∀ b o v, b ≠ r → w1.cell? ⟨b, o, none⟩ = some v → w2.cell? ⟨b, o, none⟩ = some v := fun b o v hb hv => by
    show (World.setCell _ _ _).cell? _ = _
    rw [cell?_setCell_ne _ _ _ _ _ _ (by omega), cell?_setCell_ne _ _ _ _ _ _ (by omega), cell?_setCell_ne _ _ _ _ _ _ (by omega), cell?_setCell_ne _ _ _ _ _ _ (by omega)]
    exact hv
  exact ⟨below_rstored k1 hr _ _ _ _, hc _ _ _ hq k3, hc _ _ _ hq k4, hc _ _ _ hq k5, hc _ _ _ hq k6, hc _ _ _ hg k7, hc _ _ _ hg k8⟩
set_option maxHeartbeats 4000000 in
set_option maxRecDepth 8000 in
/-- built. -/
theorem rbuilt_any {N : Nat} {sl v : Value} {L : List Int} {p d : Int} (w : World) (hL : Ps N w sl L) (h : Qr N w v p d) (hN2 : 2 ≤ N) (hN : N ≤ 390) (p0 : 0 < p) (hL0 : ∀ k ∈ L, 0 ≤ k)
    (hs : ∀ j, j ≤ L.length → (blt (L.drop j) (p, d)).1 < 10000 ^ N ∧ (blt (L.drop j) (p, d)).2 < 10000 ^ N) :
    Calls Tryz.prog 207 #[sl, v] w fun e w' => (∃ v, e = .returned v ∧ Qr N w' v (blt L (p, d)).1 (blt L (p, d)).2) ∧ Below w.heap.size w w' := by
  obtain ⟨x, a, n, c, y, b, m, k, rfl⟩ := h.shape
  obtain ⟨sa, sn, sc, rfl⟩ := hL.shape
  obtain rfl := hL.len
  have hd0 : 0 < d ∧ Int.gcd p d = 1 := by obtain ⟨_, _, _, _, _, _, _, _, _, _, _, h1, h2⟩ := h; exact ⟨h1, h2⟩
  have hpos : ∀ j, 0 < (blt (L.drop j) (p, d)).1 ∧ 0 < (blt (L.drop j) (p, d)).2 ∧ Int.gcd (blt (L.drop j) (p, d)).1 (blt (L.drop j) (p, d)).2 = 1 := fun j => blt_pos p0 hd0.1 hd0.2 _ (fun k hk => hL0 k (List.mem_of_mem_drop hk))
  have hLm : (L.length : Int) ≤ 9223372036854775807 := by
    rcases hL with ⟨_, rfl⟩ | ⟨g, cap, _, h2, h3, _⟩
    · simp
    · unfold maxLen at h3; omega
  have HP := hide hpos
  have HS := hide hs
  have HL := hide hL
  clear hpos hs hL hd0 hL0
  have k1 := below_new w (.cells #[.bool x, .slice a n c, .bool y, .slice b m k] 56)
  have k2 := below_new (w.alloc (.cells #[.bool x, .slice a n c, .bool y, .slice b m k] 56)) (.cells #[.bool false, .slice none 0 0, .bool false, .slice none 0 0] 56)
  have k12 := below_keep k2 k1
  have k3 := below_new ((w.alloc (.cells #[.bool x, .slice a n c, .bool y, .slice b m k] 56)).alloc (.cells #[.bool false, .slice none 0 0, .bool false, .slice none 0 0] 56)) (.cells #[.bool x, .slice a n c, .bool y, .slice b m k] 56)
  have hq := (qbox_new (w.alloc (.cells #[.bool x, .slice a n c, .bool y, .slice b m k] 56)) false none 0 0 false none 0 0).later k3
  have ho := QB.new (h.later k12)
  rw [show (w.alloc (.cells #[.bool x, .slice a n c, .bool y, .slice b m k] 56)).heap.size = w.heap.size + 1 by simp] at hq
  rw [show ((w.alloc (.cells #[.bool x, .slice a n c, .bool y, .slice b m k] 56)).alloc (.cells #[.bool false, .slice none 0 0, .bool false, .slice none 0 0] 56)).heap.size = w.heap.size + 1 + 1 by simp] at ho
  have HK : Hid (BuK w N p d x a n c y b m k (((w.alloc (.cells #[.bool x, .slice a n c, .bool y, .slice b m k] 56)).alloc (.cells #[.bool false, .slice none 0 0, .bool false, .slice none 0 0] 56)).alloc (.cells #[.bool x, .slice a n c, .bool y, .slice b m k] 56))) := hide ⟨below_keep k3 k12, hq, ho⟩
  clear k1 k2 k12 k3 hq ho h
  go_enter Tryz.func207, Tryz.ntmps207
  go_wp2_with fail
  go_loopg [6] L.length (fun g iv wr => ∃ j : Nat, j ≤ L.length ∧ g = j ∧ iv = .int .i64 ((j : Int) - 1) ∧ ∃ x a n c y b m k, Hid (BuK w N (blt (L.drop j) (p, d)).1 (blt (L.drop j) (p, d)).2 x a n c y b m k wr))
  case atStart => exact ⟨L.length, Nat.le_refl _, rfl, by go_num, _, _, _, _, _, _, _, _, by rw [List.drop_length]; exact HK⟩
  case round =>
    clear HK
    obtain ⟨j, hj, hgk, rfl, x5, a5, n5, c5, y5, b5, m5, k5, HK⟩ := hrel
    have HGK := hide hgk
    clear hgk
    rcases j with _ | j
    · rw [show ((0 : Nat) : Int) - 1 = -1 from rfl]
      have c0 := (unhide HK).out.c0
      have c1 := (unhide HK).out.c1
      have c2 := (unhide HK).out.c2
      have c3 := (unhide HK).out.c3
      have hbx := (unhide HK).ret
      obtain ⟨⟨j0, g0⟩, ⟨j1, j2, j3, g1⟩, ⟨j4, g2⟩, ⟨j5, j6, j7, g3⟩, gf⟩ := hbx.cells
      have hxlt := hbx.lt
      go_wp2
      obtain ⟨st0, st1, st2, st3⟩ := hbx.stored (.bool x5) (.slice a5 n5 c5) (.bool y5) (.slice b5 m5 k5)
      exact bodyPost_ret (v := .agg #[.bool x5, .slice a5 n5 c5, .bool y5, .slice b5 m5 k5]) (by simp [results, Tryz.results207, go_sem, st0, st1, st2, st3]) rfl ⟨⟨_, rfl, (unhide HK).out.qr.qstored hbx _ _ _ _⟩, below_rstored (unhide HK).below (by omega) _ _ _ _⟩
    · rw [show ((j + 1 : Nat) : Int) - 1 = (j : Int) by omega]
      rcases (unhide HL) with ⟨_, h2⟩ | ⟨g, cap, h1, h2, h3, h4⟩
      · subst h2; simp at hj
      obtain ⟨rfl, rfl⟩ : sa = some ⟨g, 0, none⟩ ∧ sc = cap := by simpa using h1
      have HC := hide (h4 j (by omega))
      clear h1 h4
      have hne := (unhide HP (j + 1)).1
      have HM := hide (blt_drop (r := (p, d)) (show j < L.length by omega))
      have HS1 := hide (unhide HS (j + 1) hj)
      have HS0 := hide (unhide HS j (by omega))
      have HP1 := hide (unhide HP (j + 1))
      have HP0 := hide (unhide HP j)
      generalize hT1 : blt (L.drop (j + 1)) (p, d) = T at *
      obtain ⟨P, D⟩ := T
      go_wp2_with fail
      have c0 := (unhide HK).out.c0
      have c1 := (unhide HK).out.c1
      have c2 := (unhide HK).out.c2
      have c3 := (unhide HK).out.c3
      have hlt := (unhide HK).out.box.lt
      go_cut [7] from 12 to 25 (fun v7 wx => ∃ q x7 a7 n7 c7 y7 b7 m7 k7, v7 = .pointer (some ⟨q, 0, none⟩) ∧ Hid (BuJ w N P D x5 a5 n5 c5 y5 b5 m5 k5 q x7 a7 n7 c7 y7 b7 m7 k7 wx))
      case first =>
        go_region_with (first
          | (go_at_call 141; go_fit (rint_one _); rintro e9 Y1 ⟨⟨v1, rfl, hR1⟩, hb1⟩; obtain ⟨i1, i2, i3, i4, i5, i6, i7, i8, rfl⟩ := hR1.shape; have HK1 : Hid (BuK w N P D x5 a5 n5 c5 y5 b5 m5 k5 Y1) := hide (by first | exact (unhide HK).drew.keep hb1 | exact ((unhide HK).drew.keep (below_new _ _)).keep hb1); have f0 := (unhide HK1).out.c0; have f1 := (unhide HK1).out.c1; have f2 := (unhide HK1).out.c2; have f3 := (unhide HK1).out.c3; have flt := (unhide HK1).out.box.lt; have hb1 := hide hb1)
          | (go_at_call 59; (first | (go_fit (rqquo_any (N := N) _ (hR1.mono hN2) (unhide HK1).out.qr (by omega) (by have : 0 < P := hne; omega))) | (go_fit (rqquo_any (N := N) _ ((hR1.mono hN2).later (below_new _ _)) ((unhide HK1).keep (below_new _ _)).out.qr (by omega) (by have : 0 < P := hne; omega)))); rintro e9 Y2 ⟨⟨v2, P2, D2, rfl, hR2, hE⟩, hb2⟩; obtain ⟨hq1, hq2⟩ := hR2.low (p := D) (d := P) (by have : 0 < P := hne; omega) hE hne (by rw [Int.gcd_comm]; exact (unhide HP1).2.2) (by rw [Int.one_mul, Int.one_mul]); rw [hq1, hq2] at hR2; clear hq1 hq2 hE; have hR2 := hR2.fit (M := N) (by have h9 : 0 < D := (unhide HP1).2.1; have h8 : (0 : Int) < 10000 ^ N := Int.pow_pos (by decide); omega) (unhide HS1).2 (unhide HS1).1; obtain ⟨o1, o2, o3, o4, o5, o6, o7, o8, rfl⟩ := hR2.shape; have HK2 : Hid (BuK w N P D x5 a5 n5 c5 y5 b5 m5 k5 Y2) := hide (by first | exact (unhide HK1).keep hb2 | exact ((unhide HK1).keep (below_new _ _)).keep hb2); (first | (have hbx : QBox Y2 wr.heap.size := (QBox.later (qbox_new wr.drew false none 0 0 false none 0 0) (unhide hb1)).later hb2; obtain ⟨⟨j0, g0⟩, ⟨j1, j2, j3, g1⟩, ⟨j4, g2⟩, ⟨j5, j6, j7, g3⟩, gf⟩ := hbx.cells; have hxlt := hbx.lt) | (have hbx : QBox Y2 Y1.heap.size := (qbox_new Y1 false none 0 0 false none 0 0).later hb2; obtain ⟨⟨j0, g0⟩, ⟨j1, j2, j3, g1⟩, ⟨j4, g2⟩, ⟨j5, j6, j7, g3⟩, gf⟩ := hbx.cells; have hxlt := hbx.lt) | (have _h : Below Y1.heap.size Y1 Y2 := hb2)); clear hb2))
        all_goals
          go_wp2
          go_meet
          first
            | exact ⟨_, _, _, _, _, _, _, _, _, rfl, hide (BuJ.new' (unhide HK2) hR2)⟩
            | exact ⟨_, _, _, _, _, _, _, _, _, rfl, hide (BuJ.mk' (unhide HK2) hbx (by assumption) hR2)⟩
      case rest =>
        obtain ⟨q, x7, a7, n7, c7, y7, b7, m7, k7, rfl, HJ⟩ := hcut
        obtain ⟨Z0, rfl⟩ : ∃ X, X = wc := ⟨_, rfl⟩
        obtain ⟨px, pa, pn, pc, hp0, hp1, hpN⟩ := unhide HC
        have HN := hide hpN
        have hgw : g < w.heap.size := World.block_lt_of_cell? w _ hp0
        have hqw := (unhide HJ).hi
        clear c0 c1 c2 c3 hlt HK
        have e0 := (unhide HJ).inv.c0
        have e1 := (unhide HJ).inv.c1
        have e2 := (unhide HJ).inv.c2
        have e3 := (unhide HJ).inv.c3
        have e4 := cell_keep (unhide HJ).k.below hp0
        have e5 := cell_keep (unhide HJ).k.below hp1
        clear hp0 hp1 hpN
        have S0 := hide (show Below w.heap.size w Z0.drew ∧ Z0.drew.cell? ⟨q, 0, none⟩ = some (.bool x7) ∧ Z0.drew.cell? ⟨q, 1, none⟩ = some (.slice a7 n7 c7) ∧ Z0.drew.cell? ⟨q, 2, none⟩ = some (.bool y7) ∧ Z0.drew.cell? ⟨q, 3, none⟩ = some (.slice b7 m7 k7) ∧ Z0.drew.cell? ⟨g, j * 2, none⟩ = some (.bool px) ∧ Z0.drew.cell? ⟨g, j * 2 + 1, none⟩ = some (.slice pa pn pc) from ⟨(unhide HJ).k.below.drew, e0, e1, e2, e3, e4, e5⟩)
        have HJ := hide (show QBox Z0.drew (w.heap.size + 1) ∧ QBox Z0.drew (w.heap.size + 1 + 1) ∧ Qr N Z0.drew (.agg #[.bool x7, .slice a7 n7 c7, .bool y7, .slice b7 m7 k7]) D P from ⟨(unhide HJ).k.ret, (unhide HJ).k.out.box, (unhide HJ).inv.qr⟩)
        have hjl : (j : Int) < L.length := by omega
        go_wp2_with fail
        go_region_held3 (fun w' => Below w.heap.size w w' ∧ w'.cell? ⟨q, 0, none⟩ = some (.bool x7) ∧ w'.cell? ⟨q, 1, none⟩ = some (.slice a7 n7 c7) ∧ w'.cell? ⟨q, 2, none⟩ = some (.bool y7) ∧ w'.cell? ⟨q, 3, none⟩ = some (.slice b7 m7 k7) ∧ w'.cell? ⟨g, j * 2, none⟩ = some (.bool px) ∧ w'.cell? ⟨g, j * 2 + 1, none⟩ = some (.slice pa pn pc))
          (first | with_reducible exact unhide S2 | with_reducible exact unhide S1 | with_reducible exact unhide S0 | exact kh6_store (unhide S2) (by omega) (by omega) (by omega))
          (first
            | (go_at_call 206; go_fit (rwhole_any (N := N) _ ((unhide HN).later (unhide S0).1)); rintro e9 Y1 ⟨⟨v1, rfl, hR1⟩, hb⟩; obtain ⟨i1, i2, i3, i4, i5, i6, i7, i8, rfl⟩ := hR1.shape; have S1 := hide (kh6 hb (unhide S0)); have HJ1 := hide (And.intro ((unhide HJ).1.later hb) (And.intro ((unhide HJ).2.1.later hb) ((unhide HJ).2.2.later hb))); clear hb)
            | (go_at_call 44; go_fit (rqadd_any (N := N + 1) _ hR1 ((unhide HJ1).2.2.mono (by omega)) (by omega)); rintro e9 Y2 ⟨⟨v2, P2, D2, rfl, hR2, hE⟩, hb⟩; obtain ⟨hq1, hq2⟩ := hR2.low (p := nth L j * P + D) (d := P) (by have : 0 < P := hne; omega) hE hne (by have h9 := (unhide HP0).2.2; rw [unhide HM] at h9; exact h9) (by rw [Int.one_mul, Int.mul_one]); rw [hq1, hq2] at hR2; clear hq1 hq2 hE; have hR2 : Qr N Y2 v2 (blt (L.drop j) (p, d)).1 (blt (L.drop j) (p, d)).2 := (by rw [unhide HM]; refine hR2.fit (M := N) ?_ ?_ ?_ <;> (have h9 := (unhide HP0).1; have h8 := unhide HS0; rw [unhide HM] at h8 h9; have h7 : (0 : Int) < 10000 ^ N := Int.pow_pos (by decide); obtain ⟨h5, h6⟩ := h8; simp only at h5 h6 h9; omega)); obtain ⟨o1, o2, o3, o4, o5, o6, o7, o8, rfl⟩ := hR2.shape; have S2 := hide (kh6 hb (unhide S1)); have HJ2 := hide (And.intro ((unhide HJ1).1.later hb) ((unhide HJ1).2.1.later hb)); obtain ⟨⟨j0, g0⟩, ⟨j1, j2, j3, g1⟩, ⟨j4, g2⟩, ⟨j5, j6, j7, g3⟩, gf⟩ := (unhide HJ2).2.cells; have hxlt := (unhide HJ2).2.lt; clear hb))
        all_goals
          go_wp2
          go_roundg j
          case measure => have := unhide HGK; omega
          case rel => exact ⟨j, by omega, rfl, by go_num, _, _, _, _, _, _, _, _, hide ⟨below_rstored (unhide S2).1 (by omega) _ _ _ _, (unhide HJ2).1.aside (by omega) _ _ _ _, QB.put (unhide HJ2).2 hR2⟩⟩
end Go.Proofs.YtpecanpbkbanhaaGreatDoor
