/-
 Walks over package matrix: sum.
 Walks over package matrix: scaled: what it has in its boxes, and its numbers.
-/
import Derived.Test.YtkifiolkfdicoaaGreatDoorMQG
import Derived.Test.YtkifiolkfdicoaaGreatDoorMK4
namespace Go.Proofs.YtkifiolkfdicoaaGreatDoor
open Go.RowKit
def dot : List Int → List Int → Int
 | x :: a, y :: b => x * y + dot a b
 | _, _ => 0
theorem dot_snoc {a b : List Int} (h : a.length = b.length) (x y : Int) : dot (a ++ [x]) (b ++ [y]) = dot a b + x * y := by
 induction a generalizing b with
 | nil =>
   cases b with
   | nil => simp [dot]
   | cons _ _ => simp at h
 | cons u a ih =>
   cases b with
   | nil => simp at h
   | cons v b =>
     simp at h
     simp only [List.cons_append, dot, ih h]
     omega
theorem pw_sq {N : Nat} {x y : Int} (hx : -pw N < x ∧ x < pw N) (hy : -pw N < y ∧ y < pw N) : -(pw N * pw N) < x * y ∧ x * y < pw N * pw N := by
 have p0 := pw_pos N
 have h1 : x.natAbs * y.natAbs < (pw N).natAbs * (pw N).natAbs := by
   refine Nat.mul_lt_mul'' ?_ ?_ <;> omega
 rw [← Int.natAbs_mul, ← Int.natAbs_mul] at h1
 have : 0 < pw N * pw N := Int.mul_pos p0 p0
 omega
theorem dot_next {a b : List Int} {i : Nat} {x y t t' P : Int} (hx : a[i]? = some x) (hy : b[i]? = some y) (hab : b.length = a.length) (hxy : -P < x * y ∧ x * y < P) (h : t = dot (a.take i) (b.take i) ∧ -((i : Int) * P) ≤ t ∧ t ≤ (i : Int) * P) (ht : t' = t + x * y) : t' = dot (a.take (i + 1)) (b.take (i + 1)) ∧ -(((i + 1 : Nat) : Int) * P) ≤ t' ∧ t' ≤ ((i + 1 : Nat) : Int) * P := by
 obtain ⟨h1, h2, h3⟩ := h
 have e : ((i + 1 : Nat) : Int) * P = (i : Int) * P + P := by rw [Int.natCast_add, Int.add_mul]; simp
 rw [take_next hx, take_next hy, dot_snoc (by rw [List.length_take, List.length_take, hab]), ht, h1, e]
 rw [h1] at h2 h3
 exact ⟨rfl, by omega, by omega⟩
theorem sgn_some {x : Int} (h : x ≠ 0) : ((sgn x) != 0) = true := by
 rcases sgn_val x with ⟨_, e, _⟩ | ⟨h', _⟩ | ⟨_, e, _⟩
 · rw [e]; rfl
 · exact absurd h' h
 · rw [e]; rfl
theorem dot_fit {N i : Nat} {t : Int} (hi : (i : Int) + 1 ≤ 100000000) (h : -(((i + 1 : Nat) : Int) * (pw (N + 1) * pw (N + 1))) ≤ t ∧ t ≤ ((i + 1 : Nat) : Int) * (pw (N + 1) * pw (N + 1))) : -pw (N + 1 + (N + 1) + 1) < t ∧ t < pw (N + 1 + (N + 1) + 1) := by
 rw [pw_succ, pw_add]
 have p0 : 0 < pw (N + 1) * pw (N + 1) := Int.mul_pos (pw_pos _) (pw_pos _)
 have : ((i + 1 : Nat) : Int) * (pw (N + 1) * pw (N + 1)) ≤ 100000000 * (pw (N + 1) * pw (N + 1)) := Int.mul_le_mul_of_nonneg_right (by omega) (by omega)
 omega
theorem Box.aside2 {w : World} {r q : Nat} (h : Box w r) (hne : r ≠ q) (u u' : Value) : Box ((w.setCell ⟨q, 0, none⟩ u).setCell ⟨q, 1, none⟩ u') r := (h.other hne u).other hne u'
structure MK (w : World) (M : Nat) (t : Int) (x1 : Int) (x2 : Option Addr) (x3 x4 : Nat) (wr : World) : Prop where
 below : Below w.heap.size w wr
 ret : Box wr w.heap.size
 t : Vr wr (w.heap.size + 1) x1 x2 x3 x4 M t
theorem MK.keep {w w1 w2 : World} {M : Nat} {t x1 : Int} {x2 : Option Addr} {x3 x4 : Nat} (h : MK w M t x1 x2 x3 x4 w1) (hb : Below w1.heap.size w1 w2) : MK w M t x1 x2 x3 x4 w2 := ⟨below_keep hb h.below, h.ret.later hb, h.t.keep hb⟩
theorem MK.drew {w w1 : World} {M : Nat} {t x1 : Int} {x2 : Option Addr} {x3 x4 : Nat} (h : MK w M t x1 x2 x3 x4 w1) : MK w M t x1 x2 x3 x4 w1.drew := ⟨h.below.drew, h.ret, h.t.drew⟩
theorem MK.start (w : World) (M : Nat) : MK w M 0 0 none 0 0 ((w.alloc (.cells #[.int .i64 0, .slice none 0 0] 31)).alloc (.cells #[.int .i64 0, .slice none 0 0] 31)) := by
 have k1 := below_new w (.cells #[.int .i64 0, .slice none 0 0] 31)
 have k2 := below_new (w.alloc (.cells #[.int .i64 0, .slice none 0 0] 31)) (.cells #[.int .i64 0, .slice none 0 0] 31)
 have q2 := Vr.new (w := w.alloc (.cells #[.int .i64 0, .slice none 0 0] 31)) (Zr.near (z := 0) M (by decide) (by decide))
 rw [show (w.alloc (.cells #[.int .i64 0, .slice none 0 0] 31)).heap.size = w.heap.size + 1 by simp] at q2
 exact ⟨below_keep k2 k1, (box_new w).later k2, q2⟩
set_option maxHeartbeats 8000000 in
set_option maxRecDepth 8000 in
theorem msum_any {N : Nat} {v v' : Value} {a b : List Int} (w : World) (h : Rows 2 (ZE (N + 1)) w v a) (h' : Rows 2 (ZE (N + 1)) w v' b) (hab : b.length = a.length) (hl : a.length ≤ 100000000) (hN : N ≤ 100000) :
   Calls Tryz.prog 154 #[v, v'] w fun e w' => (∃ v, e = .returned v ∧ Zr (N + 1 + (N + 1) + 1) w' v (dot a b)) ∧ Below w.heap.size w w' := by
 obtain ⟨sa, sc, rfl⟩ := h.shape
 obtain ⟨ta, tc, rfl⟩ := h'.shape
 have HR := hide h
 have HR' := hide h'
 have HK := hide (MK.start w (N + 1 + (N + 1) + 1))
 rw [hab] at HR' ⊢
 have HAB := hide hab
 clear h h' hab
 go_enter Tryz.func154, Tryz.ntmps154
 go_wp2_with fail
 go_loopg [11] a.length (fun gk iv wr => ∃ (i : Nat) (t x1 : Int) (x2 : Option Addr) (x3 x4 : Nat), i ≤ a.length ∧ gk = a.length - i ∧ iv = .int .i64 (i : Int) ∧ Hid (t = dot (a.take i) (b.take i) ∧ -((i : Int) * (pw (N + 1) * pw (N + 1))) ≤ t ∧ t ≤ (i : Int) * (pw (N + 1) * pw (N + 1))) ∧ Hid (MK w (N + 1 + (N + 1) + 1) t x1 x2 x3 x4 wr))
 case atStart => exact ⟨0, 0, _, _, _, _, by omega, by omega, rfl, hide ⟨by simp [dot], by simp, by simp⟩, HK⟩
 case round =>
   clear HK
   obtain ⟨i, t, x1, x2, x3, x4, hi, hgk, rfl, HT, HK⟩ := hrel
   by_cases hil : i < a.length
   · obtain ⟨x, hx⟩ : ∃ s, a[i]? = some s := ⟨a[i], by simp [hil]⟩
     obtain ⟨y, hy⟩ : ∃ s, b[i]? = some s := ⟨b[i]'(by have := unhide HAB; omega), by simp⟩
     obtain ⟨b1, o1, rfl, cs, _, hcs, p1, p2, p3, p4, rfl, hX⟩ := (unhide HR).at hx
     obtain ⟨b2, o2, rfl, cs, _, hcs', q1, q2, q3, q4, rfl, hY⟩ := (unhide HR').at hy
     have c0 : wr.cell? ⟨b1, o1 + i * 2, none⟩ = some (.int .i64 p1) := cell_keep (unhide HK).below (by simpa using hcs 0 _ rfl)
     have c1 : wr.cell? ⟨b1, o1 + i * 2 + 1, none⟩ = some (.slice p2 p3 p4) := cell_keep (unhide HK).below (hcs 1 _ rfl)
     have HC := hide (And.intro (show w.cell? ⟨b2, o2 + i * 2, none⟩ = some (.int .i64 q1) from by simpa using hcs' 0 _ rfl) (show w.cell? ⟨b2, o2 + i * 2 + 1, none⟩ = some (.slice q2 q3 q4) from hcs' 1 _ rfl))
     have HXY := hide (And.intro hX hY)
     have HI := hide (And.intro hx hy)
     have hil' : (i : Int) < (a.length : Int) := by omega
     have him : (i : Int) + 1 ≤ 100000000 := by omega
     obtain ⟨near, sa', sn, sc', hve, hsg, _⟩ := hX.sgn
     obtain ⟨rfl, rfl, rfl, rfl⟩ : p1 = near ∧ p2 = sa' ∧ p3 = sn ∧ p4 = sc' := by simpa using hve
     obtain ⟨near', sa'', sn', sc'', hve', hsg', _⟩ := hY.sgn
     obtain ⟨rfl, rfl, rfl, rfl⟩ : q1 = near' ∧ q2 = sa'' ∧ q3 = sn' ∧ q4 = sc'' := by simpa using hve'
     have HSG := hide (And.intro hsg hsg')
     have kn := below_new wr (.cells #[.int .i64 p1, .slice p2 p3 p4] 31)
     have HZ := hide (Vr.new (hX.later (unhide HK).below))
     have HK := hide ((unhide HK).keep kn)
     clear hx hy hcs hcs' hX hY hve hve' hsg hsg' kn
     have z0 := (unhide HZ).c0
     have z1 := (unhide HZ).c1
     go_wp2_with fail
     go_fit (sign_any p1 (.slice p2 p3 p4) _)
     rintro e W1 ⟨rfl, B1⟩
     rw [(unhide HSG).1]
     have HK := hide ((unhide HK).keep B1)
     have HZ := hide ((unhide HZ).keep B1)
     have d0 := cell_keep (unhide HK).below (unhide HC).1
     have d1 := cell_keep (unhide HK).below (unhide HC).2
     clear B1 c0 c1 z0 z1
     by_cases hx0 : x = 0
     · rw [show sgn x = 0 by rw [hx0]; rfl]
       go_wp2
       go_roundg (a.length - (i + 1))
       case measure => omega
       case rel => exact ⟨i + 1, t, _, _, _, _, by omega, rfl, by go_num, hide (dot_next (unhide HI).1 (unhide HI).2 (unhide HAB) (by have := (unhide HXY).1.inside; have := (unhide HXY).2.inside; exact (pw_sq (unhide HXY).1.inside (unhide HXY).2.inside)) (unhide HT) (by rw [hx0]; omega)), HK⟩
     have hs1 := sgn_some hx0
     go_wp2_with fail
     go_fit (sign_any q1 (.slice q2 q3 q4) _)
     rintro e W2 ⟨rfl, B2⟩
     rw [(unhide HSG).2]
     have HK := hide ((unhide HK).keep B2)
     have HZ := hide ((unhide HZ).keep B2)
     clear d0 d1
     have d0 := cell_keep (unhide HK).below (unhide HC).1
     have d1 := cell_keep (unhide HK).below (unhide HC).2
     clear B2
     by_cases hy0 : y = 0
     · rw [show sgn y = 0 by rw [hy0]; rfl]
       go_wp2
       go_roundg (a.length - (i + 1))
       case measure => omega
       case rel => exact ⟨i + 1, t, _, _, _, _, by omega, rfl, by go_num, hide (dot_next (unhide HI).1 (unhide HI).2 (unhide HAB) (pw_sq (unhide HXY).1.inside (unhide HXY).2.inside) (unhide HT) (by rw [hy0]; omega)), HK⟩
     have hs2 := sgn_some hy0
     have HF : ∀ W v, Zr (N + 1 + (N + 1) + 2) W v (t + x * y) → Zr (N + 1 + (N + 1) + 1) W v (t + x * y) := fun W v h => h.fit (dot_fit him (dot_next (unhide HI).1 (unhide HI).2 (unhide HAB) (pw_sq (unhide HXY).1.inside (unhide HXY).2.inside) (unhide HT) rfl).2).1 (dot_fit him (dot_next (unhide HI).1 (unhide HI).2 (unhide HAB) (pw_sq (unhide HXY).1.inside (unhide HXY).2.inside) (unhide HT) rfl).2).2
     have HF := hide HF
     have HYW := hide ((unhide HXY).2.later (unhide HK).below)
     have t0 := (unhide HK).t.c0
     have t1 := (unhide HK).t.c1
     have z0 := (unhide HZ).c0
     have z1 := (unhide HZ).c1
     go_upto_region 6 with fail
     have HGI := hide (And.intro hgk (And.intro hi (And.intro hil (And.intro him (And.intro hl hN)))))
     clear hs1 hs2 hx0 hy0 hgk hi hil him hl
     go_region_with (first
       | (go_at_call 17; go_fit (mul_any (N := N) _ (unhide HZ).drew.zr (show Zr _ W2.drew _ _ from unhide HYW) (by omega)); rintro e9 Y1 ⟨⟨vm, rfl, hM⟩, hb⟩; obtain ⟨i1, i2, i3, i4, rfl⟩ := hM.shape; have HK := hide ((unhide HK).drew.keep hb); have t0 := (unhide HK).t.c0; have t1 := (unhide HK).t.c1; clear hb)
       | (go_at_call 15; go_fit (add_any (N := N + 1 + (N + 1)) _ (unhide HK).t.zr (hM.mono (by omega)) (by omega)); rintro e9 Y2 ⟨⟨va, rfl, hA⟩, hb⟩; have hA := unhide HF _ _ hA; obtain ⟨j1, j2, j3, j4, rfl⟩ := hA.shape; have HK := hide ((unhide HK).keep hb); obtain ⟨⟨x0, g0⟩, ⟨a0, n0, c0', g1⟩, gf⟩ := (unhide HK).t.box.cells; have hlt := (unhide HK).t.lt; clear hb))
     all_goals
       have him := (unhide HGI).2.2.2.1
       go_wp2
       go_roundg (a.length - (i + 1))
       case measure => have := unhide HGI; omega
       case rel => exact ⟨i + 1, t + x * y, _, _, _, _, by have := unhide HGI; omega, rfl, by go_num, hide (dot_next (unhide HI).1 (unhide HI).2 (unhide HAB) (pw_sq (unhide HXY).1.inside (unhide HXY).2.inside) (unhide HT) rfl), hide ⟨below_stored (unhide HK).below (by omega) _ _, (unhide HK).ret.aside2 (by omega) _ _, (unhide HK).t.store hA⟩⟩
   · obtain rfl : i = a.length := by omega
     clear hil hi hgk
     have t0 := (unhide HK).t.c0
     have t1 := (unhide HK).t.c1
     obtain ⟨⟨x0, g0⟩, ⟨a0, n0, c0', g1⟩, gf⟩ := (unhide HK).ret.cells
     have hlt := (unhide HK).t.lt
     go_wp2
     obtain ⟨st0, st1⟩ := (unhide HK).ret.stored (.int .i64 x1) (.slice x2 x3 x4)
     exact bodyPost_ret (v := .agg #[.int .i64 x1, .slice x2 x3 x4]) (by simp [results, Tryz.results154, go_sem, st0, st1]) rfl ⟨⟨_, rfl, by have h1 := (unhide HT).1; rw [List.take_length, ← unhide HAB, List.take_length] at h1; rw [← h1]; exact (unhide HK).t.zr.stored (unhide HK).ret _ _⟩, below_stored (unhide HK).below (by omega) _ _⟩
theorem kd_z (x1 : Int) (x2 : Option Addr) (x3 x4 : Nat) : ∀ u ∈ [Value.int .i64 x1, .slice x2 x3 x4], NoWord u := by
 intro u hu x
 simp at hu
 rcases hu with rfl | rfl <;> simp
theorem one_z (x1 : Int) (x2 : Option Addr) (x3 x4 : Nat) : ∀ u ∈ [Value.int .i64 x1, .slice x2 x3 x4], u.oneCell' = true := by
 intro u hu
 simp at hu
 rcases hu with rfl | rfl <;> rfl
theorem zk_z : ∀ u ∈ (Value.agg #[.int .i64 0, .slice none 0 0]).cells.toList, NoWord u := kd_z 0 none 0 0
theorem info_z : (Tryz.prog.info? 31).map (fun i => (i.zero, i.size, i.bytes)) = some (some (.agg #[.int .i64 0, .slice none 0 0]), 2, 32) := by kernel_rfl
theorem OwnR.set2 {α : Type} {K : Value → Prop} {E : World → List Value → α → Prop} {t : TypeId} {w : World} {base g n cap i : Nat} {L : List α} {u0 u1 : Value} {x : α} (h : OwnR K 2 E t w base (.slice (some ⟨g, 0, none⟩) n cap) L) (hE : Stays K t E) (hi : i < L.length) (hk : ∀ u ∈ [u0, u1], K u) (he : E w [u0, u1] x) :
   OwnR K 2 E t ((w.setCell ⟨g, i * 2, none⟩ u0).setCell ⟨g, i * 2 + 1, none⟩ u1) base (.slice (some ⟨g, 0, none⟩) n cap) (L.set i x) ∧ Chg K t w ((w.setCell ⟨g, i * 2, none⟩ u0).setCell ⟨g, i * 2 + 1, none⟩ u1) := by
 obtain ⟨xs, h1, h2⟩ := h
 have hkk := h1.kinds
 obtain ⟨hxl, ⟨h0, _⟩ | ⟨g', cap', cur, hv, hbg, hgg, hnc, hcm, hcs, htake⟩⟩ := h1.own
 · cases h0
 obtain ⟨rfl, rfl, rfl⟩ : g = g' ∧ n = L.length ∧ cap = cap' := by simpa using hv
 have hck : ∀ u ∈ cur.toList, K u := fun u hu => by
   obtain ⟨o, ho⟩ := List.getElem?_of_mem hu
   exact hkk g rfl o u (block_cell hgg (by simpa using ho))
 have b1 := setCell_block (o := i * 2) hgg u0
 have b2 := setCell_block (o := i * 2 + 1) b1 u1
 have hck1 : ∀ u ∈ (cur.setIfInBounds (i * 2) u0).toList, K u := fun u hu => by
   obtain ⟨o, ho⟩ := List.getElem?_of_mem hu
   rw [Array.getElem?_toList, Array.getElem?_setIfInBounds] at ho
   split at ho
   · split at ho
     · obtain rfl : u0 = u := by simpa using ho
       exact hk _ (by simp)
     · cases ho
   · exact hck u (by rw [← Array.mem_def]; exact Array.mem_of_getElem? ho)
 have hck2 : ∀ u ∈ ((cur.setIfInBounds (i * 2) u0).setIfInBounds (i * 2 + 1) u1).toList, K u := fun u hu => by
   obtain ⟨o, ho⟩ := List.getElem?_of_mem hu
   rw [Array.getElem?_toList, Array.getElem?_setIfInBounds] at ho
   split at ho
   · split at ho
     · obtain rfl : u1 = u := by simpa using ho
       exact hk _ (by simp)
     · cases ho
   · exact hck1 u (by rw [← Array.mem_def]; exact Array.mem_of_getElem? ho)
 have hc := (setCell_chg (o := i * 2) hgg hck u0).trans (setCell_chg (o := i * 2 + 1) b1 hck1 u1)
 have hsz : ((cur.setIfInBounds (i * 2) u0).setIfInBounds (i * 2 + 1) u1).size = cap * 2 := by simp [hcs]
 refine ⟨⟨((cur.setIfInBounds (i * 2) u0).setIfInBounds (i * 2 + 1) u1).toList.take (L.length * 2), ⟨⟨?_, Or.inr ⟨g, cap, _, by rw [List.length_set], hbg, b2, by rw [List.length_set]; exact hnc, hcm, hsz, by rw [List.length_set]⟩⟩, fun g' hg' o u hu => ?_⟩, fun j y hy => ?_⟩, hc⟩
 · have : ((cur.setIfInBounds (i * 2) u0).setIfInBounds (i * 2 + 1) u1).toList.length = cap * 2 := by rw [Array.length_toList]; exact hsz
   rw [List.length_take, List.length_set, this]
   omega
 · obtain rfl : g = g' := by simpa [Value.ownBlock] using hg'
   rw [cell_of_row _ g o _ t _ b2] at hu
   exact hck2 u (by rw [← Array.mem_def]; exact Array.mem_of_getElem? hu)
 · have hj : j < L.length := by have := (List.getElem?_eq_some_iff.1 hy).1; rw [List.length_set] at this; exact this
   by_cases hji : j = i
   · subst hji
     rw [List.getElem?_set_self hi] at hy
     obtain rfl : x = y := by simpa using hy
     refine ⟨[u0, u1], rfl, fun k u hu => ?_, hE _ _ _ _ he hc⟩
     match k, hu with
     | 0, hu =>
       obtain rfl : u0 = u := by simpa using hu
       rw [Nat.add_zero, List.getElem?_take_of_lt (by omega), Array.getElem?_toList, Array.getElem?_setIfInBounds, if_neg (by omega), Array.getElem?_setIfInBounds, if_pos (by omega), if_pos (by omega)]
     | 1, hu =>
       obtain rfl : u1 = u := by simpa using hu
       rw [List.getElem?_take_of_lt (by omega), Array.getElem?_toList, Array.getElem?_setIfInBounds, if_pos rfl, if_pos (by simp; omega)]
   · rw [List.getElem?_set_ne (Ne.symm hji)] at hy
     obtain ⟨cs, hl, hcs', he'⟩ := h2 j y hy
     refine ⟨cs, hl, fun k u hu => ?_, hE _ _ _ _ he' hc⟩
     have hkl : k < 2 := by have := (List.getElem?_eq_some_iff.1 hu).1; omega
     have h3 := hcs' k u hu
     rw [← htake, List.getElem?_take_of_lt (by omega), Array.getElem?_toList] at h3
     rw [List.getElem?_take_of_lt (by omega), Array.getElem?_toList, Array.getElem?_setIfInBounds, if_neg (by omega), Array.getElem?_setIfInBounds, if_neg (by omega)]
     exact h3
structure ScK (A : Nat → Addr) (w : World) (b1 b2 T : Nat) (a s : Int) (x1 : Int) (x2 : Option Addr) (x3 x4 : Nat) (y1 : Int) (y2 : Option Addr) (y3 y4 : Nat) (wr : World) : Prop where
 below : Below w.heap.size w wr
 env : Env A wr
 ret : RBox wr w.heap.size
 ab : Vr wr b1 x1 x2 x3 x4 T a
 sh : Vr wr b2 y1 y2 y3 y4 T s
 l1 : w.heap.size < b1
 l2 : w.heap.size < b2
 ne : b1 ≠ b2
theorem ScK.keep {A : Nat → Addr} {w w1 w2 : World} {b1 b2 T : Nat} {a s x1 y1 : Int} {x2 y2 : Option Addr} {x3 x4 y3 y4 : Nat} (h : ScK A w b1 b2 T a s x1 x2 x3 x4 y1 y2 y3 y4 w1) (hb : Below w1.heap.size w1 w2) : ScK A w b1 b2 T a s x1 x2 x3 x4 y1 y2 y3 y4 w2 := ⟨below_keep hb h.below, h.env.later hb, h.ret.later hb, h.ab.keep hb, h.sh.keep hb, h.l1, h.l2, h.ne⟩
theorem ScK.drew {A : Nat → Addr} {w w1 : World} {b1 b2 T : Nat} {a s x1 y1 : Int} {x2 y2 : Option Addr} {x3 x4 y3 y4 : Nat} (h : ScK A w b1 b2 T a s x1 x2 x3 x4 y1 y2 y3 y4 w1) : ScK A w b1 b2 T a s x1 x2 x3 x4 y1 y2 y3 y4 w1.drew := ⟨h.below.drew, h.env.later (Below.refl _ _).drew, h.ret, h.ab.drew, h.sh.drew, h.l1, h.l2, h.ne⟩
theorem RBox.aside2 {w : World} {r q : Nat} (h : RBox w r) (hne : r ≠ q) (u u' : Value) : RBox ((w.setCell ⟨q, 0, none⟩ u).setCell ⟨q, 1, none⟩ u') r := by
 obtain ⟨x, a, n, c, y, b, m, k, h⟩ := h
 exact ⟨x, a, n, c, y, b, m, k, by rw [Below.heap_setCell _ _ _ _ hne, Below.heap_setCell _ _ _ _ hne]; exact h⟩
theorem Env.stored {A : Nat → Addr} {w wr : World} (h : Env A w) (hb : Below w.heap.size w wr) : Env A wr := h.later hb
theorem lcm_next {a den g q : Int} (a0 : 0 < a) (d0 : 0 < den) (hg : g = (Int.gcd a den : Int)) (hq : q * g = a) : 0 < q * den ∧ a ∣ q * den ∧ den ∣ q * den ∧ q * den ≤ a * den ∧ 0 < g ∧ 0 < q ∧ q ≤ a ∧ g ≤ a := by
 have g0 : 0 < g := by rw [hg]; have := Int.gcd_pos_of_ne_zero_left den (show a ≠ 0 by omega); omega
 have q0 : 0 < q := by
   rcases Int.lt_or_le 0 q with h | h
   · exact h
   · have : q * g ≤ 0 * g := Int.mul_le_mul_of_nonneg_right h (by omega)
     omega
 have hqa : q ≤ a := by
   have : q * 1 ≤ q * g := Int.mul_le_mul_of_nonneg_left (by omega) (by omega)
   omega
 have hga : g ≤ a := by
   have : 1 * g ≤ q * g := Int.mul_le_mul_of_nonneg_right (by omega) (by omega)
   omega
 refine ⟨Int.mul_pos q0 d0, ?_, Int.dvd_mul_left _ _, Int.mul_le_mul_of_nonneg_right hqa (by omega), g0, q0, hqa, hga⟩
 obtain ⟨k, hk⟩ : g ∣ den := by rw [hg]; exact Int.gcd_dvd_right ..
 exact ⟨k, by rw [hk, ← hq, Int.mul_assoc]⟩
end Go.Proofs.YtkifiolkfdicoaaGreatDoor
