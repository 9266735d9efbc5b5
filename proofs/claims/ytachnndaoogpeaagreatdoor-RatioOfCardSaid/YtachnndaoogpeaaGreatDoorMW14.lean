/-
  Walks over package whole: divide, size, signed.
-/
import Derived.Test.YtachnndaoogpeaaGreatDoorMWC
namespace Go.Proofs.YtachnndaoogpeaaGreatDoor
open Go.RowKit

/-- A trimmed size, or the nil slice for 0. -/
def Szn (N : Nat) (w : World) (v : Value) (z : Int) : Prop := Sz N w v z ∨ (v = .slice none 0 0 ∧ z = 0)
theorem below_drewN {B : Nat} {a w : World} (h : Below B a w) (n : Nat) : Below B a (w.drewN n) := ⟨h.os, h.tape, h.output, h.size, h.block⟩

theorem compare_nm (ba oa ca bb ob cb n m : Nat) (a b : List Int) (w : World) (hra : Row w ba oa a) (hrb : Row w bb ob b) (ha : Ws a) (hb : Ws b) (ta : Trim a) (tb : Trim b) (hn : a.length = n) (hm : b.length = m) (hla : n ≤ 1000000) (hlb : m ≤ 1000000) :
    Calls Tryz.prog 78 #[.slice (some ⟨ba, oa, none⟩) n ca, .slice (some ⟨bb, ob, none⟩) m cb] w fun e w' => e = .returned (.int .i64 (sgn (val a - val b))) ∧ ∃ n, w' = w.drewN n := by
  subst hn hm
  exact compare_any ba oa ca bb ob cb a b w hra hrb ha hb ta tb hla hlb

set_option maxHeartbeats 1000000 in
theorem divide_less (ga oa ca gb ob cb n m : Nat) (a b : List Int) (w : World) (hra : Row w ga oa a) (hrb : Row w gb ob b) (ha : Ws a) (hb : Ws b) (ta : Trim a) (tb : Trim b) (hn : a.length = n) (hm : b.length = m) (hla : n ≤ 900000) (hlb : m ≤ 900000) (hlt : val a < val b) :
    Calls Tryz.prog 126 #[.slice (some ⟨ga, oa, none⟩) n ca, .slice (some ⟨gb, ob, none⟩) m cb] w fun e w' => e = .returned (.tuple #[.slice none 0 0, .slice (some ⟨ga, oa, none⟩) n ca]) ∧ ∃ k, w' = w.drewN k := by
  have HC := hide (sgn_neg (x := val a - val b) (by omega))
  have HN := hide hn
  have HM := hide hm
  clear hn hm
  go_enter Tryz.func126, Tryz.ntmps126
  go_wp2_with fail
  refine (compare_nm ga oa ca gb ob cb n m a b _ hra hrb ha hb ta tb (unhide HN) (unhide HM) (by omega) (by omega)).mono ?_
  rintro e w1 ⟨rfl, m, rfl⟩
  rw [unhide HC]
  go_wp2
  go_ret2
  exact ⟨rfl, m, rfl⟩

set_option maxHeartbeats 1000000 in
theorem divide_one (ga oa ca gb ob cb n : Nat) (a b : List Int) (y : Int) (w : World) (hra : Row w ga oa a) (hrb : Row w gb ob b) (ha : Ws a) (hb : Ws b) (ta : Trim a) (tb : Trim b) (hn : a.length = n) (hm : b = [y]) (hla : n ≤ 900000) (hlt : val b ≤ val a) (hy : 0 < y) :
    Calls Tryz.prog 126 #[.slice (some ⟨ga, oa, none⟩) n ca, .slice (some ⟨gb, ob, none⟩) 1 cb] w fun e w' => ∃ v1 v2 q r, e = .returned (.tuple #[v1, v2]) ∧ Sz (n + 1) w' v1 q ∧ Sz (n + 1) w' v2 r ∧ q * y + r = val a ∧ 0 ≤ r ∧ r < y ∧ Below w.heap.size w w' := by
  have hsg : 0 ≤ sgn (val a - val b) ∧ sgn (val a - val b) ≤ 1 := by
    by_cases e : val a = val b
    · rw [sgn_zero (by omega)]; decide
    · rw [sgn_pos (by omega)]; decide
  obtain ⟨sg, hsg1⟩ : ∃ sg, sgn (val a - val b) = sg := ⟨_, rfl⟩
  rw [hsg1] at hsg
  obtain ⟨sg0, sg1⟩ := hsg
  have HSG := hide hsg1
  have hcb : w.cell? ⟨gb, ob, none⟩ = some (.int .u64 y) := by have := hrb 0 (by rw [hm]; simp); rw [hm] at this; exact this
  have hyw : W64 y := hb y (by rw [hm]; simp)
  have hbl : b.length = 1 := by rw [hm]; rfl
  have hgb : gb < w.heap.size := hrb.lt (by rw [hm]; simp)
  have HN := hide hn
  have HBL := hide hbl
  clear hsg1 hn hbl hm hlt
  go_enter Tryz.func126, Tryz.ntmps126
  go_wp2_with fail
  refine (compare_nm ga oa ca gb ob cb n 1 a b _ hra hrb ha hb ta tb (unhide HN) (unhide HBL) (by omega) (by omega)).mono ?_
  rintro e w1 ⟨rfl, m, rfl⟩
  rw [unhide HSG]
  have hra1 : Row (w.drewN m) ga oa a := hra
  go_wp2_with (first | (at_make; refine wpList_make_words rfl _ _ rfl n (by omega) rfl rfl ?_; intro g w1 hmade) | (refine wpList_copy_words rfl (.tmp 18) (.tmp 19) rfl g 0 n n ga oa n ca (List.replicate n 0) a rfl rfl (by simp) (unhide HN) (Nat.le_refl _) hmade.row (hra1.later hmade.below) hmade.free ?_; intro w2 hrow hedit; have hcb2 : w2.cell? ⟨gb, ob, none⟩ = some (.int .u64 y) := edit_cell hedit ((hmade.below.cell (p := ⟨gb, ob, none⟩) hgb).trans hcb) (by have := hmade.at_; simp at this; omega)))
  have hrow' : Row w2 g 0 a := by
    have := hrow
    rwa [List.drop_eq_nil_of_le (by simp), List.append_nil] at this
  have hgs : w.heap.size = g := by have := hmade.at_; simpa using this.symm
  have hbw : Below w.heap.size w w2 := by
    have h1 : Below w.heap.size w w1 := ⟨hmade.below.os, hmade.below.tape, hmade.below.output, hmade.below.size, hmade.below.block⟩
    exact h1.trans (hedit.below (by omega) (by have := h1.size; omega))
  have HGS := hide hgs
  clear hgs
  refine (divideWord_any g 0 n n a y _ (by exact hrow') (by exact hedit.free hmade.free) ha hyw hy (unhide HN) (by omega)).mono ?_
  rintro e w3 ⟨r, out, rfl, r0, r1, lo, wo, eo, ro, ed⟩
  have HO := hide (And.intro lo eo)
  clear lo eo
  go_wp2_with fail
  refine (trim_sz g 0 n n out _ (by exact ro) wo (unhide HO).1 (Nat.le_refl _) (by omega)).mono ?_
  rintro e w4 ⟨v1, rfl, hsz1, rfl⟩
  go_wp2_with fail
  have hnew : Row (w3.alloc (.cells #[.int .u64 r] 105)) w3.heap.size 0 [r] := by
    intro k hk
    simp at hk; subst hk
    simp [nth]
  refine (trim_sz w3.heap.size 0 1 1 [r] _ (by exact hnew) (Ws.mk ⟨r0, by have := hyw.2; omega⟩ Ws.nil) rfl (Nat.le_refl _) (by omega)).mono ?_
  rintro e w5 ⟨v2, rfl, hsz2, rfl⟩
  go_wp2
  go_ret2
  have bb : Below w.heap.size w w3 := hbw.trans (ed.below (by have := unhide HGS; omega) hbw.size)
  refine ⟨_, _, _, r, rfl, (hsz1.mono (by omega)).later ((Below.refl _ _).alloc (Nat.le_refl _) _), (hsz2.mono (by omega)).eq (by simp [val]), (unhide HO).2.symm, r0, r1, bb.alloc bb.size _⟩

set_option maxHeartbeats 1000000 in
theorem divide_long (ga oa ca gb ob cb n m : Nat) (a b : List Int) (w : World) (hra : Row w ga oa a) (hrb : Row w gb ob b) (ha : Ws a) (hb : Ws b) (ta : Trim a) (tb : Trim b) (hn : a.length = n) (hm : b.length = m) (hm2 : 2 ≤ m) (hmn : m ≤ n) (hla : n ≤ 900000) (hlt : val b ≤ val a) :
    Calls Tryz.prog 126 #[.slice (some ⟨ga, oa, none⟩) n ca, .slice (some ⟨gb, ob, none⟩) m cb] w fun e w' => ∃ v1 v2 q r, e = .returned (.tuple #[v1, v2]) ∧ Sz (n + 1) w' v1 q ∧ Sz (n + 1) w' v2 r ∧ q * val b + r = val a ∧ 0 ≤ r ∧ r < val b ∧ Below w.heap.size w w' := by
  have hsg : 0 ≤ sgn (val a - val b) ∧ sgn (val a - val b) ≤ 1 := by
    by_cases e : val a = val b
    · rw [sgn_zero (by omega)]; decide
    · rw [sgn_pos (by omega)]; decide
  obtain ⟨sg, hsg1⟩ : ∃ sg, sgn (val a - val b) = sg := ⟨_, rfl⟩
  rw [hsg1] at hsg
  obtain ⟨sg0, sg1⟩ := hsg
  have HSG := hide hsg1
  have htop : nth b (m - 1) ≠ 0 := by
    rcases tb with tb | tb
    · subst tb; simp at hm; omega
    · rwa [hm] at tb
  have HN := hide hn
  have HM := hide hm
  have hm1 : ((m : Int) == 1) = false := by simp; omega
  clear hsg1 hn hm hlt
  go_enter Tryz.func126, Tryz.ntmps126
  go_wp2_with fail
  refine (compare_nm ga oa ca gb ob cb n m a b _ hra hrb ha hb ta tb (unhide HN) (unhide HM) (by omega) (by omega)).mono ?_
  rintro e w1 ⟨rfl, k, rfl⟩
  rw [unhide HSG]
  go_wp2_with fail
  refine (divideLong_any ga oa ca gb ob cb n m a b _ (by exact hra) (by exact hrb) ha hb htop (unhide HN) (unhide HM) (by omega) hmn hla).mono ?_
  rintro e w2 ⟨v1, v2, q, r, rfl, s1, s2, e1, r0, r1, bl⟩
  have HE := hide e1
  clear e1
  go_wp2
  go_ret2
  exact ⟨_, _, q, r, rfl, s1, s2, unhide HE, r0, r1, ⟨bl.os, bl.tape, bl.output, bl.size, bl.block⟩⟩

set_option maxHeartbeats 1000000 in
theorem divide_any {N M : Nat} {va vb : Value} {x y : Int} (w : World) (hva : Sz N w va x) (hvb : Sz M w vb y) (hy : 0 < y) (hlim : N ≤ 900000) (hlim2 : M ≤ 900000) :
    Calls Tryz.prog 126 #[va, vb] w fun e w' => ∃ v1 v2 q r, e = .returned (.tuple #[v1, v2]) ∧ Szn (N + 1) w' v1 q ∧ Sz (N + 1) w' v2 r ∧ q * y + r = x ∧ 0 ≤ r ∧ r < y ∧ Below w.heap.size w w' := by
  have hva0 := hva
  obtain ⟨ga, oa, ca, a, rfl, ha, ta, rfl, na, la, lca, hra⟩ := hva
  obtain ⟨gb, ob, cb, b, rfl, hb, tb, rfl, nb, lb, lcb, hrb⟩ := hvb
  have hx0 := val_nonneg ha
  by_cases hlt : val a < val b
  · refine (divide_less ga oa ca gb ob cb _ _ a b w hra hrb ha hb ta tb rfl rfl (by omega) (by omega) hlt).mono ?_
    rintro e w1 ⟨rfl, m, rfl⟩
    exact ⟨_, _, 0, val a, rfl, Or.inr ⟨rfl, rfl⟩, (hva0.mono (by omega)).later (below_drewN (Below.refl _ _) m), by omega, by omega, hlt, below_drewN (Below.refl _ _) m⟩
  · have hlen : b.length ≤ a.length := by
      by_cases g : b.length ≤ a.length
      · exact g
      · have := val_lt_of_length ha hb tb (by omega); omega
    have hbn : b ≠ [] := by intro e; subst e; simp [val] at hy
    have hb1 : 1 ≤ b.length := List.length_pos_iff.2 hbn
    by_cases hone : b.length = 1
    · obtain ⟨y0, hyb⟩ : ∃ y0, b = [y0] := List.length_eq_one_iff.1 hone
      have hy0 : val b = y0 := by rw [hyb]; simp [val]
      rw [hone]
      refine (divide_one ga oa ca gb ob cb _ a b y0 w hra hrb ha hb ta tb rfl hyb (by omega) (by omega) (by omega)).mono ?_
      rintro e w1 ⟨v1, v2, q, r, rfl, s1, s2, e1, r0, r1, bl⟩
      exact ⟨v1, v2, q, r, rfl, Or.inl (s1.mono (by omega)), s2.mono (by omega), by rw [hy0]; exact e1, r0, by omega, bl⟩
    · refine (divide_long ga oa ca gb ob cb _ _ a b w hra hrb ha hb ta tb rfl rfl (by omega) hlen (by omega) (by omega)).mono ?_
      rintro e w1 ⟨v1, v2, q, r, rfl, s1, s2, e1, r0, r1, bl⟩
      exact ⟨v1, v2, q, r, rfl, Or.inl (s1.mono (by omega)), s2.mono (by omega), e1, r0, r1, bl⟩

theorem Zr.shape {N : Nat} {w : World} {v : Value} {z : Int} (h : Zr N w v z) : ∃ near a n cap, v = .agg #[.int .i64 near, .slice a n cap] := by
  rcases h with ⟨rfl, _⟩ | ⟨s, b, off, cap, l, rfl, _⟩
  · exact ⟨_, _, _, _, rfl⟩
  · exact ⟨_, _, _, _, rfl⟩
/-- A box of a number: two cells of its own, not frozen. -/
def Box (w : World) (r : Nat) : Prop := ∃ x a n c, w.heap[r]? = some (.cells #[.int .i64 x, .slice a n c] 31 (0, 0))
theorem Box.cells {w : World} {r : Nat} (h : Box w r) : (∃ x, w.cell? ⟨r, 0, none⟩ = some (.int .i64 x)) ∧ (∃ a n c, w.cell? ⟨r, 1, none⟩ = some (.slice a n c)) ∧ (∀ o, w.frozen? ⟨r, o, none⟩ = false) := by
  obtain ⟨x, a, n, c, h⟩ := h
  exact ⟨⟨x, by simp [World.cell?, h]⟩, ⟨a, n, c, by simp [World.cell?, h]⟩, fun o => by simp [World.frozen?, h]⟩
theorem Row.notBox {w : World} {b off r : Nat} {l : List Int} (hr : Row w b off l) (hl : l ≠ []) (h : Box w r) : b ≠ r := by
  intro e
  subst e
  obtain ⟨x, a, n, c, h⟩ := h
  have := hr 0 (List.length_pos_iff.2 hl)
  simp only [World.cell?, h] at this
  match off, this with
  | 0, this => simp at this
  | 1, this => simp at this
  | k + 2, this => simp at this
theorem Zr.stored {N : Nat} {w : World} {v : Value} {z : Int} {r : Nat} (h : Zr N w v z) (hb : Box w r) (u u' : Value) : Zr N ((w.setCell ⟨r, 0, none⟩ u).setCell ⟨r, 1, none⟩ u') v z := by
  rcases h with h | ⟨s, b, off, cap, l, h1, h2, h3, h4, h5, h6, h7, h8, h9, h10, h11⟩
  · exact Or.inl h
  · have hne := h10.notBox h5 hb
    refine Or.inr ⟨s, b, off, cap, l, h1, h2, h3, h4, h5, h6, h7, h8, h9, fun k hk => ?_, h11⟩
    rw [cell?_setCell_ne _ _ _ _ _ _ (by omega), cell?_setCell_ne _ _ _ _ _ _ (by omega)]
    exact h10 k hk
theorem Box.stored {w : World} {r : Nat} (h : Box w r) (u u' : Value) : ((w.setCell ⟨r, 0, none⟩ u).setCell ⟨r, 1, none⟩ u').cell? ⟨r, 0, none⟩ = some u ∧ ((w.setCell ⟨r, 0, none⟩ u).setCell ⟨r, 1, none⟩ u').cell? ⟨r, 1, none⟩ = some u' := by
  obtain ⟨⟨x, h0⟩, ⟨a, n, c, h1⟩, _⟩ := h.cells
  constructor
  · rw [cell?_setCell_ne _ _ _ _ _ _ (by omega)]; exact cell?_setCell_eq h0
  · exact cell?_setCell_eq (u := .slice a n c) (by rw [cell?_setCell_ne _ _ _ _ _ _ (by omega)]; exact h1)
theorem below_stored {B : Nat} {a w : World} {r : Nat} (h : Below B a w) (hr : B ≤ r) (u u' : Value) : Below B a ((w.setCell ⟨r, 0, none⟩ u).setCell ⟨r, 1, none⟩ u') := (h.setCell (p := ⟨r, 0, none⟩) hr u).setCell (p := ⟨r, 1, none⟩) hr u'
theorem box_new (w : World) : Box (w.alloc (.cells #[.int .i64 0, .slice none 0 0] 31)) w.heap.size := ⟨_, _, _, _, heap_alloc_new w _⟩
theorem Box.later {w w' : World} {r : Nat} (h : Box w r) (hb : Below w.heap.size w w') : Box w' r := by
  obtain ⟨x, a, n, c, h⟩ := h
  exact ⟨x, a, n, c, by rw [hb.block r (Array.getElem?_eq_some_iff.1 h).1]; exact h⟩

theorem pw1 : pw 1 = 18446744073709551616 := by simp [pw]

set_option maxHeartbeats 1000000 in
theorem signed_core (s : Int) (g o cap n : Nat) (l : List Int) (w : World) (hr : Row w g o l) (hl : Ws l) (hn : l.length = n) (hcap : n ≤ cap) (hlim : cap ≤ 9223372036854775807) (hs : s = 1 ∨ s = -1 ∨ (s = 0 ∧ val l = 0)) :
    Calls Tryz.prog 76 #[.int .i64 s, .slice (some ⟨g, o, none⟩) n cap] w fun e w' => (∃ v, e = .returned v ∧ Zr n w' v (s * val l)) ∧ Below w.heap.size w w' := by
  have HS := hide hs
  have HN := hide hn
  clear hs hn
  go_enter Tryz.func76, Tryz.ntmps76
  go_wp2_with fail
  have hr1 : Row (w.alloc (.cells #[.int .i64 0, .slice none 0 0] 31)) g o l := hr.later ((Below.refl _ _).alloc (Nat.le_refl _) _)
  refine (trim_sz g o cap n l _ (by exact hr1) hl (unhide HN) hcap hlim).mono ?_
  rintro e w1 ⟨v, rfl, ⟨g2, o2, c2, l2, rfl, wl2, tl2, el2, nl2, ll2, lc2, hr2⟩, rfl⟩
  have HE := hide el2
  clear el2
  obtain ⟨k, hk⟩ : ∃ k, l2.length = k := ⟨_, rfl⟩
  rw [hk]
  rw [hk] at nl2 ll2
  have HK := hide hk
  clear hk
  by_cases k0 : k = 0
  · subst k0
    go_wp2
    refine bodyPost_ret (v := .agg #[.int .i64 0, .slice none 0 0]) (by simp [results, Tryz.results76, go_sem]) rfl ⟨⟨_, rfl, (Zr.near n (by decide) (by decide)).eq ?_⟩, (Below.refl _ _).alloc (Nat.le_refl _) _⟩
    have : l2 = [] := List.eq_nil_of_length_eq_zero (unhide HK)
    rw [← unhide HE, this]; simp [val]
  · by_cases k1 : k = 1
    · subst k1
      obtain ⟨x, hx⟩ : ∃ x, l2 = [x] := List.length_eq_one_iff.1 (unhide HK)
      subst hx
      have hx0 : val l = x := by rw [← unhide HE]; simp [val]
      have hcx : (w.alloc (.cells #[.int .i64 0, .slice none 0 0] 31)).cell? ⟨g2, o2, none⟩ = some (.int .u64 x) := hr2 0 (by simp)
      have hxw := wl2 x (by simp)
      have HX := hide hx0
      clear hx0
      go_wp2_with fail
      refine (signedWord_any s x _ (by rcases unhide HS with h | h | ⟨h, h'⟩
                                       · exact Or.inl h
                                       · exact Or.inr (Or.inl h)
                                       · exact Or.inr (Or.inr ⟨h, by rw [← unhide HX]; exact h'⟩)) hxw.1 hxw.2).mono ?_
      rintro e w2 ⟨⟨v, rfl, hZ⟩, hb⟩
      have hbox : Box w2 w.heap.size := (box_new w).later hb
      obtain ⟨near, a, n', c', rfl⟩ := hZ.shape
      obtain ⟨⟨x0, hb0⟩, ⟨a1, n1, c1, hb1⟩, hbf⟩ := hbox.cells
      have hz : w.heap.size < w2.heap.size := by have := hb.size; simp at this; omega
      go_wp2
      obtain ⟨st0, st1⟩ := hbox.stored (.int .i64 near) (.slice a n' c')
      have bw : Below w.heap.size w w2 := ((Below.refl _ _).alloc (Nat.le_refl _) _).trans (hb.mono (by simp))
      exact bodyPost_ret (v := .agg #[.int .i64 near, .slice a n' c']) (by simp [results, Tryz.results76, go_sem, st0, st1]) rfl ⟨⟨_, rfl, ((hZ.mono (by omega)).stored hbox _ _).eq (by rw [unhide HX])⟩, below_stored bw (Nat.le_refl _) _ _⟩
    · have hk2 : 2 ≤ k := by omega
      have ne0 : ((k : Int) == 0) = false := by simp; omega
      have ne1 : ((k : Int) == 1) = false := by simp; omega
      have hne : l2 ≠ [] := by intro e; have := unhide HK; subst e; simp at this; omega
      have hbig : 18446744073709551616 ≤ val l := by
        rw [← unhide HE]
        have h1 := val_ge wl2 tl2 hne
        have h2 := pw_mono (show 1 ≤ l2.length - 1 by have := unhide HK; omega)
        rw [pw1] at h2
        omega
      have HB := hide hbig
      clear hbig
      have hbox := box_new w
      have hg2 : g2 < w.heap.size := by
        have h1 := hr2.lt hne
        have h2 := hr2.notBox hne hbox
        simp at h1
        omega
      have hr0 : Row w g2 o2 l2 := by
        intro j hj
        have := hr2 j hj
        rwa [World.cell?_of_block (w := w) (a := ⟨g2, o2 + j, none⟩) (Below.heap_alloc w _ g2 hg2)] at this
      go_wp2
      refine bodyPost_ret (v := .agg #[.int .i64 s, .slice (some ⟨g2, o2, none⟩) k c2]) (by simp [results, Tryz.results76, go_sem]) rfl ⟨⟨_, rfl, Or.inr ⟨s, g2, o2, c2, l2, ?_, ?_, wl2, tl2, hne, ?_, ?_, ?_, lc2, hr0.later ((Below.refl _ _).alloc (Nat.le_refl _) _), ?_⟩⟩, (Below.refl _ _).alloc (Nat.le_refl _) _⟩
      · rw [unhide HK]
      · have := unhide HB
        rcases unhide HS with h | h | ⟨h, h'⟩
        · exact Or.inl h
        · exact Or.inr h
        · omega
      · rw [unhide HE]
      · rw [unhide HK]; exact nl2
      · rw [unhide HK]; exact ll2
      · have := unhide HB
        rcases unhide HS with h | h | ⟨h, h'⟩
        · right; rw [h]; omega
        · left; rw [h]; omega
        · omega

set_option maxHeartbeats 1000000 in
theorem signed_nil (s : Int) (w : World) :
    Calls Tryz.prog 76 #[.int .i64 s, .slice none 0 0] w fun e w' => (∃ v, e = .returned v ∧ Zr 0 w' v 0) ∧ Below w.heap.size w w' := by
  go_enter Tryz.func76, Tryz.ntmps76
  go_wp2_with fail
  refine (trim_nil _).mono ?_
  rintro e w1 ⟨rfl, rfl⟩
  go_wp2
  exact bodyPost_ret (v := .agg #[.int .i64 0, .slice none 0 0]) (by simp [results, Tryz.results76, go_sem]) rfl ⟨⟨_, rfl, Zr.near 0 (by decide) (by decide)⟩, (Below.refl _ _).alloc (Nat.le_refl _) _⟩

/-- signed: the number of a sign and a size. -/
theorem signed_any {N : Nat} {v : Value} {z : Int} (s : Int) (w : World) (hv : Szn N w v z) (hs : s = 1 ∨ s = -1 ∨ (s = 0 ∧ z = 0)) :
    Calls Tryz.prog 76 #[.int .i64 s, v] w fun e w' => (∃ v, e = .returned v ∧ Zr N w' v (s * z)) ∧ Below w.heap.size w w' := by
  rcases hv with ⟨g, o, c, l, rfl, wl, tl, rfl, nl, ll, lc, hr⟩ | ⟨rfl, rfl⟩
  · refine (signed_core s g o c _ l w hr wl rfl ll lc hs).mono ?_
    rintro e w' ⟨⟨v, rfl, h⟩, hb⟩
    exact ⟨⟨v, rfl, h.mono nl⟩, hb⟩
  · refine (signed_nil s w).mono ?_
    rintro e w' ⟨⟨v, rfl, h⟩, hb⟩
    exact ⟨⟨v, rfl, (h.mono (Nat.zero_le _)).eq (by simp)⟩, hb⟩
end Go.Proofs.YtachnndaoogpeaaGreatDoor
