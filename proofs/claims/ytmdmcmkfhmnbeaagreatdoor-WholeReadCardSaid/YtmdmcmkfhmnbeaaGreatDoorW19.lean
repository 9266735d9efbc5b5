/-
  Walks over package whole: Mul of numbers.
-/
import Derived.Test.YtmdmcmkfhmnbeaaGreatDoorW18
namespace Go.Proofs.YtmdmcmkfhmnbeaaGreatDoor
open Go.RowKit

theorem mul_sgn {x y z o : Int} (hx : sgn x = sgn z) (hy : sgn y = sgn o) : sgn x * sgn y * (iabs z * iabs o) = z * o ∧ (sgn x * sgn y = 1 ∨ sgn x * sgn y = -1 ∨ (sgn x * sgn y = 0 ∧ iabs z * iabs o = 0)) := by
  rw [hx, hy]
  rcases sgn_val z with ⟨a, b, c⟩ | ⟨a, b, c⟩ | ⟨a, b, c⟩ <;> rcases sgn_val o with ⟨a', b', c'⟩ | ⟨a', b', c'⟩ | ⟨a', b', c'⟩ <;> rw [b, b', c, c'] <;> first | (subst a; simp; done) | (subst a'; simp; done) | exact ⟨by grind, by simp⟩
theorem iabs_w64 {x : Int} (h0 : -9223372036854775808 ≤ x) (h1 : x ≤ 9223372036854775807) : W64 (iabs x) := by unfold iabs W64; split <;> omega
theorem new_cell {X : World} {n : Nat} (h : X.heap.size = n) (c : Array Value) (t : TypeId) (k : Nat) : (X.alloc (.cells c t)).cell? ⟨n, k, none⟩ = c[k]? := by
  subst h
  simp only [World.cell?, heap_alloc_new]
  rfl
theorem zr_two {w : World} {b : Nat} {s lo hi : Int} (hs : s = 1 ∨ s = -1) (l0 : 0 ≤ lo) (l1 : lo < 18446744073709551616) (h0 : 0 < hi) (h1 : hi < 18446744073709551616) (hc : w.cell? ⟨b, 0, none⟩ = some (.int .u64 lo)) (hc' : w.cell? ⟨b, 1, none⟩ = some (.int .u64 hi)) :
    Zr 2 w (.agg #[.int .i64 s, .slice (some ⟨b, 0, none⟩) 2 2]) (s * (lo + 18446744073709551616 * hi)) := by
  refine Or.inr ⟨s, b, 0, 2, [lo, hi], rfl, hs, Ws.mk ⟨l0, l1⟩ (Ws.mk ⟨by omega, h1⟩ Ws.nil), Or.inr ?_, by simp, by simp [val], by simp, by simp, by decide, ?_, ?_⟩
  · simp [nth]; omega
  · intro k hk
    simp at hk
    match k, hk with
    | 0, _ => simpa [nth] using hc
    | 1, _ => simpa [nth] using hc'
  · rcases hs with rfl | rfl
    · right; omega
    · left; omega

set_option maxHeartbeats 2000000 in
theorem mul_core {N : Nat} (x y : Int) (a1 a2 : Option Addr) (n1 c1 n2 c2 : Nat) (z o : Int) (w : World) (hz : Zr (N + 1) w (.agg #[.int .i64 x, .slice a1 n1 c1]) z) (ho : Zr (N + 1) w (.agg #[.int .i64 y, .slice a2 n2 c2]) o) (hlim : N ≤ 400000) :
    Calls Tryz.prog 12 #[.agg #[.int .i64 x, .slice a1 n1 c1], .agg #[.int .i64 y, .slice a2 n2 c2]] w fun e w' => (∃ v, e = .returned v ∧ Zr (N + 1 + (N + 1)) w' v (z * o)) ∧ Below w.heap.size w w' := by
  have HZ := hide hz
  have HO := hide ho
  have tok1 : True := trivial
  have HSX : Hid (sgn x = sgn z) := by
    obtain ⟨x', a', n', c', hvv, hsg, _⟩ := hz.sgn
    obtain ⟨rfl, _⟩ : x = x' ∧ _ := by simpa using hvv
    exact hsg
  have HSY : Hid (sgn y = sgn o) := by
    obtain ⟨x', a', n', c', hvv, hsg, _⟩ := ho.sgn
    obtain ⟨rfl, _⟩ : y = x' ∧ _ := by simpa using hvv
    exact hsg
  have HNX : Hid (a1 = none → x = z ∧ -9223372036854775808 ≤ z ∧ z ≤ 9223372036854775807) := by
    obtain ⟨x', a', n', c', hvv, _, h, _⟩ := hz.sgn
    obtain ⟨rfl, rfl, _⟩ : x = x' ∧ a1 = a' ∧ _ := by simpa using hvv
    exact fun e => ⟨(h e).1, (h e).2.2.2⟩
  have HNY : Hid (a2 = none → y = o ∧ -9223372036854775808 ≤ o ∧ o ≤ 9223372036854775807) := by
    obtain ⟨x', a', n', c', hvv, _, h, _⟩ := ho.sgn
    obtain ⟨rfl, rfl, _⟩ : y = x' ∧ a2 = a' ∧ _ := by simpa using hvv
    exact fun e => ⟨(h e).1, (h e).2.2.2⟩
  obtain ⟨m1, m2⟩ := mul_sgn (unhide HSX) (unhide HSY)
  obtain ⟨sg, hsg⟩ : ∃ sg, sgn x * sgn y = sg := ⟨_, rfl⟩
  rw [hsg] at m1 m2
  have sg0 : -1 ≤ sg ∧ sg ≤ 1 := by omega
  have hw1 : IntKind.i64.wrap (sgn x * sgn y) = sg := by rw [hsg, IntKind.wrap_i64]; omega
  have hw2 : wrap64 (sgn x * sgn y) = sg := by rw [hsg]; unfold wrap64; omega
  have HM1 := hide m1
  have HM2 := hide m2
  obtain ⟨sgl, sgh⟩ := sg0
  clear hz ho hsg m1 m2
  go_enter Tryz.func12, Tryz.ntmps12
  go_wp2_with fail
  obtain ⟨W1, hW1⟩ : ∃ W1, W1 = ((w.alloc (.cells #[.int .i64 x, .slice a1 n1 c1] 24)).alloc (.cells #[.int .i64 y, .slice a2 n2 c2] 24)).alloc (.cells #[.int .i64 0, .slice none 0 0] 24) := ⟨_, rfl⟩
  have hst := hstart w (.cells #[.int .i64 x, .slice a1 n1 c1] 24) (.cells #[.int .i64 y, .slice a2 n2 c2] 24)
  have hS1 : Below w.heap.size w W1 ∧ Box W1 (w.heap.size + 2) ∧ W1.cell? ⟨w.heap.size, 0, none⟩ = some (.int .i64 x) ∧ W1.cell? ⟨w.heap.size, 1, none⟩ = some (.slice a1 n1 c1) ∧ W1.cell? ⟨w.heap.size + 1, 0, none⟩ = some (.int .i64 y) ∧ W1.cell? ⟨w.heap.size + 1, 1, none⟩ = some (.slice a2 n2 c2) := by
    rw [hW1]; exact ⟨hst.1, hst.2, by simp [go_sem], by simp [go_sem], by simp [go_sem], by simp [go_sem]⟩
  rw [← hW1]
  clear hW1 hst
  obtain ⟨hbW, hbox, hc0, hc1, hc2, hc3⟩ := hS1
  go_region_held3 (fun w' => Below w.heap.size w w' ∧ Box w' (w.heap.size + 2) ∧ w'.cell? ⟨w.heap.size, 0, none⟩ = some (.int .i64 x) ∧ w'.cell? ⟨w.heap.size, 1, none⟩ = some (.slice a1 n1 c1) ∧ w'.cell? ⟨w.heap.size + 1, 0, none⟩ = some (.int .i64 y) ∧ w'.cell? ⟨w.heap.size + 1, 1, none⟩ = some (.slice a2 n2 c2))
    (first | exact ⟨hbW.drew, hbox, hc0, hc1, hc2, hc3⟩ | exact keep21 (by assumption) (by assumption))
    (first | (go_at_call 22; go_fit (sign_any _ _ _); rintro e w4 ⟨rfl, hb4⟩))
  have hS4 : Below w.heap.size w w4 ∧ Box w4 (w.heap.size + 2) ∧ w4.cell? ⟨w.heap.size, 0, none⟩ = some (.int .i64 x) ∧ w4.cell? ⟨w.heap.size, 1, none⟩ = some (.slice a1 n1 c1) ∧ w4.cell? ⟨w.heap.size + 1, 0, none⟩ = some (.int .i64 y) ∧ w4.cell? ⟨w.heap.size + 1, 1, none⟩ = some (.slice a2 n2 c2) := by assumption
  clear hbW hbox hc0 hc1 hc2 hc3
  obtain ⟨hbW, hbox, hc0, hc1, hc2, hc3⟩ := hS4
  go_wp2_with fail
  go_fit (bothNear_any x y a1 a2 n1 c1 n2 c2 _)
  rintro e W5 ⟨rfl, hb0⟩
  obtain ⟨hbW, hbox, hc0, hc1, hc2, hc3⟩ := keep21 hb0 ⟨hbW, hbox, hc0, hc1, hc2, hc3⟩
  cases hbn : (a1.isNone && a2.isNone)
  · go_wp2_with fail
    go_region_held3 (fun w' => Below w.heap.size w w' ∧ Box w' (w.heap.size + 2) ∧ w'.cell? ⟨w.heap.size, 0, none⟩ = some (.int .i64 x) ∧ w'.cell? ⟨w.heap.size, 1, none⟩ = some (.slice a1 n1 c1) ∧ w'.cell? ⟨w.heap.size + 1, 0, none⟩ = some (.int .i64 y) ∧ w'.cell? ⟨w.heap.size + 1, 1, none⟩ = some (.slice a2 n2 c2))
      (first | exact ⟨hbW.drew, hbox, hc0, hc1, hc2, hc3⟩ | exact keep21 (by assumption) (by assumption) | exact store21 (by assumption) (by omega) (by omega) (by omega))
      (first | (go_at_call 43; have _t := tok1; go_fit (size_any (z := z) (N := N) _ ((unhide HZ).later (And.left (by assumption)))); rintro e w2 ⟨sv1, rfl, hsv1, hb2⟩; clear tok1) | (go_at_call 43; go_fit (size_any (z := o) (N := N) _ ((unhide HO).later (And.left (by assumption)))); rintro e w3 ⟨sv2, rfl, hsv2, hb3⟩) | (go_at_call 48; go_fit (product_any _ (hsv1.later hb3) hsv2 (by omega)); rintro e w6 ⟨sv6, rfl, hsv6, hb6⟩) | (go_at_call 44; go_fit (signed_any sg _ (Or.inl hsv6) (unhide HM2)); rintro e w7 ⟨⟨v7, rfl, hZ7⟩, hb7⟩; obtain ⟨near7, a7, n7, c7, hv7⟩ := hZ7.shape; subst hv7; obtain ⟨x0, a0, n0, c0, g0, g1, gf⟩ := boxOf hb7 (by assumption)))
    go_wp2
    have hbx : Box w7 (w.heap.size + 2) := (((Box.later (w := W5.drew) hbox hb2).later hb3).later hb6).later hb7
    have hbl : Below w.heap.size w w7 := below_keep hb7 (below_keep hb6 (below_keep hb3 (below_keep hb2 hbW.drew)))
    obtain ⟨st0, st1⟩ := hbx.stored (.int .i64 near7) (.slice a7 n7 c7)
    exact bodyPost_ret (v := .agg #[.int .i64 near7, .slice a7 n7 c7]) (by simp [results, Tryz.results12, go_sem, st0, st1]) rfl ⟨⟨_, rfl, (hZ7.stored hbx _ _).eq (unhide HM1)⟩, below_stored hbl (by omega) _ _⟩
  · simp at hbn
    obtain ⟨xz, z0, z1⟩ := unhide HNX hbn.1
    obtain ⟨yo, o0, o1⟩ := unhide HNY hbn.2
    subst xz yo
    clear hbn
    go_wp2_with fail
    go_region_held3 (fun w' => Below w.heap.size w w' ∧ Box w' (w.heap.size + 2) ∧ w'.cell? ⟨w.heap.size, 0, none⟩ = some (.int .i64 x) ∧ w'.cell? ⟨w.heap.size, 1, none⟩ = some (.slice a1 n1 c1) ∧ w'.cell? ⟨w.heap.size + 1, 0, none⟩ = some (.int .i64 y) ∧ w'.cell? ⟨w.heap.size + 1, 1, none⟩ = some (.slice a2 n2 c2))
      (first | exact ⟨hbW.drew, hbox, hc0, hc1, hc2, hc3⟩ | exact keep21 (by assumption) (by assumption) | assumption)
      (first | (go_at_call 50; have _t := tok1; go_fit (sizeOf_any x z0 z1 _); rintro e w2 ⟨rfl, rfl⟩; clear tok1) | (go_at_call 50; go_fit (sizeOf_any y o0 o1 _); rintro e w3 ⟨rfl, rfl⟩) | (go_at_call 49; go_fit (mul64 _ _ (iabs_w64 z0 z1) (iabs_w64 o0 o1) _); rintro e w6 ⟨hi, lo, rfl, lo0, lo1, hi0, hi1, HMU, rfl⟩))
    have hbW := hbW.drew
    have hbox : Box W5.drew (w.heap.size + 2) := hbox
    by_cases hh : hi = 0
    · subst hh
      have hlo : lo = iabs x * iabs y := by have := unhide HMU; omega
      have HLO := hide hlo
      clear hlo
      go_wp2_with fail
      go_fit (signedWord_any sg lo _ (by rw [unhide HLO]; exact unhide HM2) lo0 lo1)
      rintro e w7 ⟨⟨v7, rfl, hZ7⟩, hb7⟩
      obtain ⟨near7, a7, n7, c7, hv7⟩ := hZ7.shape
      subst hv7
      have hbx : Box w7 (w.heap.size + 2) := hbox.later hb7
      obtain ⟨⟨x0, g0⟩, ⟨a0, n0, c0, g1⟩, gf⟩ := hbx.cells
      go_wp2
      obtain ⟨st0, st1⟩ := hbx.stored (.int .i64 near7) (.slice a7 n7 c7)
      exact bodyPost_ret (v := .agg #[.int .i64 near7, .slice a7 n7 c7]) (by simp [results, Tryz.results12, go_sem, st0, st1]) rfl ⟨⟨_, rfl, ((hZ7.mono (by omega)).stored hbx _ _).eq (by rw [unhide HLO]; exact unhide HM1)⟩, below_stored (below_keep hb7 hbW) (by omega) _ _⟩
    · have hh' : (hi == 0) = false := by simpa using hh
      have hs : sg = 1 ∨ sg = -1 := by
        rcases unhide HM2 with h | h | ⟨h, h'⟩
        · exact Or.inl h
        · exact Or.inr h
        · have := unhide HMU; omega
      have HHS := hide hs
      have HH := hide hh
      clear hs hh
      obtain ⟨⟨x0, g0⟩, ⟨a0, n0, c0, g1⟩, gf⟩ := hbox.cells
      have hqs : w.heap.size + 2 < W5.heap.size := World.block_lt_of_cell? W5.drew _ g0
      have f0 : ∀ o, (W5.alloc o).cell? ⟨w.heap.size + 1 + 1, 0, none⟩ = some (.int .i64 x0) := fun o => (World.cell?_of_block (w := W5) (a := ⟨w.heap.size + 1 + 1, 0, none⟩) (Below.heap_alloc W5 o _ hqs)).trans g0
      have f1 : ∀ o v, ((W5.setCell ⟨w.heap.size + 1 + 1, 0, none⟩ v).alloc o).cell? ⟨w.heap.size + 1 + 1, 1, none⟩ = some (.slice a0 n0 c0) := fun o v => by
        rw [World.cell?_of_block (w := W5.setCell ⟨w.heap.size + 1 + 1, 0, none⟩ v) (a := ⟨w.heap.size + 1 + 1, 1, none⟩) (Below.heap_alloc _ o _ (by simp [World.setCell]; exact hqs)), cell?_setCell_ne _ _ _ _ _ _ (by omega)]; exact g1
      have f2 : ∀ o k, (W5.alloc o).frozen? ⟨w.heap.size + 1 + 1, k, none⟩ = false := fun o k => (World.frozen?_of_block (w := W5) (a := ⟨w.heap.size + 1 + 1, k, none⟩) (Below.heap_alloc W5 o _ hqs)).trans (gf k)
      have f3 : ∀ o v k, ((W5.setCell ⟨w.heap.size + 1 + 1, 0, none⟩ v).alloc o).frozen? ⟨w.heap.size + 1 + 1, k, none⟩ = false := fun o v k => by
        rw [World.frozen?_of_block (w := W5.setCell ⟨w.heap.size + 1 + 1, 0, none⟩ v) (a := ⟨w.heap.size + 1 + 1, k, none⟩) (Below.heap_alloc _ o _ (by simp [World.setCell]; exact hqs))]
        exact (free_setCell (w := W5) (g := w.heap.size + 1 + 1) (by obtain ⟨x', a', n', c', h⟩ := hbox; exact ⟨_, _, h⟩) _ _).frozen k
      go_wp2
      obtain ⟨st0, st1⟩ := Box.stored (w := W5) hbox (.int .i64 sg) (.slice (some ⟨W5.heap.size, 0, none⟩) 2 2)
      have hq2 : w.heap.size + 2 < ((W5.setCell ⟨w.heap.size + 2, 0, none⟩ (.int .i64 sg)).setCell ⟨w.heap.size + 2, 1, none⟩ (.slice (some ⟨W5.heap.size, 0, none⟩) 2 2)).heap.size := by simpa [World.setCell] using hqs
      have sz2 : ((W5.setCell ⟨w.heap.size + 2, 0, none⟩ (.int .i64 sg)).setCell ⟨w.heap.size + 2, 1, none⟩ (.slice (some ⟨W5.heap.size, 0, none⟩) 2 2)).heap.size = W5.heap.size := by simp [World.setCell]
      have u0 : ∀ o, (((W5.setCell ⟨w.heap.size + 2, 0, none⟩ (.int .i64 sg)).setCell ⟨w.heap.size + 2, 1, none⟩ (.slice (some ⟨W5.heap.size, 0, none⟩) 2 2)).alloc o).cell? ⟨w.heap.size + 2, 0, none⟩ = some (.int .i64 sg) := fun o => (World.cell?_of_block (a := ⟨w.heap.size + 2, 0, none⟩) (Below.heap_alloc _ o _ hq2)).trans st0
      have u1 : ∀ o, (((W5.setCell ⟨w.heap.size + 2, 0, none⟩ (.int .i64 sg)).setCell ⟨w.heap.size + 2, 1, none⟩ (.slice (some ⟨W5.heap.size, 0, none⟩) 2 2)).alloc o).cell? ⟨w.heap.size + 2, 1, none⟩ = some (.slice (some ⟨W5.heap.size, 0, none⟩) 2 2) := fun o => (World.cell?_of_block (a := ⟨w.heap.size + 2, 1, none⟩) (Below.heap_alloc _ o _ hq2)).trans st1
      have hn0 : ∀ k v, #[Value.int IntKind.u64 lo, Value.int IntKind.u64 hi][k]? = some v → (((W5.setCell ⟨w.heap.size + 2, 0, none⟩ (.int .i64 sg)).setCell ⟨w.heap.size + 2, 1, none⟩ (.slice (some ⟨W5.heap.size, 0, none⟩) 2 2)).alloc (.cells #[.int .u64 lo, .int .u64 hi] 75)).cell? ⟨W5.heap.size, k, none⟩ = some v := by
        intro k v hkv
        rw [new_cell sz2]
        exact hkv
      refine bodyPost_ret (v := .agg #[.int .i64 sg, .slice (some ⟨W5.heap.size, 0, none⟩) 2 2]) (by simp [results, Tryz.results12, go_sem, u0, u1]) rfl ⟨⟨_, rfl, ((zr_two (hi := hi) (unhide HHS) lo0 lo1 ?_ ?_ ?_ ?_).mono ?_).eq ?_⟩, ?_⟩
      · have := unhide HH; omega
      · omega
      · exact hn0 0 _ rfl
      · exact hn0 1 _ rfl
      · omega
      · rw [unhide HMU]; exact unhide HM1
      · exact ((below_stored (w := W5) ⟨hbW.os, hbW.tape, hbW.output, hbW.size, hbW.block⟩ (by omega) _ _).alloc (by rw [sz2]; omega) _).drew

/-- Mul: of any two numbers. -/
theorem mul_any {N : Nat} {v u : Value} {z o : Int} (w : World) (hz : Zr (N + 1) w v z) (ho : Zr (N + 1) w u o) (hlim : N ≤ 400000) :
    Calls Tryz.prog 12 #[v, u] w fun e w' => (∃ v, e = .returned v ∧ Zr (N + 1 + (N + 1)) w' v (z * o)) ∧ Below w.heap.size w w' := by
  obtain ⟨x, a1, n1, c1, rfl⟩ := hz.shape
  obtain ⟨y, a2, n2, c2, rfl⟩ := ho.shape
  exact mul_core x y a1 a2 n1 c1 n2 c2 z o w hz ho hlim
end Go.Proofs.YtmdmcmkfhmnbeaaGreatDoor
