/-
  Walks over package whole: a number in its box.
  Walks over package whole: Read.
  Walks over package whole: Text of a number that an int64 holds.
-/
import Derived.Test.YtachnndaoogpeaaGreatDoorMWG
import Derived.Lib.AppendIntMem
namespace Go.Proofs.YtachnndaoogpeaaGreatDoor
open Go.RowKit

/-- A number in its box. -/
structure Vr (w : World) (b : Nat) (u : Int) (a : Option Addr) (n c N : Nat) (z : Int) : Prop where
  c0 : w.cell? ⟨b, 0, none⟩ = some (.int .i64 u)
  c1 : w.cell? ⟨b, 1, none⟩ = some (.slice a n c)
  box : Box w b
  zr : Zr N w (.agg #[.int .i64 u, .slice a n c]) z
theorem Vr.frozen {w : World} {b : Nat} {u : Int} {a : Option Addr} {n c N : Nat} {z : Int} (h : Vr w b u a n c N z) : ∀ k, w.frozen? ⟨b, k, none⟩ = false := h.box.cells.2.2
theorem Vr.lt {w : World} {b : Nat} {u : Int} {a : Option Addr} {n c N : Nat} {z : Int} (h : Vr w b u a n c N z) : b < w.heap.size := World.block_lt_of_cell? w _ h.c0
theorem Vr.keep {w w1 : World} {b : Nat} {u : Int} {a : Option Addr} {n c N : Nat} {z : Int} (h : Vr w b u a n c N z) (hb : Below w.heap.size w w1) : Vr w1 b u a n c N z :=
  ⟨cell_keep hb h.c0, cell_keep hb h.c1, h.box.later hb, h.zr.later hb⟩
theorem below_new (w : World) (o : Obj) : Below w.heap.size w (w.alloc o) := (Below.refl _ _).alloc (Nat.le_refl _) _
theorem Vr.new {w : World} {u : Int} {a : Option Addr} {n c N : Nat} {z : Int} (h : Zr N w (.agg #[.int .i64 u, .slice a n c]) z) : Vr (w.alloc (.cells #[.int .i64 u, .slice a n c] 31)) w.heap.size u a n c N z :=
  ⟨by rw [new_cell rfl]; rfl, by rw [new_cell rfl]; rfl, ⟨_, _, _, _, heap_alloc_new w _⟩, h.later (below_new w _)⟩
theorem Vr.store {w : World} {b : Nat} {u u' : Int} {a a' : Option Addr} {n c N n' c' M : Nat} {z z' : Int} (h : Vr w b u a n c N z) (hz : Zr M w (.agg #[.int .i64 u', .slice a' n' c']) z') : Vr ((w.setCell ⟨b, 0, none⟩ (.int .i64 u')).setCell ⟨b, 1, none⟩ (.slice a' n' c')) b u' a' n' c' M z' :=
  ⟨(h.box.stored _ _).1, (h.box.stored _ _).2, h.box.stored' _ _ _ _, hz.stored h.box _ _⟩
theorem Vr.other {w : World} {b q : Nat} {u : Int} {a : Option Addr} {n c N : Nat} {z : Int} (h : Vr w b u a n c N z) (hq : Box w q) (hne : b ≠ q) (x : Int) (a' : Option Addr) (n' c' : Nat) : Vr ((w.setCell ⟨q, 0, none⟩ (.int .i64 x)).setCell ⟨q, 1, none⟩ (.slice a' n' c')) b u a n c N z :=
  ⟨by rw [cell?_setCell_ne _ _ _ _ _ _ (by omega), cell?_setCell_ne _ _ _ _ _ _ (by omega)]; exact h.c0, by rw [cell?_setCell_ne _ _ _ _ _ _ (by omega), cell?_setCell_ne _ _ _ _ _ _ (by omega)]; exact h.c1, (h.box.other hne _).other hne _, h.zr.stored hq _ _⟩
theorem Vr.mono {w : World} {b : Nat} {u : Int} {a : Option Addr} {n c N M : Nat} {z : Int} (h : Vr w b u a n c N z) (hM : N ≤ M) : Vr w b u a n c M z := ⟨h.c0, h.c1, h.box, h.zr.mono hM⟩
end Go.Proofs.YtachnndaoogpeaaGreatDoor
namespace Go.Proofs.YtachnndaoogpeaaGreatDoor
open Go.RowKit

/-- The digits of a text: what is behind its minus. -/
def digitsOf (s : ByteArray) : ByteArray := ⟨(Lib.trimPrefix s.data.toList [45]).toArray⟩
def minusOf (s : ByteArray) : Bool := Lib.hasPrefix s.data.toList [45]
/-- The number that a text says. -/
def numOf (s : ByteArray) : Int := if minusOf s then - dec (digitsOf s).data.toList else dec (digitsOf s).data.toList
theorem digitsOf_size (s : ByteArray) : (digitsOf s).size ≤ s.size := by
  show (Lib.trimPrefix s.data.toList [45]).toArray.size ≤ s.data.size
  unfold Lib.trimPrefix
  split <;> simp
theorem Good.dig {d : ByteArray} (h : Good d) : Dig10 d.data.toList := by
  intro c hc
  obtain ⟨j, hj, rfl⟩ := List.getElem_of_mem hc
  exact h.2.2 j (by simpa using hj)

/-- The world behind a fault: nought in the result's box, the fault in a new one. -/
theorem fault_world (w : World) (n : Nat) (x y : Value) (T : TypeId) :
    let X := (((w.alloc (.cells #[.int .i64 0, .slice none 0 0] 31)).drewN n).setCell ⟨w.heap.size, 0, none⟩ (.int .i64 0)).setCell ⟨w.heap.size, 1, none⟩ (.slice none 0 0)
    (X.alloc (.cells #[x, y] T)).cell? ⟨w.heap.size, 0, none⟩ = some (.int .i64 0) ∧ (X.alloc (.cells #[x, y] T)).cell? ⟨w.heap.size, 1, none⟩ = some (.slice none 0 0) ∧
    (X.alloc (.cells #[x, y] T)).cell? ⟨w.heap.size + 1, 0, none⟩ = some x ∧ (X.alloc (.cells #[x, y] T)).cell? ⟨w.heap.size + 1, 1, none⟩ = some y ∧ Below w.heap.size w (X.alloc (.cells #[x, y] T)) := by
  intro X
  have hal := below_new w (.cells #[.int .i64 0, .slice none 0 0] 31)
  have hbx : Box ((w.alloc (.cells #[.int .i64 0, .slice none 0 0] 31)).drewN n) w.heap.size := box_new w
  obtain ⟨s0, s1⟩ := hbx.stored (.int .i64 0) (.slice none 0 0)
  have hX : Below w.heap.size w X := below_stored (below_drewN hal n) (Nat.le_refl _) _ _
  have hz : X.heap.size = w.heap.size + 1 := by
    show (World.setCell _ _ _).heap.size = _
    simp [World.setCell, World.drewN]
  have hk := below_new X (.cells #[x, y] T)
  exact ⟨cell_keep hk s0, cell_keep hk s1, by rw [new_cell hz]; rfl, by rw [new_cell hz]; rfl, below_keep hk hX⟩

set_option maxHeartbeats 2000000 in
theorem read_any (s : ByteArray) (w : World) (t1 t2 : TypeId) (p1 p2 : Value) (hs : s.size ≤ maxLen) (h1 : w.cell? ⟨0, 0, none⟩ = some (.iface t1 p1)) (h2 : w.cell? ⟨1, 0, none⟩ = some (.iface t2 p2)) :
    Calls Tryz.prog 11 #[.string s] w fun e w' => ((∃ v, e = .returned (.tuple #[v, .nilIface]) ∧ Good (digitsOf s) ∧ Zr 16 w' v (numOf s)) ∨ (∃ (k : Nat) (text : Bool) (b : Nat), e = .returned (.tuple #[.agg #[.int .i64 0, .slice none 0 0], .iface 95 (.pointer (some ⟨b, 0, none⟩))]) ∧ Wrong (digitsOf s) k text ∧ w'.cell? ⟨b, 0, none⟩ = some (.int .i64 (((s.size - (digitsOf s).size : Nat) : Int) + k)) ∧ w'.cell? ⟨b, 1, none⟩ = some (if text then .iface t1 p1 else .iface t2 p2))) ∧ Below w.heap.size w w' := by
  have hbox0 := box_new w
  have hal := below_new w (.cells #[.int .i64 0, .slice none 0 0] 31)
  have k1 := cell_keep hal h1
  have k2 := cell_keep hal h2
  go_enter Tryz.func11, Tryz.ntmps11
  go_wp2_with fail
  go_fit (Tryz.strings_CutPrefix s ⟨#[45]⟩ _)
  rintro e W1 ⟨rfl, rfl⟩
  have hds := digitsOf_size s
  obtain ⟨d, HD⟩ : ∃ d, Hid (digitsOf s = d) := ⟨_, rfl⟩
  obtain ⟨mi, HM⟩ : ∃ m, Hid (minusOf s = m) := ⟨_, rfl⟩
  rw [show (⟨(Lib.trimPrefix s.data.toList [45]).toArray⟩ : ByteArray) = d from unhide HD, show Lib.hasPrefix s.data.toList [45] = mi from unhide HM]
  rw [unhide HD] at hds
  go_wp2_with fail
  go_fit (wrongDigit_any d _ t1 t2 p1 p2 (by omega) k1 k2)
  rintro e W2 ⟨hcase, n, rfl⟩
  rcases hcase with ⟨rfl, hg⟩ | ⟨k, rfl, hw⟩ | ⟨k, rfl, hw⟩
  · have hbn := below_drewN hal n
    go_wp2_with fail
    go_fit (readDigits_any d _ hg.2.1 hg.dig)
    rintro e W3 ⟨⟨v3, rfl, hZ3⟩, hb3⟩
    obtain ⟨u3, a3, n3, c3, hv3⟩ := hZ3.shape
    subst hv3
    have hbox3 : Box W3 w.heap.size := Box.later (w := (w.alloc (.cells #[.int .i64 0, .slice none 0 0] 31)).drewN n) hbox0 hb3
    have hbl3 : Below w.heap.size w W3 := below_keep hb3 hbn
    obtain ⟨⟨x0, g0⟩, ⟨a0, n0, c0, g1⟩, gf⟩ := hbox3.cells
    have hlt : w.heap.size < W3.heap.size := World.block_lt_of_cell? W3 _ g0
    have HG := hide hg
    have HS := hide hs
    clear hg k1 k2 hbox0 hal hb3 hbn h1 h2 hds hs
    cases mi
    · go_wp2
      obtain ⟨s0, s1⟩ := hbox3.stored (.int .i64 u3) (.slice a3 n3 c3)
      have hk := below_new ((W3.setCell ⟨w.heap.size, 0, none⟩ (.int .i64 u3)).setCell ⟨w.heap.size, 1, none⟩ (.slice a3 n3 c3)) (.cells #[.int .i64 u3, .slice a3 n3 c3] 31)
      have f0 := cell_keep hk s0
      have f1 := cell_keep hk s1
      exact bodyPost_ret (v := .tuple #[.agg #[.int .i64 u3, .slice a3 n3 c3], .nilIface]) (by simp [results, Tryz.results11, go_sem, f0, f1]) rfl ⟨Or.inl ⟨_, rfl, by rw [show digitsOf s = d from unhide HD]; exact unhide HG, ((hZ3.stored hbox3 _ _).later hk).eq (by unfold numOf; rw [show minusOf s = false from unhide HM, show digitsOf s = d from unhide HD]; rfl)⟩, below_keep hk (below_stored hbl3 (Nat.le_refl _) _ _)⟩
    · have hn3 := below_new W3 (.cells #[.int .i64 u3, .slice a3 n3 c3] 31)
      go_wp2_with fail
      go_fit (neg_any (N := 15) _ (hZ3.later hn3))
      rintro e W4 ⟨⟨v4, rfl, hZ4⟩, hb4⟩
      obtain ⟨u4, a4, n4, c4, hv4⟩ := hZ4.shape
      subst hv4
      have hbox4 : Box W4 w.heap.size := (hbox3.later hn3).later hb4
      have hbl4 : Below w.heap.size w W4 := below_keep hb4 (below_keep hn3 hbl3)
      clear g0 g1 gf hlt
      obtain ⟨⟨x0, g0⟩, ⟨a0, n0, c0, g1⟩, gf⟩ := hbox4.cells
      have hlt : w.heap.size < W4.heap.size := World.block_lt_of_cell? W4 _ g0
      clear hn3 hb4
      go_wp2
      obtain ⟨s0, s1⟩ := hbox4.stored (.int .i64 u4) (.slice a4 n4 c4)
      exact bodyPost_ret (v := .tuple #[.agg #[.int .i64 u4, .slice a4 n4 c4], .nilIface]) (by simp [results, Tryz.results11, go_sem, s0, s1]) rfl ⟨Or.inl ⟨_, rfl, by rw [show digitsOf s = d from unhide HD]; exact unhide HG, (hZ4.stored hbox4 _ _).eq (by unfold numOf; rw [show minusOf s = true from unhide HM, show digitsOf s = d from unhide HD]; rfl)⟩, below_stored hbl4 (Nat.le_refl _) _ _⟩
  · have hp : Hid (((s.size - (digitsOf s).size : Nat) : Int) = (s.size : Int) - d.size) := by
      show _ = _
      rw [show digitsOf s = d from unhide HD]; omega
    have hk : (k : Int) ≤ d.size := by
      rcases hw with ⟨_, hk, _⟩ | ⟨hk, _⟩ <;> omega
    have HW := hide hw
    clear hw
    unfold maxLen at hs
    go_wp2
    obtain ⟨f0, f1, f2, f3, f4⟩ := fault_world w n (.int .i64 ((s.size : Int) - d.size + k)) (.iface t1 p1) 97
    exact bodyPost_ret (v := .tuple #[.agg #[.int .i64 0, .slice none 0 0], .iface 95 (.pointer (some ⟨w.heap.size + 1, 0, none⟩))]) (by simp [results, Tryz.results11, go_sem, f0, f1]) rfl ⟨Or.inr ⟨k, true, w.heap.size + 1, rfl, by rw [show digitsOf s = d from unhide HD]; exact unhide HW, by rw [show ((s.size - (digitsOf s).size : Nat) : Int) = (s.size : Int) - d.size from unhide hp]; exact f2, f3⟩, f4⟩
  · have hp : Hid (((s.size - (digitsOf s).size : Nat) : Int) = (s.size : Int) - d.size) := by
      show _ = _
      rw [show digitsOf s = d from unhide HD]; omega
    have hk : (k : Int) ≤ d.size := by
      rcases hw with ⟨_, hk, _⟩ | ⟨hk, _⟩ <;> omega
    have HW := hide hw
    clear hw
    unfold maxLen at hs
    go_wp2
    obtain ⟨f0, f1, f2, f3, f4⟩ := fault_world w n (.int .i64 ((s.size : Int) - d.size + k)) (.iface t2 p2) 97
    exact bodyPost_ret (v := .tuple #[.agg #[.int .i64 0, .slice none 0 0], .iface 95 (.pointer (some ⟨w.heap.size + 1, 0, none⟩))]) (by simp [results, Tryz.results11, go_sem, f0, f1]) rfl ⟨Or.inr ⟨k, false, w.heap.size + 1, rfl, by rw [show digitsOf s = d from unhide HD]; exact unhide HW, by rw [show ((s.size - (digitsOf s).size : Nat) : Int) = (s.size : Int) - d.size from unhide hp]; exact f2, f3⟩, f4⟩
end Go.Proofs.YtachnndaoogpeaaGreatDoor
namespace Go.Proofs.YtachnndaoogpeaaGreatDoor
open Go.RowKit

theorem below_grow (w : World) (k : Nat) (os : Array Obj) : Below w.heap.size w (Sort.grow (w.drewN k) os) :=
  ⟨rfl, rfl, rfl, by simp [Sort.grow, World.drewN], fun i hi => by simp [Sort.grow, World.drewN, Array.getElem?_append, hi]⟩
theorem tab_later {w w' : World} {name : String} {k : IntKind} {zs : List Int} (h : Lib.TabIs Tryz.prog w name k zs) (hb : Below w.heap.size w w') : Lib.TabIs Tryz.prog w' name k zs := Lib.tabBelow_of_tabIs h w' hb

set_option maxRecDepth 4000 in
set_option maxHeartbeats 1000000 in
theorem text_near (n : Int) (h0 : -9223372036854775808 ≤ n) (h1 : n ≤ 9223372036854775807) (w : World) (htab : Lib.TabIs Tryz.prog w "internal/strconv.uint64pow10" .u64 Lib.pow10Tab) :
    Calls Tryz.prog 17 #[.agg #[.int .i64 n, .slice none 0 0]] w fun e w' => e = .returned (.string ⟨(Lib.itoa n).toArray⟩) ∧ Below w.heap.size w w' := by
  have hal := below_new w (.cells #[.int .i64 n, .slice none 0 0] 31)
  have HT := hide htab
  clear htab
  have hq := eql_none
  go_enter Tryz.func17, Tryz.ntmps17
  go_wp2_with fail
  go_fit (Tryz.strconv_FormatInt_10 n h0 h1 _ (tab_later (unhide HT) hal))
  rintro e W1 ⟨rfl, k, os, hW1⟩
  have hb1 : Below w.heap.size w W1 := by
    rw [hW1]; exact below_keep (below_grow _ k os) hal
  clear hW1 hal
  go_wp2
  go_ret
  exact ⟨rfl, hb1⟩
end Go.Proofs.YtachnndaoogpeaaGreatDoor
