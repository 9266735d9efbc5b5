/-
 The mathematics of products of tables: the sum of products of fractions over one denominator.
 Walks over package matrix: widthOf, column, exact.
 Walks over package matrix: table.
-/
import Derived.Test.YtkifiolkfdicoaaGreatDoorMK2
import Derived.Test.YtkifiolkfdicoaaGreatDoorMK3
namespace Go.Proofs.YtkifiolkfdicoaaGreatDoor
open Go.RowKit
def cden : List (Int × Int) → List (Int × Int) → Int
 | x :: a, y :: b => x.2 * y.2 * cden a b
 | _, _ => 1
def cnum : List (Int × Int) → List (Int × Int) → Int
 | x :: a, y :: b => x.1 * y.1 * cden a b + x.2 * y.2 * cnum a b
 | _, _ => 0
def ent (a b : List (Int × Int)) : Int × Int := (cnum a b / (Int.gcd (cnum a b) (cden a b) : Int), cden a b / (Int.gcd (cnum a b) (cden a b) : Int))
theorem cden_snoc {a b : List (Int × Int)} (h : a.length = b.length) (x y : Int × Int) : cden (a ++ [x]) (b ++ [y]) = cden a b * (x.2 * y.2) := by
 induction a generalizing b with
 | nil =>
   cases b with
   | nil => simp [cden]
   | cons _ _ => simp at h
 | cons u a ih =>
   cases b with
   | nil => simp at h
   | cons v b =>
     simp at h
     simp only [List.cons_append, cden, ih h]
     grind
theorem cnum_snoc {a b : List (Int × Int)} (h : a.length = b.length) (x y : Int × Int) : cnum (a ++ [x]) (b ++ [y]) = cnum a b * (x.2 * y.2) + x.1 * y.1 * cden a b := by
 induction a generalizing b with
 | nil =>
   cases b with
   | nil => simp [cnum, cden]
   | cons _ _ => simp at h
 | cons u a ih =>
   cases b with
   | nil => simp at h
   | cons v b =>
     simp at h
     simp only [List.cons_append, cnum, cden, ih h, cden_snoc h]
     grind
def Und (B : Int) (x : Int × Int) : Prop := 0 < x.2 ∧ x.2 ≤ B ∧ -B ≤ x.1 ∧ x.1 ≤ B
theorem mul_abs {x y B C : Int} (hx : -B ≤ x ∧ x ≤ B) (hy : -C ≤ y ∧ y ≤ C) (hB : 0 ≤ B) (hC : 0 ≤ C) : -(B * C) ≤ x * y ∧ x * y ≤ B * C := by
 have h1 : x.natAbs * y.natAbs ≤ B.natAbs * C.natAbs := Nat.mul_le_mul (by omega) (by omega)
 rw [← Int.natAbs_mul, ← Int.natAbs_mul] at h1
 have : 0 ≤ B * C := Int.mul_nonneg hB hC
 omega
theorem cden_und {B : Int} (hB : 0 < B) {a b : List (Int × Int)} (ha : ∀ x ∈ a, Und B x) (hb : ∀ x ∈ b, Und B x) (h : a.length = b.length) : 0 < cden a b ∧ cden a b ≤ (B * B) ^ a.length ∧ -((a.length : Int) * (B * B) ^ a.length) ≤ cnum a b ∧ cnum a b ≤ (a.length : Int) * (B * B) ^ a.length := by
 induction a generalizing b with
 | nil =>
   cases b with
   | nil => simp [cden, cnum]
   | cons _ _ => simp at h
 | cons u a ih =>
   cases b with
   | nil => simp at h
   | cons v b =>
     simp at h
     obtain ⟨h1, h2, h3, h4⟩ := ih (fun x hx => ha x (by simp [hx])) (fun x hx => hb x (by simp [hx])) h
     obtain ⟨u0, u1, u2, u3⟩ := ha u (by simp)
     obtain ⟨v0, v1, v2, v3⟩ := hb v (by simp)
     have hBB : 0 < B * B := Int.mul_pos hB hB
     have hP : 0 < (B * B) ^ a.length := Int.pow_pos hBB
     have d1 : 0 < u.2 * v.2 := Int.mul_pos u0 v0
     have d2 := mul_abs (x := u.2) (y := v.2) (B := B) (C := B) (by omega) (by omega) (by omega) (by omega)
     have n1 := mul_abs (x := u.1) (y := v.1) (B := B) (C := B) (by omega) (by omega) (by omega) (by omega)
     have e1 := mul_abs (x := u.2 * v.2) (y := cden a b) (B := B * B) (C := (B * B) ^ a.length) (by omega) (by omega) (by omega) (by omega)
     have e2 := mul_abs (x := u.1 * v.1) (y := cden a b) (B := B * B) (C := (B * B) ^ a.length) (by omega) (by omega) (by omega) (by omega)
     have hnn : 0 ≤ (a.length : Int) * (B * B) ^ a.length := Int.mul_nonneg (by omega) (by omega)
     have e3 := mul_abs (x := u.2 * v.2) (y := cnum a b) (B := B * B) (C := (a.length : Int) * (B * B) ^ a.length) (by omega) (by omega) (by omega) (by omega)
     have hp : (B * B) ^ (a.length + 1) = B * B * (B * B) ^ a.length := by rw [Int.pow_succ, Int.mul_comm]
     have hq : ((a.length + 1 : Nat) : Int) * (B * B) ^ (a.length + 1) = B * B * ((a.length : Int) * (B * B) ^ a.length) + B * B * (B * B) ^ a.length := by rw [hp, Int.natCast_add, Int.add_mul]; grind
     have hd0 : 0 < u.2 * v.2 * cden a b := Int.mul_pos d1 h1
     simp only [cden, cnum, List.length_cons]
     rw [hq, hp]
     refine ⟨hd0, by omega, by omega, by omega⟩
theorem ent_is {a b : List (Int × Int)} {P D : Int} (hc : 0 < cden a b) (hE : P * cden a b = cnum a b * D) (D0 : 0 < D) (hg : Int.gcd P D = 1) : ent a b = (P, D) := num_low hc hE D0 hg
theorem low_le {P D z o : Int} (o0 : 0 < o) (D0 : 0 < D) (hg : Int.gcd P D = 1) (h : P * o = z * D) : D ≤ o ∧ P.natAbs ≤ z.natAbs := by
 have h1 : D ∣ o := by
   have h2 : D ∣ P * o := ⟨z, by rw [h, Int.mul_comm]⟩
   exact dvd_cop h2 hg
 have hD := Int.le_of_dvd o0 h1
 refine ⟨hD, ?_⟩
 have h3 : P.natAbs * o.natAbs = z.natAbs * D.natAbs := by rw [← Int.natAbs_mul, ← Int.natAbs_mul, h]
 rcases Nat.lt_or_ge z.natAbs P.natAbs with h4 | h4
 · exfalso
   have h5 : z.natAbs * D.natAbs < P.natAbs * o.natAbs := by
     have h6 : z.natAbs * D.natAbs ≤ z.natAbs * o.natAbs := Nat.mul_le_mul_left _ (by omega)
     have h7 : z.natAbs * o.natAbs < P.natAbs * o.natAbs := Nat.mul_lt_mul_of_pos_right h4 (by omega)
     omega
   omega
 · exact h4
set_option maxHeartbeats 4000000 in
set_option maxRecDepth 8000 in
theorem widthOf_any {N : Nat} {v : Value} {L : List (List (Int × Int))} (w : World) (h : Rows 1 (LE 4 (RE N)) w v L) (hl : L.length ≤ 100000000) (hl2 : ∀ r ∈ L, r.length ≤ 100000000) :
   Calls Tryz.prog 143 #[v] w fun e w' => ((isTab L ∧ e = .returned (.tuple #[.int .i64 (wide L : Nat), .bool true])) ∨ (¬ isTab L ∧ e = .returned (.tuple #[.int .i64 0, .bool false]))) ∧ Below w.heap.size w w' := by
 obtain ⟨sa, sc, rfl⟩ := h.shape
 have HR := hide h
 have HL2 := hide hl2
 clear h hl2
 go_enter Tryz.func143, Tryz.ntmps143
 by_cases h0 : L = []
 · subst h0
   go_wp2
   exact bodyPost_ret (v := .tuple #[.int .i64 0, .bool true]) (by simp [results, Tryz.results143, go_sem]) rfl ⟨Or.inl ⟨⟨by simp, by simp [wide], by simp⟩, rfl⟩, Below.refl _ _⟩
 have hlp : 0 < L.length := List.length_pos_iff.2 h0
 have hli : ((L.length : Int) == 0) = false := by simp; omega
 have hlp' : (0 : Int) < (L.length : Int) := by omega
 obtain ⟨q, hq⟩ : ∃ s, L[0]? = some s := ⟨L[0], by simp [hlp]⟩
 obtain ⟨b, o, rfl, cs, _, hcs, u, rfl, hru⟩ := (unhide HR).at hq
 have c0 : w.cell? ⟨b, o, none⟩ = some u := by simpa using hcs 0 _ rfl
 obtain ⟨ua, uc, rfl⟩ := hru.shape
 have HW := hide (wide_at hq)
 have HQL := hide (unhide HL2 q (List.mem_of_getElem? hq))
 clear hq hcs hru h0
 by_cases h4 : (40 : Int) < (L.length : Int)
 · go_wp2
   exact bodyPost_ret (v := .tuple #[.int .i64 0, .bool false]) (by simp [results, Tryz.results143, go_sem]) rfl ⟨Or.inr ⟨fun ht => by have := ht.1; omega, rfl⟩, Below.refl _ _⟩
 by_cases h5 : (40 : Int) < (q.length : Int)
 · go_wp2
   exact bodyPost_ret (v := .tuple #[.int .i64 0, .bool false]) (by simp [results, Tryz.results143, go_sem]) rfl ⟨Or.inr ⟨fun ht => by have := ht.2.1; rw [unhide HW] at this; omega, rfl⟩, Below.refl _ _⟩
 go_wp2_with fail
 go_loopg [23] L.length (fun gk iv wr => ∃ (i : Nat), i ≤ L.length ∧ gk = L.length - i ∧ iv = .int .i64 (i : Int) ∧ wr = w ∧ Hid (∀ r ∈ L.take i, r.length = q.length))
 case atStart => exact ⟨0, by omega, by omega, rfl, rfl, hide (by simp)⟩
 case round =>
   obtain ⟨i, hi, hgk, rfl, rfl, HN⟩ := hrel
   by_cases hil : i < L.length
   · obtain ⟨r, hr⟩ : ∃ s, L[i]? = some s := ⟨L[i], by simp [hil]⟩
     obtain ⟨b', o', hbo, cs, _, hcs, u, rfl, hru⟩ := (unhide HR).at hr
     obtain ⟨rfl, rfl⟩ : b = b' ∧ o = o' := by simpa using hbo
     have c1 : wr.cell? ⟨b, o + i, none⟩ = some u := by simpa using hcs 0 _ rfl
     obtain ⟨va, vc, rfl⟩ := hru.shape
     have HS := hide hr
     have HM := hide (List.mem_of_getElem? hr)
     have hil' : (i : Int) < (L.length : Int) := by omega
     clear hr hcs hru hbo
     by_cases hne : r.length = q.length
     · have hd : ((r.length : Int) != (q.length : Int)) = false := by simp; omega
       go_wp2
       go_roundg (L.length - (i + 1))
       case measure => omega
       case rel => exact ⟨i + 1, by omega, rfl, by go_num, rfl, hide (all_next (unhide HS) (unhide HN) hne)⟩
     · have hd : ((r.length : Int) != (q.length : Int)) = true := by simp; omega
       go_wp2
       exact bodyPost_ret (v := .tuple #[.int .i64 0, .bool false]) (by simp [results, Tryz.results143, go_sem]) rfl ⟨Or.inr ⟨fun ht => hne (by rw [ht.2.2 r (unhide HM), unhide HW]), rfl⟩, Below.refl _ _⟩
   · obtain rfl : i = L.length := by omega
     go_wp2
     refine bodyPost_ret (v := .tuple #[.int .i64 (q.length : Int), .bool true]) (by simp [results, Tryz.results143, go_sem]) rfl ⟨Or.inl ⟨⟨by omega, by rw [unhide HW]; omega, ?_⟩, by rw [unhide HW]⟩, Below.refl _ _⟩
     rw [unhide HW]
     have := unhide HN
     rw [List.take_length] at this
     exact this
def colOf (c : Nat) (L : List (List (Int × Int))) : List (Int × Int) := L.map fun r => r.getD c (0, 1)
theorem colOf_take {c i : Nat} {L : List (List (Int × Int))} {r : List (Int × Int)} {x : Int × Int} (h : L[i]? = some r) (hx : r[c]? = some x) : colOf c (L.take (i + 1)) = colOf c (L.take i) ++ [x] := by
 rw [take_next h, colOf, colOf, List.map_append]
 simp [List.getD, hx]
set_option maxHeartbeats 4000000 in
set_option maxRecDepth 8000 in
theorem column_any {N c : Nat} {v : Value} {L : List (List (Int × Int))} (w : World) (h : Rows 1 (LE 4 (RE N)) w v L) (hl : L.length ≤ 100000000) (hc : ∀ r ∈ L, c < r.length) (_hc1 : (c : Int) ≤ 100000000) :
   Calls Tryz.prog 152 #[v, .int .i64 (c : Nat)] w fun e w' => (∃ v, e = .returned v ∧ Rows 4 (RE N) w' v (colOf c L)) ∧ Below w.heap.size w w' := by
 obtain ⟨sa, sc, rfl⟩ := h.shape
 have HR := hide h
 have HC := hide hc
 clear h hc
 have hmk := run_make_k (P := Tryz.prog) 118 52 _ 4 64 Tryz.underlying118 info_r .i64 .i64 L.length (by omega) (by omega)
 go_enter Tryz.func152, Tryz.ntmps152
 go_wp2_with fail
 go_loopg [13] L.length (fun gk iv wr => ∃ (i : Nat) (M : List (Int × Int)), i ≤ L.length ∧ gk = L.length - i ∧ iv = .int .i64 (i : Int) ∧ M.length = i ∧ Hid (M = colOf c (L.take i)) ∧ Hid (Below w.heap.size w wr) ∧ Hid (Fill NoWord 4 (RE N) 52 wr w.heap.size L.length M))
 case atStart => exact ⟨0, [], by omega, by omega, rfl, rfl, hide rfl, hide (below_new _ _), hide (Fill.new _ _ zk_r (by decide))⟩
 case round =>
   obtain ⟨i, M, hi, hgk, rfl, hMl, HM, HB, HF⟩ := hrel
   by_cases hil : i < L.length
   · obtain ⟨r, hr⟩ : ∃ s, L[i]? = some s := ⟨L[i], by simp [hil]⟩
     obtain ⟨b, o, rfl, cs, _, hcs, u, rfl, hru⟩ := (unhide HR).at hr
     have c0 : wr.cell? ⟨b, o + i, none⟩ = some u := cell_keep (unhide HB) (by simpa using hcs 0 _ rfl)
     obtain ⟨ua, uc, rfl⟩ := hru.shape
     have hcr := unhide HC r (List.mem_of_getElem? hr)
     obtain ⟨x, hx⟩ : ∃ s, r[c]? = some s := ⟨r[c], by simp [hcr]⟩
     obtain ⟨b', o', rfl, cs, _, hcs', x1, x2, x3, x4, x5, x6, x7, x8, rfl, hQ⟩ := hru.at hx
     have d0 : wr.cell? ⟨b', o' + c * 4, none⟩ = some (.int .i64 x1) := cell_keep (unhide HB) (by simpa using hcs' 0 _ rfl)
     have d1 : wr.cell? ⟨b', o' + c * 4 + 1, none⟩ = some (.slice x2 x3 x4) := cell_keep (unhide HB) (hcs' 1 _ rfl)
     have d2 : wr.cell? ⟨b', o' + c * 4 + 2, none⟩ = some (.int .i64 x5) := cell_keep (unhide HB) (hcs' 2 _ rfl)
     have d3 : wr.cell? ⟨b', o' + c * 4 + 3, none⟩ = some (.slice x6 x7 x8) := cell_keep (unhide HB) (hcs' 3 _ rfl)
     obtain ⟨a0, e0⟩ := (unhide HF).cell (o := i * 4) (by omega)
     obtain ⟨a1, e1⟩ := (unhide HF).cell (o := i * 4 + 1) (by omega)
     obtain ⟨a2, e2⟩ := (unhide HF).cell (o := i * 4 + 2) (by omega)
     obtain ⟨a3, e3⟩ := (unhide HF).cell (o := i * 4 + 3) (by omega)
     have gf := (unhide HF).free
     have HX := hide (And.intro hr hx)
     have HQ := hide (hQ.later (unhide HB))
     have hil' : (i : Int) < (L.length : Int) := by omega
     have hcr' : (c : Int) < (r.length : Int) := by omega
     have him : (i : Int) + 1 ≤ 100000000 := by omega
     clear hr hcs hru hx hcs' hQ
     go_wp2
     go_roundg (L.length - (i + 1))
     case measure => omega
     case rel =>
       obtain ⟨f1, _⟩ := (unhide HF).put4 (RE.stays _ _ noWord_word) (by omega) (kd_r x1 x2 x3 x4 x5 x6 x7 x8) ⟨_, _, _, _, _, _, _, _, rfl, unhide HQ⟩
       rw [hMl] at f1
       exact ⟨i + 1, M ++ [x], by omega, rfl, by go_num, by simp [hMl], hide (by rw [colOf_take (unhide HX).1 (unhide HX).2, unhide HM]), hide (below_put4 (unhide HB) (Nat.le_refl _) _ _ _ _), hide f1⟩
   · obtain rfl : i = L.length := by omega
     clear hil hi hgk
     go_wp2
     go_ret
     refine ⟨⟨_, rfl, ?_⟩, unhide HB⟩
     have h2 := unhide HM
     rw [List.take_length] at h2
     rw [← h2]
     exact (unhide HF).rows hMl (by unfold maxLen; omega)
def Tab (t : TypeId) (w : World) (g n : Nat) (f : Nat → Value) : Prop := ∃ cur, w.heap[g]? = some (.cells cur t (0, 0)) ∧ cur.size = n ∧ ∀ i, i < n → cur[i]? = some (f i)
theorem Tab.later {t : TypeId} {w w' : World} {g n : Nat} {f : Nat → Value} (h : Tab t w g n f) (hb : Below w.heap.size w w') : Tab t w' g n f := by
 obtain ⟨cur, h1, h2, h3⟩ := h
 exact ⟨cur, by rw [hb.block g (Array.getElem?_eq_some_iff.1 h1).1]; exact h1, h2, h3⟩
theorem Tab.cell {t : TypeId} {w : World} {g n i : Nat} {f : Nat → Value} (h : Tab t w g n f) (hi : i < n) : w.cell? ⟨g, i, none⟩ = some (f i) := by
 obtain ⟨cur, h1, h2, h3⟩ := h
 exact block_cell h1 (h3 i hi)
theorem Tab.free {t : TypeId} {w : World} {g n : Nat} {f : Nat → Value} (h : Tab t w g n f) (o : Nat) : w.frozen? ⟨g, o, none⟩ = false := by
 obtain ⟨cur, h1, _⟩ := h
 simp [World.frozen?, h1]
theorem Tab.lt {t : TypeId} {w : World} {g n : Nat} {f : Nat → Value} (h : Tab t w g n f) : g < w.heap.size := by
 obtain ⟨cur, h1, _⟩ := h
 exact (Array.getElem?_eq_some_iff.1 h1).1
theorem Tab.set {t : TypeId} {w : World} {g n i : Nat} {f : Nat → Value} (h : Tab t w g n f) (hi : i < n) (v : Value) : Tab t (w.setCell ⟨g, i, none⟩ v) g n (fun j => if j = i then v else f j) := by
 obtain ⟨cur, h1, h2, h3⟩ := h
 refine ⟨_, setCell_block h1 v, by simp [h2], fun j hj => ?_⟩
 rw [Array.getElem?_setIfInBounds]
 by_cases hji : j = i
 · subst hji
   rw [if_pos rfl, if_pos (by omega)]
   simp
 · rw [if_neg (Ne.symm hji), h3 j hj]
   simp [hji]
theorem Tab.new {t : TypeId} (w : World) (n : Nat) (z : Value) : Tab t (w.alloc (.cells (madeCells #[z] n) t)) w.heap.size n (fun _ => z) := by
 refine ⟨_, heap_alloc_new w _, size_madeCells _ _, fun i hi => ?_⟩
 simp [madeCells, hi, Nat.mod_one]
theorem table_start {N : Nat} (w : World) (q n : Nat) :
   let w2 := (w.alloc (.cells (madeCells #[.int .i64 0, .slice none 0 0, .int .i64 0, .slice none 0 0] (q * 4)) 52)).alloc (.cells (madeCells #[.slice none 0 0] n) 118)
   Below w.heap.size w w2 ∧ Fill NoWord 4 (RE N) 52 w2 w.heap.size q [] ∧ Tab 118 w2 (w.heap.size + 1) n (fun _ => .slice none 0 0) := by
 intro w2
 have k1 := below_new w (.cells (madeCells #[.int .i64 0, .slice none 0 0, .int .i64 0, .slice none 0 0] (q * 4)) 52)
 have k2 := below_new (w.alloc (.cells (madeCells #[.int .i64 0, .slice none 0 0, .int .i64 0, .slice none 0 0] (q * 4)) 52)) (.cells (madeCells #[.slice none 0 0] n) 118)
 have h1 := Fill.new (k := 4) (E := RE N) (t := 52) w (z := #[.int .i64 0, .slice none 0 0, .int .i64 0, .slice none 0 0]) q zk_r (by decide)
 have h2 := Tab.new (t := 118) (w.alloc (.cells (madeCells #[.int .i64 0, .slice none 0 0, .int .i64 0, .slice none 0 0] (q * 4)) 52)) n (.slice none 0 0)
 rw [show (w.alloc (.cells (madeCells #[.int .i64 0, .slice none 0 0, .int .i64 0, .slice none 0 0] (q * 4)) 52)).heap.size = w.heap.size + 1 by simp] at h2
 exact ⟨below_keep k2 k1, h1.later (RE.stays _ _ noWord_word) k2, h2⟩
theorem Fill.nil_aside {α : Type} {K : Value → Prop} {k : Nat} {E : World → List Value → α → Prop} {t : TypeId} {w : World} {g n g' : Nat} (h : Fill K k E t w g n []) (hne : g ≠ g') (o : Nat) (v : Value) : Fill K k E t (w.setCell ⟨g', o, none⟩ v) g n [] := by
 obtain ⟨cur, h1, h2, h3, h4, _⟩ := h
 exact ⟨cur, by rw [Below.heap_setCell _ _ _ _ hne]; exact h1, h2, h3, h4, fun i x hx => by simp at hx⟩
theorem wrap_mul {n m q : Nat} (h : q ≤ 1000) (hq : q = n * m) : wrap64 ((n : Int) * (m : Int)) = (q : Int) := by
 have : (n : Int) * (m : Int) = (q : Int) := by rw [hq, Int.natCast_mul]
 rw [this]
 unfold wrap64
 omega
set_option maxHeartbeats 4000000 in
set_option maxRecDepth 8000 in
theorem table_any {N n m : Nat} (w : World) (hn : n ≤ 6) (hm : m ≤ 6) :
   Calls Tryz.prog 147 #[.int .i64 (n : Nat), .int .i64 (m : Nat)] w fun e w' => (∃ (g1 g2 : Nat) (A : Nat → Option Addr), e = .returned (.slice (some ⟨g2, 0, none⟩) n n) ∧ w.heap.size ≤ g1 ∧ w.heap.size ≤ g2 ∧ g1 ≠ g2 ∧ (∀ i, i < n → 0 < m → A i = some ⟨g1, i * m * 4, none⟩) ∧ Fill NoWord 4 (RE N) 52 w' g1 (n * m) [] ∧ Tab 118 w' g2 n (fun i => .slice (A i) 0 m)) ∧ Below w.heap.size w w' := by
 obtain ⟨q, hq⟩ : ∃ q, q = n * m := ⟨_, rfl⟩
 have hq36 : q ≤ 36 := by rw [hq]; exact Nat.mul_le_mul hn hm
 rw [← hq]
 have HQ := hide hq
 have hmk := run_make_k (P := Tryz.prog) 118 52 _ 4 64 Tryz.underlying118 info_r .i64 .i64 q (by omega) (by omega)
 have hmk2 := run_make_k (P := Tryz.prog) 92 118 _ 1 24 Tryz.underlying92 info_rs .i64 .i64 n (by omega) (by omega)
 have hwm : wrap64 ((n : Int) * (m : Int)) = (q : Int) := wrap_mul (by omega) hq
 clear hq
 go_enter Tryz.func147, Tryz.ntmps147
 go_wp2_with fail
 go_loopg [15] n (fun gk iv wr => ∃ (i : Nat) (f : Nat → Value), i ≤ n ∧ gk = n - i ∧ iv = .int .i64 (i : Int) ∧ Hid (Below w.heap.size w wr) ∧ Hid (Fill NoWord 4 (RE N) 52 wr w.heap.size q []) ∧ Hid (Tab 118 wr (w.heap.size + 1) n f ∧ ∀ k, k < i → ∃ a, f k = .slice a 0 m ∧ (0 < m → a = some ⟨w.heap.size, k * m * 4, none⟩)))
 case atStart => exact ⟨0, fun _ => .slice none 0 0, by omega, by omega, rfl, hide (table_start (N := N) w q n).1, hide (table_start w q n).2.1, hide ⟨(table_start (N := N) w q n).2.2, fun k hk => by omega⟩⟩
 case round =>
   obtain ⟨i, f, hi, hgk, rfl, HB, HF, HT⟩ := hrel
   by_cases hil : i < n
   · obtain ⟨p1, hp1⟩ : ∃ p, p = i * m := ⟨_, rfl⟩
     obtain ⟨p2, hp2⟩ : ∃ p, p = (i + 1) * m := ⟨_, rfl⟩
     have hp12 : p2 = p1 + m := by rw [hp1, hp2, Nat.add_mul]; omega
     have hp2q : p2 ≤ q := by rw [hp2, unhide HQ]; exact Nat.mul_le_mul_right _ hil
     have k1 : (p1 : Int) ≤ (p2 : Int) := by omega
     have k2 : (p2 : Int) ≤ (q : Int) := by omega
     have k3 : (p1 : Int) ≤ (q : Int) := by omega
     have hil' : (i : Int) < (n : Int) := by omega
     have w1 : wrap64 ((i : Int) * (m : Int)) = (p1 : Int) := wrap_mul (by omega) hp1
     have w2 : wrap64 (((i : Int) + 1) * (m : Int)) = (p2 : Int) := by rw [show ((i : Int) + 1) = ((i + 1 : Nat) : Int) by omega]; exact wrap_mul (by omega) hp2
     have e1 := (unhide HT).1.cell hil
     have gf := (unhide HT).1.free
     have HP := hide (And.intro hp1 (And.intro hp2 hp12))
     clear hp1 hp2 hp12 hp2q hmk hmk2 hwm
     go_wp2_with fail
     all_goals
       go_roundg (n - (i + 1))
       case measure => clear w1 w2; omega
       case rel =>
         obtain ⟨hp1, hp2, hp12⟩ := unhide HP
         clear w1 w2
         have hmm : p2 - p1 = m := by omega
         refine ⟨i + 1, _, by omega, rfl, by go_num, hide ((unhide HB).setCell (p := ⟨w.heap.size + 1, i, none⟩) (by show w.heap.size ≤ w.heap.size + 1; omega) _), hide ((unhide HF).nil_aside (by omega) _ _), hide ⟨(unhide HT).1.set hil _, fun k hk => ?_⟩⟩
         by_cases hki : k = i
         · subst hki
           rw [if_pos rfl]
           first
             | exact ⟨_, by rw [hmm], fun _ => by rw [hp1]⟩
             | exact ⟨_, by rw [show m = 0 by omega], fun h => by omega⟩
         · rw [if_neg hki]
           exact (unhide HT).2 k (by omega)
   · obtain rfl : i = n := by omega
     clear hil hi hgk
     go_wp2
     go_ret
     obtain ⟨hT, hf⟩ := unhide HT
     refine ⟨⟨w.heap.size, w.heap.size + 1, fun i => match f i with | .slice a _ _ => a | _ => none, rfl, Nat.le_refl _, by omega, by omega, ?_, unhide HF, ?_⟩, unhide HB⟩
     · intro k hk hm0
       obtain ⟨a, e1, e2⟩ := hf k hk
       simp only [e1]
       exact e2 hm0
     · obtain ⟨cur, h1, h2, h3⟩ := hT
       refine ⟨cur, h1, h2, fun k hk => ?_⟩
       obtain ⟨a, e1, e2⟩ := hf k hk
       rw [h3 k hk, e1]
       simp only [e1]
end Go.Proofs.YtkifiolkfdicoaaGreatDoor
