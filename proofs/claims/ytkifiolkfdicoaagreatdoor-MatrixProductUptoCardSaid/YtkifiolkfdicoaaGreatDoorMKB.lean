/-
 Walks over the tables of the document: Product.
-/
import Derived.Test.YtkifiolkfdicoaaGreatDoorMK3
import Derived.Test.YtkifiolkfdicoaaGreatDoorMK4
import Derived.Deep.DeepCutAuto
namespace Go.Proofs.YtkifiolkfdicoaaGreatDoor
open Go.RowKit
def prodT (L M : List (List (Int × Int))) : List (List (Int × Int)) := L.map fun r => (List.range (wide M)).map fun j => ent r (colOf j M)
theorem Qr.und {N : Nat} {w : World} {v : Value} {p d : Int} (h : Qr N w v p d) : Und (10000 ^ N) (p, d) := by
 obtain ⟨x, a, n, c, y, b, m, k, e, g1, g2, d0, hg⟩ := h
 exact ⟨d0, Int.le_of_lt g2.abs.2, Int.le_of_lt g1.abs.1, Int.le_of_lt g1.abs.2⟩
theorem tk_mono {a b : Nat} (h : a ≤ b) : (10000 : Int) ^ a ≤ 10000 ^ b := by
 obtain ⟨c, rfl⟩ := Nat.le.dest h
 rw [Int.pow_add]
 have h1 : (0 : Int) < 10000 ^ a := Int.pow_pos (by decide)
 have h2 : (0 : Int) < 10000 ^ c := Int.pow_pos (by decide)
 have : (10000 : Int) ^ a * 1 ≤ 10000 ^ a * 10000 ^ c := Int.mul_le_mul_of_nonneg_left (by omega) (by omega)
 omega
def Smm (r c : List (Int × Int)) (k : Nat) (S E : Int) : Prop := 0 < E ∧ Int.gcd S E = 1 ∧ S * cden (r.take k) (c.take k) = cnum (r.take k) (c.take k) * E
theorem Smm.next {r c : List (Int × Int)} {k : Nat} {S E P D P' D' : Int} {x y : Int × Int} (h : Smm r c k S E) (hx : r[k]? = some x) (hy : c[k]? = some y) (hlen : c.length = r.length) (_x0 : 0 < x.2) (_y0 : 0 < y.2) (h1 : P * (x.2 * y.2) = x.1 * y.1 * D) (D0 : 0 < D) (h2 : P' * (E * D) = (S * D + P * E) * D') (D0' : 0 < D') (hg : Int.gcd P' D' = 1) : Smm r c (k + 1) P' D' := by
 obtain ⟨E0, _, h3⟩ := h
 refine ⟨D0', hg, ?_⟩
 have hl : (r.take k).length = (c.take k).length := by rw [List.length_take, List.length_take, hlen]
 rw [take_next hx, take_next hy, cden_snoc hl, cnum_snoc hl]
 refine Int.eq_of_mul_eq_mul_right (show E * D ≠ 0 from Int.ne_of_gt (Int.mul_pos E0 D0)) ?_
 grind
theorem Smm.fits {r c : List (Int × Int)} {k : Nat} {S E : Int} {N : Nat} (h : Smm r c k S E) (hr : ∀ x ∈ r, Und (10000 ^ N) x) (hc : ∀ x ∈ c, Und (10000 ^ N) x) (hlen : c.length = r.length) (hk : k ≤ 6) : -10000 ^ (12 * N + 1) < S ∧ S < 10000 ^ (12 * N + 1) ∧ E < 10000 ^ (12 * N + 1) := by
 have hl : (r.take k).length = (c.take k).length := by rw [List.length_take, List.length_take, hlen]
 have B0 : (0 : Int) < 10000 ^ N := Int.pow_pos (by decide)
 obtain ⟨b1, b2, b3, b4⟩ := cden_und B0 (fun x hx => hr x (List.mem_of_mem_take hx)) (fun x hx => hc x (List.mem_of_mem_take hx)) hl
 obtain ⟨e1, e2⟩ := low_le b1 h.1 h.2.1 h.2.2
 have hk' : (r.take k).length ≤ 6 := by rw [List.length_take]; omega
 have p1 : (((10000 : Int) ^ N * 10000 ^ N) ^ (r.take k).length) ≤ 10000 ^ (12 * N) := by
   rw [← Int.pow_add, ← Int.pow_mul]
   exact tk_mono (by have : (N + N) * (r.take k).length ≤ (N + N) * 6 := Nat.mul_le_mul_left _ hk'; omega)
 have p0 : (0 : Int) < 10000 ^ (12 * N) := Int.pow_pos (by decide)
 have p2 : ((r.take k).length : Int) * ((10000 : Int) ^ N * 10000 ^ N) ^ (r.take k).length ≤ 6 * 10000 ^ (12 * N) := Int.mul_le_mul (by omega) p1 (Int.le_of_lt (Int.pow_pos (Int.mul_pos B0 B0))) (by decide)
 rw [Int.pow_succ]
 omega
structure In3 (W1 : World) (N K bs : Nat) (S E : Int) (x1 : Bool) (x2 : Option Addr) (x3 x4 : Nat) (x5 : Bool) (x6 : Option Addr) (x7 x8 : Nat) (ab ao i : Nat) (ra : Option Addr) (n rc rb ro k : Nat) (p1 : Bool) (p2 : Option Addr) (p3 p4 : Nat) (p5 : Bool) (p6 : Option Addr) (p7 p8 bb bo : Nat) (qa : Option Addr) (m qc qb qo j : Nat) (u1 : Bool) (u2 : Option Addr) (u3 u4 : Nat) (u5 : Bool) (u6 : Option Addr) (u7 u8 : Nat) (x y : Int × Int) (w' : World) : Prop where
 below : Below W1.heap.size W1 w'
 s : QB w' bs x1 x2 x3 x4 x5 x6 x7 x8 K S E
 cs : w'.cell? ⟨ab, ao + i, none⟩ = some (.slice ra n rc) ∧ w'.cell? ⟨rb, ro + k * 4, none⟩ = some (.bool p1) ∧ w'.cell? ⟨rb, ro + k * 4 + 1, none⟩ = some (.slice p2 p3 p4) ∧ w'.cell? ⟨rb, ro + k * 4 + 2, none⟩ = some (.bool p5) ∧ w'.cell? ⟨rb, ro + k * 4 + 3, none⟩ = some (.slice p6 p7 p8) ∧ w'.cell? ⟨bb, bo + k, none⟩ = some (.slice qa m qc) ∧ w'.cell? ⟨qb, qo + j * 4, none⟩ = some (.bool u1) ∧ w'.cell? ⟨qb, qo + j * 4 + 1, none⟩ = some (.slice u2 u3 u4) ∧ w'.cell? ⟨qb, qo + j * 4 + 2, none⟩ = some (.bool u5) ∧ w'.cell? ⟨qb, qo + j * 4 + 3, none⟩ = some (.slice u6 u7 u8)
 x : Qr N w' (.agg #[.bool p1, .slice p2 p3 p4, .bool p5, .slice p6 p7 p8]) x.1 x.2
 y : Qr N w' (.agg #[.bool u1, .slice u2 u3 u4, .bool u5, .slice u6 u7 u8]) y.1 y.2
 lt : rb < W1.heap.size ∧ qb < W1.heap.size ∧ ab < W1.heap.size ∧ bb < W1.heap.size
theorem In3.keep {W1 : World} {N K bs : Nat} {S E : Int} {x1 : Bool} {x2 : Option Addr} {x3 x4 : Nat} {x5 : Bool} {x6 : Option Addr} {x7 x8 : Nat} {ab ao i : Nat} {ra : Option Addr} {n rc rb ro k : Nat} {p1 : Bool} {p2 : Option Addr} {p3 p4 : Nat} {p5 : Bool} {p6 : Option Addr} {p7 p8 bb bo : Nat} {qa : Option Addr} {m qc qb qo j : Nat} {u1 : Bool} {u2 : Option Addr} {u3 u4 : Nat} {u5 : Bool} {u6 : Option Addr} {u7 u8 : Nat} {x y : Int × Int} {w1 w2 : World} (h : In3 W1 N K bs S E x1 x2 x3 x4 x5 x6 x7 x8 ab ao i ra n rc rb ro k p1 p2 p3 p4 p5 p6 p7 p8 bb bo qa m qc qb qo j u1 u2 u3 u4 u5 u6 u7 u8 x y w1) (hb : Below w1.heap.size w1 w2) : In3 W1 N K bs S E x1 x2 x3 x4 x5 x6 x7 x8 ab ao i ra n rc rb ro k p1 p2 p3 p4 p5 p6 p7 p8 bb bo qa m qc qb qo j u1 u2 u3 u4 u5 u6 u7 u8 x y w2 := by
 obtain ⟨h1, h2, ⟨c0, c1, c2, c3, c4, c5, c6, c7, c8, c9⟩, h4, h5, h6⟩ := h
 exact ⟨below_keep hb h1, h2.keep hb, ⟨cell_keep hb c0, cell_keep hb c1, cell_keep hb c2, cell_keep hb c3, cell_keep hb c4, cell_keep hb c5, cell_keep hb c6, cell_keep hb c7, cell_keep hb c8, cell_keep hb c9⟩, h4.later hb, h5.later hb, h6⟩
theorem In3.drew {W1 : World} {N K bs : Nat} {S E : Int} {x1 : Bool} {x2 : Option Addr} {x3 x4 : Nat} {x5 : Bool} {x6 : Option Addr} {x7 x8 : Nat} {ab ao i : Nat} {ra : Option Addr} {n rc rb ro k : Nat} {p1 : Bool} {p2 : Option Addr} {p3 p4 : Nat} {p5 : Bool} {p6 : Option Addr} {p7 p8 bb bo : Nat} {qa : Option Addr} {m qc qb qo j : Nat} {u1 : Bool} {u2 : Option Addr} {u3 u4 : Nat} {u5 : Bool} {u6 : Option Addr} {u7 u8 : Nat} {x y : Int × Int} {w1 : World} (h : In3 W1 N K bs S E x1 x2 x3 x4 x5 x6 x7 x8 ab ao i ra n rc rb ro k p1 p2 p3 p4 p5 p6 p7 p8 bb bo qa m qc qb qo j u1 u2 u3 u4 u5 u6 u7 u8 x y w1) : In3 W1 N K bs S E x1 x2 x3 x4 x5 x6 x7 x8 ab ao i ra n rc rb ro k p1 p2 p3 p4 p5 p6 p7 p8 bb bo qa m qc qb qo j u1 u2 u3 u4 u5 u6 u7 u8 x y w1.drew := h.keep (Below.refl _ _).drew
theorem In3.put {W1 : World} {N K bs : Nat} {S E : Int} {x1 : Bool} {x2 : Option Addr} {x3 x4 : Nat} {x5 : Bool} {x6 : Option Addr} {x7 x8 : Nat} {ab ao i : Nat} {ra : Option Addr} {n rc rb ro k : Nat} {p1 : Bool} {p2 : Option Addr} {p3 p4 : Nat} {p5 : Bool} {p6 : Option Addr} {p7 p8 bb bo : Nat} {qa : Option Addr} {m qc qb qo j : Nat} {u1 : Bool} {u2 : Option Addr} {u3 u4 : Nat} {u5 : Bool} {u6 : Option Addr} {u7 u8 : Nat} {x y : Int × Int} {w1 : World} {q : Nat} (h : In3 W1 N K bs S E x1 x2 x3 x4 x5 x6 x7 x8 ab ao i ra n rc rb ro k p1 p2 p3 p4 p5 p6 p7 p8 bb bo qa m qc qb qo j u1 u2 u3 u4 u5 u6 u7 u8 x y w1) (hq : W1.heap.size ≤ q) (v0 v1 v2 v3 : Value) : let w' := (((w1.setCell ⟨q, 0, none⟩ v0).setCell ⟨q, 1, none⟩ v1).setCell ⟨q, 2, none⟩ v2).setCell ⟨q, 3, none⟩ v3
   w'.cell? ⟨ab, ao + i, none⟩ = some (.slice ra n rc) ∧ w'.cell? ⟨rb, ro + k * 4, none⟩ = some (.bool p1) ∧ w'.cell? ⟨rb, ro + k * 4 + 1, none⟩ = some (.slice p2 p3 p4) ∧ w'.cell? ⟨rb, ro + k * 4 + 2, none⟩ = some (.bool p5) ∧ w'.cell? ⟨rb, ro + k * 4 + 3, none⟩ = some (.slice p6 p7 p8) ∧ w'.cell? ⟨bb, bo + k, none⟩ = some (.slice qa m qc) ∧ w'.cell? ⟨qb, qo + j * 4, none⟩ = some (.bool u1) ∧ w'.cell? ⟨qb, qo + j * 4 + 1, none⟩ = some (.slice u2 u3 u4) ∧ w'.cell? ⟨qb, qo + j * 4 + 2, none⟩ = some (.bool u5) ∧ w'.cell? ⟨qb, qo + j * 4 + 3, none⟩ = some (.slice u6 u7 u8) := by
 intro w'
 have hc : ∀ b o v, b < W1.heap.size → w1.cell? ⟨b, o, none⟩ = some v → w'.cell? ⟨b, o, none⟩ = some v := fun b o v hb hv => by
   show (World.setCell _ _ _).cell? _ = _
   rw [cell?_setCell_ne _ _ _ _ _ _ (by omega), cell?_setCell_ne _ _ _ _ _ _ (by omega), cell?_setCell_ne _ _ _ _ _ _ (by omega), cell?_setCell_ne _ _ _ _ _ _ (by omega)]
   exact hv
 obtain ⟨_, _, ⟨c0, c1, c2, c3, c4, c5, c6, c7, c8, c9⟩, _, _, l1, l2, l3, l4⟩ := h
 exact ⟨hc _ _ _ l3 c0, hc _ _ _ l1 c1, hc _ _ _ l1 c2, hc _ _ _ l1 c3, hc _ _ _ l1 c4, hc _ _ _ l4 c5, hc _ _ _ l2 c6, hc _ _ _ l2 c7, hc _ _ _ l2 c8, hc _ _ _ l2 c9⟩
theorem colOf_at {c k : Nat} {M : List (List (Int × Int))} {q : List (Int × Int)} {y : Int × Int} (h : M[k]? = some q) (hy : q[c]? = some y) : (colOf c M)[k]? = some y := by simp [colOf, h, List.getD, hy]
theorem row_und {N : Nat} {w : World} {v : Value} {l : List (Int × Int)} (h : Rows 4 (QE N) w v l) : ∀ x ∈ l, Und (10000 ^ N) x := by
 intro x hx
 obtain ⟨a, c, rfl⟩ := h.shape
 obtain ⟨i, hi⟩ := List.getElem?_of_mem hx
 obtain ⟨_, _, _, _, _, _, _, _, _, _, _, _, _, _, _, hq⟩ := h.at hi
 exact hq.und
theorem row_und' {N i : Nat} {w : World} {v : Value} {M : List (List (Int × Int))} {r : List (Int × Int)} (h : Rows 1 (LE 4 (QE N)) w v M) (hr : M[i]? = some r) : ∀ x ∈ r, Und (10000 ^ N) x := by
 obtain ⟨a, c, rfl⟩ := h.shape
 obtain ⟨_, _, _, _, _, _, u, _, hu⟩ := h.at hr
 exact row_und hu
theorem col_und {N j : Nat} {w : World} {v : Value} {M : List (List (Int × Int))} (h : Rows 1 (LE 4 (QE N)) w v M) (hM : ∀ r ∈ M, r.length = wide M) (hj : j < wide M) : ∀ x ∈ colOf j M, Und (10000 ^ N) x := by
 intro x hx
 obtain ⟨q, hq, rfl⟩ := List.mem_map.1 hx
 obtain ⟨a, c, rfl⟩ := h.shape
 obtain ⟨i, hi⟩ := List.getElem?_of_mem hq
 obtain ⟨_, _, _, _, _, _, u, _, hu⟩ := h.at hi
 have hl := hM q hq
 refine row_und hu _ ?_
 rw [List.getD_eq_getElem?_getD, List.getElem?_eq_getElem (by omega)]
 exact List.getElem_mem _
set_option maxHeartbeats 16000000 in
set_option maxRecDepth 8000 in
theorem rproduct_any {N : Nat} {v v' : Value} {L M : List (List (Int × Int))} (w : World) (h : Rows 1 (LE 4 (QE N)) w v L) (h' : Rows 1 (LE 4 (QE N)) w v' M) (hL : ∀ r ∈ L, r.length = M.length) (hM : ∀ r ∈ M, r.length = wide M) (hl : L.length ≤ 6) (hm : M.length ≤ 6) (hw : wide M ≤ 6) (hN : N ≤ 1000) :
   Calls Tryz.prog 82 #[v, v'] w fun e w' => (∃ v, e = .returned v ∧ Rows 1 (LE 4 (QE (12 * N + 1))) w' v (prodT L M)) ∧ Below w.heap.size w w' := by
 obtain ⟨sa, sc, rfl⟩ := h.shape
 obtain ⟨ta, tc, rfl⟩ := h'.shape
 have HR := hide h
 have HR' := hide h'
 have HL := hide (And.intro hL hM)
 clear h h' hL hM
 go_enter Tryz.func82, Tryz.ntmps82
 go_wp2_with fail
 go_loopg [5, 6] L.length (fun gk ov iv wr => ∃ (i : Nat) (O : List (List (Int × Int))), i ≤ L.length ∧ gk = L.length - i ∧ iv = .int .i64 (i : Int) ∧ Hid (O = prodT (L.take i) M) ∧ Hid (Below w.heap.size w wr) ∧ Hid (OwnR IsSl 1 (LE 4 (QE (12 * N + 1))) 115 wr w.heap.size ov O))
 case atStart => exact ⟨0, [], by omega, by omega, rfl, hide rfl, hide (Below.refl _ _), hide (OwnR.nil _ _ _ _ _ _)⟩
 case round =>
   obtain ⟨i, O, hi, hgk, rfl, HP, HB, HO⟩ := hrel
   obtain ⟨oa, oc, rfl⟩ := (unhide HO).slice
   by_cases hil : i < L.length
   · obtain ⟨r, hr⟩ : ∃ s, L[i]? = some s := ⟨L[i], by simp [hil]⟩
     have HRr := hide hr
     have HGI := hide (And.intro hgk (And.intro hi hil))
     have hil' : (i : Int) < (L.length : Int) := by omega
     clear hr hgk hi hil
     obtain ⟨wi, rfl⟩ : ∃ X, X = wr := ⟨_, rfl⟩
     go_wp2_with fail
     go_loopg [7, 8] (wide M) (fun gj rv jv w2 => ∃ (j : Nat) (X : List (Int × Int)), j ≤ wide M ∧ gj = wide M - j ∧ jv = .int .i64 (j : Int) ∧ Hid (X = (List.range j).map fun j => ent r (colOf j M)) ∧ Hid (Below wi.heap.size wi w2) ∧ Hid (OwnR NoInt 4 (QE (12 * N + 1)) 56 w2 wi.heap.size rv X))
     case atStart => exact ⟨0, [], by omega, by omega, rfl, hide rfl, hide (Below.refl _ _), hide (OwnR.nil _ _ _ _ _ _)⟩
     case round =>
       obtain ⟨j, X, hj, hgj, rfl, HX, HB2, HO2⟩ := hrel
       obtain ⟨xa, xc, rfl⟩ := (unhide HO2).slice
       have HBw := hide (below_keep (unhide HB2) (unhide HB))
       have HR2 := hide ((unhide HR').later (qss_stays N (e := 0) (by decide)) (unhide HBw))
       go_wp2_with fail
       go_fit (rwide_any _ (unhide HR2))
       rintro e W1 ⟨rfl, B1⟩
       have HB2 := hide (below_keep B1 (unhide HB2))
       have HBw := hide (below_keep B1 (unhide HBw))
       have HO2 := hide ((unhide HO2).later (QE.stays _ _ (by decide)) B1)
       clear B1 HR2
       by_cases hjl : j < wide M
       · have hjl' : (j : Int) < (wide M : Int) := by omega
         have HGJ := hide (And.intro hgj (And.intro hj hjl))
         clear hgj hj hjl
         go_wp2_with fail
         go_fit (rint_zero _)
         rintro e W2 ⟨⟨v0, rfl, hI⟩, B2⟩
         obtain ⟨s1, s2, s3, s4, s5, s6, s7, s8, rfl⟩ := hI.shape
         have kn := below_new W2 (.cells #[.bool s1, .slice s2 s3 s4, .bool s5, .slice s6 s7 s8] 56)
         have HBI := hide (below_keep kn B2)
         have HQS := hide (QB.new (hI.mono (M := 12 * N + 1) (by omega)))
         have hbs : W1.heap.size ≤ W2.heap.size := B2.size
         have HBS := hide hbs
         clear kn B2 hI hbs
         obtain ⟨bs, hbs⟩ : ∃ b, b = W2.heap.size := ⟨_, rfl⟩
         go_wp2_with fail
         rw [← hbs] at HQS HBS ⊢
         clear hbs
         go_loopg [10] M.length (fun g3 kv w3 => ∃ (k : Nat) (S E : Int) (x1 : Bool) (x2 : Option Addr) (x3 x4 : Nat) (x5 : Bool) (x6 : Option Addr) (x7 x8 : Nat), k ≤ M.length ∧ g3 = M.length - k ∧ kv = .int .i64 (k : Int) ∧ Hid (Smm r (colOf j M) k S E) ∧ Hid (Below W1.heap.size W1 w3) ∧ Hid (QB w3 bs x1 x2 x3 x4 x5 x6 x7 x8 (12 * N + 1) S E))
         case atStart => exact ⟨0, 0, 1, _, _, _, _, _, _, _, _, by omega, by omega, rfl, hide ⟨by decide, by decide, by simp [cden, cnum]⟩, HBI, HQS⟩
         case round =>
           clear HQS HBI
           obtain ⟨k, S, E, x1, x2, x3, x4, x5, x6, x7, x8, hk, hg3, rfl, HSM, HB3, HQS⟩ := hrel
           by_cases hkl : k < M.length
           · have hrl := (unhide HL).1 r (List.mem_of_getElem? (unhide HRr))
             obtain ⟨x, hx⟩ : ∃ s, r[k]? = some s := ⟨r[k]'(by omega), by simp⟩
             obtain ⟨q, hq⟩ : ∃ s, M[k]? = some s := ⟨M[k], by simp [hkl]⟩
             have hql := (unhide HL).2 q (List.mem_of_getElem? hq)
             have hjq : j < q.length := by have := unhide HGJ; omega
             obtain ⟨y, hy⟩ : ∃ s, q[j]? = some s := ⟨q[j], by simp [hjq]⟩
             obtain ⟨ab, ao, rfl, cs, _, hcs1, u, rfl, hru⟩ := (unhide HR).at (unhide HRr)
             obtain ⟨ra, rc, rfl⟩ := hru.shape
             obtain ⟨rb, ro, rfl, cs, _, hcs2, p1, p2, p3, p4, p5, p6, p7, p8, rfl, hX⟩ := hru.at hx
             obtain ⟨bb, bo, rfl, cs, _, hcs3, u, rfl, hqu⟩ := (unhide HR').at hq
             obtain ⟨qa, qc, rfl⟩ := hqu.shape
             obtain ⟨qb, qo, rfl, cs, _, hcs4, u1, u2, u3, u4, u5, u6, u7, u8, rfl, hY⟩ := hqu.at hy
             have hBB := below_keep (unhide HB3) (unhide HBw)
             have c0 : w.cell? ⟨ab, ao + i, none⟩ = some (.slice (some ⟨rb, ro, none⟩) r.length rc) := by simpa using hcs1 0 _ rfl
             have c1 : w.cell? ⟨rb, ro + k * 4, none⟩ = some (.bool p1) := by simpa using hcs2 0 _ rfl
             have c5 : w.cell? ⟨bb, bo + k, none⟩ = some (.slice (some ⟨qb, qo, none⟩) q.length qc) := by simpa using hcs3 0 _ rfl
             have c6 : w.cell? ⟨qb, qo + j * 4, none⟩ = some (.bool u1) := by simpa using hcs4 0 _ rfl
             have hws : w.heap.size ≤ W1.heap.size := (unhide HBw).size
             have HI : Hid (In3 W1 N (12 * N + 1) bs S E x1 x2 x3 x4 x5 x6 x7 x8 ab ao i (some ⟨rb, ro, none⟩) r.length rc rb ro k p1 p2 p3 p4 p5 p6 p7 p8 bb bo (some ⟨qb, qo, none⟩) q.length qc qb qo j u1 u2 u3 u4 u5 u6 u7 u8 x y wr) := hide ⟨unhide HB3, unhide HQS, ⟨cell_keep hBB c0, cell_keep hBB c1, cell_keep hBB (hcs2 1 _ rfl), cell_keep hBB (hcs2 2 _ rfl), cell_keep hBB (hcs2 3 _ rfl), cell_keep hBB c5, cell_keep hBB c6, cell_keep hBB (hcs4 1 _ rfl), cell_keep hBB (hcs4 2 _ rfl), cell_keep hBB (hcs4 3 _ rfl)⟩, hX.later hBB, hY.later hBB, by have h1 := World.block_lt_of_cell? w _ c1; have h2 := World.block_lt_of_cell? w _ c6; have h3 := World.block_lt_of_cell? w _ c0; have h4 := World.block_lt_of_cell? w _ c5; simp only at h1 h2 h3 h4; omega⟩
             have HXY := hide (And.intro hx (colOf_at hq hy))
             have HCL : Hid ((colOf j M).length = r.length) := hide (by rw [colOf, List.length_map, hrl])
             have HUN := hide (And.intro (row_und hru) (col_und (unhide HR') (unhide HL).2 (j := j) (by have := unhide HGJ; omega)))
             have HU := hide (And.intro hX.und hY.und)
             have hkl' : (k : Int) < (M.length : Int) := by omega
             have hkr' : (k : Int) < (r.length : Int) := by omega
             have hjq' : (j : Int) < (q.length : Int) := by omega
             have HGK := hide (And.intro hg3 (And.intro hk hkl))
             clear hrl hx hq hql hjq hy hru hqu hcs1 hcs2 hcs3 hcs4 hX hY hBB c0 c1 c5 c6 hws hg3 hk hkl HQS HB3
             go_upto_region 13 with fail
             obtain ⟨V, rfl⟩ : ∃ X, X = wr := ⟨_, rfl⟩
             have HI0 := HI
             go_cut [11] from 25 to 48 (fun v11 wx => ∃ tq t1 t2 t3 t4 t5 t6 t7 t8 P D, v11 = .pointer (some ⟨tq, 0, none⟩) ∧ bs ≠ tq ∧ Hid (P * (x.2 * y.2) = x.1 * y.1 * D) ∧ Hid (QB wx tq t1 t2 t3 t4 t5 t6 t7 t8 (N + N) P D) ∧ Hid (Below W1.heap.size W1 wx) ∧ Hid (QB wx bs x1 x2 x3 x4 x5 x6 x7 x8 (12 * N + 1) S E))
             case first =>
               have HI := hide (unhide HI).drew
               have n0 := (unhide HI0).below.size
               have n1 := (unhide HI0).lt
               have n2 := (unhide HI0).s.box.lt
               go_region_held3 (fun w' => w'.cell? ⟨ab, ao + i, none⟩ = some (.slice (some ⟨rb, ro, none⟩) r.length rc) ∧ w'.cell? ⟨rb, ro + k * 4, none⟩ = some (.bool p1) ∧ w'.cell? ⟨rb, ro + k * 4 + 1, none⟩ = some (.slice p2 p3 p4) ∧ w'.cell? ⟨rb, ro + k * 4 + 2, none⟩ = some (.bool p5) ∧ w'.cell? ⟨rb, ro + k * 4 + 3, none⟩ = some (.slice p6 p7 p8) ∧ w'.cell? ⟨bb, bo + k, none⟩ = some (.slice (some ⟨qb, qo, none⟩) q.length qc) ∧ w'.cell? ⟨qb, qo + j * 4, none⟩ = some (.bool u1) ∧ w'.cell? ⟨qb, qo + j * 4 + 1, none⟩ = some (.slice u2 u3 u4) ∧ w'.cell? ⟨qb, qo + j * 4 + 2, none⟩ = some (.bool u5) ∧ w'.cell? ⟨qb, qo + j * 4 + 3, none⟩ = some (.slice u6 u7 u8))
                 (first | with_reducible exact (unhide HI).cs | with_reducible exact ((unhide HI).keep (below_new _ _)).cs | with_reducible exact (((unhide HI0).keep (below_new _ _)).drew).cs | with_reducible exact In3.put (unhide HI) (by omega) _ _ _ _)
                 (first
                   | (go_at_call 46; (first | go_fit (rqmul_any (N := N) _ (unhide HI).x (unhide HI).y (by omega)) | go_fit (rqmul_any (N := N) _ ((unhide HI).keep (below_new _ _)).x ((unhide HI).keep (below_new _ _)).y (by omega)) | go_fit (rqmul_any (N := N) _ ((unhide HI0).keep (below_new _ _)).drew.x ((unhide HI0).keep (below_new _ _)).drew.y (by omega))); rintro e9 Y1 ⟨⟨vm, P, D, rfl, hM, hE⟩, hb⟩; have HE := hide hE; clear hE; obtain ⟨o1, o2, o3, o4, o5, o6, o7, o8, rfl⟩ := hM.shape; (first | (have HI := hide ((unhide HI).keep hb)) | (have HI := hide (((unhide HI).keep (below_new _ _)).keep hb); have hbx := (qbox_new _ false none 0 0 false none 0 0).later hb) | (have HI := hide ((((unhide HI0).keep (below_new _ _)).drew).keep hb); have hbx := (show QBox (V.alloc (.cells #[.bool false, .slice none 0 0, .bool false, .slice none 0 0] 56)).drew V.heap.size from qbox_new V false none 0 0 false none 0 0).later hb)); have l0 := (unhide HI).s.box.lt; (try (obtain ⟨⟨g0, h0⟩, ⟨g1, g2, g3, h1⟩, ⟨g4, h2⟩, ⟨g5, g6, g7, h3⟩, gf⟩ := hbx.cells; have hxlt := hbx.lt)); clear hb))
               all_goals
                 go_wp2
                 go_meet
                 first
                   | exact ⟨_, _, _, _, _, _, _, _, _, _, _, rfl, Nat.ne_of_lt (unhide HI).s.box.lt, HE, hide (QB.new hM), hide ((unhide HI).keep (below_new _ _)).below, hide ((unhide HI).keep (below_new _ _)).s⟩
                   | exact ⟨_, _, _, _, _, _, _, _, _, _, _, rfl, (by omega), HE, hide (QB.put hbx hM), hide (below_rstored (unhide HI).below (by omega) _ _ _ _), hide ((unhide HI).s.beside hbx (by omega) _ _ _ _)⟩
             case rest =>
               obtain ⟨tq, t1, t2, t3, t4, t5, t6, t7, t8, P, D, rfl, hne, HE, HT, HB3, HQS⟩ := hcut
               obtain ⟨Z, rfl⟩ : ∃ X, X = wc := ⟨_, rfl⟩
               have c0 := (unhide HQS).c0
               have c1 := (unhide HQS).c1
               have c2 := (unhide HQS).c2
               have c3 := (unhide HQS).c3
               have d0 := (unhide HT).c0
               have d1 := (unhide HT).c1
               have d2 := (unhide HT).c2
               have d3 := (unhide HT).c3
               go_wp2_with fail
               go_fit (rqadd_any (N := 12 * N + 1 + N) _ ((unhide HQS).qr.mono (by omega)) ((unhide HT).qr.mono (by omega)) (by omega))
               rintro e W3 ⟨⟨va, P', D', rfl, hA, hE'⟩, B3⟩
               have hnx := (unhide HSM).next (unhide HXY).1 (unhide HXY).2 (unhide HCL) (unhide HU).1.1 (unhide HU).2.1 (unhide HE) (by obtain ⟨_, _, _, _, _, _, _, _, _, _, _, h1, _⟩ := (unhide HT).qr; exact h1) hE' (by obtain ⟨_, _, _, _, _, _, _, _, _, _, _, h1, _⟩ := hA; exact h1) (by obtain ⟨_, _, _, _, _, _, _, _, _, _, _, _, h1⟩ := hA; exact h1)
               have hft := hnx.fits (unhide HUN).1 (unhide HUN).2 (unhide HCL) (by have := unhide HGK; omega)
               have hA := hA.fit (M := 12 * N + 1) hft.1 hft.2.1 hft.2.2
               obtain ⟨o1, o2, o3, o4, o5, o6, o7, o8, rfl⟩ := hA.shape
               have HNX := hide hnx
               have HB3 := hide (below_keep B3 (unhide HB3))
               have HQS := hide ((unhide HQS).keep B3)
               clear hnx hft B3 c0 c1 c2 c3 d0 d1 d2 d3 hE'
               obtain ⟨⟨g0, h0⟩, ⟨g1, g2, g3, h1⟩, ⟨g4, h2⟩, ⟨g5, g6, g7, h3⟩, gf⟩ := (unhide HQS).box.cells
               have hlt := (unhide HQS).box.lt
               obtain ⟨hg3, hk, hkl⟩ := unhide HGK
               have him : (k : Int) + 1 ≤ 100 := by omega
               go_wp2
               go_roundg (M.length - (k + 1))
               case measure => omega
               case rel => exact ⟨k + 1, P', D', _, _, _, _, _, _, _, _, by omega, rfl, by go_num, HNX, hide (below_rstored (unhide HB3) (unhide HBS) _ _ _ _), hide (QB.put (unhide HQS).box hA)⟩
           · obtain rfl : k = M.length := by omega
             clear hkl hk hg3
             have hen : ent r (colOf j M) = (S, E) := by
               have h1 := unhide HSM
               have hrl := (unhide HL).1 r (List.mem_of_getElem? (unhide HRr))
               have hcl : (colOf j M).length = M.length := by rw [colOf, List.length_map]
               rw [Smm, ← hrl, List.take_length, hrl, ← hcl, List.take_length] at h1
               have hu := row_und' (unhide HR) (unhide HRr)
               exact ent_is (cden_und (Int.pow_pos (by decide)) hu (col_und (unhide HR') (unhide HL).2 (by have := unhide HGJ; omega)) (by omega)).1 h1.2.2 h1.1 h1.2.1
             have HEN := hide hen
             have c0 := (unhide HQS).c0
             have c1 := (unhide HQS).c1
             have c2 := (unhide HQS).c2
             have c3 := (unhide HQS).c3
             have HO2 := hide ((unhide HO2).later (QE.stays _ _ (by decide)) (unhide HB3))
             have HB2 := hide (below_keep (unhide HB3) (unhide HB2))
             have hbs : wi.heap.size ≤ wr.heap.size := (unhide HB2).size
             obtain ⟨hgj, hj, hjl⟩ := unhide HGJ
             have hXn : X.length ≤ 100000000 := by have := unhide HX; rw [this, List.length_map, List.length_range]; omega
             have him : (j : Int) + 1 ≤ 100 := by omega
             clear hen
             go_wp2_with (at_builtin; refine wpList_pushE (y := (S, E)) rfl _ _ _ rfl Tryz.underlying115 info_q rfl (by decide) (by decide) zk_q (QE.stays _ _ (by decide)) wi.heap.size _ rfl (unhide HO2) [.bool x1, .slice x2 x3 x4, .bool x5, .slice x6 x7 x8] rfl (one_q _ _ _ _ _ _ _ _) (kd_q _ _ _ _ _ _ _ _) ⟨_, _, _, _, _, _, _, _, rfl, (unhide HQS).qr⟩ rfl rfl hXn hbs ?_; intro ov' Z1 hO1 hc1 hgr1 hge1)
             go_roundg (wide M - (j + 1))
             case measure => omega
             case rel => exact ⟨j + 1, X ++ [(S, E)], by omega, rfl, by go_num, hide (by rw [List.range_succ, List.map_append, unhide HX]; simp [unhide HEN]), hide ((below_keep (below_new _ _) (unhide HB2)).grown hgr1 (below_keep (below_new _ _) (unhide HB2)).size hge1), hide hO1⟩
       · obtain rfl : j = wide M := by omega
         clear hjl hj hgj
         have HRX := hide (unhide HO2).rows
         have HO := hide ((unhide HO).later (qss_stays _ (by decide)) (unhide HB2))
         have hbs : w.heap.size ≤ W1.heap.size := (unhide HBw).size
         obtain ⟨hgk, hi, hil⟩ := unhide HGI
         have hOn : O.length ≤ 100000000 := by have := unhide HP; rw [this, prodT, List.length_map, List.length_take]; omega
         have him : (i : Int) + 1 ≤ 100 := by omega
         go_wp2_with (at_builtin; refine wpList_pushE rfl _ _ _ rfl Tryz.underlying88 info_qs rfl (by decide) (by decide) zk_sl (qss_stays _ (by decide)) w.heap.size _ rfl (unhide HO) [.slice xa X.length xc] rfl (one_sl _ _ _) (kd_sl _ _ _) ⟨_, rfl, unhide HRX⟩ rfl rfl hOn hbs ?_; intro ov' Z1 hO1 hc1 hgr1 hge1)
         go_roundg (L.length - (i + 1))
         case measure => omega
         case rel => exact ⟨i + 1, O ++ [X], by omega, rfl, by go_num, hide (by rw [take_next (unhide HRr), prodT, List.map_append, unhide HP, prodT, unhide HX]; rfl), hide ((below_keep (below_new _ _) (unhide HBw)).grown hgr1 (below_keep (below_new _ _) (unhide HBw)).size hge1), hide hO1⟩
   · obtain rfl : i = L.length := by omega
     clear hil hi hgk
     go_wp2
     go_ret
     refine ⟨⟨_, rfl, ?_⟩, unhide HB⟩
     have h1 := (unhide HO).rows
     have h2 := unhide HP
     rw [List.take_length] at h2
     rw [← h2]
     exact h1
end Go.Proofs.YtkifiolkfdicoaaGreatDoor
