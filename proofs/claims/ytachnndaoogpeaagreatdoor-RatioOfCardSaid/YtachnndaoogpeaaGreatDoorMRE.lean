/-
  The numbers of the document in memory: a place put ahead of a row; a row that is written in place.
  Walks over the numbers of the document: share.
-/
import Derived.Test.YtachnndaoogpeaaGreatDoorMRD
import Derived.Laws.AppendOwnNone
namespace Go.Proofs.YtachnndaoogpeaaGreatDoor
open Go.RowKit

/-- A block of ints, not frozen. -/
def GI (w : World) (g : Nat) : Prop := ∃ cur, w.heap[g]? = some (.cells cur 3 (0, 0))
theorem GI.lt {w : World} {g : Nat} (h : GI w g) : g < w.heap.size := by obtain ⟨cur, h⟩ := h; exact (Array.getElem?_eq_some_iff.1 h).1
theorem GI.later {w w' : World} {g : Nat} (h : GI w g) (hb : Below w.heap.size w w') : GI w' g := by
  obtain ⟨cur, h'⟩ := h; exact ⟨cur, by rw [hb.block g (GI.lt ⟨cur, h'⟩)]; exact h'⟩
theorem GI.frozen {w : World} {g : Nat} (h : GI w g) (o : Nat) : w.frozen? ⟨g, o, none⟩ = false := by
  obtain ⟨cur, h⟩ := h; simp [World.frozen?, h]
theorem GI.set {w : World} {g : Nat} (h : GI w g) (a : Addr) (v : Value) : GI (w.setCell a v) g := by
  obtain ⟨cur, h⟩ := h
  by_cases hg : g = a.block
  · subst hg
    simp only [GI, World.setCell, Array.getElem?_modify]
    rw [if_pos trivial, h]
    exact ⟨_, rfl⟩
  · exact ⟨cur, by rw [Below.heap_setCell w a v g hg]; exact h⟩
theorem RowI.put {w : World} {b k : Nat} {l : List Int} (hr : RowI w b l) (hk : k < l.length) (x : Int) : RowI (w.setCell ⟨b, k, none⟩ (.int .i64 x)) b (l.set k x) := by
  intro j hj
  simp at hj
  by_cases e : j = k
  · subst e
    rw [cell?_setCell_eq (hr j hj)]
    simp [nth, hj]
  · rw [cell?_setCell_ne _ _ _ _ _ _ (by omega), hr j hj]
    simp [nth, Ne.symm e]
theorem RowI.beside {w : World} {b g k : Nat} {l : List Int} (hr : RowI w b l) (hne : b ≠ g) (v : Value) : RowI (w.setCell ⟨g, k, none⟩ v) b l := fun j hj => by
  rw [cell?_setCell_ne _ _ _ _ _ _ (by omega)]; exact hr j hj
theorem sl_mk {w : World} {g c : Nat} {l : List Int} (hr : RowI w g l) (hl : l.length ≤ c) (hc : c ≤ maxLen) (hg : GI w g) : Sl w (.slice (some ⟨g, 0, none⟩) l.length c) l := Or.inr ⟨g, c, rfl, hl, hc, hr, hg⟩
theorem own_rowI {w : World} {base : Nat} {v : Value} {n : Nat} {G : List Int} (h : w.ownsRow base 3 1 v n (G.map (Value.int .i64))) (hn : v ≠ .slice none 0 0) : ∃ g c, v = .slice (some ⟨g, 0, none⟩) n c ∧ G.length = n ∧ base ≤ g ∧ RowI w g G ∧ n ≤ c ∧ c ≤ maxLen ∧ GI w g := by
  obtain ⟨h0, ⟨rfl, h2⟩ | ⟨g, cap, cur, rfl, h3, h4, h5, h6, h7, h8⟩⟩ := h
  · exact absurd rfl hn
  · have hG : G.length = n := by simpa using h0
    refine ⟨g, cap, rfl, hG, h3, fun k hk => ?_, h5, h6, cur, h4⟩
    have e : cur[k]? = (cur.toList.take (n * 1))[k]? := by
      rw [List.getElem?_take, if_pos (by omega)]; simp
    simp only [World.cell?, h4]
    rw [e, h8]
    simp [nth, hk]
/-- A place is put ahead of a row. -/
theorem wpList_prepend {ops : Array Oper} {rest : List Oper} {o : Oper} {a : Act} {w w0 : World} {Q : Exit → Act → World → Prop} (hgd : o.guard = none) (s x : Operand)
    (ho : o.op = .call { callee := .builtin .append, args := #[s, x], argTypes := #[22, 22] }) (y : Int) (r : Value) (R : List Int) (hR : Sl w0 r R)
    (hs : a.eval s = .slice (some ⟨w0.heap.size, 0, none⟩) 1 1) (hx : a.eval x = r) (hw : w = w0.alloc (.cells #[.int .i64 y] 3)) (hn : R.length ≤ 100000000)
    (h : ∀ g c w', RowI w' g (y :: R) → w0.heap.size ≤ g → R.length + 1 ≤ c → c ≤ maxLen → GI w' g → Below w0.heap.size w0 w' → wpList Tryz.prog ops Q rest (a.put o.dst (.slice (some ⟨g, 0, none⟩) (R.length + 1) c)) w') : wpList Tryz.prog ops Q (o :: rest) a w := by
  obtain ⟨i0, hi, hz0, hz1, hz2⟩ := info_parts info_int
  subst hw
  have hown : (w0.alloc (.cells #[.int .i64 y] 3)).ownsRow w0.heap.size 3 1 (.slice (some ⟨w0.heap.size, 0, none⟩) 1 1) 1 [.int .i64 y] := World.ownsRow_lit w0 #[.int .i64 y] 1 (Nat.le_refl _) (by decide) rfl
  have hb := below_new w0 (.cells #[.int .i64 y] 3)
  rcases hR with ⟨rfl, rfl⟩ | ⟨b, cap, rfl, h2, h3, h4, cur, h5⟩
  · refine wpList_append_own_none hgd s x 22 ho w0.heap.size 3 i0 1 Tryz.underlying22 hi _ _ _ hs hown hx ?_
    refine h w0.heap.size 1 _ ?_ (Nat.le_refl _) (by simp) (by decide) ⟨_, heap_alloc_new w0 _⟩ hb
    intro k hk
    simp at hk; subst hk
    simp [nth]
  · have h4' : RowI (w0.alloc (.cells #[.int .i64 y] 3)) b R := h4.later hb
    refine wpList_append_own _ hgd s x 22 ho w0.heap.size 3 i0 (.int .i64 0) 1 8 Tryz.underlying22 hi hz0 hz1 hz2 rfl (by decide) _ _ _ hs hown ⟨b, 0, none⟩ R.length cap (R.map (Value.int .i64)) hx (by simp) ?_ ?_ ?_ ?_ ?_ ?_
    · intro j u hj
      have hjl : j < R.length := by
        have := (List.getElem?_eq_some_iff.1 hj).1
        simpa using this
      have hu : u = .int .i64 (nth R j) := by
        rw [List.getElem?_map, List.getElem?_eq_getElem hjl] at hj
        simp only [Option.map_some, Option.some.injEq] at hj
        rw [← hj, nth_lt hjl]
      rw [hu, show Addr.add ⟨b, 0, none⟩ j = ⟨b, j, none⟩ by cases j <;> simp [Addr.add]]
      exact h4' j hjl
    · intro u hu
      obtain ⟨x, _, rfl⟩ := List.mem_map.1 hu
      rfl
    · unfold maxLen; omega
    · omega
    · simp
    · intro v' w' hown' hgr hnil
      have hne : v' ≠ .slice none 0 0 := fun e => by have := hnil.1 e; simp at this
      rw [show [Value.int .i64 y] ++ R.map (Value.int .i64) = (y :: R).map (Value.int .i64) by simp, Nat.add_comm] at hown'
      obtain ⟨g, c, rfl, hl, hg, hr, hc1, hc2, hgi⟩ := own_rowI hown' hne
      refine h g c w' hr hg hc1 hc2 hgi ?_
      exact hb.grown hgr (by simp) (fun k hk => (hown.lt k hk).1)
/-- A row of zeros is made. -/
theorem made_ints (k : Nat) : (madeCells (Value.int .i64 0).cells (k * 1)).toList = (List.replicate k (0 : Int)).map (Value.int .i64) := by
  apply List.ext_getElem
  · simp [madeCells]
  · intro i h1 h2
    simp [madeCells, Value.cells, Nat.mod_one]
theorem wpList_zeros {ops : Array Oper} {rest : List Oper} {o : Oper} {a : Act} {w : World} {Q : Exit → Act → World → Prop} (hg : o.guard = none) (l c : Operand) (hop : o.op = Op.makeSlice 22 l c) (L C : Int) (n : Nat) (hl : a.eval l = .int .i64 L) (hc : a.eval c = .int .i64 C) (hL : L = (n : Int)) (hC : C = (n : Int)) (hn : n ≤ 1000000)
    (h : ∀ w', RowI w' w.heap.size (List.replicate n 0) → GI w' w.heap.size → Below w.heap.size w w' → wpList Tryz.prog ops Q rest (a.put o.dst (.slice (some ⟨w.heap.size, 0, none⟩) n n)) w') : wpList Tryz.prog ops Q (o :: rest) a w := by
  obtain ⟨i0, hi, hz0, hz1, hz2⟩ := info_parts info_int
  refine wpList_make_full _ hg l c 22 hop w.heap.size 3 i0 (.int .i64 0) 1 Tryz.underlying22 hi hz0 hz1 .i64 .i64 L C n hl hc hL hC (by rw [hz2]; omega) (by unfold maxLen; omega) (Nat.le_refl _) fun w' hown hgr => ?_
  rw [made_ints] at hown
  obtain ⟨g, c', e, _, _, hr, _, _, hgi⟩ := own_rowI hown (by simp)
  obtain ⟨rfl, rfl⟩ : w.heap.size = g ∧ n = c' := by simpa using e
  exact h w' hr hgi ((Below.refl _ _).grown hgr (Nat.le_refl _) (fun k hk => by cases hk))
theorem P4.set {l : List Int} (h : P4 l) (k : Nat) {x : Int} (h0 : 0 ≤ x) (h1 : x < 10000) : P4 (l.set k x) := fun d hd => by
  rcases List.mem_or_eq_of_mem_set hd with hd | rfl
  · exact h d hd
  · exact ⟨h0, h1⟩
theorem p4_zeros (n : Nat) : P4 (List.replicate n 0) := fun d hd => by
  rw [List.mem_replicate] at hd; rw [hd.2]; decide
theorem v4_zeros (n : Nat) : v4 (List.replicate n 0) = 0 := by
  induction n with
  | zero => rfl
  | succ n ih => simp [List.replicate_succ, v4, ih]
/-- The digit that is found by halves. -/
theorem digit_is {B V lo : Int} (h0 : lo * B ≤ V) (h1 : V < (lo + 1) * B) : V - lo * B < B ∧ 0 ≤ V - lo * B := by
  rw [Int.add_mul] at h1; omega
end Go.Proofs.YtachnndaoogpeaaGreatDoor
namespace Go.Proofs.YtachnndaoogpeaaGreatDoor
open Go.RowKit

/-- Divided so far, with i places left. -/
structure ShK (a b : List Int) (w : World) (gq i : Nat) (r : Value) (R Q : List Int) (wr : World) : Prop where
  rest : Sl wr r R
  rp : P4 R
  rt : Trim R
  rl : v4 R < v4 b
  row : RowI wr gq Q
  gi : GI wr gq
  qp : P4 Q
  ql : Q.length = a.length
  sum : v4 (a.drop i) = v4 (Q.drop i) * v4 b + v4 R
  below : Below w.heap.size w wr
theorem ShK.step {a b : List Int} {w : World} {gq i : Nat} {r r' : Value} {R R' Q : List Int} {wr w1 : World} {V lo : Int} (h : ShK a b w gq (i + 1) r R Q wr) (hi : i < a.length) (hV : V = nth a i + 10000 * v4 R) (h0 : 0 ≤ lo) (h9 : lo < 10000) (hlo : lo * v4 b ≤ V) (hhi : V < (lo + 1) * v4 b)
    (hs : Sl w1 r' R') (hP : P4 R') (hT : Trim R') (hv : v4 R' = V - v4 b * lo) (hrow : RowI w1 gq (Q.set i lo)) (hgi : GI w1 gq) (hb : Below w.heap.size w w1) : ShK a b w gq i r' R' (Q.set i lo) w1 := by
  have hd := digit_is hlo hhi
  rw [Int.mul_comm] at hd
  refine ⟨hs, hP, hT, by rw [hv]; exact hd.1, hrow, hgi, h.qp.set i h0 h9, by rw [List.length_set]; exact h.ql, ?_, hb⟩
  have e1 : v4 (a.drop i) = nth a i + 10000 * v4 (a.drop (i + 1)) := v4_drop hi
  have e2 : v4 ((Q.set i lo).drop i) = lo + 10000 * v4 (Q.drop (i + 1)) := by
    rw [v4_drop (by rw [List.length_set, h.ql]; exact hi)]
    rw [List.drop_set_of_lt (by omega)]
    simp [nth, h.ql, hi]
  rw [e1, e2, h.sum, hv, hV, Int.add_mul, Int.mul_comm (v4 b) lo, Int.mul_add, Int.mul_assoc]
  omega
theorem v4_cons (y : Int) (R : List Int) : v4 (y :: R) = y + 10000 * v4 R := rfl
theorem mid_bounds {lo hi : Int} (h0 : 0 ≤ lo) (h1 : lo < hi) (h2 : hi ≤ 9999) : ∃ m : Int, wrap64 ((lo + hi + 1).tdiv 2) = m ∧ (lo + hi + 1) / 2 = m ∧ lo < m ∧ m ≤ hi := by
  refine ⟨(lo + hi + 1) / 2, ?_, rfl, by omega, by omega⟩
  rw [Int.tdiv_eq_ediv_of_nonneg (by omega)]; unfold wrap64; omega

set_option maxHeartbeats 4000000 in
set_option maxRecDepth 8000 in
theorem rshare_any {sa sb : Value} {a b : List Int} (w : World) (h1 : Sl w sa a) (h2 : Sl w sb b) (ha : P4 a) (hb : P4 b) (_tb : Trim b) (hb0 : 0 < v4 b) (la : a.length ≤ 990) (lb : b.length ≤ 990) :
    Calls Tryz.prog 97 #[sa, sb] w fun e w' => (∃ v1 v2 D1 D2, e = .returned (.tuple #[v1, v2]) ∧ Sl w' v1 D1 ∧ P4 D1 ∧ Trim D1 ∧ Sl w' v2 D2 ∧ P4 D2 ∧ Trim D2 ∧ v4 a = v4 D1 * v4 b + v4 D2 ∧ v4 D2 < v4 b) ∧ Below w.heap.size w w' := by
  obtain ⟨pa, ca, rfl, hra⟩ := h1.get
  clear h1
  obtain ⟨n, HN⟩ : ∃ n, Hid (a.length = n) := ⟨_, rfl⟩
  rw [show a.length = n from unhide HN] at la ⊢
  go_enter Tryz.func97, Tryz.ntmps97
  go_wp2_with (at_make; refine wpList_zeros rfl _ _ rfl _ _ n rfl rfl rfl rfl (by omega) ?_; intro w1 hrow1 hgi1 hbl1)
  go_loopg [7, 8] n (fun k r iv wr => ∃ (i : Nat) (R Q : List Int), i ≤ n ∧ k = i ∧ iv = .int .i64 ((i : Int) - 1) ∧ ShK a b w w.heap.size i r R Q wr)
  case atStart =>
    refine ⟨n, [], List.replicate n 0, Nat.le_refl _, rfl, by go_num, Or.inl ⟨rfl, rfl⟩, P4.nil, Or.inl rfl, hb0, hrow1, hgi1, p4_zeros n, by rw [List.length_replicate]; exact (unhide HN).symm, ?_, hbl1⟩
    rw [List.drop_eq_nil_of_le (by rw [unhide HN]; omega), List.drop_eq_nil_of_le (by simp)]
    simp [v4]
  case round =>
    obtain ⟨i, R, Q, hin, hgk, rfl, hk⟩ := hrel
    clear hrow1 hgi1 hbl1
    by_cases hi0 : i = 0
    · subst hi0
      have hql : Q.length = n := hk.ql.trans (unhide HN)
      have hq : Sl wr (.slice (some ⟨w.heap.size, 0, none⟩) n n) Q := by
        have := sl_mk hk.row (c := n) (by omega) (by unfold maxLen; omega) hk.gi
        rwa [hql] at this
      have hs := hk.sum
      simp only [List.drop_zero] at hs
      have HS := hide hs
      have hqp := hk.qp
      have f1 := hk.rest
      have f2 := hk.rp
      have f3 := hk.rt
      have f4 := hk.rl
      have f5 := hk.below
      have HQ := hide hql
      clear hk hs hql
      go_wp2_with fail
      refine (rtrim_sl _ hq hqp).mono ?_
      rintro e w2 ⟨⟨v2, D2, rfl, s2, p2, t2, e2, -⟩, rfl⟩
      have HE := hide e2
      clear e2
      obtain ⟨y0, y1, y2, rfl⟩ := s2.shape
      obtain ⟨z0, z1, z2, rfl⟩ := f1.shape
      go_wp2
      go_ret2
      exact ⟨⟨_, _, D2, R, rfl, s2, p2, t2, f1, f2, f3, by rw [unhide HE]; exact unhide HS, f4⟩, f5⟩
    · obtain ⟨j, rfl⟩ : ∃ j, i = j + 1 := ⟨i - 1, by omega⟩
      clear hi0
      obtain ⟨ba, rfl, hca⟩ := hra (by rintro rfl; have := unhide HN; simp at this; omega)
      have hca := cell_keep hk.below (hca j (by have := unhide HN; omega))
      have hxa := ha.nth j
      have hji : (j : Int) < n := by omega
      have hjj : ((j + 1 : Nat) : Int) - 1 = j := by omega
      have hRl : R.length ≤ 991 := by have := len_le_of_v4 hb hk.rp hk.rt (by have := hk.rl; omega); omega
      have hRl' : R.length ≤ 100000000 := by omega
      obtain ⟨r0, r1, r2, hr0⟩ := hk.rest.shape
      subst hr0
      go_wp2_with (at_builtin; refine wpList_prepend rfl _ _ rfl (nth a j) _ R hk.rest rfl rfl rfl hRl' ?_; intro g3 c3 w3 hr3 hg3 hl3 hc3 hgi3 hb3)
      have hBp : 0 ≤ v4 b := by omega
      obtain ⟨V, HV⟩ : ∃ V, Hid (V = nth a j + 10000 * v4 R) := ⟨_, rfl⟩
      have hV0 : 0 ≤ V := by have := v4_nonneg hk.rp; have := unhide HV; omega
      have HV9 : Hid (V < 10000 * v4 b) := by have := hk.rl; have := unhide HV; show _ < _; omega
      go_wp2_with fail
      refine (rtrim_any g3 c3 (nth a j :: R) w3 hr3 (by simpa using hl3) (by unfold maxLen at hc3; omega)).mono ?_
      rintro e w4 ⟨⟨m, hm, rfl, hz, ht⟩, rfl⟩
      have hP3 : P4 (nth a j :: R) := fun d hd => by
        rcases List.mem_cons.1 hd with rfl | hd
        · exact hxa
        · exact hk.rp d hd
      have hl4 : ((nth a j :: R).take m).length = m := by rw [List.length_take]; omega
      have hv4 : v4 ((nth a j :: R).take m) = V := by rw [v4_take hz, v4_cons]; exact (unhide HV).symm
      have hP4 := hP3.take m
      have hT4 := trim_take hm ht
      have hr4 : RowI w4 g3 ((nth a j :: R).take m) := fun k hk => by
        rw [hl4] at hk
        rw [hr3 k (by omega), nth_take hk]
      obtain ⟨R4, hR4⟩ : ∃ R4, (nth a j :: R).take m = R4 := ⟨_, rfl⟩
      rw [hR4] at hl4 hv4 hP4 hT4 hr4
      have hm1 : m ≤ 992 := by simp at hm; omega
      have hmc : m ≤ c3 := by simp at hm; omega
      have HL4 := hide hl4
      have HV4 := hide hv4
      clear hz ht hR4 hr3 hP3 hm hl4 hv4
      have hb4 := below_keep hb3 hk.below
      have hsb4 := h2.later hb4
      have hq4 := hk.row.later hb3
      have hgi4 := hk.gi.later hb3
      have hgq : w.heap.size < g3 := by have := hk.gi.lt; omega
      have hql : Q.length = n := hk.ql.trans (unhide HN)
      have HQL := hide hql
      clear hql
      go_wp2_with fail
      go_loopg [9, 10] 9999 (fun k lov hiv wx => ∃ lo hi : Int, lov = .int .i64 lo ∧ hiv = .int .i64 hi ∧ 0 ≤ lo ∧ lo ≤ hi ∧ hi ≤ 9999 ∧ k = (hi - lo).toNat ∧ Hid (lo * v4 b ≤ V ∧ V < (hi + 1) * v4 b) ∧ Below w4.heap.size w4 wx)
      case atStart => exact ⟨0, 9999, rfl, rfl, by omega, by omega, by omega, by omega, ⟨by omega, by have := unhide HV9; omega⟩, Below.refl _ _⟩
      case round =>
        obtain ⟨lo, hi, rfl, rfl, lo0, lohi, hi9, hgk2, HLH, hbx⟩ := hrel
        by_cases hlt : lo < hi
        · obtain ⟨md, hmd1, hmd2, hmd3, hmd4⟩ := mid_bounds lo0 hlt hi9
          go_wp2_with fail
          go_fit (rtimes_any md _ (hsb4.later hbx) hb (by omega) (by omega) (by omega))
          rintro e w5 ⟨⟨v5, T, rfl, s5, p5, t5, e5⟩, b5⟩
          have hb5 := below_keep b5 hbx
          have s4 : Sl w5 (.slice (some ⟨g3, 0, none⟩) m c3) R4 := by
            have := sl_mk (hr4.later hb5) (c := c3) (by rw [unhide HL4]; exact hmc) hc3 (hgi3.later hb5)
            rwa [unhide HL4] at this
          have hTl : T.length ≤ 1000 := by
            refine Nat.le_trans (places_le (n := b.length + 1) p5 t5 ?_) (by omega)
            have h1 := v4_lt hb
            rw [e5, Int.pow_succ]
            have : v4 b * md ≤ v4 b * 9999 := Int.mul_le_mul_of_nonneg_left (by omega) hBp
            omega
          have E5 := hide e5
          clear e5
          obtain ⟨q0, q1, q2, rfl⟩ := s5.shape
          go_wp2_with fail
          go_fit (rsize_any _ s5 s4 p5 hP4 t5 hT4 hTl (by rw [unhide HL4]; omega))
          rintro e w6 ⟨rfl, b6⟩
          have hb6 := below_keep b6 hb5
          have hsg : sgn (v4 T - v4 R4) = sgn (md * v4 b - V) := by rw [unhide E5, unhide HV4, Int.mul_comm]
          rw [hsg]
          clear hsg b6 hb5 b5 s4 s5 p5 t5 hbx
          by_cases hc : md * v4 b ≤ V
          · have hs1 : sgn (md * v4 b - V) ≤ 0 := by
              by_cases e : md * v4 b = V
              · rw [sgn_zero (by omega)]; decide
              · rw [sgn_neg (by omega)]; decide
            obtain ⟨sg, hsg⟩ : ∃ sg, sgn (md * v4 b - V) = sg := ⟨_, rfl⟩
            rw [hsg] at hs1 ⊢
            have HC := hide hc
            clear hsg hc
            go_wp2
            go_roundg ((hi - md).toNat)
            case measure => omega
            case rel => exact ⟨md, hi, rfl, rfl, by omega, by omega, hi9, rfl, ⟨unhide HC, (unhide HLH).2⟩, hb6⟩
          · have hs1 : 0 < sgn (md * v4 b - V) := by rw [sgn_pos (by omega)]; decide
            obtain ⟨sg, hsg⟩ : ∃ sg, sgn (md * v4 b - V) = sg := ⟨_, rfl⟩
            rw [hsg] at hs1 ⊢
            have HC := hide hc
            clear hsg hc
            go_wp2
            go_roundg ((md - 1 - lo).toNat)
            case measure => omega
            case rel => exact ⟨lo, md - 1, rfl, by go_num, by omega, by omega, by omega, rfl, ⟨(unhide HLH).1, by rw [show md - 1 + 1 = md by omega]; have := unhide HC; omega⟩, hb6⟩
        · obtain rfl : lo = hi := by omega
          have hcq := hq4.later hbx j (by rw [unhide HQL]; omega)
          have hfq := (hgi4.later hbx).frozen j
          have hjs : w.heap.size < wr.heap.size := (hgi4.later hbx).lt
          have hbw := below_keep hbx hb4
          have hqx := hq4.later hbx
          have hgx := hgi4.later hbx
          have hsbx := hsb4.later hbx
          have hrx := hr4.later hbx
          have hgi3x := hgi3.later hbx
          clear hlt lohi
          go_wp2_with fail
          have hws : Below w.heap.size w (wr.setCell ⟨w.heap.size, j, none⟩ (.int .i64 lo)) := hbw.setCell (p := ⟨w.heap.size, j, none⟩) (Nat.le_refl _) _
          go_fit (rtimes_any lo _ (h2.later hws) hb lo0 (by omega) (by omega))
          rintro e w5 ⟨⟨v5, T, rfl, s5, p5, t5, e5⟩, b5⟩
          have E5 := hide e5
          clear e5
          obtain ⟨q0, q1, q2, rfl⟩ := s5.shape
          have hr5 := (hrx.beside (g := w.heap.size) (k := j) (by omega) (.int .i64 lo)).later b5
          have hg5 := (hgi3x.set ⟨w.heap.size, j, none⟩ (.int .i64 lo)).later b5
          have s4 : Sl w5 (.slice (some ⟨g3, 0, none⟩) m c3) R4 := by
            have := sl_mk hr5 (c := c3) (by rw [unhide HL4]; exact hmc) hc3 hg5
            rwa [unhide HL4] at this
          go_wp2_with fail
          go_fit (rless_any _ s4 s5 hP4 p5 t5 (by rw [unhide E5, unhide HV4, Int.mul_comm]; exact (unhide HLH).1) (by rw [unhide HL4]; omega))
          rintro e w6 ⟨⟨v6, D6, rfl, s6, p6, t6, e6⟩, b6⟩
          have hrow6 := ((hqx.put (k := j) (by rw [unhide HQL]; omega) lo).later b5).later b6
          have hgi6 := ((hgx.set ⟨w.heap.size, j, none⟩ (.int .i64 lo)).later b5).later b6
          have R6 := hk.step (by rw [unhide HN]; omega) (unhide HV) lo0 (by omega) (unhide HLH).1 (unhide HLH).2 s6 p6 t6 (by rw [e6, unhide HV4, unhide E5]) hrow6 hgi6 (below_keep b6 (below_keep b5 hws))
          obtain ⟨z0, z1, z2, rfl⟩ := s6.shape
          clear hk hrow6 hgi6 s6 p6 t6 e6 b6 b5 s4 s5 p5 t5 hr5 hg5 hcq hfq hqx hgx hsbx hrx hgi3x hws hbw
          go_wp2
          go_roundg j
          case measure => omega
          case rel => exact ⟨j, D6, _, by omega, rfl, by go_num, R6⟩
end Go.Proofs.YtachnndaoogpeaaGreatDoor
