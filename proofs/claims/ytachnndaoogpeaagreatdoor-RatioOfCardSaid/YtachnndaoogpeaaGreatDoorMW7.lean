/-
  Walks over package whole: sum, product of sizes.
-/
import Derived.Test.YtachnndaoogpeaaGreatDoorMW6
import Derived.Deep.RegionHeld3
import Derived.Deep.DeepFit
namespace Go.Proofs.YtachnndaoogpeaaGreatDoor
open Go.RowKit

theorem Row.snoc {w : World} {g o n : Nat} {l : List Int} {x : Int} (h : Row w g o l) (hn : l.length = n) (hx : w.cell? ⟨g, o + n, none⟩ = some (.int .u64 x)) : Row w g o (l ++ [x]) := by
  intro k hk
  simp at hk
  by_cases e : k < l.length
  · rw [h k e]; simp [nth, List.getElem?_append, e]
  · have : k = n := by omega
    subst this
    rw [hx]; simp [nth, hn]

set_option maxHeartbeats 1000000 in
theorem sum_core (ga oa ca gb ob cb n m : Nat) (a b : List Int) (w : World) (hra : Row w ga oa a) (hrb : Row w gb ob b) (ha : Ws a) (hb : Ws b) (hn : a.length = n) (hm : b.length = m) (hmn : m ≤ n) (hlim : n ≤ 900000) :
    Calls Tryz.prog 77 #[.slice (some ⟨ga, oa, none⟩) n ca, .slice (some ⟨gb, ob, none⟩) m cb] w fun e w' => ∃ v, e = .returned v ∧ Sz (n + 1) w' v (val a + val b) ∧ Below w.heap.size w w' := by
  have hgb : m ≠ 0 → gb < w.heap.size := fun h => hrb.lt (by intro e; subst e; exact h hm.symm)
  have HN := hide hn
  have HM := hide hm
  clear hn hm
  go_enter Tryz.func77, Tryz.ntmps77
  go_wp2_with (first | (at_make; refine wpList_make_words rfl _ _ rfl (n + 1) (by omega) rfl rfl ?_; intro g w1 hmade) | (refine wpList_copy_words rfl (.tmp 17) (.tmp 18) rfl g 0 (n + 1) (n + 1) ga oa n ca (List.replicate (n + 1) 0) a rfl rfl (by simp) (unhide HN) (Nat.le_succ _) hmade.row (hra.later hmade.below) hmade.free ?_; intro w2 hrow hedit))
  have hrow' : Row w2 g 0 a := by
    have := hrow.take n
    rwa [List.take_append_of_le_length (by have := unhide HN; omega), List.take_of_length_le (by have := unhide HN; omega)] at this
  have htop : w2.cell? ⟨g, n, none⟩ = some (.int .u64 0) := by
    have := hrow n (by have := unhide HN; simp; omega)
    have e := unhide HN
    simpa [nth, List.getElem?_append, e] using this
  have hbw : Below w.heap.size w w2 := hmade.below.trans (hedit.below (by have := hmade.at_; omega) (by have := hmade.size; omega))
  refine (raise_any g 0 (n + 1) gb ob cb n m a b w2 hrow' (hrb.later hbw) (hedit.free hmade.free) (fun h => by have := hgb (by omega); have := hmade.at_; omega) ha hb (unhide HN) (unhide HM) hmn (by omega)).mono ?_
  rintro e w3 ⟨c, out, rfl, c0, c1, lo, wo, eo, ro, ed⟩
  have hc3 : w3.cell? ⟨g, n, none⟩ = some (.int .u64 0) := by rw [ed.cell n (by omega)]; exact htop
  have hf3 : w3.frozen? ⟨g, n, none⟩ = false := (ed.free (hedit.free hmade.free)).frozen _
  have HEO := hide eo
  have HLO := hide lo
  clear eo lo
  go_wp2_with fail
  have hrow4 : Row (w3.setCell ⟨g, n, none⟩ (.int .u64 c)) g 0 (out ++ [c]) := by
    refine Row.snoc (n := n) ?_ (unhide HLO) (by rw [Nat.zero_add]; exact cell?_setCell_eq hc3)
    intro k hk
    rw [cell?_setCell_ne _ _ _ _ _ _ (by have := unhide HLO; omega)]
    exact ro k hk
  refine (trim_sz g 0 (n + 1) (n + 1) (out ++ [c]) _ hrow4 (wo.append (Ws.mk ⟨c0, by omega⟩ Ws.nil)) (by have := unhide HLO; simp; omega) (Nat.le_refl _) (by omega)).mono ?_
  rintro e w5 ⟨v, rfl, hsz, rfl⟩
  go_wp2
  go_ret
  refine ⟨_, rfl, hsz.eq (by rw [val_snoc, unhide HLO]; exact unhide HEO), (hbw.trans (ed.below (by have := hmade.at_; omega) (by have := hbw.size; omega))).setCell (by have := hmade.at_; show w.heap.size ≤ g; omega) _⟩

set_option maxHeartbeats 1000000 in
theorem sum_core2 (ga oa ca gb ob cb n m : Nat) (a b : List Int) (w : World) (hra : Row w ga oa a) (hrb : Row w gb ob b) (ha : Ws a) (hb : Ws b) (hn : a.length = n) (hm : b.length = m) (hmn0 : m < n) (hlim : n ≤ 900000) :
    Calls Tryz.prog 77 #[.slice (some ⟨gb, ob, none⟩) m cb, .slice (some ⟨ga, oa, none⟩) n ca] w fun e w' => ∃ v, e = .returned v ∧ Sz (n + 1) w' v (val a + val b) ∧ Below w.heap.size w w' := by
  have hgb : m ≠ 0 → gb < w.heap.size := fun h => hrb.lt (by intro e; subst e; exact h hm.symm)
  have hmn : m ≤ n := Nat.le_of_lt hmn0
  have HN := hide hn
  have HM := hide hm
  clear hn hm
  go_enter Tryz.func77, Tryz.ntmps77
  go_wp2_with (first | (at_make; refine wpList_make_words rfl _ _ rfl (n + 1) (by omega) rfl rfl ?_; intro g w1 hmade) | (refine wpList_copy_words rfl (.tmp 17) (.tmp 18) rfl g 0 (n + 1) (n + 1) ga oa n ca (List.replicate (n + 1) 0) a rfl rfl (by simp) (unhide HN) (Nat.le_succ _) hmade.row (hra.later hmade.below) hmade.free ?_; intro w2 hrow hedit))
  have hrow' : Row w2 g 0 a := by
    have := hrow.take n
    rwa [List.take_append_of_le_length (by have := unhide HN; omega), List.take_of_length_le (by have := unhide HN; omega)] at this
  have htop : w2.cell? ⟨g, n, none⟩ = some (.int .u64 0) := by
    have := hrow n (by have := unhide HN; simp; omega)
    have e := unhide HN
    simpa [nth, List.getElem?_append, e] using this
  have hbw : Below w.heap.size w w2 := hmade.below.trans (hedit.below (by have := hmade.at_; omega) (by have := hmade.size; omega))
  refine (raise_any g 0 (n + 1) gb ob cb n m a b w2 hrow' (hrb.later hbw) (hedit.free hmade.free) (fun h => by have := hgb (by omega); have := hmade.at_; omega) ha hb (unhide HN) (unhide HM) hmn (by omega)).mono ?_
  rintro e w3 ⟨c, out, rfl, c0, c1, lo, wo, eo, ro, ed⟩
  have hc3 : w3.cell? ⟨g, n, none⟩ = some (.int .u64 0) := by rw [ed.cell n (by omega)]; exact htop
  have hf3 : w3.frozen? ⟨g, n, none⟩ = false := (ed.free (hedit.free hmade.free)).frozen _
  have HEO := hide eo
  have HLO := hide lo
  clear eo lo
  go_wp2_with fail
  have hrow4 : Row (w3.setCell ⟨g, n, none⟩ (.int .u64 c)) g 0 (out ++ [c]) := by
    refine Row.snoc (n := n) ?_ (unhide HLO) (by rw [Nat.zero_add]; exact cell?_setCell_eq hc3)
    intro k hk
    rw [cell?_setCell_ne _ _ _ _ _ _ (by have := unhide HLO; omega)]
    exact ro k hk
  refine (trim_sz g 0 (n + 1) (n + 1) (out ++ [c]) _ hrow4 (wo.append (Ws.mk ⟨c0, by omega⟩ Ws.nil)) (by have := unhide HLO; simp; omega) (Nat.le_refl _) (by omega)).mono ?_
  rintro e w5 ⟨v, rfl, hsz, rfl⟩
  go_wp2
  go_ret
  refine ⟨_, rfl, hsz.eq (by rw [val_snoc, unhide HLO]; exact unhide HEO), (hbw.trans (ed.below (by have := hmade.at_; omega) (by have := hbw.size; omega))).setCell (by have := hmade.at_; show w.heap.size ≤ g; omega) _⟩

set_option maxHeartbeats 400000 in
/-- sum: the longer one first, whichever it is. -/
theorem sum_any {N : Nat} {va vb : Value} {x y : Int} (w : World) (hva : Sz N w va x) (hvb : Sz N w vb y) (hlim : N ≤ 900000) :
    Calls Tryz.prog 77 #[va, vb] w fun e w' => ∃ v, e = .returned v ∧ Sz (N + 1) w' v (x + y) ∧ Below w.heap.size w w' := by
  obtain ⟨ga, oa, ca, a, rfl, ha, ta, ea, na, la, lca, hra⟩ := hva
  obtain ⟨gb, ob, cb, b, rfl, hb, tb, eb, nb, lb, lcb, hrb⟩ := hvb
  by_cases h : b.length ≤ a.length
  · refine (sum_core ga oa ca gb ob cb _ _ a b w hra hrb ha hb rfl rfl h (by omega)).mono ?_
    rintro e w' ⟨v, rfl, h1, h2⟩
    exact ⟨v, rfl, (h1.mono (by omega)).eq (by rw [ea, eb]), h2⟩
  · refine (sum_core2 gb ob cb ga oa ca _ _ b a w hrb hra hb ha rfl rfl (by omega) (by omega)).mono ?_
    rintro e w' ⟨v, rfl, h1, h2⟩
    exact ⟨v, rfl, (h1.mono (by omega)).eq (by rw [ea, eb, Int.add_comm]), h2⟩

theorem edit_cell {g lo n b o : Nat} {v : Value} {w w' : World} (h : Edit g lo n w w') (hc : w.cell? ⟨b, o, none⟩ = some v) (hne : b ≠ g) : w'.cell? ⟨b, o, none⟩ = some v := by
  rw [World.cell?_of_block (w := w) (w' := w') (a := ⟨b, o, none⟩) (h.other b (World.block_lt_of_cell? w _ hc) hne)]
  exact hc

/-- How product stands behind i rounds: the row holds out; what lies above is still 0. -/
structure Grow (g : Nat) (a b : List Int) (w1 : World) (i : Nat) (wr : World) (out : List Int) : Prop where
  len : out.length = i + b.length
  ws : Ws out
  eq : val out = val (a.take i) * val b
  row : Row wr g 0 (out ++ List.replicate (a.length - i) 0)
  edit : Edit g 0 (a.length + b.length) w1 wr

theorem nth_pad (out : List Int) (k j : Nat) (h : out.length ≤ j) : nth (out ++ List.replicate k 0) j = 0 := by
  simp only [nth, List.getElem?_append_right h, List.getElem?_replicate]
  split <;> rfl
theorem nth_app_left {a b : List Int} {k : Nat} (h : k < a.length) : nth (a ++ b) k = nth a k := by simp [nth, List.getElem?_append, h]
theorem nth_app_right {a b : List Int} {k : Nat} (h : a.length ≤ k) : nth (a ++ b) k = nth b (k - a.length) := by simp [nth, List.getElem?_append_right h]
theorem nth_take {a : List Int} {k m : Nat} (h : k < m) : nth (a.take m) k = nth a k := by simp [nth, h]
theorem nth_drop {a : List Int} {k m : Nat} : nth (a.drop m) k = nth a (m + k) := by simp [nth]
theorem grow_step {g i m : Nat} {a b out out' : List Int} {c : Int} {w1 wr w3 : World} (h : Grow g a b w1 i wr out) (hi : i < a.length) (hm : b.length = m) (hc : W64 c) (lo : out'.length = m) (wo : Ws out')
    (eo : val out' + pw m * c = val (out.drop i) + val b * nth a i) (ro : Row w3 g i out') (ed : Edit g i m wr w3) (htop : w3.cell? ⟨g, i + m, none⟩ = some (.int .u64 0)) :
    Grow g a b w1 (i + 1) (w3.setCell ⟨g, i + m, none⟩ (.int .u64 c)) (out.take i ++ out' ++ [c]) := by
  have hl := h.len
  have lt : (out.take i).length = i := by simp; omega
  refine ⟨by simp; omega, ((h.ws.take i).append wo).append (Ws.mk hc Ws.nil), ?_, ?_, ?_⟩
  · rw [val_snoc, val_append, List.length_append, lt, lo, pw_add, val_take_succ a i hi]
    have e1 := val_split out i (by omega)
    have e2 := h.eq
    have e3 : pw i * (val out' + pw m * c) = pw i * (val (out.drop i) + val b * nth a i) := by rw [eo]
    grind
  · intro k hk
    simp at hk
    rw [Nat.zero_add]
    by_cases k1 : k < i
    · rw [cell?_setCell_ne _ _ _ _ _ _ (by omega), ed.cell k (by omega)]
      have := h.row k (by simp; omega)
      rw [Nat.zero_add] at this
      rw [this, nth_app_left (by omega), nth_app_left (by simp; omega), nth_app_left (by simp; omega), nth_app_left (by omega), nth_take k1]
    by_cases k2 : k < i + m
    · rw [cell?_setCell_ne _ _ _ _ _ _ (by omega)]
      have := ro (k - i) (by omega)
      rw [show i + (k - i) = k by omega] at this
      rw [this, nth_app_left (by simp; omega), nth_app_left (by simp; omega), nth_app_right (by omega), lt]
    by_cases k3 : k = i + m
    · subst k3
      rw [cell?_setCell_eq htop, nth_app_left (by simp; omega), nth_app_right (by simp; omega)]
      simp [nth, lt, lo]
    · rw [cell?_setCell_ne _ _ _ _ _ _ (by omega), ed.cell k (by omega)]
      have := h.row k (by simp; omega)
      rw [Nat.zero_add] at this
      rw [this, nth_pad _ _ _ (by omega), nth_pad _ _ _ (by simp; omega)]
  · exact (h.edit.trans (ed.mono (by omega) (by omega))).setCell (by omega) (by omega) _

set_option maxHeartbeats 1000000 in
theorem product_any {N M : Nat} {va vb : Value} {x y : Int} (w : World) (hva : Sz N w va x) (hvb : Sz M w vb y) (hlim : N + M ≤ 900000) :
    Calls Tryz.prog 80 #[va, vb] w fun e w' => ∃ v, e = .returned v ∧ Sz (N + M) w' v (x * y) ∧ Below w.heap.size w w' := by
  obtain ⟨ga, oa, ca, a, rfl, ha, ta, ea, na, la, lca, hra⟩ := hva
  obtain ⟨gb, ob, cb, b, rfl, hb, tb, eb, nb, lb, lcb, hrb⟩ := hvb
  obtain ⟨n, hn⟩ : ∃ n, a.length = n := ⟨_, rfl⟩
  obtain ⟨m, hm⟩ : ∃ m, b.length = m := ⟨_, rfl⟩
  have hga : n ≠ 0 → ga < w.heap.size := fun h => hra.lt (by intro e; subst e; exact h hn.symm)
  have hgb : m ≠ 0 → gb < w.heap.size := fun h => hrb.lt (by intro e; subst e; exact h hm.symm)
  rw [hn, hm]
  rw [hn] at na la
  rw [hm] at nb lb
  have HN := hide hn
  have HM := hide hm
  have HA := hide ea
  have HB := hide eb
  clear hn hm ea eb
  go_enter Tryz.func80, Tryz.ntmps80
  go_wp2_with (first | (at_make; refine wpList_make_words rfl _ _ rfl (n + m) (by omega) rfl rfl ?_; intro g w1 hmade))
  go_loopw [15] (fun v wr => ∃ (i : Nat) (out : List Int), i ≤ n ∧ v = .int .i64 i ∧ Grow g a b w1 i wr out) (fun v _ => n - (intOf v).toNat)
  case atStart =>
    refine ⟨0, List.replicate m 0, Nat.zero_le _, rfl, ⟨by have := unhide HM; simp; omega, ?_, by simp [val, val_replicate], ?_, Edit.refl _ _ _ _⟩⟩
    · intro x hx
      rw [List.eq_of_mem_replicate hx]; exact ⟨by decide, by decide⟩
    · have := hmade.row
      rw [unhide HN, Nat.sub_zero, List.replicate_append_replicate, Nat.add_comm m n]; exact this
  case round =>
    obtain ⟨i, out, hi, rfl, hR⟩ := hrel
    by_cases hlt : i < n
    · have hca : wr.cell? ⟨ga, oa + i, none⟩ = some (.int .u64 (nth a i)) := ((hra.later hmade.below).edit hR.edit (by have := hga (by omega); have := hmade.at_; omega)) i (by have := unhide HN; omega)
      have hbelow : Below w.heap.size w wr := hmade.below.trans (hR.edit.below (by have := hmade.at_; omega) (by have := hmade.size; omega))
      have hrb' : Row wr gb ob b := hrb.later hbelow
      have hmid : Row wr g i (out.drop i) := by
        have := (hR.row.take (i + m)).drop i
        rw [Nat.zero_add, List.take_append_of_le_length (by have := hR.len; have := unhide HM; omega), List.take_of_length_le (by have := hR.len; have := unhide HM; omega)] at this
        exact this
      have hfree : Free wr g := hR.edit.free hmade.free
      have hne : 0 < m → gb ≠ g := fun h => by have := hgb (by omega); have := hmade.at_; omega
      have hgag : ga ≠ g := by have := hga (by omega); have := hmade.at_; omega
      have htop : wr.cell? ⟨g, i + m, none⟩ = some (.int .u64 0) := by
        have l1 := hR.len; have l2 := unhide HM; have l3 := unhide HN
        have := hR.row (i + m) (by simp; omega)
        rw [Nat.zero_add] at this
        rw [this]
        rw [nth_pad _ _ _ (by omega)]
      have q1 : IntKind.i64.wrap ((i : Int) + (m : Int)) = (i : Int) + (m : Int) := by rw [IntKind.wrap_i64]; omega
      have q2 : ((i : Int) + (m : Int)).toNat = i + m := by omega
      have q3 : (0 : Int) ≤ (i : Int) := by omega
      have q4 : (i : Int) ≤ (i : Int) + (m : Int) := by omega
      have q5 : (i : Int) + (m : Int) ≤ (n : Int) + (m : Int) := by omega
      have q6 : (i : Int) + (m : Int) < (n : Int) + (m : Int) := by omega
      have q7 : (0 : Int) ≤ (i : Int) + (m : Int) := by omega
      have q8 : i + m ≤ n + m := by omega
      have q9 : i ≤ n + m := by omega
      have q10 : (i : Int) < (n : Int) := by omega
      have q11 : ¬ n + m = i := by omega
      go_wp2_with fail
      go_region_held3 (fun w' => w'.cell? ⟨ga, oa + i, none⟩ = some (.int .u64 (nth a i))) (first | exact hca | exact hca3 | exact (cell?_setCell_ne _ _ _ _ _ _ (fun h => hgag h.1)).trans hca3) ((go_at_call 124; go_fit (raiseTimes_any g i (n + m - i) gb ob cb m (out.drop i) b (nth a i) wr.drew hmid hrb' hfree hne (hR.ws.drop i) hb (ha.get i) (by have := hR.len; have := unhide HM; simp; omega) (unhide HM) (by omega)); rintro e w3 ⟨c, out', rfl, hc, lo, wo, eo, ro, ed⟩; have hca3 : w3.cell? ⟨ga, oa + i, none⟩ = some (.int .u64 (nth a i)) := edit_cell ed hca hgag; have hc3 : w3.cell? ⟨g, i + m, none⟩ = some (.int .u64 0) := (ed.cell (i + m) (by omega)).trans htop; have hf3 : w3.frozen? ⟨g, i + m, none⟩ = false := (ed.free hfree).frozen _; have HP := hide (And.intro hc (And.intro lo eo)); clear hc lo eo))
      go_wp2
      go_roundw
      case rel =>
        obtain ⟨hc, lo, eo⟩ := unhide HP
        exact ⟨i + 1, _, by omega, by go_num, grow_step hR (by have := unhide HN; omega) (unhide HM) hc lo wo eo ro ed.undrew hc3⟩
      case measure => simp [intOf]; omega
    · go_wp2_with fail
      have hrow : Row wr g 0 out := by
        have := hR.row
        rwa [unhide HN, show n - i = 0 by omega, List.replicate_zero, List.append_nil] at this
      refine (trim_sz g 0 (n + m) (n + m) out wr hrow hR.ws (by have := hR.len; have := unhide HM; omega) (Nat.le_refl _) (by omega)).mono ?_
      rintro e w5 ⟨v, rfl, hsz, rfl⟩
      go_wp2
      go_ret
      refine ⟨_, rfl, (hsz.mono (by omega)).eq ?_, hmade.below.trans (hR.edit.below (by have := hmade.at_; omega) (by have := hmade.size; omega))⟩
      rw [hR.eq, List.take_of_length_le (by have := unhide HN; omega), unhide HA, unhide HB]
end Go.Proofs.YtachnndaoogpeaaGreatDoor
