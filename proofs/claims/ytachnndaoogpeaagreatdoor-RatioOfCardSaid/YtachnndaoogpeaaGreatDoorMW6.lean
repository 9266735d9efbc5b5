/-
  Walks over package whole: make and copy of words; difference, sum.
-/
import Derived.Test.YtachnndaoogpeaaGreatDoorMW5
import Derived.Laws.CopyOwn
import Derived.Deep.OwnRows
namespace Go.Proofs.YtachnndaoogpeaaGreatDoor
open Go.RowKit

theorem info63 : (Tryz.prog.info? 105).map (fun i => (i.zero, i.size, i.bytes)) = some (some (.int .u64 0), 1, 8) := by kernel_rfl
theorem make_words (n : Nat) (h : n ≤ 2000000) (w : World) : (Instr.makeSlice 29 (.int .i64 (n : Int)) (.int .i64 (n : Int))).run Tryz.prog w = .ok (.slice (some ⟨w.heap.size, 0, none⟩) n n) (w.alloc (.cells (madeCells #[.int .u64 0] n) 105)) :=
  run_make_row' 29 105 (.int .u64 0) 8 Tryz.underlying29 info63 rfl .i64 .i64 n (by omega) (by omega) w

/-- A new row of n zeros, block g. -/
structure Made (g n : Nat) (w w1 : World) : Prop where
  at_ : g = w.heap.size
  below : Below w.heap.size w w1
  row : Row w1 g 0 (List.replicate n 0)
  free : Free w1 g
  size : w1.heap.size = w.heap.size + 1
theorem made (n : Nat) (w : World) : Made w.heap.size n w (w.alloc (.cells (madeCells #[.int .u64 0] n) 105)) := by
  refine ⟨rfl, (Below.refl _ _).alloc (Nat.le_refl _) _, ?_, ⟨_, _, heap_alloc_new w _⟩, by simp⟩
  intro k hk
  simp at hk
  rw [World.cell?, heap_alloc_new]
  simp [madeCells, hk, nth, Nat.mod_one]

theorem wpList_make_words {ops : Array Oper} {rest : List Oper} {o : Oper} {a : Act} {w : World} {Q : Exit → Act → World → Prop} (hg : o.guard = none) (l c : Operand) (hop : o.op = Op.makeSlice 29 l c)
    (n : Nat) (hn : n ≤ 2000000) (hl : a.eval l = .int .i64 (n : Int)) (hc : a.eval c = .int .i64 (n : Int))
    (hK : ∀ g w1, Made g n w w1 → wpList Tryz.prog ops Q rest (a.put o.dst (.slice (some ⟨g, 0, none⟩) n n)) w1) : wpList Tryz.prog ops Q (o :: rest) a w := by
  obtain ⟨i, hi, hz⟩ := Option.map_eq_some_iff.1 info63
  simp only [Prod.mk.injEq] at hz
  obtain ⟨hz, hs, hb⟩ := hz
  exact wpList_make_row w hg l c 29 hop 105 i (.int .u64 0) Tryz.underlying29 hi hz hs rfl .i64 .i64 n hl hc (by rw [hb]; omega) (by omega) (hK _ _ (made n w))

/-- A copy of words: src laid over the head of dst. -/
theorem wpList_copy_words {ops : Array Oper} {rest : List Oper} {o : Oper} {a : Act} {w : World} {Q : Exit → Act → World → Prop} (hgd : o.guard = none) (d s : Operand)
    (ho : o.op = .call { callee := .builtin .copy, args := #[d, s], argTypes := #[29, 29] }) (gd od dLen dCap gs os sLen sCap : Nat) (dst src : List Int)
    (hd : a.eval d = .slice (some ⟨gd, od, none⟩) dLen dCap) (hs : a.eval s = .slice (some ⟨gs, os, none⟩) sLen sCap) (hdl : dst.length = dLen) (hsl : src.length = sLen) (hle : sLen ≤ dLen)
    (hrd : Row w gd od dst) (hrs : Row w gs os src) (hf : Free w gd)
    (h : ∀ w', Row w' gd od (src ++ dst.drop sLen) → Edit gd od dLen w w' → wpList Tryz.prog ops Q rest (a.put o.dst (goInt sLen)) w') : wpList Tryz.prog ops Q (o :: rest) a w := by
  obtain ⟨cur, t, hg⟩ := hf
  have hsz : (Tryz.prog.info? 105).map (·.size) = some 1 := by
    obtain ⟨i, hi, hz⟩ := Option.map_eq_some_iff.1 info63
    simp only [Prod.mk.injEq] at hz
    rw [hi]; simp [hz.2.1]
  by_cases h0 : sLen = 0
  · subst h0
    refine wpList_copy_nothing hgd d s _ _ ho 105 Tryz.underlying29 hsz _ _ dLen dCap 0 sCap hd hs (by simp) ?_
    obtain rfl : src = [] := List.eq_nil_of_length_eq_zero hsl
    exact h w (by simpa using hrd) (Edit.refl _ _ _ _)
  · have hfit : od + sLen ≤ cur.size := by
      have := hrd (sLen - 1) (by omega)
      simp only [World.cell?, hg] at this
      obtain ⟨hlt, _⟩ := Array.getElem?_eq_some_iff.1 (show cur[od + (sLen - 1)]? = some _ from this)
      omega
    refine wpList_copy_own hgd d s _ _ ho 105 Tryz.underlying29 hsz gd od dLen dCap ⟨gs, os, none⟩ sLen sCap hd hs cur t hg (src.map (Value.int .u64)) ?_ ?_ ?_ ?_ ?_
    · rw [List.length_map, hsl]; exact (Nat.min_eq_left hle).symm
    · intro j v hj
      simp at hj
      obtain ⟨x, hx, rfl⟩ := hj
      obtain ⟨hlt, hx'⟩ := List.getElem?_eq_some_iff.1 hx
      have := hrs j hlt
      rw [nth_lt hlt, hx'] at this
      by_cases hj0 : j = 0
      · subst hj0; simpa [Addr.add] using this
      · simpa [Addr.add, hj0] using this
    · simpa [hsl] using hfit
    · intro v hv
      simp at hv
      obtain ⟨x, _, rfl⟩ := hv
      rfl
    · simp only [List.length_map, hsl]
      have hcell : ∀ k, (w.setRow gd (cur.toList.take od ++ (src.map (Value.int .u64) ++ cur.toList.drop (od + sLen))).toArray).cell? ⟨gd, k, none⟩ = if od ≤ k ∧ k < od + sLen then some (.int .u64 (nth src (k - od))) else w.cell? ⟨gd, k, none⟩ := by
        intro k
        simp only [World.cell?, setRow_heap w gd cur _ t _ hg, hg]
        simp only [Option.isSome_none, Bool.false_eq_true, if_false, List.getElem?_toArray]
        by_cases hk1 : k < od
        · rw [if_neg (by omega), List.getElem?_append_left (by simp; omega), List.getElem?_take_of_lt hk1]; simp
        · rw [List.getElem?_append_right (by simp; omega)]
          simp only [List.length_take, Array.length_toList, Nat.min_eq_left (show od ≤ cur.size by omega)]
          by_cases hk2 : k < od + sLen
          · rw [if_pos (by omega), List.getElem?_append_left (by simp; omega)]
            simp [nth, show k - od < src.length by omega]
          · rw [if_neg (by omega), List.getElem?_append_right (by simp; omega)]
            simp only [List.length_map, hsl, List.getElem?_drop]
            rw [show od + sLen + (k - od - sLen) = k by omega]; simp
      refine h _ ?_ ?_
      · intro k hk
        simp at hk
        rw [hcell]
        by_cases hk2 : k < sLen
        · rw [if_pos (by omega)]
          simp [nth, List.getElem?_append, show k < src.length by omega]
        · rw [if_neg (by omega), hrd k (by omega)]
          simp [nth, List.getElem?_append, show ¬ k < src.length by omega]
          rw [show sLen + (k - src.length) = k by omega]
      · refine ⟨rfl, rfl, rfl, by simp, fun k _ hk => setRow_other w gd k _ hk, fun o' ho' => ?_, fun _ => ⟨_, _, setRow_heap w gd cur _ t _ hg⟩⟩
        rw [hcell, if_neg (by omega)]

/-- A trimmed size of at most N words, worth z. -/
def Sz (N : Nat) (w : World) (v : Value) (z : Int) : Prop := ∃ (g off cap : Nat) (l : List Int), v = .slice (some ⟨g, off, none⟩) l.length cap ∧ Ws l ∧ Trim l ∧ val l = z ∧ l.length ≤ N ∧ l.length ≤ cap ∧ cap ≤ 9223372036854775807 ∧ Row w g off l
theorem Sz.later {N : Nat} {w w' : World} {v : Value} {z : Int} (h : Sz N w v z) (hb : Below w.heap.size w w') : Sz N w' v z := by
  obtain ⟨g, off, cap, l, h1, h2, h3, h4, h5, h6, h7, h8⟩ := h
  exact ⟨g, off, cap, l, h1, h2, h3, h4, h5, h6, h7, h8.later hb⟩
theorem Sz.mono {N M : Nat} {w : World} {v : Value} {z : Int} (h : Sz N w v z) (hb : N ≤ M) : Sz M w v z := by
  obtain ⟨g, off, cap, l, h1, h2, h3, h4, h5, h6, h7, h8⟩ := h
  exact ⟨g, off, cap, l, h1, h2, h3, h4, by omega, h6, h7, h8⟩
theorem Sz.eq {N : Nat} {w : World} {v : Value} {z y : Int} (h : Sz N w v z) (e : z = y) : Sz N w v y := e ▸ h
theorem val_all_zero {l : List Int} (h : ∀ k, nth l k = 0) : val l = 0 := by
  induction l with
  | nil => rfl
  | cons x l ih =>
    have h0 := h 0
    simp [nth] at h0
    have := ih (fun k => by have := h (k + 1); simpa [nth] using this)
    simp [val, h0, this]
theorem val_trimmed {l : List Int} {m : Nat} (hm : m ≤ l.length) (h : ∀ k, m ≤ k → nth l k = 0) : val (l.take m) = val l := by
  rw [val_split l m hm, val_all_zero (l := l.drop m) (fun k => by have := h (m + k) (by omega); simpa [nth] using this)]; simp
theorem trim_trimmed {l : List Int} {m : Nat} (hm : m ≤ l.length) (h : m = 0 ∨ nth l (m - 1) ≠ 0) : Trim (l.take m) := by
  rcases h with h | h
  · left; simp [h]
  · by_cases h0 : m = 0
    · left; simp [h0]
    · right
      rw [List.length_take, Nat.min_eq_left hm]
      simpa [nth, List.getElem?_take, show m - 1 < m by omega] using h

set_option maxHeartbeats 400000 in
theorem trim_sz (b off cap n : Nat) (l : List Int) (w : World) (hr : Row w b off l) (hW : Ws l) (hn : l.length = n) (hl : n ≤ cap) (hcap : cap ≤ 9223372036854775807) :
    Calls Tryz.prog 120 #[.slice (some ⟨b, off, none⟩) n cap] w fun e w' => ∃ v, e = .returned v ∧ Sz n w v (val l) ∧ w = w' := by
  subst hn
  refine (trim_any b off cap l w hr hl hcap).mono ?_
  rintro e w' ⟨⟨m, hm, rfl, hz, hne⟩, rfl⟩
  refine ⟨_, rfl, ⟨b, off, cap, l.take m, ?_, hW.take m, trim_trimmed hm hne, val_trimmed hm hz, by simp; omega, by simp; omega, hcap, hr.take m⟩, rfl⟩
  rw [List.length_take, Nat.min_eq_left hm]

set_option maxHeartbeats 1000000 in
theorem difference_any {N M : Nat} {va vb : Value} {x y : Int} (w : World) (hva : Sz N w va x) (hvb : Sz M w vb y) (hle : y ≤ x) (hlim : N ≤ 900000) :
    Calls Tryz.prog 79 #[va, vb] w fun e w' => ∃ v, e = .returned v ∧ Sz N w' v (x - y) ∧ Below w.heap.size w w' := by
  obtain ⟨ga, oa, ca, a, rfl, ha, ta, ea, na, la, lca, hra⟩ := hva
  obtain ⟨gb, ob, cb, b, rfl, hb, tb, eb, nb, lb, lcb, hrb⟩ := hvb
  obtain ⟨n, hn⟩ : ∃ n, a.length = n := ⟨_, rfl⟩
  obtain ⟨m, hm⟩ : ∃ m, b.length = m := ⟨_, rfl⟩
  have hmn : m ≤ n := by
    by_cases h : m ≤ n
    · exact h
    · have := val_lt_of_length ha hb tb (by omega); omega
  rw [hn, hm]
  rw [hn] at na la
  have hgb : m ≠ 0 → gb < w.heap.size := fun h => hrb.lt (by intro e; subst e; exact h hm.symm)
  have HN := hide hn
  have HM := hide hm
  have HA := hide ea
  have HB := hide eb
  have HLE := hide hle
  clear hn hm hle ea eb lb nb
  go_enter Tryz.func79, Tryz.ntmps79
  go_wp2_with (first | (at_make; refine wpList_make_words rfl _ _ rfl n (by omega) rfl rfl ?_; intro g w1 hmade) | (refine wpList_copy_words rfl (.tmp 9) (.tmp 10) rfl g 0 n n ga oa n ca (List.replicate n 0) a rfl rfl (by simp) (unhide HN) (Nat.le_refl _) hmade.row (hra.later hmade.below) hmade.free ?_; intro w2 hrow hedit))
  have hrow' : Row w2 g 0 a := by
    have := hrow
    rwa [List.drop_eq_nil_of_le (by simp), List.append_nil] at this
  have hbw : Below w.heap.size w w2 := hmade.below.trans (hedit.below (by have := hmade.at_; omega) (by have := hmade.size; omega))
  have hrb2 : Row w2 gb ob b := hrb.later hbw
  refine (lower_any g 0 n gb ob cb n m a b w2 hrow' hrb2 (hedit.free hmade.free) (fun h => by have := hgb (by omega); have := hmade.at_; omega) ha hb (unhide HN) (unhide HM) hmn (by omega) (by rw [unhide HA, unhide HB]; exact unhide HLE)).mono ?_
  rintro e w3 ⟨out, rfl, lo, wo, eo, ro, ed⟩
  go_wp2_with fail
  refine (trim_sz g 0 n n out w3 ro wo lo (Nat.le_refl _) (by omega)).mono ?_
  rintro e w4 ⟨v, rfl, hsz, rfl⟩
  go_wp2
  go_ret
  refine ⟨_, rfl, (hsz.mono na).eq (by rw [eo, unhide HA, unhide HB]), hbw.trans (ed.below (by have := hmade.at_; omega) (by have := hbw.size; omega))⟩
end Go.Proofs.YtachnndaoogpeaaGreatDoor
