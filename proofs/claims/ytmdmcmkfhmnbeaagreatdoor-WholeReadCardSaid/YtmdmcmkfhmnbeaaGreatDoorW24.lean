/-
  Walks over package whole: readDigits: the number of digits.
-/
import Derived.Test.YtmdmcmkfhmnbeaaGreatDoorW23
import Derived.Deep.RegionWith
namespace Go.Proofs.YtmdmcmkfhmnbeaaGreatDoor
open Go.RowKit

theorem Zr.tight {N M : Nat} {w : World} {v : Value} {z : Int} (h : Zr N w v z) (hb : iabs z < pw M) : Zr M w v z := by
  rcases h with h | ⟨s, b, off, cap, l, h1, h2, h3, h4, h5, h6, h7, h8, h9, h10, h11⟩
  · exact Or.inl h
  · refine Or.inr ⟨s, b, off, cap, l, h1, h2, h3, h4, h5, h6, ?_, h8, h9, h10, h11⟩
    have v0 := val_nonneg h3
    have e : iabs z = val l := by
      rw [h6]; unfold iabs
      rcases h2 with rfl | rfl
      · rw [if_neg (by omega)]; omega
      · split <;> omega
    rw [e] at hb
    have h12 := val_ge h3 h4 h5
    by_cases g : l.length ≤ M
    · exact g
    · have := pw_mono (show M ≤ l.length - 1 by omega)
      omega
theorem dec_append (a b : List UInt8) : dec (a ++ b) = dec a * 10 ^ b.length + dec b := by
  have key : ∀ (b : List UInt8) (n : Int), b.foldl (fun n c => n * 10 + ((c.toNat : Int) - 48)) n = n * 10 ^ b.length + dec b := by
    intro b
    induction b with
    | nil => intro n; simp [dec]
    | cons c b ih =>
      intro n
      have e := ih ((0 : Int) * 10 + ((c.toNat : Int) - 48))
      have e2 := ih (n * 10 + ((c.toNat : Int) - 48))
      have e3 : dec (c :: b) = b.foldl (fun n c => n * 10 + ((c.toNat : Int) - 48)) ((0 : Int) * 10 + ((c.toNat : Int) - 48)) := rfl
      rw [List.foldl_cons, e2, e3, e, List.length_cons, Int.pow_succ]
      grind
  unfold dec
  rw [List.foldl_append]
  exact key b _
theorem ten_pw (k : Nat) : (10 : Int) ^ (19 * k) ≤ pw k := by
  induction k with
  | zero => simp [pw]
  | succ k ih =>
    rw [Nat.mul_succ, Int.pow_add, pw_succ]
    have : (10 : Int) ^ 19 = 10000000000000000000 := by decide
    rw [this]
    have p := pw_pos k
    omega
theorem ten_mono {a b : Nat} (h : a ≤ b) : (10 : Int) ^ a ≤ 10 ^ b := by
  have : (10 : Nat) ^ a ≤ 10 ^ b := Nat.pow_le_pow_right (by decide) h
  have e : ((10 ^ a : Nat) : Int) = (10 : Int) ^ a := by simp
  have e' : ((10 ^ b : Nat) : Int) = (10 : Int) ^ b := by simp
  rw [← e, ← e']; omega
theorem dec_tight {l : List UInt8} {k : Nat} (h : Dig10 l) (hk : l.length ≤ 19 * k) : iabs (dec l) < pw k := by
  obtain ⟨h0, h1⟩ := dec_bound h
  have := ten_mono hk
  have := ten_pw k
  unfold iabs; rw [if_neg (by omega)]; omega

/-- How readDigits' loop stands: the number so far in its box, what a full group is worth in another. -/
structure Rd (w : World) (bz bf : Nat) (uf : Int) (af : Option Addr) (nf cf : Nat) (i : Nat) (z : Int) (u : Int) (a : Option Addr) (n c : Nat) (wr : World) : Prop where
  below : Below w.heap.size w wr
  box : Box wr w.heap.size
  boxz : Box wr bz
  z0 : wr.cell? ⟨bz, 0, none⟩ = some (.int .i64 u)
  z1 : wr.cell? ⟨bz, 1, none⟩ = some (.slice a n c)
  f0 : wr.cell? ⟨bf, 0, none⟩ = some (.int .i64 uf)
  f1 : wr.cell? ⟨bf, 1, none⟩ = some (.slice af nf cf)
  zr : Zr (i + 1) wr (.agg #[.int .i64 u, .slice a n c]) z
  fr : Zr 1 wr (.agg #[.int .i64 uf, .slice af nf cf]) 10000000000000000000
theorem Rd.keep {w : World} {bz bf : Nat} {uf : Int} {af : Option Addr} {nf cf i : Nat} {z u : Int} {a : Option Addr} {n c : Nat} {wr w1 : World} (h : Rd w bz bf uf af nf cf i z u a n c wr) (hb : Below wr.heap.size wr w1) : Rd w bz bf uf af nf cf i z u a n c w1 :=
  ⟨below_keep hb h.below, h.box.later hb, h.boxz.later hb, cell_keep hb h.z0, cell_keep hb h.z1, cell_keep hb h.f0, cell_keep hb h.f1, h.zr.later hb, h.fr.later hb⟩
theorem Rd.drew {w : World} {bz bf : Nat} {uf : Int} {af : Option Addr} {nf cf i : Nat} {z u : Int} {a : Option Addr} {n c : Nat} {wr : World} (h : Rd w bz bf uf af nf cf i z u a n c wr) : Rd w bz bf uf af nf cf i z u a n c wr.drew :=
  ⟨h.below.drew, h.box, h.boxz, h.z0, h.z1, h.f0, h.f1, h.zr, h.fr⟩
theorem Rd.next {w : World} {bz bf : Nat} {uf : Int} {af : Option Addr} {nf cf i : Nat} {z u : Int} {a : Option Addr} {n c : Nat} {wr : World} {N : Nat} {z' u' : Int} {a' : Option Addr} {n' c' : Nat} (h : Rd w bz bf uf af nf cf i z u a n c wr) (hz : Zr N wr (.agg #[.int .i64 u', .slice a' n' c']) z') (ht : iabs z' < pw (i + 2)) (hb1 : w.heap.size < bz) (hb2 : bf ≠ bz) :
    Rd w bz bf uf af nf cf (i + 1) z' u' a' n' c' ((wr.setCell ⟨bz, 0, none⟩ (.int .i64 u')).setCell ⟨bz, 1, none⟩ (.slice a' n' c')) := by
  obtain ⟨s0, s1⟩ := h.boxz.stored (.int .i64 u') (.slice a' n' c')
  refine ⟨below_stored h.below (by omega) _ _, (h.box.other (by omega) _).other (by omega) _, h.boxz.stored' _ _ _ _, s0, s1, ?_, ?_, (hz.tight ht).stored h.boxz _ _, h.fr.stored h.boxz _ _⟩
  · rw [cell?_setCell_ne _ _ _ _ _ _ (by omega), cell?_setCell_ne _ _ _ _ _ _ (by omega)]; exact h.f0
  · rw [cell?_setCell_ne _ _ _ _ _ _ (by omega), cell?_setCell_ne _ _ _ _ _ _ (by omega)]; exact h.f1

set_option maxHeartbeats 2000000 in
theorem readDigits_any (s : ByteArray) (w : World) (hs : s.size ≤ 300) (hd : Dig10 s.data.toList) :
    Calls Tryz.prog 28 #[.string s] w fun e w' => (∃ v, e = .returned v ∧ Zr 16 w' v (dec s.data.toList)) ∧ Below w.heap.size w w' := by
  have HD := hide hd
  clear hd
  obtain ⟨f, hf⟩ : ∃ f, s.size % 19 = f := ⟨_, rfl⟩
  obtain ⟨m, hm⟩ : ∃ m, s.size / 19 = m := ⟨_, rfl⟩
  have hfm : Hid (s.size = f + 19 * m ∧ f < 19 ∧ m ≤ 15) := ⟨by omega, by omega, by omega⟩
  have hfi : (s.size : Int) % 19 = (f : Int) := by omega
  have hmi : (s.size : Int) / 19 = (m : Int) := by omega
  have hf19 : f < 19 := (unhide hfm).2.1
  have hfs : f ≤ s.size := by have := (unhide hfm).1; omega
  clear hf hm
  have hbox0 := box_new w
  go_enter Tryz.func28, Tryz.ntmps28
  go_wp2_with fail
  simp only [hfi]
  go_fit (readGroup_any (s.extract 0 f) _ (by rw [Lib.size_eq, Lib.extract_data]; simp; omega) (by rw [Lib.extract_data]; exact fun c hc => unhide HD c (List.mem_of_mem_drop (List.mem_of_mem_take hc))))
  rintro e w1 ⟨⟨v1, rfl, hZ1⟩, hb1⟩
  obtain ⟨u1, a1, n1, c1, hv1⟩ := hZ1.shape
  subst hv1
  have hbox1 := hbox0.later hb1
  have hbl1 : Below w.heap.size w w1 := ((Below.refl _ _).alloc (Nat.le_refl _) _).trans (hb1.mono (by simp))
  go_wp2_with fail
  go_fit (signedWord_any 1 10000000000000000000 _ (Or.inl rfl) (by decide) (by decide))
  rintro e w2 ⟨⟨v2, rfl, hZ2⟩, hb2⟩
  obtain ⟨uf, af, nf, cf, hv2⟩ := hZ2.shape
  subst hv2
  obtain ⟨bz, hbz⟩ : ∃ bz, w1.heap.size = bz := ⟨_, rfl⟩
  have hbz0 : w.heap.size < bz := by rw [← hbz]; obtain ⟨⟨_, g⟩, _⟩ := hbox1.cells; exact World.block_lt_of_cell? w1 _ g
  have hboxz : Box (w1.alloc (.cells #[.int .i64 u1, .slice a1 n1 c1] 24)) bz := by rw [← hbz]; exact ⟨_, _, _, _, heap_alloc_new w1 _⟩
  have hzc : (w1.alloc (.cells #[.int .i64 u1, .slice a1 n1 c1] 24)).cell? ⟨bz, 0, none⟩ = some (.int .i64 u1) ∧ (w1.alloc (.cells #[.int .i64 u1, .slice a1 n1 c1] 24)).cell? ⟨bz, 1, none⟩ = some (.slice a1 n1 c1) := by
    rw [← hbz]; exact ⟨by simp [go_sem], by simp [go_sem]⟩
  have hal1 : Below w1.heap.size w1 (w1.alloc (.cells #[.int .i64 u1, .slice a1 n1 c1] 24)) := (Below.refl _ _).alloc (Nat.le_refl _) _
  have hR2 : Below w.heap.size w w2 ∧ Box w2 w.heap.size ∧ Box w2 bz ∧ w2.cell? ⟨bz, 0, none⟩ = some (.int .i64 u1) ∧ w2.cell? ⟨bz, 1, none⟩ = some (.slice a1 n1 c1) ∧ Zr 1 w2 (.agg #[.int .i64 u1, .slice a1 n1 c1]) (dec (s.extract 0 f).data.toList) :=
    ⟨below_keep hb2 (below_keep hal1 hbl1), (hbox1.later hal1).later hb2, hboxz.later hb2, cell_keep hb2 hzc.1, cell_keep hb2 hzc.2, (hZ1.later hal1).later hb2⟩
  have hbzw : bz < w2.heap.size := by obtain ⟨⟨_, g⟩, _⟩ := hR2.2.2.1.cells; exact World.block_lt_of_cell? w2 _ g
  rw [hbz]
  clear hbz hboxz hzc hal1 hbox0 hbox1 hZ1 hb1 hbl1 hb2
  go_wp2_with fail
  obtain ⟨bf, hbf⟩ : ∃ bf, w2.heap.size = bf := ⟨_, rfl⟩
  obtain ⟨w3, hw3⟩ : ∃ w3, w3 = w2.alloc (.cells #[.int .i64 uf, .slice af nf cf] 24) := ⟨_, rfl⟩
  have hal2 : Below w2.heap.size w2 w3 := by rw [hw3]; exact (Below.refl _ _).alloc (Nat.le_refl _) _
  have hfc : w3.cell? ⟨bf, 0, none⟩ = some (.int .i64 uf) ∧ w3.cell? ⟨bf, 1, none⟩ = some (.slice af nf cf) := by rw [hw3, ← hbf]; exact ⟨by simp [go_sem], by simp [go_sem]⟩
  have hR3 : Rd w bz bf uf af nf cf 0 (dec (s.data.toList.take f)) u1 a1 n1 c1 w3 := by
    obtain ⟨r1, r2, r3, r4, r5, r6⟩ := hR2
    refine ⟨below_keep hal2 r1, r2.later hal2, r3.later hal2, cell_keep hal2 r4, cell_keep hal2 r5, hfc.1, hfc.2, (r6.later hal2).eq ?_, (hZ2.later hal2).eq (by omega)⟩
    rw [Lib.extract_data]; simp
  have hbfz : bf ≠ bz := by omega
  have hbf2 : bz < bf := by omega
  rw [← hw3, hbf]
  clear hw3 hbf hal2 hfc hR2 hbzw hZ2
  go_loopw [19] (fun v wr => ∃ (i : Nat) (u : Int) (a : Option Addr) (n c : Nat), i ≤ m ∧ v = .int .i64 i ∧ Rd w bz bf uf af nf cf i (dec (s.data.toList.take (f + 19 * i))) u a n c wr) (fun v _ => m - (intOf v).toNat)
  case atStart => exact ⟨0, u1, a1, n1, c1, Nat.zero_le _, rfl, by simpa using hR3⟩
  case round =>
    clear hR3
    obtain ⟨i, u, a, n, c, hi, rfl, hR⟩ := hrel
    have r0 := hR.z0; have r1 := hR.z1; have r2 := hR.f0; have r3 := hR.f1
    obtain ⟨_, _, rf⟩ := hR.boxz.cells
    by_cases hlt : i < m
    · obtain ⟨j, hj⟩ : ∃ j, f + 19 * i = j := ⟨_, rfl⟩
      have t1 : j + 19 ≤ s.size := by have := unhide hfm; omega
      have hji : (f : Int) + (i : Int) * 19 = (j : Int) := by omega
      have q2 : (j : Int) + 19 ≤ (s.size : Int) := by omega
      have q3 : (j : Int) ≤ (j : Int) + 19 := by omega
      rw [hj] at hR
      have hgl : (s.extract j (j + 19)).data.toList = (s.data.toList.drop j).take 19 := by rw [Lib.extract_data, show j + 19 - j = 19 by omega]
      have hgs : (s.extract j (j + 19)).size ≤ 19 := by rw [Lib.size_eq, hgl]; simp; omega
      have hgd : Dig10 (s.extract j (j + 19)).data.toList := by rw [hgl]; exact fun c hc => unhide HD c (List.mem_of_mem_drop (List.mem_of_mem_take hc))
      have htk : s.data.toList.take (j + 19) = s.data.toList.take j ++ (s.data.toList.drop j).take 19 := by rw [List.take_add]
      have hval : dec (s.data.toList.take j) * 10000000000000000000 + dec (s.extract j (j + 19)).data.toList = dec (s.data.toList.take (j + 19)) := by
        rw [htk, dec_append, hgl]
        have : ((s.data.toList.drop j).take 19).length = 19 := by simp; rw [Lib.size_eq] at t1; simp at t1; omega
        rw [this]; rfl
      have htight : iabs (dec (s.data.toList.take (j + 19))) < pw (i + 2) := dec_tight (fun c hc => unhide HD c (List.mem_of_mem_take hc)) (by simp; omega)
      have HVAL := hide hval
      have HT := hide htight
      have HJ := hide hj
      have HG := hide (And.intro hgs hgd)
      have hi15 : i ≤ 15 := by have := unhide hfm; omega
      clear hval htight hj hgl hgs hgd htk
      have hd0 := hR.drew
      go_wp2_with fail
      have hw1 : IntKind.i64.wrap ((j : Int) + 19) = (j : Int) + 19 := by rw [IntKind.wrap_i64]; omega
      have hw2 : ((j : Int) + 19).toNat = j + 19 := by omega
      have hw3 : ¬ ((j : Int) < 0) := by omega
      have hw4 : ¬ ((s.size : Int) < (j : Int) + 19) := by omega
      have hw5 : ¬ ((j : Int) + 19 < (j : Int)) := by omega
      go_region_with (first | (go_at_call 12; go_fit (mul_any (N := i) (z := dec (s.data.toList.take j)) (o := 10000000000000000000) _ hd0.zr (hd0.fr.mono (by omega)) (by omega)); rintro e w4 ⟨⟨v4, rfl, hZ4⟩, hb4⟩; have hd1 := hd0.keep hb4) | (go_at_call 63; go_fit (readGroup_any _ _ (unhide HG).1 (unhide HG).2); rintro e w5 ⟨⟨v5, rfl, hZ5⟩, hb5⟩; have hd2 := hd1.keep hb5) | (go_at_call 10; go_fit (add_any (N := i + 1 + i) _ ((hZ4.later hb5).mono (by omega)) (hZ5.mono (by omega)) (by omega)); rintro e w6 ⟨⟨v6, rfl, hZ6⟩, hb6⟩; obtain ⟨u6, a6, n6, c6, hv6⟩ := hZ6.shape; subst hv6; have hd3 := hd2.keep hb6; obtain ⟨⟨x0, g0⟩, ⟨a0, n0, c0, g1⟩, gf⟩ := hd3.boxz.cells))
      all_goals go_wp2
      all_goals go_roundw
      all_goals first | exact ⟨i + 1, u6, a6, n6, c6, by omega, rfl, (by have := Rd.next hd3 (hZ6.eq (unhide HVAL)) (unhide HT) (by omega) (by omega); rw [show f + 19 * (i + 1) = j + 19 by have := unhide HJ; omega]; exact this)⟩ | (simp [intOf]; omega)
    · have hid : i = m := by omega
      have hrb : Box wr w.heap.size := hR.box
      obtain ⟨⟨x0, g0⟩, ⟨a0, n0, c0, g1⟩, gf⟩ := hrb.cells
      have hz : w.heap.size < wr.heap.size := World.block_lt_of_cell? wr _ g0
      have HID := hide hid
      clear hid
      go_wp2
      obtain ⟨st0, st1⟩ := hrb.stored (.int .i64 u) (.slice a n c)
      refine bodyPost_ret (v := .agg #[.int .i64 u, .slice a n c]) (by simp [results, Tryz.results28, go_sem, st0, st1]) rfl ⟨⟨_, rfl, ((hR.zr.stored hrb _ _).mono ?_).eq ?_⟩, below_stored hR.below (Nat.le_refl _) _ _⟩
      · have := unhide HID; have := unhide hfm; omega
      · rw [unhide HID, ← (unhide hfm).1, List.take_of_length_le (by simp)]
end Go.Proofs.YtmdmcmkfhmnbeaaGreatDoor
