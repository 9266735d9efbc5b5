/-
  Walks over package ratio: split.
-/
import Derived.Test.YtmhebjeefdanmaaGreatDoorMRE
import Derived.Test.YtmhebjeefdanmaaGreatDoorMSB
namespace Go.Proofs.YtmhebjeefdanmaaGreatDoor
open Go.RowKit

/-- The figures' value. -/
def figs (mi me : Bool) (l u b x : ByteArray) (us es : Nat) : Value := .agg #[.bool mi, .bool me, .string l, .string u, .string b, .string x, .int .i64 (us : Int), .int .i64 (es : Int)]
/-- What split answers. -/
def SplP (s : ByteArray) (A : Nat → Addr) (e : Ending) (w' : World) : Prop :=
  ∃ mi me l u b x us es,
   ((∃ c k pb, said s = .inl (c + 1, k) ∧ c < 2 ∧ e = .returned (.tuple #[figs mi me l u b x us es, .iface 95 (.pointer (some ⟨pb, 0, none⟩))]) ∧ w'.cell? ⟨pb, 0, none⟩ = some (.int .i64 (k : Nat)) ∧ w'.cell? ⟨pb, 1, none⟩ = some (.iface 234 (.pointer (some (A c))))) ∨
    (e = .returned (.tuple #[figs mi me l u b x us es, .nilIface]) ∧ said s = figSaid mi me l u b x us es ∧ Figs l ∧ Figs u ∧ Figs b ∧ Figs x))
/-- Behind the stroke, or the decimals. -/
def SpK (cb fb : Nat) (s : ByteArray) (A : Nat → Addr) (W0 : World) (ev : Value) (wx : World) : Prop :=
  ∃ mi me l u b x us es, Fg wx fb mi me l u b x us es ∧ Only2 cb fb W0 wx ∧
   ((∃ c k pb, ev = .iface 95 (.pointer (some ⟨pb, 0, none⟩)) ∧ Hid (said s = .inl (c + 1, k)) ∧ c < 2 ∧ fb < pb ∧ wx.cell? ⟨pb, 0, none⟩ = some (.int .i64 (k : Nat)) ∧ wx.cell? ⟨pb, 1, none⟩ = some (.iface 234 (.pointer (some (A c))))) ∨
    (∃ j, ev = .nilIface ∧ Cu wx cb s j ∧ j ≤ s.size ∧ Hid (said s = saidEnd s j (figSaid mi me l u b x us es)) ∧ Figs l ∧ Figs u ∧ Figs b ∧ Figs x))
theorem said_none' {s : ByteArray} {a : Nat} (ha : atOf s = a) (hr : runEnd s a = a) : said s = .inl (0 + 1, a) := by unfold said; rw [ha, saidRun_none hr]
theorem said_many' {s : ByteArray} {a : Nat} (ha : atOf s = a) (hr : a + 300 < runEnd s a) : said s = .inl (1 + 1, a + 300) := by unfold said; rw [ha, saidRun_many hr]
/-- The figures are stored anew. -/
theorem Fg.all {w : World} {fb : Nat} {mi me : Bool} {l u b x : ByteArray} {us es : Nat} (h : Fg w fb mi me l u b x us es) (mi' me' : Bool) (l' u' b' x' : ByteArray) (us' es' : Nat) :
    Fg ((((((((w.setCell ⟨fb, 0, none⟩ (.bool mi')).setCell ⟨fb, 1, none⟩ (.bool me')).setCell ⟨fb, 2, none⟩ (.string l')).setCell ⟨fb, 3, none⟩ (.string u')).setCell ⟨fb, 4, none⟩ (.string b')).setCell ⟨fb, 5, none⟩ (.string x')).setCell ⟨fb, 6, none⟩ (.int .i64 us')).setCell ⟨fb, 7, none⟩ (.int .i64 es')) fb mi' me' l' u' b' x' us' es' :=
  (((((((h.set0 mi').set1 me').set2 l').set3 u').set4 b').set5 x').set6 us').set7 es'
theorem Fg.zero {w : World} {fb : Nat} {mi me : Bool} {l u b x : ByteArray} {us es : Nat} (h : Fg w fb mi me l u b x us es) :
    let W' := ((((((((w.setCell ⟨fb, 0, none⟩ (.bool false)).setCell ⟨fb, 1, none⟩ (.bool false)).setCell ⟨fb, 2, none⟩ (.string ⟨#[]⟩)).setCell ⟨fb, 3, none⟩ (.string ⟨#[]⟩)).setCell ⟨fb, 4, none⟩ (.string ⟨#[]⟩)).setCell ⟨fb, 5, none⟩ (.string ⟨#[]⟩)).setCell ⟨fb, 6, none⟩ (.int .i64 0)).setCell ⟨fb, 7, none⟩ (.int .i64 0))
    W'.cell? ⟨fb, 0, none⟩ = some (.bool false) ∧ W'.cell? ⟨fb, 1, none⟩ = some (.bool false) ∧ W'.cell? ⟨fb, 2, none⟩ = some (.string ⟨#[]⟩) ∧ W'.cell? ⟨fb, 3, none⟩ = some (.string ⟨#[]⟩) ∧ W'.cell? ⟨fb, 4, none⟩ = some (.string ⟨#[]⟩) ∧ W'.cell? ⟨fb, 5, none⟩ = some (.string ⟨#[]⟩) ∧ W'.cell? ⟨fb, 6, none⟩ = some (.int .i64 0) ∧ W'.cell? ⟨fb, 7, none⟩ = some (.int .i64 0) := by
  intro W'
  have h' : Fg W' fb false false noB noB noB noB 0 0 := h.all false false noB noB noB noB 0 0
  exact ⟨h'.c0, h'.c1, h'.c2, h'.c3, h'.c4, h'.c5, h'.c6, h'.c7⟩
theorem pb_keep8 {w : World} {pb fb o : Nat} {v u0 u1 u2 u3 u4 u5 u6 u7 : Value} (h : w.cell? ⟨pb, o, none⟩ = some v) (hne : fb < pb) : ((((((((w.setCell ⟨fb, 0, none⟩ u0).setCell ⟨fb, 1, none⟩ u1).setCell ⟨fb, 2, none⟩ u2).setCell ⟨fb, 3, none⟩ u3).setCell ⟨fb, 4, none⟩ u4).setCell ⟨fb, 5, none⟩ u5).setCell ⟨fb, 6, none⟩ u6).setCell ⟨fb, 7, none⟩ u7).cell? ⟨pb, o, none⟩ = some v :=
  pb_keep (pb_keep (pb_keep (pb_keep (pb_keep (pb_keep (pb_keep (pb_keep h hne) hne) hne) hne) hne) hne) hne) hne
theorem Only2.set8 {cb fb : Nat} {a b : World} (h : Only2 cb fb a b) (u0 u1 u2 u3 u4 u5 u6 u7 : Value) : Only2 cb fb a ((((((((b.setCell ⟨fb, 0, none⟩ u0).setCell ⟨fb, 1, none⟩ u1).setCell ⟨fb, 2, none⟩ u2).setCell ⟨fb, 3, none⟩ u3).setCell ⟨fb, 4, none⟩ u4).setCell ⟨fb, 5, none⟩ u5).setCell ⟨fb, 6, none⟩ u6).setCell ⟨fb, 7, none⟩ u7) :=
  (((((((h.set 0 u0).set 1 u1).set 2 u2).set 3 u3).set 4 u4).set 5 u5).set 6 u6).set 7 u7

set_option maxHeartbeats 8000000 in
set_option maxRecDepth 8000 in
theorem split_any (s : ByteArray) (A : Nat → Addr) (w : World) (hs : s.size ≤ 9223372036854775807)
    (h1 : w.cell? ⟨0, 0, none⟩ = some (.iface 234 (.pointer (some (A 0))))) (h2 : w.cell? ⟨1, 0, none⟩ = some (.iface 234 (.pointer (some (A 1))))) :
    Calls Tryz.prog 102 #[.string s] w fun e w' => SplP s A e w' ∧ Below w.heap.size w w' := by
  have lg1 := World.block_lt_of_cell? w _ h1
  have lg2 := World.block_lt_of_cell? w _ h2
  have hk := below_new2 w (.cells #[.bool false, .bool false, .string noB, .string noB, .string noB, .string noB, .int .i64 0, .int .i64 0] 130) (.cells #[.string s, .int .i64 0] 161)
  have hf : Fg ((w.alloc (.cells #[.bool false, .bool false, .string noB, .string noB, .string noB, .string noB, .int .i64 0, .int .i64 0] 130)).alloc (.cells #[.string s, .int .i64 0] 161)) w.heap.size false false noB noB noB noB 0 0 :=
    Fg.later (heap_alloc_new w _) (below_new _ _)
  have hc : Cu ((w.alloc (.cells #[.bool false, .bool false, .string noB, .string noB, .string noB, .string noB, .int .i64 0, .int .i64 0] 130)).alloc (.cells #[.string s, .int .i64 0] 161)) (w.heap.size + 1) s 0 := by
    have := heap_alloc_new (w.alloc (.cells #[.bool false, .bool false, .string noB, .string noB, .string noB, .string noB, .int .i64 0, .int .i64 0] 130)) (.cells #[.string s, .int .i64 0] 161)
    rw [show (w.alloc (.cells #[.bool false, .bool false, .string noB, .string noB, .string noB, .string noB, .int .i64 0, .int .i64 0] 130)).heap.size = w.heap.size + 1 by simp] at this
    exact this
  have H1 := hide (cell_keep hk h1)
  have H2 := hide (cell_keep hk h2)
  clear h1 h2
  go_enter Tryz.func102, Tryz.ntmps102
  go_upto_region 2 with fail
  obtain ⟨W0, hW0⟩ : ∃ W0, W0 = (w.alloc (.cells #[.bool false, .bool false, .string noB, .string noB, .string noB, .string noB, .int .i64 0, .int .i64 0] 130)).alloc (.cells #[.string s, .int .i64 0] 161) := ⟨_, rfl⟩
  rw [← hW0] at hk hf hc H1 H2
  first | rw [← hW0] | (change Code.wp _ _ _ _ ((w.alloc (.cells #[.bool false, .bool false, .string noB, .string noB, .string noB, .string noB, .int .i64 0, .int .i64 0] 130)).alloc (.cells #[.string s, .int .i64 0] 161)); rw [← hW0])
  clear hW0
  have lf0 := hf.lt
  have lc0 := hc.lt
  go_wp2_with fail
  go_fit (take_b (w.heap.size + 1) s 0 45 _ hc (by omega) hs)
  rintro e W1 ⟨⟨mi, rfl, HT⟩, hO1⟩
  obtain ⟨a, hc1, hal, HMA⟩ : ∃ a, Cu W1 (w.heap.size + 1) s a ∧ a ≤ s.size ∧ Hid (minusOf s = mi ∧ atOf s = a) := by
    rcases unhide HT with ⟨rfl, hb, hc1⟩ | ⟨rfl, hb, hc1⟩
    · exact ⟨1, hc1, by have := hb.1; omega, atOf_minus hb⟩
    · exact ⟨0, hc1, by omega, atOf_plain hb⟩
  have hf1 := hf.only hO1 (by omega)
  have hO2 := ((Only2.refl (w.heap.size + 1) w.heap.size W0).only hO1).set 0 (.bool mi)
  have hc2 := hc1.other (q := w.heap.size) (by omega) 0 (.bool mi)
  have hf2 := hf1.set0 mi
  have e0 := hf1.c0
  have ef := hf1.frozen
  have hlt := hf1.lt
  clear HT hO1 hf hc hc1
  go_wp2_with fail
  go_fit (cdigits_any (w.heap.size + 1) s a _ _ _ _ _ hc2 hal hs (hO2.cell (unhide H1) (by omega) (by omega)) (hO2.cell (unhide H2) (by omega) (by omega)) (by omega) (by omega))
  rintro e W3 ⟨hd, hO3⟩
  clear e0 ef hlt
  have hf3 := hf2.only hO3 (by omega)
  have hO4 := hO2.only hO3
  have e2 := hf3.c2
  have ef := hf3.frozen
  have hlt := hf3.lt
  have lf2 := hf2.lt
  clear hO2 hc2
  rcases hd with ⟨hr, pb, rfl, hpb, q0, q1⟩ | ⟨hr, pb, rfl, hpb, q0, q1⟩ | ⟨r0, r1, rfl, hc4⟩
  · have HSD := hide (said_none' (unhide HMA).2 hr)
    have e0 := hf3.c0
    have e1 := hf3.c1
    have e3 := hf3.c3
    have e4 := hf3.c4
    have e5 := hf3.c5
    have e6 := hf3.c6
    have e7 := hf3.c7
    clear hr
    obtain ⟨z0, z1, z2, z3, z4, z5, z6, z7⟩ := (hf3.set2 noB).zero
    have hOE := ((hO4.set 2 (.string noB)).set8 (.bool false) (.bool false) (.string noB) (.string noB) (.string noB) (.string noB) (.int .i64 0) (.int .i64 0))
    go_wp2
    exact bodyPost_ret (v := .tuple #[figs false false noB noB noB noB 0 0, .iface 95 (.pointer (some ⟨pb, 0, none⟩))]) (by unfold figs noB at *; simp [results, Tryz.results102, go_sem, z0, z1, z2, z3, z4, z5, z6, z7]) rfl ⟨⟨false, false, noB, noB, noB, noB, 0, 0, Or.inl ⟨0, a, pb, unhide HSD, by decide, rfl, pb_keep8 (pb_keep q0 (by omega)) (by omega), pb_keep8 (pb_keep q1 (by omega)) (by omega)⟩⟩, hk.trans (hOE.below (by omega) (by omega) (by omega))⟩
  · have HSD := hide (said_many' (unhide HMA).2 hr)
    have e0 := hf3.c0
    have e1 := hf3.c1
    have e3 := hf3.c3
    have e4 := hf3.c4
    have e5 := hf3.c5
    have e6 := hf3.c6
    have e7 := hf3.c7
    clear hr
    obtain ⟨z0, z1, z2, z3, z4, z5, z6, z7⟩ := (hf3.set2 noB).zero
    have hOE := ((hO4.set 2 (.string noB)).set8 (.bool false) (.bool false) (.string noB) (.string noB) (.string noB) (.string noB) (.int .i64 0) (.int .i64 0))
    go_wp2
    exact bodyPost_ret (v := .tuple #[figs false false noB noB noB noB 0 0, .iface 95 (.pointer (some ⟨pb, 0, none⟩))]) (by unfold figs noB at *; simp [results, Tryz.results102, go_sem, z0, z1, z2, z3, z4, z5, z6, z7]) rfl ⟨⟨false, false, noB, noB, noB, noB, 0, 0, Or.inl ⟨1, a + 300, pb, unhide HSD, by decide, rfl, pb_keep8 (pb_keep q0 (by omega)) (by omega), pb_keep8 (pb_keep q1 (by omega)) (by omega)⟩⟩, hk.trans (hOE.below (by omega) (by omega) (by omega))⟩
  have hml := runEnd_le' s _ a rfl hal
  obtain ⟨m, HM⟩ : ∃ m, Hid (runEnd s a = m) := ⟨_, rfl⟩
  rw [show runEnd s a = m from unhide HM] at r0 r1 hc4 hml ⊢
  have HFL := hide (Figs.run hal r1 (unhide HM))
  have hf4 := hf3.set2 (s.extract a m)
  have hO5 := hO4.set 2 (.string (s.extract a m))
  have hc5 := hc4.other (q := w.heap.size) (by omega) 2 (.string (s.extract a m))
  clear hf2 hO3
  go_wp2_with fail
  go_fit (take_b (w.heap.size + 1) s m 47 _ hc5 hml hs)
  rintro e W5 ⟨⟨t, rfl, HT⟩, hO6⟩
  have hf5 := hf4.only hO6 (by omega)
  have hO7 := hO5.only hO6
  clear e2 ef hlt hf4 hO5 hO6 hc5 hc4 hf3 hO4
  go_upto_if 18 with fail
  go_cut [3] (fun ev wx => SpK (w.heap.size + 1) w.heap.size s A W0 ev wx)
  case first =>
    rcases unhide HT with ⟨rfl, hb, hc6⟩ | ⟨rfl, hb, hc6⟩
    · have hb1 := hb.1
      have HSO := hide (said_over (unhide HMA).1 (unhide HMA).2 r0 r1 (unhide HM) hb)
      clear hb
      have k1 := hc6.c1
      have e6 := hf5.c6
      have ef := hf5.frozen
      have hlt := hf5.lt
      have hf6 := hf5.set6 (m + 1)
      have hO8 := hO7.set 6 (.int .i64 (m + 1 : Nat))
      have hc7 := hc6.other (q := w.heap.size) (by omega) 6 (.int .i64 (m + 1 : Nat))
      go_wp2_with fail
      go_fit (cdigits_any (w.heap.size + 1) s (m + 1) _ _ _ _ _ hc7 (by omega) hs (hO8.cell (unhide H1) (by omega) (by omega)) (hO8.cell (unhide H2) (by omega) (by omega)) (by omega) (by omega))
      rintro e W7 ⟨hd, hO9⟩
      clear e6 ef hlt k1
      have hf7 := hf6.only hO9 (by omega)
      have hO10 := hO8.only hO9
      have e3 := hf7.c3
      have ef := hf7.frozen
      have hlt := hf7.lt
      have lf2 := hf6.lt
      have lf5 := hf5.lt
      rcases hd with ⟨hr, pb, rfl, hpb, q0, q1⟩ | ⟨hr, pb, rfl, hpb, q0, q1⟩ | ⟨n0, n1, rfl, hc8⟩
      · have HSD : Hid (said s = .inl (0 + 1, m + 1)) := by
          show _ = _
          rw [show said s = _ from unhide HSO]; unfold saidOver; rw [saidRun_none hr]
        clear hr
        have hpb2 : W5.heap.size ≤ pb := by simpa [World.setCell] using hpb
        go_wp2
        go_meet
        exact ⟨_, _, _, _, _, _, _, _, hf7.set3 noB, hO10.set _ _, Or.inl ⟨0, m + 1, pb, rfl, HSD, by decide, by omega, pb_keep q0 (by omega), pb_keep q1 (by omega)⟩⟩
      · have HSD : Hid (said s = .inl (1 + 1, m + 1 + 300)) := by
          show _ = _
          rw [show said s = _ from unhide HSO]; unfold saidOver; rw [saidRun_many hr]
        clear hr
        have hpb2 : W5.heap.size ≤ pb := by simpa [World.setCell] using hpb
        go_wp2
        go_meet
        exact ⟨_, _, _, _, _, _, _, _, hf7.set3 noB, hO10.set _ _, Or.inl ⟨1, m + 1 + 300, pb, rfl, HSD, by decide, by omega, pb_keep q0 (by omega), pb_keep q1 (by omega)⟩⟩
      · have hnl := runEnd_le' s _ (m + 1) rfl (by omega)
        obtain ⟨n, HN⟩ : ∃ n, Hid (runEnd s (m + 1) = n) := ⟨_, rfl⟩
        rw [show runEnd s (m + 1) = n from unhide HN] at n0 n1 hc8 hnl ⊢
        have HFN := hide (Figs.run (by omega) n1 (unhide HN))
        have HSD := hide ((unhide HSO).trans (over_some (es := 0) (unhide HN) n0 n1 hnl))
        go_wp2
        go_meet
        exact ⟨_, _, _, _, _, _, _, _, hf7.set3 _, hO10.set _ _, Or.inr ⟨n, rfl, hc8.other (by omega) _ _, hnl, HSD, unhide HFL, unhide HFN, Figs.none, Figs.none⟩⟩
    · have HSO := hide (said_dec (unhide HMA).1 (unhide HMA).2 r0 r1 (unhide HM) hb)
      clear hb
      go_wp2_with fail
      go_fit (decimals_any (w.heap.size + 1) w.heap.size s mi a m A _ hc6 hf5 (by omega) hml hs (hO7.cell (unhide H1) (by omega) (by omega)) (hO7.cell (unhide H2) (by omega) (by omega)) (by omega) (by omega) (by omega) (by omega))
      rintro e W7 ⟨⟨me, b, x, es, hf7, hd⟩, hO9⟩
      have lf5 := hf5.lt
      have hO10 : Only2 (w.heap.size + 1) w.heap.size W0 W7 := ⟨hO9.os.trans hO7.os, hO9.tape.trans hO7.tape, hO9.output.trans hO7.output, Nat.le_trans hO7.size hO9.size, fun i hi hg hf => (hO9.other i (Nat.lt_of_lt_of_le hi hO7.size) hg hf).trans (hO7.other i hi hg hf)⟩
      rcases hd with ⟨c, k, pb, hsd, hc2, rfl, hpb, q0, q1⟩ | ⟨j, hsd, rfl, hc8, hj, hfb, hfx⟩
      · have HSD := hide ((unhide HSO).trans hsd)
        clear hsd
        go_wp2
        go_meet
        exact ⟨_, _, _, _, _, _, _, _, hf7, hO10, Or.inl ⟨c, k, pb, rfl, HSD, hc2, by omega, q0, q1⟩⟩
      · have HSD := hide ((unhide HSO).trans hsd)
        clear hsd
        go_wp2
        go_meet
        exact ⟨_, _, _, _, _, _, _, _, hf7, hO10, Or.inr ⟨j, rfl, hc8, hj, HSD, unhide HFL, Figs.none, hfb, hfx⟩⟩
  case rest =>
  clear HT hf5 hO7
  obtain ⟨mi', me, l, u, b, x, us, es, hf, hO, hd⟩ := hcut
  obtain ⟨X, rfl⟩ : ∃ X, X = wc := ⟨_, rfl⟩
  rcases hd with ⟨c, k, pb, rfl, HSD, hc2, hpb, q0, q1⟩ | ⟨j, rfl, hc, hj, HSD, fl, fu, fb, fx⟩
  · have e0 := hf.c0
    have e1 := hf.c1
    have e2 := hf.c2
    have e3 := hf.c3
    have e4 := hf.c4
    have e5 := hf.c5
    have e6 := hf.c6
    have e7 := hf.c7
    have ef := hf.frozen
    have hlt := hf.lt
    have hfE := hf.all mi' me l u b x us es
    have z0 := hfE.c0
    have z1 := hfE.c1
    have z2 := hfE.c2
    have z3 := hfE.c3
    have z4 := hfE.c4
    have z5 := hfE.c5
    have z6 := hfE.c6
    have z7 := hfE.c7
    go_wp2
    exact bodyPost_ret (v := .tuple #[figs mi' me l u b x us es, .iface 95 (.pointer (some ⟨pb, 0, none⟩))]) (by unfold figs; simp [results, Tryz.results102, go_sem, z0, z1, z2, z3, z4, z5, z6, z7]) rfl ⟨⟨_, _, _, _, _, _, _, _, Or.inl ⟨c, k, pb, unhide HSD, hc2, rfl, pb_keep8 q0 hpb, pb_keep8 q1 hpb⟩⟩, hk.trans ((hO.set8 _ _ _ _ _ _ _ _).below (by omega) (by omega) (by omega))⟩
  · have k1 := hc.c1
    by_cases hjs : j < s.size
    · have hji : (j : Int) < s.size := by omega
      have HS2 := hide ((unhide HSD).trans (saidEnd_more hjs))
      have t1 := hO.cell (unhide H1) (by omega) (by omega)
      go_wp2_with fail
      go_fit (wrong_any (w.heap.size + 1) s j _ _ _ hc)
      rintro e W8 ⟨⟨pb, rfl, hpb, q0, q1⟩, hb8⟩
      have lx := hf.lt
      have hf8 := hf.later hb8
      have hO8 := hO.later hb8
      clear k1
      have e0 := hf8.c0
      have e1 := hf8.c1
      have e2 := hf8.c2
      have e3 := hf8.c3
      have e4 := hf8.c4
      have e5 := hf8.c5
      have e6 := hf8.c6
      have e7 := hf8.c7
      have ef := hf8.frozen
      have hlt := hf8.lt
      have hfE := hf8.all mi' me l u b x us es
      have z0 := hfE.c0
      have z1 := hfE.c1
      have z2 := hfE.c2
      have z3 := hfE.c3
      have z4 := hfE.c4
      have z5 := hfE.c5
      have z6 := hfE.c6
      have z7 := hfE.c7
      go_wp2
      exact bodyPost_ret (v := .tuple #[figs mi' me l u b x us es, .iface 95 (.pointer (some ⟨pb, 0, none⟩))]) (by unfold figs; simp [results, Tryz.results102, go_sem, z0, z1, z2, z3, z4, z5, z6, z7]) rfl ⟨⟨_, _, _, _, _, _, _, _, Or.inl ⟨0, j, pb, unhide HS2, by decide, rfl, pb_keep8 q0 (by omega), pb_keep8 q1 (by omega)⟩⟩, hk.trans ((hO8.set8 _ _ _ _ _ _ _ _).below (by omega) (by omega) (by omega))⟩
    · have hji : ¬ (j : Int) < s.size := by omega
      have HS2 := hide ((unhide HSD).trans (saidEnd_end (by omega)))
      have e0 := hf.c0
      have e1 := hf.c1
      have e2 := hf.c2
      have e3 := hf.c3
      have e4 := hf.c4
      have e5 := hf.c5
      have e6 := hf.c6
      have e7 := hf.c7
      have ef := hf.frozen
      have hlt := hf.lt
      have hfE := hf.all mi' me l u b x us es
      have z0 := hfE.c0
      have z1 := hfE.c1
      have z2 := hfE.c2
      have z3 := hfE.c3
      have z4 := hfE.c4
      have z5 := hfE.c5
      have z6 := hfE.c6
      have z7 := hfE.c7
      go_wp2
      exact bodyPost_ret (v := .tuple #[figs mi' me l u b x us es, .nilIface]) (by unfold figs; simp [results, Tryz.results102, go_sem, z0, z1, z2, z3, z4, z5, z6, z7]) rfl ⟨⟨_, _, _, _, _, _, _, _, Or.inr ⟨rfl, unhide HS2, fl, fu, fb, fx⟩⟩, hk.trans ((hO.set8 _ _ _ _ _ _ _ _).below (by omega) (by omega) (by omega))⟩
end Go.Proofs.YtmhebjeefdanmaaGreatDoor
