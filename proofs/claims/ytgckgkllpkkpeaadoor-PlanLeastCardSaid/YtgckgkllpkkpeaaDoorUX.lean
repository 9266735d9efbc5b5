/-
  Jobs: the program's use, begin, takeBack.
-/
import Derived.Test.YtgckgkllpkkpeaaDoorUW
namespace Go.Proofs.YtgckgkllpkkpeaaDoor
open Go.RowKit

/-- What is used, when a job that begins at a moment is counted some times more. -/
def addN (p : Pl) (u : Nat → Nat → Int) (j a i : Nat) (t : Int) : Nat → Nat → Int := fun m k => if a ≤ m ∧ m < a + i ∧ k < p.caps.length then u m k + t * usN p j k else u m k
def addK (p : Pl) (u : Nat → Nat → Int) (j a i k0 : Nat) (t : Int) : Nat → Nat → Int := fun m k => if m = a + i ∧ k < k0 then u m k + t * usN p j k else addN p u j a i t m k
theorem addN_zero (p : Pl) (u : Nat → Nat → Int) (j a : Nat) (t : Int) : addN p u j a 0 t = u := by
  funext m k
  rw [addN, if_neg (by omega)]
theorem addK_zero (p : Pl) (u : Nat → Nat → Int) (j a i : Nat) (t : Int) : addK p u j a i 0 t = addN p u j a i t := by
  funext m k
  rw [addK, if_neg (by omega)]
theorem addK_at (p : Pl) (u : Nat → Nat → Int) (j a i k0 : Nat) (t : Int) : addK p u j a i k0 t (a + i) k0 = u (a + i) k0 := by
  rw [addK, if_neg (by omega), addN, if_neg (by omega)]
theorem addK_succ (p : Pl) (u : Nat → Nat → Int) (j a i k0 : Nat) (t v : Int) (hv : usN p j k0 = v) : upd2 (addK p u j a i k0 t) (a + i) k0 (u (a + i) k0 + t * v) = addK p u j a i (k0 + 1) t := by
  funext m k
  by_cases h1 : m = a + i ∧ k = k0
  · obtain ⟨rfl, rfl⟩ := h1
    rw [upd2, if_pos ⟨rfl, rfl⟩, addK, if_pos ⟨rfl, by omega⟩, hv]
  · rw [upd2, if_neg h1]
    by_cases h2 : m = a + i ∧ k < k0
    · rw [addK, if_pos h2, addK, if_pos (by omega)]
    · rw [addK, if_neg h2, addK, if_neg (by omega)]
theorem addK_done (p : Pl) (u : Nat → Nat → Int) (j a i : Nat) (t : Int) : addK p u j a i p.caps.length t = addN p u j a (i + 1) t := by
  funext m k
  by_cases h : m = a + i ∧ k < p.caps.length
  · rw [addK, if_pos h, addN, if_pos (by omega)]
  · rw [addK, if_neg h]
    by_cases h2 : a ≤ m ∧ m < a + i ∧ k < p.caps.length
    · rw [addN, if_pos h2, addN, if_pos (by omega)]
    · rw [addN, if_neg h2, addN, if_neg (by omega)]
set_option maxHeartbeats 8000000 in
set_option maxRecDepth 8000 in
/-- use. -/
theorem use_any {q : Rq} {S : Nat} {x : Nat → Nat} {b : Nat → Bool} {u : Nat → Nat → Int} {t : Int} (w : World) (hq : q.Ok) (h : Ros q w S x b u) {j : Nat} (hj : j < q.p.jobs.length) (ha : x j + lgN q.p j ≤ 30) (hu : ∀ m k, m < 30 → k < 7 → 0 ≤ u m k ∧ u m k ≤ 1000000000) (ht : t = 1 ∨ t = -1) :
    Calls Tryd.prog 49 #[.pointer (some ⟨q.R, 0, none⟩), .int .i64 (j : Int), .int .i64 t] w fun e w' => e = .returned (.tuple #[]) ∧ Ros q w' S x b (addN q.p u j (x j) (lgN q.p j) t) ∧ Only q w w' := by
  obtain ⟨jb, hjb⟩ : ∃ y, q.p.jobs[j]? = some y := at_some hj
  have hlg := lgN_eq hq.r hjb
  obtain ⟨jA, jo, a1, d1, a2, d2, hja, ⟨e0, e1, e2⟩, hjm⟩ := hq.pl.j.job hjb
  have e0 := cell_keep h.bel e0
  have e1 := cell_keep h.bel e1
  have e2 := cell_keep h.bel e2
  have c0 := h.c0
  rw [hja] at c0
  have HJM := hide hjm
  have HUB := hide hu
  have HJR := hide (hq.r.j j jb hjb)
  have HJB := hide hjb
  have HCP := hide hq.r.c
  have HQ := hide hq
  have HR := hide h
  have n7 := hq.r.nj
  have c7 := hq.r.nc
  obtain ⟨L, hL⟩ : ∃ n, n = lgN q.p j := ⟨_, rfl⟩
  rw [hlg, ← hL] at e0
  rw [← hL] at ha
  obtain ⟨n, hnn⟩ : ∃ n, n = q.p.jobs.length := ⟨_, rfl⟩
  obtain ⟨nu, hnu⟩ : ∃ n, n = jb.uses.length := ⟨_, rfl⟩
  obtain ⟨R, hR⟩ : ∃ n, n = q.R := ⟨_, rfl⟩
  obtain ⟨RS, hRS⟩ : ∃ n, n = q.RS := ⟨_, rfl⟩
  obtain ⟨a, hxa⟩ : ∃ n, n = x j := ⟨_, rfl⟩
  rw [← hR, ← hnn] at c0
  rw [← hxa] at ha
  rw [← hnn] at n7 hj
  rw [← hnu] at e2
  rw [← hR, ← hL, ← hxa]
  have hnuc : nu = q.p.caps.length := by rw [hnu]; exact (unhide HJR).2.2.1
  have HN := hide (And.intro hL (And.intro hnn (And.intro hnu hnuc)))
  have HRR := hide (And.intro hR (And.intro hRS hxa))
  have HZ := hide (And.intro h.zR (And.intro h.zS h.zB))
  have hj' : (j : Int) < (n : Int) := by omega
  have k3 := three_cells w 50 (.int .i64 (L : Int)) (.slice a1 jb.after.length d1) (.slice a2 nu d2)
  have kn := below_new w (.cells #[.int .i64 (L : Int), .slice a1 jb.after.length d1, .slice a2 nu d2] 50)
  clear hL hnn hnu hR hRS hxa hjm hjb hlg hja h hq hu hnuc
  go_enter Tryd.func49, Tryd.ntmps49
  go_upto_region 1 with fail
  obtain ⟨g, hg⟩ : ∃ X, X = w.heap.size := ⟨_, rfl⟩
  obtain ⟨W, hW⟩ : ∃ X, X = w.alloc (.cells #[.int .i64 (L : Int), .slice a1 jb.after.length d1, .slice a2 nu d2] 50) := ⟨_, rfl⟩
  rw [← hW, ← hg]
  rw [← hW, ← hg] at k3
  rw [← hW] at kn
  have HO := hide (Only.of (q := q) kn)
  have HR := hide ((unhide HR).later kn)
  have HKN := hide kn
  have HG := hide (show g ≠ q.R ∧ g ≠ q.RS ∧ g ≠ q.RB by have := unhide HZ; omega)
  obtain ⟨k0, k1, k2⟩ := k3
  clear hg hW kn e0 e1 e2 c0
  go_wp2_with fail
  go_loopg [7, 8, 9, 20] L (fun gk _ _ _ iv wr => ∃ i : Nat, i ≤ L ∧ gk = L - i ∧ iv = .int .i64 (i : Int) ∧ Hid (Only q W wr) ∧ Hid (Ros q wr S x b (addN q.p u j a i t)))
  case atStart => exact ⟨0, by omega, by omega, rfl, hide (Only.refl _ _), hide (by rw [addN_zero]; exact unhide HR)⟩
  case round =>
    obtain ⟨i, hi, hgk, rfl, HB, HA⟩ := hrel
    have k0 := (unhide HB).cell k0 (unhide HG).1 (unhide HG).2.1 (unhide HG).2.2
    by_cases hin : i < L
    · have hin' : (i : Int) < (L : Int) := by omega
      have k2 := (unhide HB).cell k2 (unhide HG).1 (unhide HG).2.1 (unhide HG).2.2
      have HGI := hide (And.intro hgk (And.intro hi hin))
      clear hgk hi hin
      go_wp2_with fail
      go_loopg [8, 9, 26] nu (fun gk _ _ kv wr => ∃ k : Nat, k ≤ nu ∧ gk = nu - k ∧ kv = .int .i64 (k : Int) ∧ Hid (Only q W wr) ∧ Hid (Ros q wr S x b (addK q.p u j a i k t)))
      case atStart => exact ⟨0, by omega, by omega, rfl, HB, hide (by rw [addK_zero]; exact unhide HA)⟩
      case round =>
        clear HB HA k2 k0
        obtain ⟨k, hk, hgk, rfl, HB, HA⟩ := hrel
        by_cases hkn : k < nu
        · obtain ⟨v, hv⟩ : ∃ x, jb.uses[k]? = some x := at_some (by have := unhide HN; omega)
          obtain ⟨c, hc⟩ : ∃ x, q.p.caps[k]? = some x := at_some (by have := unhide HN; omega)
          obtain ⟨ub, uo, rfl, r0, _⟩ := (unhide HJM).r2.int hv
          have hb1 := (unhide HJR).2.2.2.1 k v c hv hc
          have hb2 := unhide HCP c (List.mem_of_getElem? hc)
          have hb3 := unhide HUB (a + i) k (by have := unhide HGI; omega) (by have := unhide HN; omega)
          have HUS := hide (addK_succ q.p u j a i k t v (usN_eq (unhide HJB) hv))
          have r0 := cell_keep (unhide HA).bel r0
          have r4 := (unhide HA).c4
          rw [← (unhide HRR).1, ← (unhide HRR).2.1, ← (unhide HN).2.1] at r4
          have r5 := (unhide HA).cs j (by have := unhide HN; omega)
          rw [← (unhide HRR).2.1, ← (unhide HRR).2.2] at r5
          have r6 := (unhide HA).cu (a + i) k (by have := unhide HGI; omega) (by have := unhide HN; omega)
          rw [← (unhide HRR).1, addK_at] at r6
          have r7 := (unhide HA).fr (6 + (a + i) * 7 + k)
          rw [← (unhide HRR).1] at r7
          obtain ⟨uu, huu⟩ : ∃ x, x = u (a + i) k := ⟨_, rfl⟩
          rw [← huu] at r6 hb3 HUS
          have hk1 : (k : Int) < (nu : Int) := by omega
          have hk3 : (k : Int) < 7 := by have := unhide HN; omega
          have hai : (a : Int) + (i : Int) < 30 := by have := unhide HGI; omega
          have ei : wrap64 ((a : Int) + (i : Int)) = ((a + i : Nat) : Int) := by have := unhide HGI; unfold wrap64; omega
          have em : wrap64 (t * v) = t * v := by rcases ht with rfl | rfl <;> unfold wrap64 <;> omega
          have ew : wrap64 (uu + t * v) = uu + t * v := by rcases ht with rfl | rfl <;> unfold wrap64 <;> omega
          have HGK := hide (And.intro hgk (And.intro hk hkn))
          clear hv hc hb1 hb2 hb3 huu hgk hk hkn
          go_upto_region 7 with fail
          obtain ⟨Y, hY⟩ : ∃ X, X = wr := ⟨_, rfl⟩
          rw [← hY] at HB HA r0 r4 r5 r6 r7 ⊢
          clear hY
          go_region
          have HA := hide (show Ros q (Y.setCell ⟨R, 6 + (a + i) * 7 + k, none⟩ (.int .i64 (uu + t * v))).drew S x b (addK q.p u j a i (k + 1) t) by
            rw [← unhide HUS, (unhide HRR).1]
            exact ((unhide HA).setU (unhide HQ) (by have := unhide HGI; omega) (by omega) _).later (Below.refl _ _).drew)
          have HB := hide (show Only q W (Y.setCell ⟨R, 6 + (a + i) * 7 + k, none⟩ (.int .i64 (uu + t * v))).drew from ((unhide HB).trans (Only.set Y (Or.inl (unhide HRR).1) _)).trans (Only.of (Below.refl _ _).drew))
          obtain ⟨Y1, hY1⟩ : ∃ X, X = (Y.setCell ⟨R, 6 + (a + i) * 7 + k, none⟩ (.int .i64 (uu + t * v))).drew := ⟨_, rfl⟩
          rw [← hY1] at HA HB ⊢
          clear hY1 r0 r4 r5 r6 r7
          go_wp2
          go_roundg (nu - (k + 1))
          case measure => have := unhide HGK; omega
          case rel => exact ⟨k + 1, by have := unhide HGK; omega, rfl, by go_num, HB, HA⟩
        · obtain rfl : nu = k := by omega
          have HA := hide (show Ros q wr S x b (addN q.p u j a (i + 1) t) by rw [← addK_done, ← (unhide HN).2.2.2]; exact unhide HA)
          clear hkn hk hgk
          go_wp2
          go_roundg (L - (i + 1))
          case measure => have := unhide HGI; omega
          case rel => exact ⟨i + 1, by have := unhide HGI; omega, rfl, by go_num, HB, HA⟩
    · obtain rfl : L = i := by omega
      clear hin hi hgk
      go_wp2
      go_end0
      exact ⟨rfl, unhide HA, (unhide HO).trans (unhide HB)⟩
set_option maxHeartbeats 8000000 in
set_option maxRecDepth 8000 in
/-- begin. -/
theorem begin_any {q : Rq} {S : Nat} {x : Nat → Nat} {b : Nat → Bool} {u : Nat → Nat → Int} (w : World) (hq : q.Ok) (h : Ros q w S x b u) {j a : Nat} (hj : j < q.p.jobs.length) (ha : a + lgN q.p j ≤ 30) (hu : ∀ m k, m < 30 → k < 7 → 0 ≤ u m k ∧ u m k ≤ 1000000000) :
    Calls Tryd.prog 35 #[.pointer (some ⟨q.R, 0, none⟩), .int .i64 (j : Int), .int .i64 (a : Int)] w fun e w' => e = .returned (.tuple #[]) ∧ Ros q w' S (upd x j a) (upd b j true) (addN q.p u j a (lgN q.p j) 1) ∧ Only q w w' := by
  have c4 := h.c4
  have c5 := h.c5
  have s0 := h.cs j hj
  have b0 := h.cb j hj
  have f0 := h.fs j
  have f1 := h.fb j
  have hne : q.RS ≠ q.RB := hq.ne.2.2.2.2.2
  have HR := hide ((h.setS hq hj a).setB hq hj true)
  have HR2 := hide ((h.setB hq hj true).setS hq hj a)
  have HO := hide (show Only q w ((w.setCell ⟨q.RS, j, none⟩ (.int .i64 (a : Int))).setCell ⟨q.RB, j, none⟩ (.bool true)) from (Only.set w (Or.inr (Or.inl rfl)) _).trans (Only.set _ (Or.inr (Or.inr rfl)) _))
  have HO2 := hide (show Only q w ((w.setCell ⟨q.RB, j, none⟩ (.bool true)).setCell ⟨q.RS, j, none⟩ (.int .i64 (a : Int))) from (Only.set w (Or.inr (Or.inr rfl)) _).trans (Only.set _ (Or.inr (Or.inl rfl)) _))
  have HQ := hide hq
  have HU := hide hu
  have HJ := hide (And.intro hj ha)
  obtain ⟨n, hnn⟩ : ∃ n, n = q.p.jobs.length := ⟨_, rfl⟩
  obtain ⟨R, hR⟩ : ∃ n, n = q.R := ⟨_, rfl⟩
  obtain ⟨RS, hRS⟩ : ∃ n, n = q.RS := ⟨_, rfl⟩
  obtain ⟨RB, hRB⟩ : ∃ n, n = q.RB := ⟨_, rfl⟩
  rw [← hR, ← hRS, ← hnn] at c4
  rw [← hR, ← hRB, ← hnn] at c5
  rw [← hRS] at s0 f0
  rw [← hRB] at b0 f1
  rw [← hRS, ← hRB] at hne HR HO HR2 HO2
  rw [← hR]
  have HRR := hide hR
  have hj' : (j : Int) < (n : Int) := by omega
  have HNE := hide hne
  clear hnn hR hRS hRB h hq hu hj ha hne
  have hne : ¬ RS = RB := unhide HNE
  have hne2 : ¬ RB = RS := fun e => unhide HNE e.symm
  go_enter Tryd.func35, Tryd.ntmps35
  go_upto_region 0 with fail
  go_region
  have HR := hide ((unhide HR).later (Below.refl _ _).drew)
  have HO := hide ((unhide HO).trans (Only.of (Below.refl _ _).drew))
  obtain ⟨V, hV⟩ : ∃ X, X = ((w.setCell ⟨RS, j, none⟩ (.int .i64 (a : Int))).setCell ⟨RB, j, none⟩ (.bool true)).drew := ⟨_, rfl⟩
  rw [← hV] at HR HO ⊢
  clear hV HR2 HO2 c4 c5 s0 b0 f0 f1
  have huse := use_any V (unhide HQ) (unhide HR) (j := j) (t := 1) (unhide HJ).1 (by rw [upd_same]; exact (unhide HJ).2) (unhide HU) (Or.inl rfl)
  rw [upd_same, ← unhide HRR] at huse
  go_wp2_with fail
  go_fit huse
  rintro e W2 ⟨rfl, h1, h2⟩
  have H1 := hide h1
  have H2 := hide h2
  clear h1 h2 huse
  go_wp2
  go_end0
  exact ⟨rfl, unhide H1, (unhide HO).trans (unhide H2)⟩
set_option maxHeartbeats 8000000 in
set_option maxRecDepth 8000 in
/-- takeBack. -/
theorem back_any {q : Rq} {S : Nat} {x : Nat → Nat} {b : Nat → Bool} {u : Nat → Nat → Int} (w : World) (hq : q.Ok) (h : Ros q w S x b u) {j : Nat} (hj : j < q.p.jobs.length) (ha : x j + lgN q.p j ≤ 30) (hu : ∀ m k, m < 30 → k < 7 → 0 ≤ u m k ∧ u m k ≤ 1000000000) :
    Calls Tryd.prog 36 #[.pointer (some ⟨q.R, 0, none⟩), .int .i64 (j : Int)] w fun e w' => e = .returned (.tuple #[]) ∧ Ros q w' S x (upd b j false) (addN q.p u j (x j) (lgN q.p j) (-1)) ∧ Only q w w' := by
  have c5 := h.c5
  have b0 := h.cb j hj
  have f1 := h.fb j
  have HR := hide (h.setB hq hj false)
  have HO := hide (show Only q w (w.setCell ⟨q.RB, j, none⟩ (.bool false)) from Only.set w (Or.inr (Or.inr rfl)) _)
  have HQ := hide hq
  have HU := hide hu
  have HJ := hide (And.intro hj ha)
  obtain ⟨n, hnn⟩ : ∃ n, n = q.p.jobs.length := ⟨_, rfl⟩
  obtain ⟨R, hR⟩ : ∃ n, n = q.R := ⟨_, rfl⟩
  obtain ⟨RB, hRB⟩ : ∃ n, n = q.RB := ⟨_, rfl⟩
  rw [← hR, ← hRB, ← hnn] at c5
  rw [← hRB] at b0 f1 HR HO
  rw [← hR]
  have HRR := hide hR
  have hj' : (j : Int) < (n : Int) := by omega
  clear hnn hR hRB h hq hu hj ha
  go_enter Tryd.func36, Tryd.ntmps36
  go_upto_region 1 with fail
  obtain ⟨V, hV⟩ : ∃ X, X = w.setCell ⟨RB, j, none⟩ (.bool false) := ⟨_, rfl⟩
  rw [← hV] at HR HO ⊢
  clear hV c5 b0 f1
  have huse := use_any V (unhide HQ) (unhide HR) (j := j) (t := -1) (unhide HJ).1 (unhide HJ).2 (unhide HU) (Or.inr rfl)
  rw [← unhide HRR] at huse
  go_wp2_with fail
  go_fit huse
  rintro e W2 ⟨rfl, h1, h2⟩
  have H1 := hide h1
  have H2 := hide h2
  clear h1 h2 huse
  go_wp2
  go_end0
  exact ⟨rfl, unhide H1, (unhide HO).trans (unhide H2)⟩
end Go.Proofs.YtgckgkllpkkpeaaDoor
