/-
  Jobs: the program's fill.
-/
import Derived.Test.YtgckgkllpkkpeaaDoorZD
import Derived.Lib.SliceRun
namespace Go.Proofs.YtgckgkllpkkpeaaDoor
open Go.RowKit

/-- None has begun. -/
def noB : Nat → Bool := fun _ => false
/-- The first have begun. -/
def befB (j : Nat) : Nat → Bool := fun i => decide (i < j)
theorem befB_zero : befB 0 = noB := by funext i; simp [befB, noB]
theorem befB_succ (j : Nat) : befB (j + 1) = upd (befB j) j true := by
  funext i
  by_cases e : i = j
  · subst e
    rw [upd_same]
    simp [befB]
  · rw [upd_other _ _ e]
    simp only [befB, decide_eq_decide]
    omega
theorem useM_none (p : Pl) (x : Nat → Nat) (m k : Nat) : useM p x noB m k = 0 := by
  have : sumU (runU p x noB m k) p.jobs.length = sumU (fun _ => 0) p.jobs.length := sumU_congr fun i _ => by rw [runU, if_neg (by simp [noB])]
  rw [useM, this]
  have h : ∀ n, sumU (fun _ => 0) n = 0 := fun n => by
    induction n with
    | zero => rfl
    | succ n ih => rw [sumU, ih]; rfl
  exact h _
theorem capN_pos {p : Pl} (hR : PlR p) (k : Nat) : 0 ≤ capN p k := by
  unfold capN
  cases h : p.caps[k]? with
  | none => simp
  | some c => simpa using (hR.c c (List.mem_of_getElem? h)).1
theorem ok_none {p : Pl} (hR : PlR p) (S : Nat) (T x : Nat → Nat) : OkS p S T x noB :=
  ⟨fun _ _ h => (by cases h), fun _ _ _ h => (by cases h), fun m k _ => by rw [useM_none]; exact capN_pos hR k⟩
/-- No starts are ahead of these. -/
def First (p : Pl) (S : Nat) (z : Nat → Nat) (n : Nat) : Prop := ∀ y, Feas p S y → ∀ j, j < n → (∀ i, i < j → y i = z i) → z j ≤ y j
theorem ros_clear {q : Rq} (hq : q.Ok) {S : Nat} {b : Nat → Bool} {u : Nat → Nat → Int} : ∀ (m o : Nat) (w : World) (x : Nat → Nat), Ros q w S x b u → o + m ≤ q.p.jobs.length →
    ∃ x', Ros q (w.setCells q.RS o (List.replicate m (.int .i64 0))) S x' b u ∧ (∀ i, o ≤ i → i < o + m → x' i = 0) ∧ (∀ i, i < o → x' i = x i) ∧ Only q w (w.setCells q.RS o (List.replicate m (.int .i64 0)))
  | 0, o, w, x, h, _ => ⟨x, h, (fun i h1 h2 => by omega), (fun _ _ => rfl), Only.refl _ _⟩
  | m + 1, o, w, x, h, hm => by
    rw [List.replicate_succ, World.setCells]
    obtain ⟨x', h1, h2, h3, h4⟩ := ros_clear hq m (o + 1) _ _ (h.setS hq (j := o) (by omega) 0) (by omega)
    refine ⟨x', h1, fun i hi1 hi2 => ?_, fun i hi => ?_, (Only.set w (Or.inr (Or.inl rfl)) _).trans h4⟩
    · by_cases e : i = o
      · subst e
        rw [h3 i (by omega), upd_same]
      · exact h2 i (by omega) (by omega)
    · rw [h3 i (by omega), upd_other _ _ (by omega)]
set_option maxRecDepth 100000 in
/-- clear of the starts. -/
theorem clear_run {q : Rq} (hq : q.Ok) {S : Nat} {x : Nat → Nat} {b : Nat → Bool} {u : Nat → Nat → Int} (w : World) (h : Ros q w S x b u) :
    ∃ W x', (∀ ty, (Builtin.clear_ #[23] ty #[.slice (some ⟨q.RS, 0, none⟩) q.p.jobs.length q.p.jobs.length]).run Tryd.prog w = .ok (.tuple #[]) W) ∧ Ros q W S x' b u ∧ (∀ i, i < q.p.jobs.length → x' i ≤ 100) ∧ Only q w W := by
  by_cases hn : q.p.jobs.length = 0
  · refine ⟨w, x, fun ty => ?_, h, fun i hi => by omega, Only.refl _ _⟩
    rw [hn]
    simp [Builtin.clear_, run_underlying Tryd.underlying23]
  · obtain ⟨x', h1, h2, _, h4⟩ := ros_clear hq q.p.jobs.length 0 w x h (by omega)
    refine ⟨_, x', fun ty => ?_, h1, fun i hi => by rw [h2 i (by omega) (by omega)]; omega, h4⟩
    exact Lib.run_clear_slice w _ 3 ty (.int .i64 0) Tryd.underlying23 (fun _ => rfl) rfl rfl q.RS 0 _ _ (by omega) (fun j hj => by rw [Nat.zero_add, h.cs j hj]; rfl) (fun j _ => h.fs _)
/-- What fill answers, and leaves. -/
structure FillP (q : Rq) (S : Nat) (e : Ending) (w w' : World) : Prop where
  ex : ∃ bb, e = .returned (.bool bb) ∧ (bb = true → ∃ z b', Ros q w' S z b' (useM q.p z b') ∧ (∀ i, i < q.p.jobs.length → z i ≤ 100) ∧ Feas q.p S z ∧ First q.p S z q.p.jobs.length) ∧ (bb = false → (∀ y, ¬ Feas q.p S y) ∧ ∃ x', Ros q w' S x' noB (useM q.p x' noB))
  o : Only q w w'
set_option maxHeartbeats 8000000 in
set_option maxRecDepth 8000 in
/-- fill. -/
theorem fill_any {q : Rq} {S : Nat} {x : Nat → Nat} (w : World) (hq : q.Ok) (hTl : Tails q) (hS : S ≤ 30) (h : Ros q w S x noB (useM q.p x noB)) :
    Calls Tryd.prog 14 #[.pointer (some ⟨q.R, 0, none⟩)] w fun e w' => FillP q S e w w' := by
  obtain ⟨W, x1, hclr, hr1, hx1, ho1⟩ := clear_run hq w h
  have c4 := h.c4
  have n7 := hq.r.nj
  rw [useM_congr (x := x) (y := x1) (b := noB) (b' := noB) (fun _ _ => rfl) (fun _ _ h => by cases h)] at hr1
  have HQ := hide hq
  have HTL := hide hTl
  have HX := hide (show RoX q W S x1 noB x1 from ⟨hr1, fun _ _ _ => rfl, hx1⟩)
  have HO := hide ho1
  have c0 := hr1.c0
  obtain ⟨n, hnn⟩ : ∃ n, n = q.p.jobs.length := ⟨_, rfl⟩
  obtain ⟨R, hR⟩ : ∃ n, n = q.R := ⟨_, rfl⟩
  obtain ⟨RS, hRS⟩ : ∃ n, n = q.RS := ⟨_, rfl⟩
  rw [← hR, ← hRS, ← hnn] at c4
  rw [← hRS, ← hnn] at hclr
  rw [← hR, ← hnn] at c0
  rw [← hnn] at n7
  rw [← hR]
  have HRR := hide (And.intro hR hnn)
  clear h hq hTl hnn hR hRS hr1 hx1 ho1
  go_enter Tryd.func14, Tryd.ntmps14
  go_upto_region 2 with fail
  clear hclr c4
  have hen := end_all (unhide HQ) (unhide HTL) hS _ W x1 noB 0 0 (unhide HX).r (unhide HX).m (ok_none (unhide HQ).r _ _ _) (Nat.le_refl _) (by omega) (by omega)
  rw [← (unhide HRR).1] at hen
  go_wp2_with fail
  go_fit hen
  rintro e Y1 ⟨⟨bb, rfl, hy, hn⟩, ⟨x2, hr2, hag, hx2⟩, ho⟩
  have HO := hide ((unhide HO).trans ho)
  rw [useM_congr (x := x1) (y := x2) (b := noB) (b' := noB) (fun _ _ => rfl) (fun _ _ h => by cases h)] at hr2
  have HX := hide (show RoX q Y1 S x2 noB x2 from ⟨hr2, fun _ _ _ => rfl, hx2⟩)
  have HYN := hide (And.intro hy hn)
  have c0 : Y1.cell? ⟨R, 0, none⟩ = some (.slice q.ja n q.jc) := by rw [(unhide HRR).1, (unhide HRR).2]; exact hr2.c0
  clear hy hn hr2 hag hx2 ho hen
  cases bb
  · go_wp2
    go_ret
    refine ⟨⟨false, rfl, (fun h => by cases h), fun _ => ⟨fun y hy => ?_, x2, (unhide HX).r⟩⟩, unhide HO⟩
    obtain ⟨y', h1, h2⟩ := tight_ex (unhide HQ).r _ y (Nat.le_refl _) (show Compl q.p S x1 noB y from ⟨hy, fun _ _ h => by cases h⟩)
    have := (unhide HYN).2 y' h1 h2 (fun i _ _ => by omega)
    cases this
  go_wp2_with fail
  go_loopg [3, 17] n (fun gk _ iv wr => ∃ i : Nat, i ≤ n ∧ gk = n - i ∧ iv = .int .i64 (i : Int) ∧ Hid (Only q w wr) ∧ Hid (∃ z, RoX q wr S z (befB i) z ∧ OkS q.p S q.T z (befB i) ∧ (∃ y, Compl q.p S z (befB i) y) ∧ First q.p S z i))
  case atStart => exact ⟨0, by omega, by omega, rfl, HO, hide ⟨x2, by rw [befB_zero]; exact unhide HX, by rw [befB_zero]; exact ok_none (unhide HQ).r _ _ _, (by
    obtain ⟨y, hy⟩ := (unhide HYN).1 (by first | rfl | trivial)
    exact ⟨y, hy.f, fun i _ h => by rw [befB_zero] at h; cases h⟩), fun _ _ j hj => by omega⟩⟩
  case round =>
    obtain ⟨i, hi, hgk, rfl, HO, HZ⟩ := hrel
    by_cases hin : i < n
    · obtain ⟨z, hX, hok, hex, hfi⟩ := unhide HZ
      have hin' : (i : Int) < (n : Int) := by omega
      have hiq : i < q.p.jobs.length := by rw [← (unhide HRR).2]; exact hin
      have hse := settle_any wr (unhide HQ) (unhide HTL) hX hiq hS hok (by simp [befB]) (fun a ha => by have := ha.lt (unhide HQ).r; simp [befB]; omega) hex
      rw [← (unhide HRR).1] at hse
      have HF := hide (And.intro hiq (And.intro hX hfi))
      clear hX hok hex hfi hiq HZ
      go_wp2_with fail
      go_fit hse
      rintro e Y2 ⟨rfl, ⟨a, x3, hX3, hok3, hex3, hmin⟩, ho⟩
      have HO := hide ((unhide HO).trans ho)
      rw [← befB_succ] at hX3 hok3 hex3
      have HZ := hide (show ∃ z, RoX q Y2 S z (befB (i + 1)) z ∧ OkS q.p S q.T z (befB (i + 1)) ∧ (∃ y, Compl q.p S z (befB (i + 1)) y) ∧ First q.p S z (i + 1) from by
        refine ⟨x3, ⟨hX3.r, fun _ _ _ => rfl, hX3.m⟩, hok3.congr (unhide HQ).r hX3.a, ?_, fun y hy j hj hag => ?_⟩
        · obtain ⟨y, hy⟩ := hex3
          exact ⟨y, hX3.compl hy⟩
        · have e1 : ∀ k, k < i → x3 k = z k := fun k hk => by
            rw [hX3.a k (by have := (unhide HF).1; omega) (by simp [befB]; omega), upd_other _ _ (by omega)]
          by_cases e : j = i
          · subst e
            rw [hX3.a j (unhide HF).1 (by simp [befB]), upd_same]
            refine Nat.not_lt.1 fun hlt => hmin (y j) hlt y ⟨hy, fun k hk hbk => ?_⟩
            rw [← befB_succ] at hbk
            have hk2 : k < j + 1 := by simpa [befB] using hbk
            by_cases e2 : k = j
            · subst e2
              rw [upd_same]
            · rw [upd_other _ _ e2, hag k (by omega), e1 k (by omega)]
          · rw [e1 j (by omega)]
            exact (unhide HF).2.2 y hy j (by omega) fun k hk => by rw [hag k hk, e1 k (by omega)])
      clear hX3 hok3 hex3 hmin ho hse HF
      go_wp2
      go_roundg (n - (i + 1))
      case measure => omega
      case rel => exact ⟨i + 1, by omega, rfl, by go_num, HO, HZ⟩
    · obtain rfl : n = i := by omega
      clear hin hi hgk
      go_wp2
      go_ret
      obtain ⟨z, hX, hok, _, hfi⟩ := unhide HZ
      have e := (unhide HRR).2
      rw [e] at hX hok hfi
      exact ⟨⟨true, rfl, (fun _ => ⟨z, _, hX.r, hX.m, (hok.all (unhide HQ).r (fun i hi => ((unhide HQ).t i hi).1) (fun i hi => by simp [befB]; omega)).f, hfi⟩), fun h => by cases h⟩, unhide HO⟩
end Go.Proofs.YtgckgkllpkkpeaaDoor
