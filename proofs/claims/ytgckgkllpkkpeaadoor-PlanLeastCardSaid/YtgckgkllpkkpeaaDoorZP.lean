/-
  Jobs: the program's Least.
-/
import Derived.Test.YtgckgkllpkkpeaaDoorZO
import Derived.Test.YtgckgkllpkkpeaaDoorZF
import Derived.Test.YtgckgkllpkkpeaaDoorUK
import Derived.Test.YtgckgkllpkkpeaaDoorUN
namespace Go.Proofs.YtgckgkllpkkpeaaDoor
open Go.RowKit

theorem rows_xl {p : Pl} {w : World} {B : Nat} {z : Nat → Nat} (n7 : p.jobs.length ≤ 7) (hz : ∀ i, i < p.jobs.length → z i ≤ 100) (h : ∀ i, i < p.jobs.length → w.cell? ⟨B, i, none⟩ = some (.int .i64 (z i : Int))) : Rows 1 JE w (.slice (some ⟨B, 0, none⟩) p.jobs.length p.jobs.length) (xl p z) := by
  refine ⟨_, p.jobs.length, by rw [xl_len], by rw [xl_len]; exact Nat.le_refl _, by unfold maxLen; omega, Or.inr ⟨B, 0, rfl, fun i y hy => ?_⟩⟩
  have hi : i < p.jobs.length := by have := (List.getElem?_eq_some_iff.1 hy).1; rwa [xl_len] at this
  rw [xl_at hi] at hy
  obtain rfl := Option.some.inj hy
  have := hz i hi
  refine ⟨[.int .i64 (z i : Int)], rfl, fun j v hv => ?_, rfl, by omega, by omega⟩
  rcases j with _ | j
  · obtain rfl : _ = v := by simpa using hv
    rw [show 0 + (i * 1 + 0) = i by omega]
    exact h i hi
  · simp at hv
set_option maxRecDepth 100000 in
/-- copy of the starts. -/
theorem copy_run {q : Rq} {S : Nat} {z : Nat → Nat} {b : Nat → Bool} {u : Nat → Nat → Int} {W : World} (h : Ros q W S z b u) :
    ∃ Y, (∀ ty, (Builtin.copy_ #[23, 23] ty #[.slice (some ⟨W.heap.size, 0, none⟩) q.p.jobs.length q.p.jobs.length, .slice (some ⟨q.RS, 0, none⟩) q.p.jobs.length q.p.jobs.length]).run Tryd.prog (W.alloc (.cells (madeCells #[.int .i64 0] q.p.jobs.length) 3)) = .ok (.int .i64 (q.p.jobs.length : Int)) Y) ∧ Below W.heap.size W Y ∧ ∀ i, i < q.p.jobs.length → Y.cell? ⟨W.heap.size, i, none⟩ = some (.int .i64 (z i : Int)) := by
  have kn := below_new W (.cells (madeCells #[.int .i64 0] q.p.jobs.length) 3)
  obtain ⟨X, hX⟩ : ∃ X, X = W.alloc (.cells (madeCells #[.int .i64 0] q.p.jobs.length) 3) := ⟨_, rfl⟩
  rw [← hX] at kn ⊢
  have hbl : X.heap[W.heap.size]? = some (.cells (madeCells #[.int .i64 0] q.p.jobs.length) 3) := by rw [hX]; exact heap_alloc_new _ _
  obtain ⟨cs, hcs⟩ : ∃ cs : List Value, cs = (List.range q.p.jobs.length).map fun i => Value.int .i64 (z i : Int) := ⟨_, rfl⟩
  have hl : cs.length = q.p.jobs.length := by rw [hcs]; simp
  have hat : ∀ j v, cs[j]? = some v → j < q.p.jobs.length ∧ v = .int .i64 (z j : Int) := fun j v hv => by
    have hj : j < q.p.jobs.length := by have := (List.getElem?_eq_some_iff.1 hv).1; omega
    rw [hcs] at hv
    simp [hj] at hv
    exact ⟨hj, hv.symm⟩
  have hin : ∀ j, j < cs.length → X.cell? ⟨W.heap.size, 0 + j, none⟩ = some (.int .i64 0) := fun j hj => by rw [Nat.zero_add]; exact made_cell hbl (by omega)
  refine ⟨X.setCells W.heap.size 0 cs, fun ty => ?_, ?_, fun i hi => ?_⟩
  · have h1 := run_copy_cells (P := Tryd.prog) X 23 23 ty 3 W.heap.size 0 q.p.jobs.length q.p.jobs.length ⟨q.RS, 0, none⟩ q.p.jobs.length q.p.jobs.length cs Tryd.underlying23 (by kernel_rfl) (by rw [hl]; simp) (fun j v hv => by
      obtain ⟨hj, rfl⟩ := hat j v hv
      rw [show (⟨q.RS, 0, none⟩ : Addr).add j = ⟨q.RS, j, none⟩ by unfold Addr.add; split <;> simp_all]
      exact cell_keep kn (h.cs j hj)) (fun j hj => by rw [hin j hj]; rfl) (fun j _ => blk_frz hbl) (fun v hv => by
      obtain ⟨j, hj⟩ := List.getElem?_of_mem hv
      obtain ⟨_, rfl⟩ := hat j v hj
      rfl)
    rw [hl] at h1
    exact h1
  · have hset : ∀ (vs : List Value) (o : Nat) (w : World), Below W.heap.size W w → Below W.heap.size W (w.setCells W.heap.size o vs) := by
      intro vs
      induction vs with
      | nil => intro o w hb; exact hb
      | cons v vs ih => intro o w hb; exact ih _ _ (hb.setCell (p := ⟨W.heap.size, o, none⟩) (Nat.le_refl _) _)
    exact hset cs 0 X kn
  · have hlt : i < cs.length := by omega
    have h2 := World.cell?_setCells_in W.heap.size cs 0 X (fun j hj => by rw [hin j hj]; rfl) i hlt
    rw [Nat.zero_add] at h2
    rw [h2, ← List.getElem?_eq_getElem hlt]
    rw [hcs]
    simp [hi]
set_option maxHeartbeats 8000000 in
set_option maxRecDepth 8000 in
/-- Least. -/
theorem least_any (A : Nat → Addr) : LeastL A := by
  intro w pv p hS hp hf
  obtain ⟨ja, jc, ca, cc, rfl, hM⟩ := hp
  obtain ⟨n, hnn⟩ : ∃ n, n = p.jobs.length := ⟨_, rfl⟩
  obtain ⟨nc, hnc⟩ : ∃ n, n = p.caps.length := ⟨_, rfl⟩
  have kn := below_new w (.cells #[.slice ja p.jobs.length jc, .slice ca p.caps.length cc] 25)
  obtain ⟨p0, p1⟩ := two_new w 25 (.slice ja p.jobs.length jc) (.slice ca p.caps.length cc)
  have HM := hide (hM.later kn)
  have HS := hide (hS.later kn)
  have HK := hide kn
  clear hM kn hS hf
  obtain ⟨g, hg⟩ : ∃ X, X = w.heap.size := ⟨_, rfl⟩
  obtain ⟨W, hW⟩ : ∃ X, X = w.alloc (.cells #[.slice ja n jc, .slice ca nc cc] 25) := ⟨_, rfl⟩
  rw [← hnn, ← hnc] at p0 p1 HM HS HK
  rw [← hW] at HM HS HK p0 p1
  rw [← hg] at p0 p1
  have HN := hide (And.intro hnn hnc)
  have HPV := hide (show PlV W (.agg #[.slice ja n jc, .slice ca nc cc]) p by rw [hnn, hnc]; exact ⟨ja, jc, ca, cc, rfl, unhide HM⟩)
  rw [show (Value.agg #[.slice ja p.jobs.length jc, .slice ca p.caps.length cc]) = .agg #[.slice ja n jc, .slice ca nc cc] by rw [hnn, hnc]]
  clear hnn hnc
  go_enter Tryd.func4, Tryd.ntmps4
  go_upto_region 1 with fail
  rw [← hW, ← hg]
  clear hW hg
  go_wp2_with fail
  go_fit (planvalid_any _ (unhide HS) (unhide HPV))
  rintro e W1 ⟨rfl, hb⟩
  have HK := hide (below_keep hb (unhide HK))
  have HM := hide ((unhide HM).later hb)
  have p0 := cell_keep hb p0
  have p1 := cell_keep hb p1
  clear hb HPV HS
  obtain ⟨e, he⟩ : ∃ e, e = plvalid p := ⟨_, rfl⟩
  rw [← he]
  have hcod := plvalid_codes p
  rw [← he] at hcod
  have HE := hide he.symm
  clear he
  rcases hcod with rfl | rfl | rfl
  rotate_left
  · rw [errL2]
    go_wp2
    go_ret3
    exact ⟨Or.inl ⟨by rw [unhide HE]; decide, by rw [unhide HE]; rfl⟩, unhide HK⟩
  · rw [errL4]
    go_wp2
    go_ret3
    exact ⟨Or.inl ⟨by rw [unhide HE]; decide, by rw [unhide HE]; rfl⟩, unhide HK⟩
  rw [errL0]
  have hR := plr_of (unhide HE)
  obtain ⟨S1, hS1, hts⟩ := least_ex (unhide HE)
  obtain ⟨y1, hy1⟩ := feas_of_try hR hts
  have hro := ros_any W1 (unhide HM) hR ⟨S1, y1, hS1, hy1⟩
  rw [← (unhide HN).1, ← (unhide HN).2] at hro
  have HEX := hide (And.intro hS1 hy1)
  have HR := hide hR
  clear hR hS1 hts hy1
  go_wp2_with fail
  go_fit hro
  rintro e W2 ⟨⟨q, S0, rfl, hw0, hqp, hqok, htl, hros, hlo⟩⟩
  subst hqp
  have e0 : (fun _ _ => 0 : Nat → Nat → Int) = useM q.p (fun _ => 0) noB := by funext m k; rw [useM_none]
  rw [e0] at hros
  have HQ := hide (And.intro hqok htl)
  have HLO := hide hlo
  have HW0 := hide hw0
  have hS0 : S0 ≤ 30 := Nat.le_trans (hlo S1 y1 (unhide HEX).2) (unhide HEX).1
  have HROS := hide hros
  obtain ⟨R, hRR⟩ : ∃ R, R = q.R := ⟨_, rfl⟩
  obtain ⟨RS, hRS⟩ : ∃ R, R = q.RS := ⟨_, rfl⟩
  rw [← hRR]
  have HRR := hide (And.intro hRR hRS)
  clear hro hqok htl hlo hw0 hros e0 hRR hRS p0 p1
  go_wp2_with fail
  go_loopg [17] (31 - S0) (fun gk _ wr => ∃ S : Nat, S ≤ 30 ∧ gk = 31 - S ∧ Hid (∃ x', Ros q wr S x' noB (useM q.p x' noB)) ∧ Hid (∀ S', S' < S → ∀ y, ¬ Feas q.p S' y))
  case atStart => exact ⟨S0, hS0, rfl, hide ⟨_, unhide HROS⟩, hide (fun S' h y hy => by have := unhide HLO S' y hy; omega)⟩
  case round =>
    obtain ⟨S, hS, hgk, HX, HNO⟩ := hrel
    obtain ⟨x', hx'⟩ := unhide HX
    have hfi := fill_any wr (unhide HQ).1 (unhide HQ).2 hS hx'
    rw [← (unhide HRR).1] at hfi
    clear hx' HX
    go_wp2_with fail
    go_fit hfi
    rintro e W3 ⟨⟨bb, rfl, hyes, hno⟩, ho⟩
    clear hfi
    cases bb
    · obtain ⟨hnf, x2, hx2⟩ := hno rfl
      have hS2 : S < 30 := by
        have h1 := unhide HEX
        refine Nat.lt_of_le_of_ne hS fun e => ?_
        by_cases e1 : S1 = S
        · subst e1
          exact hnf y1 h1.2
        · exact unhide HNO S1 (by omega) y1 h1.2
      have c3 := hx2.c3
      have f3 := hx2.fr 3
      rw [← (unhide HRR).1] at c3 f3
      have HX2 := hide (hx2.setN (unhide HQ).1 (S + 1))
      have HNF := hide hnf
      have ew : wrap64 ((S : Int) + 1) = ((S + 1 : Nat) : Int) := by unfold wrap64; omega
      clear hnf hx2 hyes hno ho
      go_wp2
      go_roundg (31 - (S + 1))
      case measure => omega
      case rel => exact ⟨S + 1, by omega, rfl, hide ⟨x2, by rw [(unhide HRR).1]; exact unhide HX2⟩, hide (fun S' h y hy => by
        by_cases e : S' = S
        · subst e
          exact unhide HNF y hy
        · exact unhide HNO S' (by omega) y hy)⟩
    · obtain ⟨z, b', hz, hz100, hfe, hfi⟩ := hyes rfl
      have n7 := (unhide HR).nj
      obtain ⟨Y, hcp, hbY, hcY⟩ := copy_run hz
      have c4 := hz.c4
      have c4' := cell_keep (below_new W3 (.cells (madeCells #[.int .i64 0] q.p.jobs.length) 3)) c4
      have c3 := cell_keep hbY hz.c3
      have hmk := run_make_n 23 3 (.int .i64 0) 8 Tryd.underlying23 (by kernel_rfl) q.p.jobs.length (by omega) (by omega) W3
      rw [Nat.mul_one] at hmk
      have HRW := hide (rows_xl n7 hz100 hcY)
      have HTRY := hide (show trySt q.p (S : Int) q.p.jobs.length [] = some (xl q.p z) from by
        have := first_try (unhide HR) hS hfe hfi q.p.jobs.length 0 (by omega)
        rwa [List.take_zero] at this)
      have HNONE := hide (show ∀ s' : Nat, s' < S → trySt q.p (s' : Int) q.p.jobs.length [] = none from fun s' h => feas_none (unhide HR) (unhide HNO s' h))
      have HBF := hide (below_keep hbY (below_keep (show Below W1.heap.size W1 W3 from by have := hz.bel; rw [unhide HW0] at this; exact this) (unhide HK)))
      rw [← (unhide HN).1] at hcp c4 c4' hmk HRW n7
      rw [← (unhide HRR).2] at hcp c4 c4'
      rw [← (unhide HRR).1] at c4 c4' c3
      clear hz hz100 hfe hfi hyes hno ho hbY hcY hgk
      go_upto_region 9 with fail
      clear hcp c4 c4' hmk
      go_quiet (fail)
      go_wp2
      go_ret3
      have hq := below_drewN (Below.refl Y.heap.size Y) nq
      exact ⟨Or.inr ⟨unhide HE, S, xl q.p z, _, rfl, hS, unhide HTRY, (unhide HRW).later (JE.stays IsSl 0) hq, unhide HNONE⟩, below_keep hq (unhide HBF)⟩
end Go.Proofs.YtgckgkllpkkpeaaDoor
