/-
  Puzzles: the program's isShaped.
-/
import Derived.Test.YthoppmbmmplkiaaGreatDoorVC
import Derived.Deep.CutBlock
namespace Go.Proofs.YthoppmbmmplkiaaGreatDoor
open Go.RowKit

/-- Whether a list is as long as it has to be. -/
def fitB (t : Bool) (n m : Nat) : Bool := if t then decide (n = m) else decide (n = 0)
/-- Whether a constraint has what its kind has. -/
def shapeT (good nums uses rows limit : Bool) (c : Cn) : Bool := good && (fitB nums c.nums.length c.vars.length && (fitB uses c.uses.length c.vars.length && ((rows || decide (c.rows.length = 0)) && (limit || decide (c.limit = 0)))))
theorem all_any {α : Type} (l : List α) (p q : α → Bool) (h : ∀ x, q x = !p x) : l.all q = !l.any p := by
  induction l with
  | nil => rfl
  | cons a l ih => rw [List.all_cons, List.any_cons, ih, h]; cases p a <;> rfl
theorem le_lt (x : Int) : decide (0 ≤ x) = !decide (x < 0) := by
  by_cases h : x < 0
  · rw [decide_eq_true h, decide_eq_false (by omega)]; rfl
  · rw [decide_eq_false h, decide_eq_true (by omega)]; rfl
theorem formed1 {c : Cn} (h : c.kind = 1) : formedC c = shapeT true false false false false c := by
  simp [formedC, h, shapeT, fitB, Bool.and_assoc]
theorem formed2 {c : Cn} (h : c.kind = 2) : formedC c = shapeT (!decide ((0 : Int) ∈ c.nums)) true false false true c := by
  rw [formedC, if_neg (by omega), if_pos h, show c.nums.all (fun x => decide (x ≠ 0)) = !decide ((0 : Int) ∈ c.nums) from ?_]
  · simp [shapeT, fitB, Bool.and_assoc]
  · rw [all_any c.nums (fun x => decide (x = 0)) _ (fun x => by simp), show c.nums.any (fun x => decide (x = 0)) = decide ((0 : Int) ∈ c.nums) from Bool.eq_iff_iff.2 (by simp)]
theorem formed3 {c : Cn} (h : c.kind = 3) : formedC c = shapeT (!c.rows.any (fun r => !decide (r.length = c.vars.length))) false false true false c := by
  rw [formedC, if_neg (by omega), if_neg (by omega), if_pos h, all_any c.rows (fun r => !decide (r.length = c.vars.length)) _ (fun x => by simp)]
  simp [shapeT, fitB, Bool.and_assoc]
theorem formed4 {c : Cn} (h : c.kind = 4) : formedC c = shapeT (decide ((2 : Int) ≤ (c.vars.length : Int))) false false false false c := by
  rw [formedC, if_neg (by omega), if_neg (by omega), if_neg (by omega), if_pos h, show decide ((2 : Int) ≤ (c.vars.length : Int)) = decide (2 ≤ c.vars.length) from decide_eq_decide.2 (by omega)]
  simp [shapeT, fitB, Bool.and_assoc]
theorem formed5 {c : Cn} (h : c.kind = 5) : formedC c = shapeT (decide (0 ≤ c.limit) && (!c.nums.any (fun x => decide (x < 0)) && !c.uses.any (fun x => decide (x < 0)))) true true false true c := by
  rw [formedC, if_neg (by omega), if_neg (by omega), if_neg (by omega), if_neg (by omega), if_pos h, all_any c.nums (fun x => decide (x < 0)) _ le_lt, all_any c.uses (fun x => decide (x < 0)) _ le_lt]
  simp only [shapeT, fitB, Bool.false_or, Bool.true_or, Bool.and_true, if_true]
  generalize decide (c.nums.length = c.vars.length) = b1
  generalize decide (c.uses.length = c.vars.length) = b2
  generalize decide (c.rows.length = 0) = b3
  generalize decide (0 ≤ c.limit) = b4
  generalize c.nums.any _ = b5
  generalize c.uses.any _ = b6
  cases b1 <;> cases b2 <;> cases b3 <;> cases b4 <;> cases b5 <;> cases b6 <;> rfl
theorem formed0 {c : Cn} (h1 : ¬ c.kind = 1) (h2 : ¬ c.kind = 2) (h3 : ¬ c.kind = 3) (h4 : ¬ c.kind = 4) (h5 : ¬ c.kind = 5) : formedC c = shapeT false false false false false c := by
  rw [formedC, if_neg h1, if_neg h2, if_neg h3, if_neg h4, if_neg h5]
  rfl
theorem shape_no (b1 b2 b3 b4 : Bool) (c : Cn) : shapeT false b1 b2 b3 b4 c = false := rfl
set_option maxHeartbeats 8000000 in
set_option maxRecDepth 8000 in
/-- isShaped. -/
theorem shaped_any {v : Value} {c : Cn} (w : World) (h : CnV w v c) : Calls Tryz.prog 32 #[v] w fun e w' => e = .returned (.bool (formedC c)) ∧ Below w.heap.size w w' := by
  obtain ⟨a1, c1, a2, c2, a3, c3, a4, c4, rfl, hM⟩ := h
  have kn := below_new w (.cells #[.int .i64 c.kind, .slice a1 c.vars.length c1, .slice a2 c.nums.length c2, .slice a3 c.uses.length c3, .int .i64 c.limit, .slice a4 c.rows.length c4] 46)
  have HB := hide (cnB_new w 46 hM)
  have HK := hide kn
  have s1 : c.vars.length ≤ 9223372036854775807 := by have := hM.r1.small; unfold maxLen at this; omega
  have s2 : c.nums.length ≤ 9223372036854775807 := by have := hM.r2.small; unfold maxLen at this; omega
  have s3 : c.uses.length ≤ 9223372036854775807 := by have := hM.r3.small; unfold maxLen at this; omega
  have s4 : c.rows.length ≤ 9223372036854775807 := by have := hM.r4.small; unfold maxLen at this; omega
  clear hM kn
  obtain ⟨g, hg⟩ : ∃ X, X = w.heap.size := ⟨_, rfl⟩
  obtain ⟨W, hW⟩ : ∃ X, X = w.alloc (.cells #[.int .i64 c.kind, .slice a1 c.vars.length c1, .slice a2 c.nums.length c2, .slice a3 c.uses.length c3, .int .i64 c.limit, .slice a4 c.rows.length c4] 46) := ⟨_, rfl⟩
  go_enter Tryz.func32, Tryz.ntmps32
  go_upto_region 1 with fail
  rw [← hW] at HB HK ⊢
  rw [← hg] at HB ⊢
  clear hW hg
  obtain ⟨k0, _⟩ := unhide HB
  obtain ⟨kd, hkd⟩ : ∃ k, k = c.kind := ⟨_, rfl⟩
  rw [← hkd] at k0
  have HD := hide hkd
  clear hkd
  go_upto_block 0 with fail
  go_cut [3, 4, 5, 6, 7] (fun v3 v4 v5 v6 v7 wx => (∃ b3 b4 b5 b6 b7 : Bool, v3 = .bool b3 ∧ v4 = .bool b4 ∧ v5 = .bool b5 ∧ v6 = .bool b6 ∧ v7 = .bool b7 ∧ Hid (formedC c = shapeT b7 b3 b4 b5 b6 c)) ∧ Hid (Below w.heap.size w wx) ∧ Hid (CnB wx g c a1 c1 a2 c2 a3 c3 a4 c4))
  case first =>
    by_cases e1 : kd = 1
    · subst e1
      go_wp2
      go_meet
      exact ⟨⟨_, _, _, _, _, rfl, rfl, rfl, rfl, rfl, hide (formed1 (unhide HD).symm)⟩, HK, HB⟩
    by_cases e2 : kd = 2
    · subst e2
      clear e1
      obtain ⟨_, _, k2, _⟩ := unhide HB
      go_wp2_with fail
      go_fit (con_any (x := 0) _ (unhide HB).m.r2)
      rintro e W1 ⟨rfl, rfl⟩
      go_wp2
      go_meet
      exact ⟨⟨_, _, _, _, _, rfl, rfl, rfl, rfl, rfl, hide (formed2 (unhide HD).symm)⟩, HK, HB⟩
    by_cases e3 : kd = 3
    · subst e3
      clear e1 e2
      obtain ⟨_, k1, _, _, _, k5, _⟩ := unhide HB
      go_wp2_with fail
      go_fit (hasR_any _ eg_shaped1 lastR (unhide HB).m.r4 (pred_shaped _ s1 k1))
      rintro e W1 ⟨rfl, hb⟩
      have HK := hide (below_keep hb (unhide HK))
      have HB := hide ((unhide HB).later hb)
      clear hb
      go_wp2
      go_meet
      exact ⟨⟨_, _, _, _, _, rfl, rfl, rfl, rfl, rfl, hide (formed3 (unhide HD).symm)⟩, HK, HB⟩
    by_cases e4 : kd = 4
    · subst e4
      clear e1 e2 e3
      obtain ⟨_, k1, _⟩ := unhide HB
      go_wp2
      go_meet
      exact ⟨⟨_, _, _, _, _, rfl, rfl, rfl, rfl, rfl, hide (formed4 (unhide HD).symm)⟩, HK, HB⟩
    by_cases e5 : kd = 5
    · subst e5
      clear e1 e2 e3 e4
      obtain ⟨_, _, k2, _, k4, _, _⟩ := unhide HB
      have HG := hide (formed5 (unhide HD).symm)
      cases hq : decide (0 ≤ c.limit)
      · rw [hq] at HG
        go_wp2
        go_meet
        exact ⟨⟨_, _, _, _, _, rfl, rfl, rfl, rfl, rfl, HG⟩, HK, HB⟩
      rw [hq] at HG
      go_wp2_with fail
      go_fit (hasI_any _ eg_bel lastJ (unhide HB).m.r2 (pred_bel _))
      rintro e W1 ⟨rfl, hb⟩
      have HK := hide (below_keep hb (unhide HK))
      have HB := hide ((unhide HB).later hb)
      clear hb k2 k4
      cases hq1 : c.nums.any (fun x => decide (x < 0))
      rotate_left
      · rw [hq1] at HG
        go_wp2
        go_meet
        exact ⟨⟨_, _, _, _, _, rfl, rfl, rfl, rfl, rfl, HG⟩, HK, HB⟩
      rw [hq1] at HG
      obtain ⟨_, _, _, k3, _, _, _⟩ := unhide HB
      go_wp2_with fail
      go_fit (hasI_any _ eg_bel lastJ (unhide HB).m.r3 (pred_bel _))
      rintro e W2 ⟨rfl, hb⟩
      have HK := hide (below_keep hb (unhide HK))
      have HB := hide ((unhide HB).later hb)
      clear hb k3
      go_wp2
      go_meet
      exact ⟨⟨_, _, _, _, _, rfl, rfl, rfl, rfl, rfl, HG⟩, HK, HB⟩
    have HG := hide (formed0 (c := c) (by have := unhide HD; omega) (by have := unhide HD; omega) (by have := unhide HD; omega) (by have := unhide HD; omega) (by have := unhide HD; omega))
    go_wp2
    go_meet
    exact ⟨⟨_, _, _, _, _, rfl, rfl, rfl, rfl, rfl, HG⟩, HK, HB⟩
  case rest =>
    obtain ⟨⟨b3, b4, b5, b6, b7, rfl, rfl, rfl, rfl, rfl, HG⟩, HK, HB⟩ := hcut
    obtain ⟨X, rfl⟩ : ∃ X, X = wc := ⟨_, rfl⟩
    obtain ⟨_, k1, k2, k3, k4, k5, _⟩ := unhide HB
    cases b7
    · go_wp2
      go_ret
      exact ⟨by rw [unhide HG, shape_no]; rfl, unhide HK⟩
    go_wp2_with fail
    go_fit (fits_any a2 a1 _ c2 _ c1 b3 s2 s1 _)
    rintro e W1 ⟨rfl, rfl⟩
    obtain ⟨q1, hq1⟩ : ∃ q, q = fitB b3 c.nums.length c.vars.length := ⟨_, rfl⟩
    rw [show (if b3 = true then decide (c.nums.length = c.vars.length) else decide (c.nums.length = 0)) = q1 from hq1.symm]
    have HQ1 := hide hq1
    clear hq1
    cases q1
    · go_wp2
      go_ret
      exact ⟨by rw [unhide HG, shapeT, ← unhide HQ1]; rfl, unhide HK⟩
    go_wp2_with fail
    go_fit (fits_any a3 a1 _ c3 _ c1 b4 s3 s1 _)
    rintro e W1 ⟨rfl, rfl⟩
    obtain ⟨q2, hq2⟩ : ∃ q, q = fitB b4 c.uses.length c.vars.length := ⟨_, rfl⟩
    rw [show (if b4 = true then decide (c.uses.length = c.vars.length) else decide (c.uses.length = 0)) = q2 from hq2.symm]
    have HQ2 := hide hq2
    clear hq2
    cases q2
    · go_wp2
      go_ret
      exact ⟨by rw [unhide HG, shapeT, ← unhide HQ1, ← unhide HQ2]; rfl, unhide HK⟩
    have HS := hide (show formedC c = ((b5 || decide (c.rows.length = 0)) && (b6 || decide (c.limit = 0))) by rw [unhide HG, shapeT, ← unhide HQ1, ← unhide HQ2]; rfl)
    clear HG HQ1 HQ2
    obtain ⟨lim, hlim⟩ : ∃ x, x = c.limit := ⟨_, rfl⟩
    rw [← hlim] at HS k4
    clear hlim
    obtain ⟨nr, hnr⟩ : ∃ x, x = c.rows.length := ⟨_, rfl⟩
    rw [← hnr] at HS k5 s4
    clear hnr
    have HL := hide (show (lim == 0) = decide (lim = 0) from by by_cases h : lim = 0 <;> simp [h])
    cases b5
    · by_cases hr : nr = 0
      · subst hr
        cases b6
        · go_wp2
          go_ret
          exact ⟨by rw [unhide HS, ← unhide HL]; simp, unhide HK⟩
        · go_wp2
          go_ret
          exact ⟨by rw [unhide HS]; rfl, unhide HK⟩
      · have hr' : ((nr : Int) == 0) = false := by simp; omega
        have HR := hide (decide_eq_false hr)
        clear hr
        go_wp2
        go_ret
        exact ⟨by rw [unhide HS, unhide HR]; rfl, unhide HK⟩
    · cases b6
      · go_wp2
        go_ret
        exact ⟨by rw [unhide HS, ← unhide HL]; rfl, unhide HK⟩
      · go_wp2
        go_ret
        exact ⟨by rw [unhide HS]; rfl, unhide HK⟩
end Go.Proofs.YthoppmbmmplkiaaGreatDoor
