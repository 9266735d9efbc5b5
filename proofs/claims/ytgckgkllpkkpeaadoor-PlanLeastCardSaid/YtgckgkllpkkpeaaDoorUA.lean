/-
  Jobs: plans in memory, and whether one is right.
-/
import Derived.Test.YtgckgkllpkkpeaaDoorYM
namespace Go.Proofs.YtgckgkllpkkpeaaDoor
open Go.RowKit

/-- A job. -/
structure Jb where
  long : Int
  after : List Int
  uses : List Int
/-- A job's rows in memory. -/
structure JbM (w : World) (j : Jb) (a1 : Option Addr) (c1 : Nat) (a2 : Option Addr) (c2 : Nat) : Prop where
  r1 : Rows 1 JE w (.slice a1 j.after.length c1) j.after
  r2 : Rows 1 JE w (.slice a2 j.uses.length c2) j.uses
  k : I64 j.long
theorem JbM.later {w w' : World} {j : Jb} {a1 : Option Addr} {c1 : Nat} {a2 : Option Addr} {c2 : Nat} (h : JbM w j a1 c1 a2 c2) (hb : Below w.heap.size w w') : JbM w' j a1 c1 a2 c2 :=
  ⟨h.r1.later (JE.stays IsSl 0) hb, h.r2.later (JE.stays IsSl 0) hb, h.k⟩
/-- A job in its cells. -/
def JbE (w : World) (cs : List Value) (j : Jb) : Prop := ∃ a1 c1 a2 c2, cs = [.int .i64 j.long, .slice a1 j.after.length c1, .slice a2 j.uses.length c2] ∧ JbM w j a1 c1 a2 c2
theorem JbE.later {w w' : World} {cs : List Value} {j : Jb} (h : JbE w cs j) (hb : Below w.heap.size w w') : JbE w' cs j := by
  obtain ⟨a1, c1, a2, c2, h1, h2⟩ := h
  exact ⟨a1, c1, a2, c2, h1, h2.later hb⟩
/-- A plan. -/
structure Pl where
  jobs : List Jb
  caps : List Int
structure PlM (w : World) (p : Pl) (ja : Option Addr) (jc : Nat) (ca : Option Addr) (cc : Nat) : Prop where
  j : Rows 3 JbE w (.slice ja p.jobs.length jc) p.jobs
  c : Rows 1 JE w (.slice ca p.caps.length cc) p.caps
theorem PlM.later {w w' : World} {p : Pl} {ja : Option Addr} {jc : Nat} {ca : Option Addr} {cc : Nat} (h : PlM w p ja jc ca cc) (hb : Below w.heap.size w w') : PlM w' p ja jc ca cc :=
  ⟨h.j.on (fun _ _ h => h.later hb) hb, h.c.later (JE.stays IsSl 0) hb⟩
/-- A plan as a value. -/
def PlV (w : World) (v : Value) (p : Pl) : Prop := ∃ ja jc ca cc, v = .agg #[.slice ja p.jobs.length jc, .slice ca p.caps.length cc] ∧ PlM w p ja jc ca cc
/-- The cells of a job of a plan. -/
theorem Rows.job {w : World} {a : Option Addr} {n c i : Nat} {L : List Jb} {x : Jb} (h : Rows 3 JbE w (.slice a n c) L) (hx : L[i]? = some x) : ∃ b o a1 c1 a2 c2, a = some ⟨b, o, none⟩ ∧ (w.cell? ⟨b, o + i * 3, none⟩ = some (.int .i64 x.long) ∧ w.cell? ⟨b, o + i * 3 + 1, none⟩ = some (.slice a1 x.after.length c1) ∧ w.cell? ⟨b, o + i * 3 + 2, none⟩ = some (.slice a2 x.uses.length c2)) ∧ JbM w x a1 c1 a2 c2 := by
  obtain ⟨b, o, rfl, cs, _, hcs, a1, c1, a2, c2, rfl, hM⟩ := h.at hx
  exact ⟨b, o, a1, c1, a2, c2, rfl, ⟨by simpa using hcs 0 _ rfl, hcs 1 _ rfl, hcs 2 _ rfl⟩, hM⟩
/-- What is used of each kind is not from 0 to its cap. -/
def overU (uses caps : List Int) : Prop := ∃ (k : Nat) (u c : Int), uses[k]? = some u ∧ caps[k]? = some c ∧ (u < 0 ∨ c < u)
open Classical in
/-- What is wrong with the i-th job. -/
noncomputable def jobV (caps : List Int) (i : Nat) (j : Jb) : Int :=
  if j.long < 0 ∨ 30 < j.long ∨ 7 < j.after.length then 2
  else if j.uses.length ≠ caps.length then 4
  else if overU j.uses caps then 4
  else if (∃ a ∈ j.after, a < 0 ∨ (i : Int) ≤ a) then 4
  else 0
noncomputable def goJ (caps : List Int) : Nat → List Jb → Int
  | _, [] => 0
  | i, j :: t => if jobV caps i j = 0 then goJ caps (i + 1) t else jobV caps i j
def longs (l : List Jb) : Int := l.foldl (fun s j => s + j.long) 0
theorem longs_snoc (l : List Jb) (j : Jb) : longs (l ++ [j]) = longs l + j.long := by simp [longs]
open Classical in
/-- What is wrong with a plan. -/
noncomputable def plvalid (p : Pl) : Int :=
  if 7 < p.jobs.length ∨ 7 < p.caps.length then 2
  else if (∃ c ∈ p.caps, c < 0 ∨ 100000000 < c) then 2
  else if goJ p.caps 0 p.jobs ≠ 0 then goJ p.caps 0 p.jobs
  else if 30 < longs p.jobs then 2
  else 0
theorem goJ_hit {caps : List Int} : ∀ {l : List Jb} {n i : Nat} {x : Jb}, (∀ k j, k < i → l[k]? = some j → jobV caps (n + k) j = 0) → l[i]? = some x → jobV caps (n + i) x ≠ 0 → goJ caps n l = jobV caps (n + i) x
  | [], _, _, _, _, h, _ => by simp at h
  | j :: l, n, 0, x, _, hx, he => by
    obtain rfl : j = x := by simpa using hx
    rw [goJ, if_neg (by simpa using he), Nat.add_zero]
  | j :: l, n, i + 1, x, h, hx, he => by
    rw [goJ, if_pos (by simpa using h 0 j (by omega) rfl)]
    have := goJ_hit (caps := caps) (l := l) (n := n + 1) (i := i) (x := x) (fun k j' hk hj => by have := h (k + 1) j' (by omega) (by simpa using hj); rwa [show n + (k + 1) = n + 1 + k by omega] at this) (by simpa using hx) (by rwa [show n + (i + 1) = n + 1 + i by omega] at he)
    rw [this, show n + (i + 1) = n + 1 + i by omega]
theorem goJ_none {caps : List Int} : ∀ {l : List Jb} {n : Nat}, (∀ k j, l[k]? = some j → jobV caps (n + k) j = 0) → goJ caps n l = 0
  | [], _, _ => rfl
  | j :: l, n, h => by
    rw [goJ, if_pos (by simpa using h 0 j rfl)]
    exact goJ_none fun k j' hj => by have := h (k + 1) j' (by simpa using hj); rwa [show n + (k + 1) = n + 1 + k by omega] at this
theorem three_cells (w : World) (t : TypeId) (u0 u1 u2 : Value) : (w.alloc (.cells #[u0, u1, u2] t)).cell? ⟨w.heap.size, 0, none⟩ = some u0 ∧ (w.alloc (.cells #[u0, u1, u2] t)).cell? ⟨w.heap.size, 1, none⟩ = some u1 ∧ (w.alloc (.cells #[u0, u1, u2] t)).cell? ⟨w.heap.size, 2, none⟩ = some u2 := by
  refine ⟨?_, ?_, ?_⟩ <;> rw [new_cell rfl] <;> rfl
set_option maxHeartbeats 8000000 in
set_option maxRecDepth 8000 in
/-- PlanValid. -/
theorem rplvalid_any {v : Value} {p : Pl} (w : World) (h : PlV w v p) :
    Calls Tryd.prog 8 #[v] w fun e w' => e = .returned (.int .i64 (plvalid p)) ∧ Below w.heap.size w w' := by
  obtain ⟨ja, jc, ca, cc, rfl, hM⟩ := h
  obtain ⟨jobs, caps⟩ := p
  have kn := below_new w (.cells #[.slice ja jobs.length jc, .slice ca caps.length cc] 25)
  obtain ⟨p0, p1⟩ := two_new w 25 (.slice ja jobs.length jc) (.slice ca caps.length cc)
  have HM := hide (hM.later kn)
  have HK := hide kn
  have s1 : jobs.length ≤ 9223372036854775807 := by have := hM.j.small; unfold maxLen at this; omega
  have s2 : caps.length ≤ 9223372036854775807 := by have := hM.c.small; unfold maxLen at this; omega
  clear hM kn
  obtain ⟨nj, hnj⟩ : ∃ n, n = jobs.length := ⟨_, rfl⟩
  obtain ⟨nc, hnc⟩ : ∃ n, n = caps.length := ⟨_, rfl⟩
  rw [← hnj] at s1
  rw [← hnc] at s2
  obtain ⟨g, hg⟩ : ∃ X, X = w.heap.size := ⟨_, rfl⟩
  obtain ⟨W, hW⟩ : ∃ X, X = w.alloc (.cells #[.slice ja jobs.length jc, .slice ca caps.length cc] 25) := ⟨_, rfl⟩
  go_enter Tryd.func8, Tryd.ntmps8
  go_upto_region 1 with fail
  rw [← hW, ← hg]
  rw [← hW] at HM HK p0 p1
  rw [← hg] at p0 p1
  rw [← hnj] at p0
  rw [← hnc] at p1
  rw [← hnj, ← hnc]
  have HN := hide (And.intro hnj hnc)
  clear hW hg hnj hnc
  by_cases b1 : (7 : Int) < (nj : Int)
  · go_wp2
    go_ret
    refine ⟨?_, unhide HK⟩
    rw [plvalid, if_pos (Or.inl (by simp only; have := unhide HN; omega))]
    rfl
  by_cases b2 : (7 : Int) < (nc : Int)
  · go_wp2
    go_ret
    refine ⟨?_, unhide HK⟩
    rw [plvalid, if_pos (Or.inr (by simp only; have := unhide HN; omega))]
    rfl
  have HE1 := hide (show ¬ (7 < jobs.length ∨ 7 < caps.length) by have := unhide HN; omega)
  have n7 : nj ≤ 7 := by omega
  go_wp2_with fail
  go_loopg [3] nc (fun gk iv wr => ∃ i : Nat, i ≤ nc ∧ gk = nc - i ∧ iv = .int .i64 (i : Int) ∧ wr = W ∧ Hid (∀ c ∈ caps.take i, ¬ (c < 0 ∨ 100000000 < c)))
  case atStart => exact ⟨0, by omega, by omega, rfl, rfl, hide (by simp)⟩
  case round =>
    obtain ⟨i, hi, hgk, rfl, rfl, HA⟩ := hrel
    by_cases hin : i < nc
    · obtain ⟨x, hx⟩ : ∃ x, caps[i]? = some x := ⟨caps[i]'(by have := unhide HN; omega), by simp⟩
      obtain ⟨b, o, rfl, c0, _⟩ := (unhide HM).c.int hx
      have HX := hide hx
      have hin' : (i : Int) < (nc : Int) := by omega
      clear hx
      by_cases hz : x < 0
      · go_wp2
        go_ret
        refine ⟨?_, unhide HK⟩
        rw [plvalid, if_neg (unhide HE1), if_pos ⟨x, List.mem_of_getElem? (unhide HX), Or.inl hz⟩]
        rfl
      by_cases hz2 : 100000000 < x
      · go_wp2
        go_ret
        refine ⟨?_, unhide HK⟩
        rw [plvalid, if_neg (unhide HE1), if_pos ⟨x, List.mem_of_getElem? (unhide HX), Or.inr hz2⟩]
        rfl
      go_wp2
      go_roundg (nc - (i + 1))
      case measure => omega
      case rel => exact ⟨i + 1, by omega, rfl, by go_num, rfl, hide (by rw [take_next (unhide HX)]; intro y hy; rcases List.mem_append.1 hy with h | h; exact unhide HA y h; simp at h; rw [h]; omega)⟩
    · obtain rfl : nc = i := by omega
      have hA := unhide HA
      rw [show caps.take nc = caps from by rw [(unhide HN).2, List.take_length]] at hA
      have HE2 := hide (show ¬ ∃ c ∈ caps, c < 0 ∨ 100000000 < c from fun ⟨c, h1, h2⟩ => hA c h1 h2)
      clear hin hi hgk hA HA
      go_wp2_with fail
      obtain ⟨V, rfl⟩ : ∃ X, X = wr := ⟨_, rfl⟩
      go_loopg [4, 5] nj (fun gk av iv wr => ∃ (i : Nat) (a : Int), i ≤ nj ∧ gk = nj - i ∧ av = .int .i64 a ∧ iv = .int .i64 (i : Int) ∧ Hid (Below V.heap.size V wr) ∧ Hid ((∀ k j, k < i → jobs[k]? = some j → jobV caps k j = 0) ∧ a = longs (jobs.take i) ∧ 0 ≤ a ∧ a ≤ 30 * (i : Int)))
      case atStart => exact ⟨0, 0, by omega, by omega, rfl, rfl, hide (Below.refl _ _), hide ⟨by intro k j hk; omega, by simp [longs], by decide, by decide⟩⟩
      case round =>
        obtain ⟨i, a, hi, hgk, rfl, rfl, HB, HA⟩ := hrel
        have q0 := cell_keep (unhide HB) p0
        have q1 := cell_keep (unhide HB) p1
        by_cases hin : i < nj
        · obtain ⟨j, hj⟩ : ∃ y, jobs[i]? = some y := ⟨jobs[i]'(by have := unhide HN; omega), by simp⟩
          obtain ⟨b, o, a1, c1, a2, c2, rfl, ⟨d0, d1, d2⟩, hjm⟩ := (unhide HM).j.job hj
          obtain ⟨long, after, uses⟩ := j
          simp only at d0 d1 d2
          have d0 := cell_keep (unhide HB) d0
          have d1 := cell_keep (unhide HB) d1
          have d2 := cell_keep (unhide HB) d2
          obtain ⟨k0, k1, k2⟩ := three_cells wr 50 (.int .i64 long) (.slice a1 after.length c1) (.slice a2 uses.length c2)
          have kn := below_new wr (.cells #[.int .i64 long, .slice a1 after.length c1, .slice a2 uses.length c2] 50)
          have HB := hide (below_keep kn (unhide HB))
          have HJM := hide (hjm.later (unhide HB))
          have HJ := hide hj
          have hin' : (i : Int) < (nj : Int) := by omega
          have HGI := hide (And.intro hgk (And.intro hi hin))
          have s5 : after.length ≤ 9223372036854775807 := by have := hjm.r1.small; unfold maxLen at this; omega
          have s6 : uses.length ≤ 9223372036854775807 := by have := hjm.r2.small; unfold maxLen at this; omega
          have HHIT := hide (show jobV caps i ⟨long, after, uses⟩ ≠ 0 → plvalid ⟨jobs, caps⟩ = jobV caps i ⟨long, after, uses⟩ from fun hne => by
            have hg := goJ_hit (caps := caps) (l := jobs) (n := 0) (i := i) (fun k j' hk hj' => by rw [Nat.zero_add]; exact (unhide HA).1 k j' hk hj') hj (by rw [Nat.zero_add]; exact hne)
            rw [Nat.zero_add] at hg
            rw [plvalid, if_neg (unhide HE1), if_neg (unhide HE2), if_pos (by simp only; rw [hg]; exact hne)]
            exact hg)
          clear hj hjm hgk hi hin kn
          go_upto_region 13 with fail
          obtain ⟨g2, hg2⟩ : ∃ X, X = wr.heap.size := ⟨_, rfl⟩
          obtain ⟨V2, hV2⟩ : ∃ X, X = wr.alloc (.cells #[.int .i64 long, .slice a1 after.length c1, .slice a2 uses.length c2] 50) := ⟨_, rfl⟩
          rw [← hV2] at HB HJM k0 k1 k2 ⊢
          rw [← hg2] at k0 k1 k2 ⊢
          clear hV2 hg2 d0 d1 d2 q0 q1
          have q0 := cell_keep (unhide HB) p0
          have q1 := cell_keep (unhide HB) p1
          by_cases e1 : long < 0
          · go_wp2
            go_ret
            refine ⟨?_, below_keep (unhide HB) (unhide HK)⟩
            have hv : jobV caps i ⟨long, after, uses⟩ = 2 := by rw [jobV, if_pos (Or.inl e1)]
            rw [unhide HHIT (by rw [hv]; decide), hv]
            rfl
          by_cases e2 : 30 < long
          · go_wp2
            go_ret
            refine ⟨?_, below_keep (unhide HB) (unhide HK)⟩
            have hv : jobV caps i ⟨long, after, uses⟩ = 2 := by rw [jobV, if_pos (Or.inr (Or.inl e2))]
            rw [unhide HHIT (by rw [hv]; decide), hv]
            rfl
          by_cases e3 : (7 : Int) < (after.length : Int)
          · go_wp2
            go_ret
            refine ⟨?_, below_keep (unhide HB) (unhide HK)⟩
            have hv : jobV caps i ⟨long, after, uses⟩ = 2 := by rw [jobV, if_pos (Or.inr (Or.inr (by simp only; omega)))]
            rw [unhide HHIT (by rw [hv]; decide), hv]
            rfl
          have HF1 := hide (show ¬ (long < 0 ∨ 30 < long ∨ 7 < after.length) by omega)
          by_cases e4 : uses.length = nc
          rotate_left
          · have e4' : ((uses.length : Int) != (nc : Int)) = true := by simp; omega
            go_wp2
            go_ret
            refine ⟨?_, below_keep (unhide HB) (unhide HK)⟩
            have hv : jobV caps i ⟨long, after, uses⟩ = 4 := by rw [jobV, if_neg (unhide HF1), if_pos (by simp only; rw [← (unhide HN).2]; exact e4)]
            rw [unhide HHIT (by rw [hv]; decide), hv]
            rfl
          have e4' : ((uses.length : Int) != (nc : Int)) = false := by simp; omega
          have HF2 := hide (show ¬ (uses.length ≠ caps.length) by rw [← (unhide HN).2]; omega)
          have HE4 := hide e4
          obtain ⟨nu, hnu⟩ : ∃ n, n = uses.length := ⟨_, rfl⟩
          obtain ⟨na, hna⟩ : ∃ n, n = after.length := ⟨_, rfl⟩
          rw [← hnu] at k2 s6 e4' HE4 ⊢
          rw [← hna] at k1 s5 e3 ⊢
          have HNU := hide (And.intro hnu hna)
          clear e4 hnu hna
          go_wp2_with fail
          go_loopg [7] nc (fun gk kv wr => ∃ k : Nat, k ≤ nc ∧ gk = nc - k ∧ kv = .int .i64 (k : Int) ∧ Hid (Below V2.heap.size V2 wr) ∧ Hid (∀ (k' : Nat) (u c : Int), k' < k → uses[k']? = some u → caps[k']? = some c → ¬ (u < 0 ∨ c < u)))
          case atStart => exact ⟨0, by omega, by omega, rfl, hide (Below.refl _ _), hide (by intro k' u c hk; omega)⟩
          case round =>
            obtain ⟨k, hk, hgk, rfl, HB2, HS⟩ := hrel
            have q1 := cell_keep (unhide HB2) q1
            have k2 := cell_keep (unhide HB2) k2
            by_cases hkn : k < nc
            · obtain ⟨u, hu⟩ : ∃ x, uses[k]? = some x := ⟨uses[k]'(by have := unhide HNU; have := unhide HE4; omega), by simp⟩
              obtain ⟨c, hc⟩ : ∃ x, caps[k]? = some x := ⟨caps[k]'(by have := unhide HN; omega), by simp⟩
              obtain ⟨b1, o1, rfl, f0, _⟩ := (unhide HJM).r2.int hu
              obtain ⟨b2, o2, rfl, f1, _⟩ := (unhide HM).c.int hc
              have f0 := cell_keep (unhide HB2) f0
              have f1 := cell_keep (unhide HB2) (cell_keep (unhide HB) f1)
              have HUC := hide (And.intro hu hc)
              have hkn' : (k : Int) < (nc : Int) := by omega
              have hkn2 : (k : Int) < (nu : Int) := by have := unhide HE4; omega
              have HOV := hide (show (u < 0 ∨ c < u) → plvalid ⟨jobs, caps⟩ = 4 from fun h => by
                have hv : jobV caps i ⟨long, after, uses⟩ = 4 := by rw [jobV, if_neg (unhide HF1), if_neg (unhide HF2), if_pos ⟨k, u, c, hu, hc, h⟩]
                rw [unhide HHIT (by rw [hv]; decide), hv])
              clear hu hc
              go_upto_region 20 with fail
              by_cases hz : u < 0
              · have hd : decide (u < 0) = true := decide_eq_true hz
                go_quiet (fail)
                have HB' := hide (below_drewN (unhide HB2) nq)
                go_wp2
                go_ret
                refine ⟨?_, below_keep (below_keep (unhide HB') (unhide HB)) (unhide HK)⟩
                rw [unhide HOV (Or.inl hz)]
                rfl
              · have hd : decide (u < 0) = false := decide_eq_false hz
                by_cases hz2 : c < u
                · go_quiet (fail)
                  have HB' := hide (below_drewN (unhide HB2) nq)
                  go_wp2
                  go_ret
                  refine ⟨?_, below_keep (below_keep (unhide HB') (unhide HB)) (unhide HK)⟩
                  rw [unhide HOV (Or.inr hz2)]
                  rfl
                · go_quiet (fail)
                  have HB' := hide (below_drewN (unhide HB2) nq)
                  go_wp2
                  go_roundg (nc - (k + 1))
                  case measure => omega
                  case rel => exact ⟨k + 1, by omega, rfl, by go_num, HB', hide (by
                    intro k' u' c' hk' h1 h2
                    by_cases e : k' = k
                    · subst e
                      rw [(unhide HUC).1] at h1
                      rw [(unhide HUC).2] at h2
                      obtain rfl : u = u' := by simpa using h1
                      obtain rfl : c = c' := by simpa using h2
                      omega
                    · exact unhide HS k' u' c' (by omega) h1 h2)⟩
            · obtain rfl : nc = k := by omega
              have HF3 := hide (show ¬ overU uses caps from fun ⟨k', u, c, h1, h2, h3⟩ => unhide HS k' u c (by have := (List.getElem?_eq_some_iff.1 h2).1; have := unhide HN; omega) h1 h2 h3)
              clear hkn hk hgk HS
              go_wp2_with fail
              obtain ⟨V3, rfl⟩ : ∃ X, X = wr := ⟨_, rfl⟩
              go_loopg [8] na (fun gk kv wr => ∃ k : Nat, k ≤ na ∧ gk = na - k ∧ kv = .int .i64 (k : Int) ∧ wr = V3 ∧ Hid (∀ a ∈ after.take k, ¬ (a < 0 ∨ (i : Int) ≤ a)))
              case atStart => exact ⟨0, by omega, by omega, rfl, rfl, hide (by simp)⟩
              case round =>
                obtain ⟨k, hk, hgk, rfl, rfl, HS⟩ := hrel
                have k1 := cell_keep (unhide HB2) k1
                have k0 := cell_keep (unhide HB2) k0
                by_cases hkn : k < na
                · obtain ⟨x, hx⟩ : ∃ x, after[k]? = some x := ⟨after[k]'(by have := unhide HNU; omega), by simp⟩
                  obtain ⟨b1, o1, rfl, f0, _⟩ := (unhide HJM).r1.int hx
                  have f0 := cell_keep (unhide HB2) f0
                  have HX := hide hx
                  have hkn' : (k : Int) < (na : Int) := by omega
                  have HOV := hide (show (x < 0 ∨ (i : Int) ≤ x) → plvalid ⟨jobs, caps⟩ = 4 from fun h => by
                    have hv : jobV caps i ⟨long, after, uses⟩ = 4 := by rw [jobV, if_neg (unhide HF1), if_neg (unhide HF2), if_neg (unhide HF3), if_pos ⟨x, List.mem_of_getElem? hx, h⟩]
                    rw [unhide HHIT (by rw [hv]; decide), hv])
                  clear hx
                  by_cases hz : x < 0
                  · go_wp2
                    go_ret
                    refine ⟨?_, below_keep (below_keep (unhide HB2) (unhide HB)) (unhide HK)⟩
                    rw [unhide HOV (Or.inl hz)]
                    rfl
                  by_cases hz2 : (i : Int) ≤ x
                  · go_wp2
                    go_ret
                    refine ⟨?_, below_keep (below_keep (unhide HB2) (unhide HB)) (unhide HK)⟩
                    rw [unhide HOV (Or.inr hz2)]
                    rfl
                  go_wp2
                  go_roundg (na - (k + 1))
                  case measure => omega
                  case rel => exact ⟨k + 1, by omega, rfl, by go_num, rfl, hide (by rw [take_next (unhide HX)]; intro y hy; rcases List.mem_append.1 hy with h | h; exact unhide HS y h; simp at h; rw [h]; omega)⟩
                · obtain rfl : na = k := by omega
                  have hS := unhide HS
                  rw [show after.take na = after from by rw [(unhide HNU).2, List.take_length]] at hS
                  have HV0 := hide (show jobV caps i ⟨long, after, uses⟩ = 0 by rw [jobV, if_neg (unhide HF1), if_neg (unhide HF2), if_neg (unhide HF3), if_neg (fun ⟨a, h1, h2⟩ => hS a h1 h2)])
                  obtain ⟨hgk2, hi, hin⟩ := unhide HGI
                  have hA := unhide HA
                  have hl30 : 0 ≤ long ∧ long ≤ 30 := by have := unhide HF1; omega
                  have ew : wrap64 (a + long) = a + long := by unfold wrap64; omega
                  have HL30 := hide hl30
                  clear hS HS hkn hk hgk hA hl30
                  go_wp2
                  go_roundg (nj - (i + 1))
                  case measure => omega
                  case rel => exact ⟨i + 1, a + long, by omega, rfl, (by first | rfl | rw [ew]), by go_num, hide (below_keep (unhide HB2) (unhide HB)), hide ⟨by
                      intro k' j' hk' hj'
                      by_cases e : k' = i
                      · subst e
                        rw [unhide HJ] at hj'
                        obtain rfl := Option.some.inj hj'
                        exact unhide HV0
                      · exact (unhide HA).1 k' j' (by omega) hj', by rw [take_next (unhide HJ), longs_snoc, ← (unhide HA).2.1], by have := unhide HA; have := unhide HL30; omega, by have := unhide HA; have := unhide HL30; omega⟩⟩
        · obtain rfl : nj = i := by omega
          have hA := unhide HA
          have hg : goJ caps 0 jobs = 0 := goJ_none fun k j hj => by rw [Nat.zero_add]; exact hA.1 k j (by have := (List.getElem?_eq_some_iff.1 hj).1; have := unhide HN; omega) hj
          have hlo : a = longs jobs := by rw [hA.2.1, show jobs.take nj = jobs from by rw [(unhide HN).1, List.take_length]]
          have HEND := hide (show plvalid ⟨jobs, caps⟩ = if 30 < a then 2 else 0 by rw [plvalid, if_neg (unhide HE1), if_neg (unhide HE2), if_neg (by simp only; rw [hg]; simp), hlo])
          clear hin hi hgk hA HA hg hlo
          by_cases e9 : 30 < a
          · go_wp2
            go_ret
            refine ⟨?_, below_keep (unhide HB) (unhide HK)⟩
            rw [unhide HEND, if_pos e9]
            rfl
          · go_wp2
            go_ret
            refine ⟨?_, below_keep (unhide HB) (unhide HK)⟩
            rw [unhide HEND, if_neg (by omega)]
            rfl
end Go.Proofs.YtgckgkllpkkpeaaDoor
