/-
  Jobs: the law PlanLeast, over what the program's Least answers of small plans.
-/
import Derived.Test.YtgckgkllpkkpeaaDoorUG
import Derived.Test.YtgckgkllpkkpeaaDoorUJ
namespace Go.Proofs.YtgckgkllpkkpeaaDoor
open Go.RowKit

set_option maxHeartbeats 4000000 in
set_option maxRecDepth 8000 in
/-- sameInts. -/
theorem same_any {v1 v2 : Value} {l1 l2 : List Int} (w : World) (h1 : Rows 1 JE w v1 l1) (h2 : Rows 1 JE w v2 l2) : Calls Tryd.prog 6 #[v1, v2] w fun e w' => e = .returned (.bool (decide (l1 = l2))) ∧ Below w.heap.size w w' := by
  obtain ⟨a1, c1, rfl⟩ := h1.shape
  obtain ⟨a2, c2, rfl⟩ := h2.shape
  have H1 := hide h1
  have H2 := hide h2
  have s1 : l1.length ≤ 9223372036854775807 := by have := h1.small; unfold maxLen at this; omega
  have s2 : l2.length ≤ 9223372036854775807 := by have := h2.small; unfold maxLen at this; omega
  clear h1 h2
  obtain ⟨n, hn⟩ : ∃ n, n = l1.length := ⟨_, rfl⟩
  obtain ⟨m, hm⟩ : ∃ n, n = l2.length := ⟨_, rfl⟩
  rw [← hn] at s1 H1 ⊢
  rw [← hm] at s2 H2 ⊢
  have HN := hide (And.intro hn hm)
  clear hn hm
  go_enter Tryd.func6, Tryd.ntmps6
  by_cases hnm : n = m
  rotate_left
  · have hne : ((n : Int) != (m : Int)) = true := by simp; omega
    have HD := hide (decide_eq_false (show ¬ l1 = l2 from fun e => hnm (by have := unhide HN; rw [this.1, this.2, e])))
    clear hnm
    go_wp2
    go_ret
    exact ⟨by rw [unhide HD]; rfl, Below.refl _ _⟩
  subst hnm
  go_wp2_with fail
  go_loopg [5] n (fun gk iv wr => ∃ i : Nat, i ≤ n ∧ gk = n - i ∧ iv = .int .i64 (i : Int) ∧ Hid (Below w.heap.size w wr) ∧ Hid (l1.take i = l2.take i))
  case atStart => exact ⟨0, by omega, by omega, rfl, hide (Below.refl _ _), hide rfl⟩
  case round =>
    obtain ⟨i, hi, hgk, rfl, HB, HA⟩ := hrel
    by_cases hin : i < n
    · obtain ⟨x, hx⟩ : ∃ x, l1[i]? = some x := ⟨l1[i]'(by have := unhide HN; omega), by simp⟩
      obtain ⟨y, hy⟩ : ∃ x, l2[i]? = some x := ⟨l2[i]'(by have := unhide HN; omega), by simp⟩
      obtain ⟨b, o, rfl, d0, _⟩ := (unhide H1).int hx
      obtain ⟨b', o', rfl, d1, _⟩ := (unhide H2).int hy
      have d0 := cell_keep (unhide HB) d0
      have d1 := cell_keep (unhide HB) d1
      have hin' : (i : Int) < (n : Int) := by omega
      have HX := hide (And.intro hx hy)
      clear hx hy
      go_upto_region 6 with fail
      by_cases hz : x = y
      · subst hz
        have hz' : (x != x) = false := by simp
        go_quiet (fail)
        have HB' := hide (below_drewN (unhide HB) nq)
        go_wp2
        go_roundg (n - (i + 1))
        case measure => omega
        case rel => exact ⟨i + 1, by omega, rfl, by go_num, HB', hide (by rw [take_next (unhide HX).1, take_next (unhide HX).2, unhide HA])⟩
      · have hz' : (x != y) = true := by simpa using hz
        have HD := hide (decide_eq_false (show ¬ l1 = l2 from fun e => hz (by have h := unhide HX; rw [e, h.2] at h; exact (Option.some.inj h.1).symm)))
        clear hz
        go_quiet (fail)
        have HB' := hide (below_drewN (unhide HB) nq)
        go_wp2
        go_ret
        exact ⟨by rw [unhide HD]; rfl, unhide HB'⟩
    · obtain rfl : n = i := by omega
      have hA := unhide HA
      rw [show l1.take n = l1 from by rw [(unhide HN).1, List.take_length], show l2.take n = l2 from by rw [(unhide HN).2, List.take_length]] at hA
      have HD := hide (decide_eq_true hA)
      clear hin hi hgk hA HA
      go_wp2
      go_ret
      exact ⟨by rw [unhide HD]; rfl, unhide HB⟩
theorem cut_all (p : Pl) : cutP p p.jobs.length = p := by rw [cutP, List.take_length]
theorem jbs_ok : okS jbs [0, 2] := by
  unfold okS
  rw [show ([0, 2] : List Int).length = jbs.jobs.length from rfl, cut_all, jbs_ends]
theorem jbs_ok0 : okS jbs [0] := ok_pre (st := [0, 2]) (plr_of jbs_valid) rfl (by rw [jbs_ends]) 1 (by decide)
theorem jbs_no (t : Int) (h : t < 2) : ¬ okS jbs [0, t] := by
  unfold okS
  rw [show ([0, t] : List Int).length = jbs.jobs.length from rfl, cut_all, ends_bad (i := 1) (Or.inl ⟨t, ⟨1, [0], [1]⟩, 0, 0, 0, ⟨2, [], [1]⟩, rfl, rfl, rfl, rfl, rfl, by show t < 0 + 2; omega⟩)]
  exact Bool.false_ne_true
theorem jbs_three : trySt jbs 3 2 [] = some [0, 2] := by
  refine try_hit (t := 0) (by decide) (fun t' h => absurd h (Nat.not_lt_zero _)) jbs_ok0 ?_
  refine try_hit (t := 2) (by decide) (fun t' h ho => absurd ho (jbs_no (t' : Int) (by omega))) jbs_ok rfl
theorem jbs_less (s : Nat) (h : s < 3) : trySt jbs (s : Int) 2 [] = none := by
  refine try_miss fun t ht ho => ?_
  rw [show longAt jbs ([] : List Int).length = 2 from rfl] at ht
  obtain rfl : t = 0 := by omega
  refine try_miss fun t' ht' ho' => absurd ho' (jbs_no (t' : Int) ?_)
  have e1 : longAt jbs (([] : List Int) ++ [((0 : Nat) : Int)]).length = 1 := rfl
  rw [e1] at ht'
  omega
/-- What is asked of the program's Least. -/
def LeastL (A : Nat → Addr) : Prop := ∀ (w : World) (pv : Value) (p : Pl), Sents w A → PlV w pv p → FewL p → Calls Tryd.prog 4 #[pv] w fun e w' =>
  ((plvalid p ≠ 0 ∧ e = .returned (.tuple #[.slice none 0 0, .int .i64 0, errV A (plvalid p)])) ∨
   (plvalid p = 0 ∧ ∃ (s : Nat) (z : List Int) (zv : Value), e = .returned (.tuple #[zv, .int .i64 (s : Int), .nilIface]) ∧ s ≤ 30 ∧ trySt p (s : Int) p.jobs.length [] = some z ∧ Rows 1 JE w' zv z ∧ ∀ s' : Nat, s' < s → trySt p (s' : Int) p.jobs.length [] = none)) ∧ Below w.heap.size w w'
theorem last_pos {st : List Int} {jobs : List Jb} : ∀ n, 0 ≤ lastN st jobs n
  | 0 => Int.le_refl _
  | n + 1 => by
    have := last_pos (st := st) (jobs := jobs) n
    rw [lastN]
    split
    · split <;> omega
    · exact this
/-- Nothing is done ahead of the least span. -/
theorem least_le {p : Pl} {st : List Int} {s : Nat} {m : Int} (hR : PlR p) (hl : st.length = p.jobs.length) (h : ends p st = (m, true)) (hs : ∀ s' : Nat, s' < s → trySt p (s' : Int) p.jobs.length [] = none) : (s : Int) ≤ m := by
  refine Int.not_lt.1 fun hlt => ?_
  have hm := ends_end h
  have h0 : 0 ≤ m := by rw [hm]; exact last_pos _
  obtain ⟨m, rfl⟩ : ∃ k : Nat, m = (k : Int) := ⟨m.toNat, by omega⟩
  have h1 := try_some (span := (m : Int)) hR hl (by rw [h]) (by rw [← hm]; exact Int.le_refl _) p.jobs.length 0 (by omega)
  rw [List.take_zero, hs m (by omega)] at h1
  cases h1
set_option maxHeartbeats 8000000 in
set_option maxRecDepth 8000 in
theorem planLeast_law {A : Nat → Addr} {pv xv : Value} {p : Pl} {x : List Int} (w : World) (hS : Sents w A) (hp : PlV w pv p) (hx : Rows 1 JE w xv x) (hK : LeastL A) :
    Calls Tryd.prog 3 #[pv, xv] w fun e w' => e = .returned (.bool true) ∧ Below w.heap.size w w' := by
  obtain ⟨va, vc, qa, qc, rfl, hM⟩ := hp
  obtain ⟨sa, sc, rfl⟩ := hx.shape
  have kn := below_new w (.cells #[.slice va p.jobs.length vc, .slice qa p.caps.length qc] 25)
  obtain ⟨p0, p1⟩ := two_new w 25 (.slice va p.jobs.length vc) (.slice qa p.caps.length qc)
  have HM := hide (hM.later kn)
  have HX := hide (hx.later (JE.stays IsSl 0) kn)
  have HS := hide (hS.later kn)
  have HK := hide kn
  have HKC := hide hK
  have sx : x.length ≤ 9223372036854775807 := by have := hx.small; unfold maxLen at this; omega
  have sv : p.jobs.length ≤ 9223372036854775807 := by have := hM.j.small; unfold maxLen at this; omega
  clear hM hx hS kn hK
  obtain ⟨g, hg⟩ : ∃ X, X = w.heap.size := ⟨_, rfl⟩
  obtain ⟨W, hW⟩ : ∃ X, X = w.alloc (.cells #[.slice va p.jobs.length vc, .slice qa p.caps.length qc] 25) := ⟨_, rfl⟩
  go_enter Tryd.func3, Tryd.ntmps3
  go_upto_region 1 with fail
  rw [← hW, ← hg]
  rw [← hW] at HM HX HS HK p0 p1
  rw [← hg] at p0 p1
  have P01 := hide (And.intro p0 p1)
  clear hW hg p0 p1
  obtain ⟨nx, hnx⟩ : ∃ n, n = x.length := ⟨_, rfl⟩
  obtain ⟨nv, hnv⟩ : ∃ n, n = p.jobs.length := ⟨_, rfl⟩
  obtain ⟨nc, hnc⟩ : ∃ n, n = p.caps.length := ⟨_, rfl⟩
  rw [← hnx] at HX sx ⊢
  rw [← hnv] at P01 sv ⊢
  rw [← hnc] at P01 ⊢
  have HN := hide (And.intro hnx (And.intro hnv hnc))
  have HPV := hide (show ∀ w' : World, Below W.heap.size W w' → PlV w' (.agg #[.slice va nv vc, .slice qa nc qc]) p from fun w' hb => by rw [hnv, hnc]; exact ⟨va, vc, qa, qc, rfl, (unhide HM).later hb⟩)
  clear hnx hnv hnc
  have BB := hide (Below.refl W.heap.size W)
  go_wp2_with fail
  go_fit (jobs_any _)
  rintro e W1 ⟨⟨dv, rfl, hdv⟩, B1⟩
  have BB := hide (below_keep B1 (unhide BB))
  have HD := hide hdv
  clear B1 hdv
  go_wp2_with fail
  go_fit (unhide HKC _ dv jbs ((unhide HS).later (unhide BB)) (unhide HD) jbs_few)
  rintro e W2 ⟨hc, B1⟩
  have BB := hide (below_keep B1 (unhide BB))
  obtain ⟨zv, rfl, hz⟩ : ∃ zv, e = .returned (.tuple #[zv, .int .i64 3, .nilIface]) ∧ Rows 1 JE W2 zv [0, 2] := by
    rcases hc with ⟨h, _⟩ | ⟨_, s, z, zv, h1, _, h3, h4, h5⟩
    · exact absurd jbs_valid h
    · have hs3 : s = 3 := by
        rcases Nat.lt_trichotomy s 3 with h | h | h
        · have := jbs_less s h
          rw [show jbs.jobs.length = 2 from rfl, this] at h3
          cases h3
        · exact h
        · have := h5 3 h
          rw [show jbs.jobs.length = 2 from rfl, show ((3 : Nat) : Int) = 3 from rfl, jbs_three] at this
          cases this
      subst hs3
      rw [show jbs.jobs.length = 2 from rfl, show ((3 : Nat) : Int) = 3 from rfl, jbs_three] at h3
      obtain rfl : [0, 2] = z := Option.some.inj h3
      exact ⟨zv, h1, h4⟩
  obtain ⟨za, zc, rfl⟩ := hz.shape
  have kn := below_new W2 (.cells #[.int .i64 0, .int .i64 2] 3)
  have h3 := ints_new W2 3 [0, 2] (by decide) (by decide)
  rw [show ([0, 2].map fun x => Value.int .i64 x).toArray = #[.int .i64 0, .int .i64 2] from rfl] at h3
  have HSA := hide (same_any _ (hz.later (JE.stays IsSl 0) kn) h3)
  have BB := hide (below_keep kn (unhide BB))
  clear hc B1 HD hz h3 kn
  go_wp2_with fail
  go_fit (unhide HSA)
  rintro e W2 ⟨rfl, B1⟩
  have BB := hide (below_keep B1 (unhide BB))
  clear B1 HSA
  rw [show decide True = true from rfl]
  have q0 := cell_keep (unhide BB) (unhide P01).1
  have q1 := cell_keep (unhide BB) (unhide P01).2
  go_wp2_with fail
  go_fit (fewl_any _ (unhide HPV _ (unhide BB)))
  rintro e W3 ⟨⟨fv, rfl, hfv⟩, B1⟩
  have BB := hide (below_keep B1 (unhide BB))
  clear B1 q0 q1
  have q0 := cell_keep (unhide BB) (unhide P01).1
  have q1 := cell_keep (unhide BB) (unhide P01).2
  rcases hfv with rfl | ⟨rfl, hfew⟩
  · go_wp2
    go_ret
    exact ⟨rfl, below_keep (unhide BB) (unhide HK)⟩
  have HFW := hide hfew
  clear hfew
  by_cases h20 : (20 : Int) < (nx : Int)
  · go_wp2
    go_ret
    exact ⟨rfl, below_keep (unhide BB) (unhide HK)⟩
  go_wp2_with fail
  go_fit (unhide HKC _ _ p ((unhide HS).later (unhide BB)) (unhide HPV _ (unhide BB)) (unhide HFW))
  rintro e W4 ⟨hc, B1⟩
  have BB := hide (below_keep B1 (unhide BB))
  clear B1 q0 q1
  have q0 := cell_keep (unhide BB) (unhide P01).1
  have q1 := cell_keep (unhide BB) (unhide P01).2
  rcases hc with ⟨hne, rfl⟩ | ⟨hv, s, z, zv, rfl, hs30, hts, hzr, hmin⟩
  · go_wp2_with fail
    go_fit (rplvalid_any _ (unhide HPV _ (unhide BB)))
    rintro e W5 ⟨rfl, B1⟩
    have BB := hide (below_keep B1 (unhide BB))
    clear B1
    have hcod := plvalid_codes p
    obtain ⟨ec, hec⟩ : ∃ e, e = plvalid p := ⟨_, rfl⟩
    rw [← hec] at hne hcod ⊢
    clear hec
    have hpos : (0 : Int) < ec := by omega
    go_wp2_with fail
    go_fit (coded_err A _ hcod ((unhide HS).later (unhide BB)))
    rintro e W6 ⟨rfl, B1⟩
    have BB := hide (below_keep B1 (unhide BB))
    clear B1
    go_wp2
    go_ret
    exact ⟨rfl, below_keep (unhide BB) (unhide HK)⟩
  have HR := hide (plr_of hv)
  have HZ := hide (And.intro hts (And.intro hmin hv))
  obtain ⟨ya, yc, rfl⟩ := hzr.shape
  have HZR := hide hzr
  clear hts hmin hzr hv
  go_wp2_with fail
  go_fit (rplvalid_any _ (unhide HPV _ (unhide BB)))
  rintro e W5 ⟨rfl, B1⟩
  have BB := hide (below_keep B1 (unhide BB))
  have HZR := hide ((unhide HZR).later (JE.stays IsSl 0) B1)
  clear B1 q0 q1
  rw [(unhide HZ).2.2]
  have q0 := cell_keep (unhide BB) (unhide P01).1
  have q1 := cell_keep (unhide BB) (unhide P01).2
  go_wp2_with fail
  go_fit (rleast_any _ (unhide HPV _ (unhide BB)) (unhide HR))
  rintro e W6 ⟨⟨wv, n, rfl, hl⟩, B1⟩
  have BB := hide (below_keep B1 (unhide BB))
  have HZR := hide ((unhide HZR).later (JE.stays IsSl 0) B1)
  clear B1 q0 q1
  obtain ⟨rfl, hwr⟩ : n = (s : Int) ∧ Rows 1 JE W6 wv z := by
    have hz := unhide HZ
    rcases hl with ⟨s2, z2, h1, rfl, h3, h4, h5⟩ | ⟨_, _, h⟩
    · have e : s2 = s := by
        rcases Nat.lt_trichotomy s2 s with h | h | h
        · rw [hz.2.1 s2 h] at h3; cases h3
        · exact h
        · rw [h5 s h] at hz; cases hz.1
      subst e
      obtain rfl : z = z2 := Option.some.inj (hz.1.symm.trans h3)
      exact ⟨rfl, h4⟩
    · rw [h s hs30] at hz; cases hz.1
  obtain ⟨wa, wc, rfl⟩ := hwr.shape
  have HSA := hide (same_any _ (unhide HZR) hwr)
  clear hl hwr
  have hss : ((s : Int) != (s : Int)) = false := by simp
  go_wp2_with fail
  go_fit (unhide HSA)
  rintro e W7 ⟨rfl, B1⟩
  have BB := hide (below_keep B1 (unhide BB))
  clear B1 HSA HZR
  rw [show decide True = true from rfl]
  have q0 := cell_keep (unhide BB) (unhide P01).1
  have q1 := cell_keep (unhide BB) (unhide P01).2
  by_cases hnv : nx = nv
  rotate_left
  · have hne : ((nx : Int) != (nv : Int)) = true := by simp; omega
    clear hnv
    go_wp2
    go_ret
    exact ⟨rfl, below_keep (unhide BB) (unhide HK)⟩
  have hne : ((nx : Int) != (nv : Int)) = false := by simp; omega
  have HLE := hide (show x.length = p.jobs.length by have := unhide HN; omega)
  have HEC := hide (rends_any (st := x) (sa := sa) (sc := sc) W7 (unhide HPV _ (unhide BB)) (by rw [← (unhide HN).1]; exact (unhide HX).later (JE.stays IsSl 0) (unhide BB)) (unhide HR) (unhide HLE))
  rw [← (unhide HN).1] at HEC
  clear hnv
  go_wp2_with fail
  go_fit (unhide HEC)
  rintro e W8 ⟨rfl, B1⟩
  have BB := hide (below_keep B1 (unhide BB))
  clear B1 q0 q1 HEC
  obtain ⟨m, hm⟩ : ∃ m, m = (ends p x).1 := ⟨_, rfl⟩
  obtain ⟨cb, hcb⟩ : ∃ m, m = (ends p x).2 := ⟨_, rfl⟩
  have HE := hide (show ends p x = (m, cb) by rw [hm, hcb])
  rw [← hm, ← hcb]
  clear hm hcb
  cases cb
  · go_wp2
    go_ret
    exact ⟨rfl, below_keep (unhide BB) (unhide HK)⟩
  · have hle := least_le (unhide HR) (unhide HLE) (unhide HE) (unhide HZ).2.1
    go_wp2
    go_ret
    exact ⟨rfl, below_keep (unhide BB) (unhide HK)⟩
end Go.Proofs.YtgckgkllpkkpeaaDoor
