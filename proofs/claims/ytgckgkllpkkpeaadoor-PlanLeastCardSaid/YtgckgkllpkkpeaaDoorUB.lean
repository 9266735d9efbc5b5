/-
  Jobs: when all is done.
-/
import Derived.Test.YtgckgkllpkkpeaaDoorUA
namespace Go.Proofs.YtgckgkllpkkpeaaDoor
open Go.RowKit

/-- What a right plan keeps. -/
structure PlR (p : Pl) : Prop where
  nj : p.jobs.length ≤ 7
  nc : p.caps.length ≤ 7
  c : ∀ c ∈ p.caps, 0 ≤ c ∧ c ≤ 100000000
  j : ∀ (i : Nat) (j : Jb), p.jobs[i]? = some j → (0 ≤ j.long ∧ j.long ≤ 30) ∧ j.after.length ≤ 7 ∧ j.uses.length = p.caps.length ∧ (∀ (k : Nat) (u c : Int), j.uses[k]? = some u → p.caps[k]? = some c → 0 ≤ u ∧ u ≤ c) ∧ (∀ a ∈ j.after, 0 ≤ a ∧ a < (i : Int))
theorem goJ_all {caps : List Int} : ∀ {l : List Jb} {n : Nat}, goJ caps n l = 0 → ∀ (k : Nat) (j : Jb), l[k]? = some j → jobV caps (n + k) j = 0
  | [], _, _, _, _, h => by simp at h
  | x :: l, n, h, k, j, hj => by
    rw [goJ] at h
    by_cases e : jobV caps n x = 0
    · rw [if_pos e] at h
      cases k with
      | zero => obtain rfl : x = j := by simpa using hj
                exact e
      | succ k => have := goJ_all h k j (by simpa using hj)
                  rwa [show n + (k + 1) = n + 1 + k by omega]
    · rw [if_neg e] at h
      exact absurd h e
theorem jobV_ok {caps : List Int} {i : Nat} {j : Jb} (h : jobV caps i j = 0) : (0 ≤ j.long ∧ j.long ≤ 30) ∧ j.after.length ≤ 7 ∧ j.uses.length = caps.length ∧ (∀ (k : Nat) (u c : Int), j.uses[k]? = some u → caps[k]? = some c → 0 ≤ u ∧ u ≤ c) ∧ (∀ a ∈ j.after, 0 ≤ a ∧ a < (i : Int)) := by
  unfold jobV at h
  split at h
  · cases h
  split at h
  · cases h
  split at h
  · cases h
  split at h
  · cases h
  rename_i h1 h2 h3 h4
  refine ⟨by omega, by omega, by omega, fun k u c hu hc => ?_, fun a ha => ?_⟩
  · have : ¬ (u < 0 ∨ c < u) := fun hh => h3 ⟨k, u, c, hu, hc, hh⟩
    omega
  · have : ¬ (a < 0 ∨ (i : Int) ≤ a) := fun hh => h4 ⟨a, ha, hh⟩
    omega
theorem plr_of {p : Pl} (h : plvalid p = 0) : PlR p := by
  unfold plvalid at h
  split at h
  · cases h
  split at h
  · cases h
  split at h
  · rename_i h3
    exact absurd h h3
  rename_i h1 h2 h3
  have h3 : goJ p.caps 0 p.jobs = 0 := Classical.not_not.1 h3
  refine ⟨by omega, by omega, fun c hc => ?_, fun i j hj => ?_⟩
  · have : ¬ (c < 0 ∨ 100000000 < c) := fun hh => h2 ⟨c, hc, hh⟩
    omega
  · have := goJ_all h3 i j hj
    rw [Nat.zero_add] at this
    exact jobV_ok this
/-- The greatest end of the first starts. -/
def lastN (st : List Int) (jobs : List Jb) : Nat → Int
  | 0 => 0
  | i + 1 => match st[i]?, jobs[i]? with
    | some s, some j => if lastN st jobs i < s + j.long then s + j.long else lastN st jobs i
    | _, _ => lastN st jobs i
theorem lastN_succ {st : List Int} {jobs : List Jb} {i : Nat} {s : Int} {j : Jb} (hs : st[i]? = some s) (hj : jobs[i]? = some j) : lastN st jobs (i + 1) = if lastN st jobs i < s + j.long then s + j.long else lastN st jobs i := by rw [lastN, hs, hj]
/-- What the first jobs use of c at a time. -/
def useN (st : List Int) (jobs : List Jb) (t : Int) (c : Nat) : Nat → Int
  | 0 => 0
  | i + 1 => match st[i]?, jobs[i]? with
    | some s, some j => if s ≤ t ∧ t < s + j.long then useN st jobs t c i + (j.uses[c]?).getD 0 else useN st jobs t c i
    | _, _ => useN st jobs t c i
theorem useN_succ {st : List Int} {jobs : List Jb} {t : Int} {c i : Nat} {s u : Int} {j : Jb} (hs : st[i]? = some s) (hj : jobs[i]? = some j) (hu : j.uses[c]? = some u) : useN st jobs t c (i + 1) = if s ≤ t ∧ t < s + j.long then useN st jobs t c i + u else useN st jobs t c i := by rw [useN, hs, hj]; simp only [hu, Option.getD_some]
def bigS (st : List Int) : Prop := ∃ s ∈ st, s < 0 ∨ 100000000 < s
/-- The i-th starts ahead of an end that it waits for. -/
def badA (p : Pl) (st : List Int) (i : Nat) : Prop := ∃ (s : Int) (j : Jb) (k a : Nat) (sa : Int) (ja : Jb), st[i]? = some s ∧ p.jobs[i]? = some j ∧ j.after[k]? = some (a : Int) ∧ st[a]? = some sa ∧ p.jobs[a]? = some ja ∧ s < sa + ja.long
/-- At its start too much is used. -/
def badC (p : Pl) (st : List Int) (i : Nat) : Prop := ∃ (s : Int) (c : Nat) (cap : Int), st[i]? = some s ∧ p.caps[c]? = some cap ∧ cap < useN st p.jobs s c p.jobs.length
open Classical in
/-- When all is done. -/
noncomputable def ends (p : Pl) (st : List Int) : Int × Bool :=
  if bigS st then (0, false) else if (∃ i, badA p st i ∨ badC p st i) then (0, false) else (lastN st p.jobs p.jobs.length, true)
theorem ends_big {p : Pl} {st : List Int} (h : bigS st) : ends p st = (0, false) := by rw [ends, if_pos h]
theorem ends_bad {p : Pl} {st : List Int} {i : Nat} (h : badA p st i ∨ badC p st i) : ends p st = (0, false) := by
  rw [ends]
  split
  · rfl
  · rw [if_pos ⟨i, h⟩]
theorem ends_good {p : Pl} {st : List Int} (h : ¬ bigS st) (h' : ¬ ∃ i, badA p st i ∨ badC p st i) : ends p st = (lastN st p.jobs p.jobs.length, true) := by rw [ends, if_neg h, if_neg h']
theorem Rows.jobsAt {w : World} {a : Option Addr} {n c i : Nat} {L : List Jb} {x : Jb} (h : Rows 3 JbE w (.slice a n c) L) (hx : L[i]? = some x) : ∃ b o, a = some ⟨b, o, none⟩ ∧ ∀ (k : Nat) (y : Jb), L[k]? = some y → ∃ a1 c1 a2 c2, (w.cell? ⟨b, o + k * 3, none⟩ = some (.int .i64 y.long) ∧ w.cell? ⟨b, o + k * 3 + 1, none⟩ = some (.slice a1 y.after.length c1) ∧ w.cell? ⟨b, o + k * 3 + 2, none⟩ = some (.slice a2 y.uses.length c2)) ∧ JbM w y a1 c1 a2 c2 := by
  obtain ⟨b, o, _, _, _, _, rfl, _⟩ := h.job hx
  refine ⟨b, o, rfl, fun k y hy => ?_⟩
  obtain ⟨b2, o2, a1, c1, a2, c2, e, hc, hM⟩ := h.job hy
  obtain ⟨rfl, rfl⟩ : b = b2 ∧ o = o2 := by simpa using e
  exact ⟨a1, c1, a2, c2, hc, hM⟩
theorem Rows.intsAt {w : World} {a : Option Addr} {n c i : Nat} {L : List Int} {x : Int} (h : Rows 1 JE w (.slice a n c) L) (hx : L[i]? = some x) : ∃ b o, a = some ⟨b, o, none⟩ ∧ ∀ (k : Nat) (y : Int), L[k]? = some y → w.cell? ⟨b, o + k, none⟩ = some (.int .i64 y) := by
  obtain ⟨b, o, rfl, _⟩ := h.int hx
  refine ⟨b, o, rfl, fun k y hy => ?_⟩
  obtain ⟨b2, o2, e, hc, _⟩ := h.int hy
  obtain ⟨rfl, rfl⟩ : b = b2 ∧ o = o2 := by simpa using e
  exact hc
theorem at_some {α : Type} {l : List α} {i : Nat} (h : i < l.length) : ∃ x, l[i]? = some x := ⟨l[i], by simp [h]⟩
set_option maxHeartbeats 8000000 in
set_option maxRecDepth 8000 in
/-- Ends. -/
theorem rends_any {v : Value} {p : Pl} {st : List Int} {sa : Option Addr} {sc : Nat} (w : World) (h : PlV w v p) (hS : Rows 1 JE w (.slice sa st.length sc) st) (hR : PlR p) (hl : st.length = p.jobs.length) :
    Calls Tryd.prog 11 #[v, .slice sa st.length sc] w fun e w' => e = .returned (.tuple #[.int .i64 (ends p st).1, .bool (ends p st).2]) ∧ Below w.heap.size w w' := by
  obtain ⟨ja, jc, ca, cc, rfl, hM⟩ := h
  obtain ⟨jobs, caps⟩ := p
  simp only at hl hM ⊢
  obtain ⟨n, hn⟩ : ∃ n, n = jobs.length := ⟨_, rfl⟩
  obtain ⟨nc, hnc⟩ : ∃ n, n = caps.length := ⟨_, rfl⟩
  have hn7 : n ≤ 7 := by have := hR.nj; simp only at this; omega
  have hc7 : nc ≤ 7 := by have := hR.nc; simp only at this; omega
  have kn := below_new w (.cells #[.slice ja jobs.length jc, .slice ca caps.length cc] 25)
  obtain ⟨p0, p1⟩ := two_new w 25 (.slice ja jobs.length jc) (.slice ca caps.length cc)
  have HM := hide (hM.later kn)
  have HS := hide (hS.later (JE.stays IsSl 0) kn)
  have HK := hide kn
  have HR := hide hR
  have hl' : st.length = n := by omega
  rw [hl'] at HS ⊢
  clear hl'
  clear hM kn hS hR
  obtain ⟨g, hg⟩ : ∃ X, X = w.heap.size := ⟨_, rfl⟩
  obtain ⟨W, hW⟩ : ∃ X, X = w.alloc (.cells #[.slice ja jobs.length jc, .slice ca caps.length cc] 25) := ⟨_, rfl⟩
  go_enter Tryd.func11, Tryd.ntmps11
  go_upto_region 1 with fail
  rw [← hW, ← hg]
  rw [← hW] at HM HS HK p0 p1
  rw [← hg] at p0 p1
  rw [← hn] at p0
  rw [← hnc] at p1
  rw [← hn, ← hnc]
  have HN := hide (And.intro hn (And.intro hnc hl))
  clear hW hg hn hnc hl
  go_wp2_with fail
  go_loopg [6, 7] n (fun gk ev iv wr => ∃ (i : Nat) (e : Int), i ≤ n ∧ gk = n - i ∧ ev = .int .i64 e ∧ iv = .int .i64 (i : Int) ∧ Hid (Below W.heap.size W wr) ∧ Hid ((∀ s ∈ st.take i, ¬ (s < 0 ∨ 100000000 < s)) ∧ e = lastN st jobs i ∧ 0 ≤ e ∧ e ≤ 100000030))
  case atStart => exact ⟨0, 0, by omega, by omega, rfl, rfl, hide (Below.refl _ _), hide ⟨by simp, rfl, by decide, by decide⟩⟩
  case round =>
    obtain ⟨i, e, hi, hgk, rfl, rfl, HB, HA⟩ := hrel
    by_cases hin : i < n
    · obtain ⟨s, hs⟩ : ∃ x, st[i]? = some x := at_some (by have := unhide HN; omega)
      obtain ⟨j, hj⟩ : ∃ x, jobs[i]? = some x := at_some (by have := unhide HN; omega)
      obtain ⟨sb, so, rfl, hcs⟩ := (unhide HS).intsAt hs
      obtain ⟨jb, jo, rfl, hcj⟩ := (unhide HM).j.jobsAt hj
      have c0 := cell_keep (unhide HB) (hcs i s hs)
      obtain ⟨a1, c1, a2, c2, ⟨d0, _⟩, _⟩ := hcj i j hj
      have d0 := cell_keep (unhide HB) d0
      have q0 := cell_keep (unhide HB) p0
      have hJ := ((unhide HR).j i j hj).1
      have HX := hide (And.intro hs hj)
      have hin' : (i : Int) < (n : Int) := by omega
      clear hs hj hcs hcj
      by_cases hz : s < 0
      · go_wp2
        go_ret2
        refine ⟨?_, below_keep (unhide HB) (unhide HK)⟩
        rw [ends_big ⟨s, List.mem_of_getElem? (unhide HX).1, Or.inl hz⟩]
        rfl
      by_cases hz2 : 100000000 < s
      · go_wp2
        go_ret2
        refine ⟨?_, below_keep (unhide HB) (unhide HK)⟩
        rw [ends_big ⟨s, List.mem_of_getElem? (unhide HX).1, Or.inr hz2⟩]
        rfl
      have ew : wrap64 (s + j.long) = s + j.long := by unfold wrap64; omega
      have hbd : 0 ≤ s + j.long ∧ s + j.long ≤ 100000030 := by omega
      have HBD := hide hbd
      have HZ := hide (show ¬ (s < 0 ∨ 100000000 < s) by omega)
      clear hJ hbd
      go_upto_region 7 with fail
      go_quiet (fail)
      have HB' := hide (below_drewN (unhide HB) nq)
      have HLS := hide (show lastN st jobs (i + 1) = if e < s + j.long then s + j.long else e by rw [lastN_succ (unhide HX).1 (unhide HX).2, ← (unhide HA).2.1])
      by_cases hd : e < s + j.long
      · go_wp2
        go_roundg (n - (i + 1))
        case measure => omega
        case rel => exact ⟨i + 1, s + j.long, by omega, rfl, (by first | rfl | rw [ew]), by go_num, HB', hide ⟨by rw [take_next (unhide HX).1]; intro y hy; rcases List.mem_append.1 hy with h | h; exact (unhide HA).1 y h; simp at h; rw [h]; exact unhide HZ, by rw [unhide HLS, if_pos hd], unhide HBD⟩⟩
      · go_wp2
        go_roundg (n - (i + 1))
        case measure => omega
        case rel => exact ⟨i + 1, e, by omega, rfl, rfl, by go_num, HB', hide ⟨by rw [take_next (unhide HX).1]; intro y hy; rcases List.mem_append.1 hy with h | h; exact (unhide HA).1 y h; simp at h; rw [h]; exact unhide HZ, by rw [unhide HLS, if_neg (by omega)], (unhide HA).2.2⟩⟩
    · obtain rfl : n = i := by omega
      have hA := unhide HA
      rw [show st.take n = st from by have := unhide HN; rw [show n = st.length by omega, List.take_length]] at hA
      have HE := hide (And.intro (show ¬ bigS st from fun ⟨s, h1, h2⟩ => hA.1 s h1 h2) hA.2.1)
      have HSB := hide hA.1
      clear hin hi hgk hA HA
      go_wp2_with fail
      obtain ⟨V, rfl⟩ : ∃ X, X = wr := ⟨_, rfl⟩
      go_loopg [9] n (fun gk iv wr => ∃ i : Nat, i ≤ n ∧ gk = n - i ∧ iv = .int .i64 (i : Int) ∧ Hid (Below W.heap.size W wr) ∧ Hid (∀ i', i' < i → ¬ (badA ⟨jobs, caps⟩ st i' ∨ badC ⟨jobs, caps⟩ st i')))
      case atStart => exact ⟨0, by omega, by omega, rfl, HB, hide (by intro i' h; omega)⟩
      case round =>
        clear HB
        obtain ⟨i, hi, hgk, rfl, HB, HA⟩ := hrel
        by_cases hin : i < n
        · obtain ⟨s, hs⟩ : ∃ x, st[i]? = some x := at_some (by have := unhide HN; omega)
          obtain ⟨j, hj⟩ : ∃ x, jobs[i]? = some x := at_some (by have := unhide HN; omega)
          obtain ⟨sb, so, rfl, hcs⟩ := (unhide HS).intsAt hs
          obtain ⟨jb, jo, rfl, hcj⟩ := (unhide HM).j.jobsAt hj
          have HCS := hide hcs
          have HCJ := hide hcj
          obtain ⟨a1, c1, a2, c2, ⟨_, d1, _⟩, hJM⟩ := hcj i j hj
          have c0 := hcs i s hs
          have HX := hide (And.intro hs hj)
          have HGI := hide (And.intro hgk (And.intro hi hin))
          have hin' : (i : Int) < (n : Int) := by omega
          have HJR := hide ((unhide HR).j i j hj)
          have HJM := hide hJM
          have hsb := unhide HSB s (List.mem_of_getElem? hs)
          have hna7 : j.after.length ≤ 7 := (unhide HJR).2.1
          obtain ⟨na, hna⟩ : ∃ x, x = j.after.length := ⟨_, rfl⟩
          rw [← hna] at d1 hna7
          have HNA := hide hna
          clear hs hj hcs hcj hJM hna hgk hi hin
          go_wp2_with fail
          go_loopg [10] na (fun gk kv wr => ∃ k : Nat, k ≤ na ∧ gk = na - k ∧ kv = .int .i64 (k : Int) ∧ Hid (Below W.heap.size W wr) ∧ Hid (∀ (k' a : Nat) (sa : Int) (ja : Jb), k' < k → j.after[k']? = some (a : Int) → st[a]? = some sa → jobs[a]? = some ja → ¬ s < sa + ja.long))
          case atStart => exact ⟨0, by omega, by omega, rfl, HB, hide (by intro k' _ _ _ h; omega)⟩
          case round =>
            clear HB
            obtain ⟨k, hk, hgk, rfl, HB, HK2⟩ := hrel
            have q0 := cell_keep (unhide HB) p0
            have d1 := cell_keep (unhide HB) d1
            by_cases hkn : k < na
            · obtain ⟨x, hx⟩ : ∃ x, j.after[k]? = some x := at_some (by have := unhide HNA; omega)
              obtain ⟨h0, h1⟩ := (unhide HJR).2.2.2.2 x (List.mem_of_getElem? hx)
              obtain ⟨a, rfl⟩ : ∃ a : Nat, x = (a : Int) := ⟨x.toNat, by omega⟩
              have han : a < n := by omega
              obtain ⟨ss, hss⟩ : ∃ x, st[a]? = some x := at_some (by have := unhide HN; omega)
              obtain ⟨jj, hjj⟩ : ∃ x, jobs[a]? = some x := at_some (by have := unhide HN; omega)
              obtain ⟨ab, ao, rfl, f0, _⟩ := (unhide HJM).r1.int hx
              have f0 := cell_keep (unhide HB) f0
              have f1 := cell_keep (unhide HB) (unhide HCS a ss hss)
              have c0 := cell_keep (unhide HB) c0
              obtain ⟨_, _, _, _, ⟨f2, _⟩, _⟩ := unhide HCJ a jj hjj
              have f2 := cell_keep (unhide HB) f2
              have hkn' : (k : Int) < (na : Int) := by omega
              have han' : (a : Int) < (n : Int) := by omega
              have hb1 := unhide HSB ss (List.mem_of_getElem? hss)
              have hb2 := ((unhide HR).j a jj hjj).1
              have ew : wrap64 (ss + jj.long) = ss + jj.long := by unfold wrap64; omega
              have HY := hide (And.intro hx (And.intro hss hjj))
              clear hx h0 h1 han hss hjj hb1 hb2
              go_upto_region 17 with fail
              by_cases hz : s < ss + jj.long
              · go_quiet (fail)
                have HB' := hide (below_drewN (unhide HB) nq)
                go_wp2
                go_ret2
                refine ⟨?_, below_keep (unhide HB') (unhide HK)⟩
                rw [ends_bad (i := i) (Or.inl ⟨s, j, k, a, ss, jj, (unhide HX).1, (unhide HX).2, (unhide HY).1, (unhide HY).2.1, (unhide HY).2.2, hz⟩)]
                rfl
              · go_quiet (fail)
                have HB' := hide (below_drewN (unhide HB) nq)
                go_wp2
                go_roundg (na - (k + 1))
                case measure => omega
                case rel => exact ⟨k + 1, by omega, rfl, by go_num, HB', hide (by
                  intro k' a' sa' ja' hk' h1 h2 h3
                  by_cases e : k' = k
                  · subst e
                    rw [(unhide HY).1] at h1
                    obtain rfl : a = a' := by have := Option.some.inj h1; omega
                    rw [(unhide HY).2.1] at h2
                    rw [(unhide HY).2.2] at h3
                    obtain rfl := Option.some.inj h2
                    obtain rfl := Option.some.inj h3
                    omega
                  · exact unhide HK2 k' a' sa' ja' (by omega) h1 h2 h3)⟩
            · obtain rfl : na = k := by omega
              have HNB := hide (show ¬ badA ⟨jobs, caps⟩ st i by
                rintro ⟨s', j', k', a', sa', ja', h1, h2, h3, h4, h5, h6⟩
                rw [(unhide HX).1] at h1
                rw [show Pl.jobs ⟨jobs, caps⟩ = jobs from rfl, (unhide HX).2] at h2
                obtain rfl := Option.some.inj h1
                obtain rfl := Option.some.inj h2
                exact unhide HK2 k' a' sa' ja' (by have := (List.getElem?_eq_some_iff.1 h3).1; have := unhide HNA; omega) h3 h4 h5 h6)
              clear hkn hk hgk HK2
              go_wp2_with fail
              go_loopg [12] nc (fun gk cv wr => ∃ c : Nat, c ≤ nc ∧ gk = nc - c ∧ cv = .int .i64 (c : Int) ∧ Hid (Below W.heap.size W wr) ∧ Hid (∀ (c' : Nat) (cap : Int), c' < c → caps[c']? = some cap → ¬ cap < useN st jobs s c' jobs.length))
              case atStart => exact ⟨0, by omega, by omega, rfl, HB, hide (by intro c' _ h; omega)⟩
              case round =>
                clear HB q0 d1
                obtain ⟨c, hk, hgk, rfl, HB, HK2⟩ := hrel
                have q1 := cell_keep (unhide HB) p1
                by_cases hkn : c < nc
                · obtain ⟨cap, hcap⟩ : ∃ x, caps[c]? = some x := at_some (by have := unhide HN; omega)
                  obtain ⟨cb, co, rfl, g0, _⟩ := (unhide HM).c.int hcap
                  have HCAP := hide hcap
                  have hkn' : (c : Int) < (nc : Int) := by omega
                  have HGC := hide (And.intro hgk (And.intro hk hkn))
                  clear hcap hgk hk hkn
                  go_wp2_with fail
                  go_loopg [13, 14] n (fun gk sv kv wr => ∃ (k : Nat) (u : Int), k ≤ n ∧ gk = n - k ∧ sv = .int .i64 u ∧ kv = .int .i64 (k : Int) ∧ Hid (Below W.heap.size W wr) ∧ Hid (u = useN st jobs s c k ∧ 0 ≤ u ∧ u ≤ 100000000 * (k : Int)))
                  case atStart => exact ⟨0, 0, by omega, by omega, rfl, rfl, HB, hide ⟨rfl, by decide, by decide⟩⟩
                  case round =>
                    clear HB q1
                    obtain ⟨k, u, hk, hgk, rfl, rfl, HB, HU⟩ := hrel
                    have q0 := cell_keep (unhide HB) p0
                    have q1 := cell_keep (unhide HB) p1
                    have g0 := cell_keep (unhide HB) g0
                    have c0 := cell_keep (unhide HB) c0
                    by_cases hkn : k < n
                    · obtain ⟨ss, hss⟩ : ∃ x, st[k]? = some x := at_some (by have := unhide HN; omega)
                      obtain ⟨jj, hjj⟩ : ∃ x, jobs[k]? = some x := at_some (by have := unhide HN; omega)
                      have hJR := (unhide HR).j k jj hjj
                      obtain ⟨uu, huu⟩ : ∃ x, jj.uses[c]? = some x := at_some (by have h1 := hJR.2.2.1; have h2 := (List.getElem?_eq_some_iff.1 (unhide HCAP)).1; simp only at h1; omega)
                      have f1 := cell_keep (unhide HB) (unhide HCS k ss hss)
                      obtain ⟨_, _, b2, e2, ⟨f2, _, f3⟩, hjm⟩ := unhide HCJ k jj hjj
                      have f2 := cell_keep (unhide HB) f2
                      have f3 := cell_keep (unhide HB) f3
                      obtain ⟨ub, uo, rfl, f4, _⟩ := hjm.r2.int huu
                      have f4 := cell_keep (unhide HB) f4
                      obtain ⟨nu, hnu⟩ : ∃ x, x = jj.uses.length := ⟨_, rfl⟩
                      rw [← hnu] at f3
                      have hcu : (c : Int) < (nu : Int) := by have := (List.getElem?_eq_some_iff.1 huu).1; omega
                      have hkn' : (k : Int) < (n : Int) := by omega
                      have hb1 := unhide HSB ss (List.mem_of_getElem? hss)
                      have hb2 := hJR.1
                      have hb3 := hJR.2.2.2.1 c uu cap huu (unhide HCAP)
                      have hb4 := (unhide HR).c cap (List.mem_of_getElem? (unhide HCAP))
                      have hU := unhide HU
                      have ew : wrap64 (ss + jj.long) = ss + jj.long := by unfold wrap64; omega
                      have ew2 : IntKind.i64.wrap (ss + jj.long) = ss + jj.long := by rw [wrapI64]; exact ew
                      have eu : wrap64 (u + uu) = u + uu := by unfold wrap64; omega
                      have HUS := hide (show useN st jobs s c (k + 1) = if ss ≤ s ∧ s < ss + jj.long then u + uu else u by rw [useN_succ hss hjj huu, ← hU.1])
                      have HUB := hide (show 0 ≤ u + uu ∧ u + uu ≤ 100000000 * ((k + 1 : Nat) : Int) ∧ u ≤ 100000000 * ((k + 1 : Nat) : Int) by omega)
                      have HGK := hide (And.intro hgk (And.intro hk hkn))
                      clear hss hjj hJR huu hjm hnu hb1 hb2 hb3 hb4 hU hgk hk hkn
                      go_upto_region 26 with fail
                      by_cases hz : ss ≤ s
                      · have hd : decide (ss ≤ s) = true := decide_eq_true hz
                        by_cases hz2 : s < ss + jj.long
                        · have hd2 : decide (s < ss + jj.long) = true := decide_eq_true hz2
                          go_quiet (fail)
                          have HB' := hide (below_drewN (unhide HB) nq)
                          go_wp2
                          go_roundg (n - (k + 1))
                          case measure => have := unhide HGK; omega
                          case rel => exact ⟨k + 1, u + uu, by have := unhide HGK; omega, rfl, (by first | rfl | rw [eu]), by go_num, HB', hide ⟨by rw [unhide HUS, if_pos ⟨hz, hz2⟩], (unhide HUB).1, (unhide HUB).2.1⟩⟩
                        · have hd2 : decide (s < ss + jj.long) = false := decide_eq_false hz2
                          go_quiet (fail)
                          have HB' := hide (below_drewN (unhide HB) nq)
                          go_wp2
                          go_roundg (n - (k + 1))
                          case measure => have := unhide HGK; omega
                          case rel => exact ⟨k + 1, u, by have := unhide HGK; omega, rfl, rfl, by go_num, HB', hide ⟨by rw [unhide HUS, if_neg (fun h => by omega)], (unhide HU).2.1, (unhide HUB).2.2⟩⟩
                      · have hd : decide (ss ≤ s) = false := decide_eq_false hz
                        go_quiet (fail)
                        have HB' := hide (below_drewN (unhide HB) nq)
                        go_wp2
                        go_roundg (n - (k + 1))
                        case measure => have := unhide HGK; omega
                        case rel => exact ⟨k + 1, u, by have := unhide HGK; omega, rfl, rfl, by go_num, HB', hide ⟨by rw [unhide HUS, if_neg (fun h => by omega)], (unhide HU).2.1, (unhide HUB).2.2⟩⟩
                    · obtain rfl : n = k := by omega
                      have hue : u = useN st jobs s c jobs.length := by rw [← (unhide HN).1]; exact (unhide HU).1
                      have HUE := hide hue
                      clear hue hkn hk hgk
                      by_cases hz : cap < u
                      · go_wp2
                        go_ret2
                        refine ⟨?_, below_keep (unhide HB) (unhide HK)⟩
                        rw [ends_bad (i := i) (Or.inr ⟨s, c, cap, (unhide HX).1, unhide HCAP, by rw [unhide HUE] at hz; exact hz⟩)]
                        rfl
                      · go_wp2
                        go_roundg (nc - (c + 1))
                        case measure => have := unhide HGC; omega
                        case rel => exact ⟨c + 1, by have := unhide HGC; omega, rfl, by go_num, HB, hide (by
                          intro c' cap' hc' h1
                          by_cases e : c' = c
                          · subst e
                            rw [unhide HCAP] at h1
                            obtain rfl := Option.some.inj h1
                            rw [← unhide HUE]
                            omega
                          · exact unhide HK2 c' cap' (by omega) h1)⟩
                · obtain rfl : nc = c := by omega
                  have HNC := hide (show ¬ badC ⟨jobs, caps⟩ st i by
                    rintro ⟨s', c', cap', h1, h2, h3⟩
                    rw [(unhide HX).1] at h1
                    obtain rfl := Option.some.inj h1
                    exact unhide HK2 c' cap' (by have h4 : c' < caps.length := (List.getElem?_eq_some_iff.1 h2).1; have := unhide HN; omega) h2 h3)
                  clear hkn hk hgk HK2
                  obtain ⟨hgk, hi, hin⟩ := unhide HGI
                  go_wp2
                  go_roundg (n - (i + 1))
                  case measure => omega
                  case rel => exact ⟨i + 1, by omega, rfl, by go_num, HB, hide (by
                    intro i' hi' h
                    by_cases e : i' = i
                    · subst e
                      exact h.elim (unhide HNB) (unhide HNC)
                    · exact unhide HA i' (by omega) h)⟩
        · obtain rfl : n = i := by omega
          have HF := hide (show ends ⟨jobs, caps⟩ st = (e, true) by
            rw [ends_good (unhide HE).1 (by
              rintro ⟨i, h⟩
              refine unhide HA i ?_ h
              rcases h with ⟨s, _, _, _, _, _, h1, _⟩ | ⟨s, _, _, h1, _⟩
              · have := (List.getElem?_eq_some_iff.1 h1).1; have := unhide HN; omega
              · have := (List.getElem?_eq_some_iff.1 h1).1; have := unhide HN; omega), (unhide HE).2]
            simp only
            rw [← (unhide HN).1])
          clear hin hi hgk HA
          go_wp2
          go_ret2
          refine ⟨?_, below_keep (unhide HB) (unhide HK)⟩
          rw [unhide HF]
          rfl
end Go.Proofs.YtgckgkllpkkpeaaDoor
