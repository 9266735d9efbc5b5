/-
  Jobs: the program's ready.
-/
import Derived.Test.YtgckgkllpkkpeaaDoorUN
namespace Go.Proofs.YtgckgkllpkkpeaaDoor
open Go.RowKit

/-- When a job is done. -/
def endOf (st : List Int) (jobs : List Jb) (a : Int) : Int := (st[a.toNat]?).getD 0 + ((jobs[a.toNat]?).map Jb.long).getD 0
theorem endOf_eq {st : List Int} {jobs : List Jb} {k : Nat} {s : Int} {j : Jb} (hs : st[k]? = some s) (hj : jobs[k]? = some j) : endOf st jobs (k : Int) = s + j.long := by simp [endOf, hs, hj]
/-- When all those are done. -/
def rdy (st : List Int) (jobs : List Jb) (after : List Int) : Int := after.foldl (fun m a => max m (endOf st jobs a)) 0
theorem rdy_snoc (st : List Int) (jobs : List Jb) (l : List Int) (a : Int) : rdy st jobs (l ++ [a]) = max (rdy st jobs l) (endOf st jobs a) := by simp [rdy]
/-- A job that has begun in its time. -/
def Begun (st : List Int) (jobs : List Jb) (a : Int) : Prop := ∃ (k : Nat) (s : Int) (j : Jb), a = (k : Int) ∧ st[k]? = some s ∧ jobs[k]? = some j ∧ 0 ≤ s ∧ s ≤ 100000000 ∧ 0 ≤ j.long ∧ j.long ≤ 30
theorem rdy_le_iff (st : List Int) (jobs : List Jb) (l : List Int) (x : Int) : rdy st jobs l ≤ x ↔ 0 ≤ x ∧ ∀ a ∈ l, endOf st jobs a ≤ x := by
  have : ∀ (l : List Int) (m : Int), l.foldl (fun m a => max m (endOf st jobs a)) m ≤ x ↔ m ≤ x ∧ ∀ a ∈ l, endOf st jobs a ≤ x := by
    intro l
    induction l with
    | nil => intro m; simp
    | cons a t ih =>
      intro m
      rw [List.foldl_cons, ih]
      constructor
      · rintro ⟨h1, h2⟩
        refine ⟨by omega, fun b hb => ?_⟩
        rcases List.mem_cons.1 hb with rfl | h
        · omega
        · exact h2 b h
      · rintro ⟨h1, h2⟩
        have := h2 a (by simp)
        exact ⟨by omega, fun b hb => h2 b (by simp [hb])⟩
  exact this l 0
theorem rdy_nonneg (st : List Int) (jobs : List Jb) (l : List Int) : 0 ≤ rdy st jobs l := ((rdy_le_iff st jobs l _).1 (Int.le_refl _)).1
set_option maxHeartbeats 8000000 in
set_option maxRecDepth 8000 in
/-- ready. -/
theorem ready_any {j : Jb} {a1 a2 ja ca sa : Option Addr} {c1 c2 cc jc sc nj nc ns : Nat} {jobs : List Jb} {st : List Int} (w : World) (h : JbM w j a1 c1 a2 c2) (hJ : Rows 3 JbE w (.slice ja nj jc) jobs) (hT : Rows 1 JE w (.slice sa ns sc) st) (hnj : nj = jobs.length) (hns : ns = st.length) (hB : ∀ a ∈ j.after, Begun st jobs a) :
    Calls Tryd.prog 37 #[.agg #[.slice ja nj jc, .slice ca nc cc], .agg #[.int .i64 j.long, .slice a1 j.after.length c1, .slice a2 j.uses.length c2], .slice sa ns sc] w fun e w' => e = .returned (.int .i64 (rdy st jobs j.after)) ∧ Below w.heap.size w w' := by
  obtain ⟨long, after, uses⟩ := j
  simp only at h hB ⊢
  have kn0 := below_new w (.cells #[.slice ja nj jc, .slice ca nc cc] 25)
  obtain ⟨p0, p1⟩ := two_new w 25 (.slice ja nj jc) (.slice ca nc cc)
  obtain ⟨W0, hW0⟩ : ∃ X, X = w.alloc (.cells #[.slice ja nj jc, .slice ca nc cc] 25) := ⟨_, rfl⟩
  rw [← hW0] at kn0 p0 p1
  have kn1 := below_new W0 (.cells #[.int .i64 long, .slice a1 after.length c1, .slice a2 uses.length c2] 50)
  obtain ⟨k0, k1, k2⟩ := three_cells W0 50 (.int .i64 long) (.slice a1 after.length c1) (.slice a2 uses.length c2)
  have z0 : W0.heap.size = w.heap.size + 1 := by rw [hW0]; simp
  obtain ⟨W, hW⟩ : ∃ X, X = W0.alloc (.cells #[.int .i64 long, .slice a1 after.length c1, .slice a2 uses.length c2] 50) := ⟨_, rfl⟩
  rw [← hW] at kn1 k0 k1 k2
  have p0 := cell_keep kn1 p0
  have kn := below_keep kn1 kn0
  have HJM := hide (h.later kn)
  have HJ := hide (hJ.on (fun _ _ h => h.later kn) kn)
  have HT := hide (hT.later (JE.stays IsSl 0) kn)
  have HBG := hide hB
  have HK := hide kn
  have HNN := hide (And.intro hnj hns)
  have s1 : nj ≤ 9223372036854775807 := by have := hJ.small; unfold maxLen at this; omega
  have s2 : ns ≤ 9223372036854775807 := by have := hT.small; unfold maxLen at this; omega
  have s3 : after.length ≤ 9223372036854775807 := by have := h.r1.small; unfold maxLen at this; omega
  clear h hJ hT hB kn kn0 kn1 hnj hns p1
  obtain ⟨na, hna⟩ : ∃ n, n = after.length := ⟨_, rfl⟩
  obtain ⟨g, hg⟩ : ∃ X, X = w.heap.size := ⟨_, rfl⟩
  go_enter Tryd.func37, Tryd.ntmps37
  go_upto_region 2 with fail
  rw [← hW0, ← hW, ← hg]
  rw [z0, ← hg] at k0 k1 k2
  rw [← hg] at p0
  rw [← hna] at s3 k1
  rw [← hna]
  have HN := hide hna
  clear hW0 hW hg hna z0 k0 k2
  go_wp2_with fail
  go_loopg [7, 9, 13] na (fun gk av _ kv wr => ∃ (k : Nat) (a : Int), k ≤ na ∧ gk = na - k ∧ av = .int .i64 a ∧ kv = .int .i64 (k : Int) ∧ Hid (Below W.heap.size W wr) ∧ Hid (a = rdy st jobs (after.take k) ∧ 0 ≤ a ∧ a ≤ 100000030))
  case atStart => exact ⟨0, 0, by omega, by omega, rfl, rfl, hide (Below.refl _ _), hide ⟨by simp [rdy], by decide, by decide⟩⟩
  case round =>
    obtain ⟨k, a, hk, hgk, rfl, rfl, HB, HA⟩ := hrel
    by_cases hkn : k < na
    · obtain ⟨x, hx⟩ : ∃ x, after[k]? = some x := at_some (by have := unhide HN; omega)
      obtain ⟨q, s, j, rfl, hs, hj, hs0, hs1, hl0, hl1⟩ := unhide HBG x (List.mem_of_getElem? hx)
      obtain ⟨ab, ao, rfl, f0, _⟩ := (unhide HJM).r1.int hx
      obtain ⟨sb, so, rfl, f1, _⟩ := (unhide HT).int hs
      obtain ⟨jb, jo, _, _, _, _, rfl, ⟨f2, _, _⟩, _⟩ := (unhide HJ).job hj
      have f0 := cell_keep (unhide HB) f0
      have f1 := cell_keep (unhide HB) f1
      have f2 := cell_keep (unhide HB) f2
      have p0 := cell_keep (unhide HB) p0
      have hqs : (q : Int) < (ns : Int) := by have := (List.getElem?_eq_some_iff.1 hs).1; have := unhide HNN; omega
      have hqj : (q : Int) < (nj : Int) := by have := (List.getElem?_eq_some_iff.1 hj).1; have := unhide HNN; omega
      have hkn' : (k : Int) < (na : Int) := by omega
      obtain ⟨ll, hll⟩ : ∃ x, x = j.long := ⟨_, rfl⟩
      rw [← hll] at f2
      have ew : wrap64 (s + ll) = s + ll := by unfold wrap64; omega
      have HST := hide (show max a (s + ll) = rdy st jobs (after.take (k + 1)) ∧ 0 ≤ max a (s + ll) ∧ max a (s + ll) ≤ 100000030 by
        rw [take_next hx, rdy_snoc, endOf_eq hs hj, ← (unhide HA).1, hll]
        have := (unhide HA).2
        exact ⟨rfl, by omega, by omega⟩)
      have HGK := hide (And.intro hgk (And.intro hk hkn))
      clear hx hs hj hs0 hs1 hl0 hl1 hll hgk hk hkn
      go_upto_region 5 with fail
      by_cases hm : a < s + ll
      · have HM := hide (show max a (s + ll) = s + ll by omega)
        go_quiet (fail)
        have HB' := hide (below_drewN (unhide HB) nq)
        go_wp2
        go_roundg (na - (k + 1))
        case measure => have := unhide HGK; omega
        case rel => exact ⟨k + 1, s + ll, by have := unhide HGK; omega, rfl, rfl, by go_num, HB', hide (by have := unhide HST; rw [unhide HM] at this; exact this)⟩
      · have HM := hide (show max a (s + ll) = a by omega)
        go_quiet (fail)
        have HB' := hide (below_drewN (unhide HB) nq)
        go_wp2
        go_roundg (na - (k + 1))
        case measure => have := unhide HGK; omega
        case rel => exact ⟨k + 1, a, by have := unhide HGK; omega, rfl, rfl, by go_num, HB', hide (by have := unhide HST; rw [unhide HM] at this; exact this)⟩
    · obtain rfl : na = k := by omega
      have hA := (unhide HA).1
      rw [show after.take na = after from by rw [unhide HN, List.take_length]] at hA
      have HA := hide hA
      clear hkn hk hgk hA
      go_wp2
      go_ret
      exact ⟨by rw [← unhide HA]; rfl, below_keep (unhide HB) (unhide HK)⟩
end Go.Proofs.YtgckgkllpkkpeaaDoor
