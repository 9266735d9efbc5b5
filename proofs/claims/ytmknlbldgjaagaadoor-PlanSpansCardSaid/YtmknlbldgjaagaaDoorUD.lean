/-
  Jobs: the law PlanSpans, over what the program's Valid and Span answer of small plans.
-/
import Derived.Test.YtmknlbldgjaagaaDoorUJ
namespace Go.Proofs.YtmknlbldgjaagaaDoor
open Go.RowKit

/-- What Span answers: the span, whether it is one, and the error's number. -/
noncomputable def spn (p : Pl) (x : List Int) : Int × Bool × Int :=
  if plvalid p ≠ 0 then (0, false, plvalid p) else if x.length ≠ p.jobs.length then (0, false, 4) else ((ends p x).1, (ends p x).2, 0)
theorem spn_jbs : spn jbs [0, 2] = (3, true, 0) := by rw [spn, if_neg (by rw [jbs_valid]; decide), if_neg (by decide), jbs_ends]
/-- What is asked of the program's Valid. -/
def ValidL (A : Nat → Addr) : Prop := ∀ (w : World) (pv : Value) (p : Pl), Sents w A → PlV w pv p → FewL p → Calls Tryd.prog 8 #[pv] w fun e w' => e = .returned (errV A (plvalid p)) ∧ Below w.heap.size w w'
/-- What is asked of the program's Span. -/
def SpanL (A : Nat → Addr) : Prop := ∀ (w : World) (pv xv : Value) (p : Pl) (x : List Int), Sents w A → PlV w pv p → Rows 1 JE w xv x → FewL p → x.length ≤ 20 → Calls Tryd.prog 4 #[pv, xv] w fun e w' => e = .returned (.tuple #[.int .i64 (spn p x).1, .bool (spn p x).2.1, errV A (spn p x).2.2]) ∧ Below w.heap.size w w'
set_option maxHeartbeats 8000000 in
set_option maxRecDepth 8000 in
theorem planSpans_law {A : Nat → Addr} {pv xv : Value} {p : Pl} {x : List Int} (w : World) (hS : Sents w A) (hp : PlV w pv p) (hx : Rows 1 JE w xv x) (hV : ValidL A) (hK : SpanL A) :
    Calls Tryd.prog 3 #[pv, xv] w fun e w' => e = .returned (.bool true) ∧ Below w.heap.size w w' := by
  obtain ⟨va, vc, qa, qc, rfl, hM⟩ := hp
  obtain ⟨sa, sc, rfl⟩ := hx.shape
  have kn := below_new w (.cells #[.slice va p.jobs.length vc, .slice qa p.caps.length qc] 25)
  obtain ⟨p0, p1⟩ := two_new w 25 (.slice va p.jobs.length vc) (.slice qa p.caps.length qc)
  have HM := hide (hM.later kn)
  have HX := hide (hx.later (JE.stays IsSl 0) kn)
  have HS := hide (hS.later kn)
  have HK := hide kn
  have HVC := hide hV
  have HKC := hide hK
  have sx : x.length ≤ 9223372036854775807 := by have := hx.small; unfold maxLen at this; omega
  have sv : p.jobs.length ≤ 9223372036854775807 := by have := hM.j.small; unfold maxLen at this; omega
  clear hM hx hS kn hV hK
  obtain ⟨g, hg⟩ : ∃ X, X = w.heap.size := ⟨_, rfl⟩
  obtain ⟨W, hW⟩ : ∃ X, X = w.alloc (.cells #[.slice va p.jobs.length vc, .slice qa p.caps.length qc] 25) := ⟨_, rfl⟩
  go_enter Tryd.func3, Tryd.ntmps3
  go_upto_region 1 with fail
  rw [← hW, ← hg]
  rw [← hW] at HM HX HS HK p0 p1
  rw [← hg] at p0 p1
  have P01 := hide (And.intro p0 p1)
  clear hW hg p0 p1
  obtain ⟨nx, hnx⟩ : ∃ n, n = x.length := ⟨_, rfl⟩
  obtain ⟨nv, hnv⟩ : ∃ n, n = p.jobs.length := ⟨_, rfl⟩
  obtain ⟨nc, hnc⟩ : ∃ n, n = p.caps.length := ⟨_, rfl⟩
  rw [← hnx] at HX sx ⊢
  rw [← hnv] at P01 sv ⊢
  rw [← hnc] at P01 ⊢
  have HN := hide (And.intro hnx (And.intro hnv hnc))
  have HPV := hide (show ∀ w' : World, Below W.heap.size W w' → PlV w' (.agg #[.slice va nv vc, .slice qa nc qc]) p from fun w' hb => by rw [hnv, hnc]; exact ⟨va, vc, qa, qc, rfl, (unhide HM).later hb⟩)
  clear hnx hnv hnc
  have BB := hide (Below.refl W.heap.size W)
  go_wp2_with fail
  go_fit (jobs_any _)
  rintro e W1 ⟨⟨dv, rfl, hdv⟩, B1⟩
  have BB := hide (below_keep B1 (unhide BB))
  have kn := below_new W1 (.cells #[.int .i64 0, .int .i64 2] 3)
  have h3 := ints_new W1 3 [0, 2] (by decide) (by decide)
  rw [show ([0, 2].map fun x => Value.int .i64 x).toArray = #[.int .i64 0, .int .i64 2] from rfl] at h3
  have HD := hide (And.intro (hdv.later kn) h3)
  have BB := hide (below_keep kn (unhide BB))
  clear B1 hdv h3 kn
  go_wp2_with fail
  go_fit (unhide HKC _ dv _ jbs [0, 2] ((unhide HS).later (unhide BB)) (unhide HD).1 (unhide HD).2 jbs_few (by decide))
  rintro e W2 ⟨he, B1⟩
  rw [spn_jbs, show errV A (3, true, (0 : Int)).2.2 = .nilIface from rfl] at he
  subst he
  have BB := hide (below_keep B1 (unhide BB))
  clear B1 HD
  have q0 := cell_keep (unhide BB) (unhide P01).1
  have q1 := cell_keep (unhide BB) (unhide P01).2
  go_wp2_with fail
  go_fit (fewl_any _ (unhide HPV _ (unhide BB)))
  rintro e W3 ⟨⟨fv, rfl, hfv⟩, B1⟩
  have BB := hide (below_keep B1 (unhide BB))
  clear B1 q0 q1
  have q0 := cell_keep (unhide BB) (unhide P01).1
  have q1 := cell_keep (unhide BB) (unhide P01).2
  rcases hfv with rfl | ⟨rfl, hfew⟩
  · go_wp2
    go_ret
    exact ⟨rfl, below_keep (unhide BB) (unhide HK)⟩
  have HFW := hide hfew
  clear hfew
  by_cases h20 : (20 : Int) < (nx : Int)
  · go_wp2
    go_ret
    exact ⟨rfl, below_keep (unhide BB) (unhide HK)⟩
  have HX20 := hide (show x.length ≤ 20 by have := unhide HN; omega)
  go_wp2_with fail
  go_fit (unhide HKC _ _ _ p x ((unhide HS).later (unhide BB)) (unhide HPV _ (unhide BB)) ((unhide HX).later (JE.stays IsSl 0) (unhide BB)) (unhide HFW) (unhide HX20))
  rintro e W4 ⟨rfl, B1⟩
  have BB := hide (below_keep B1 (unhide BB))
  clear B1 q0 q1
  obtain ⟨sn, hsn⟩ : ∃ s, s = (spn p x).1 := ⟨_, rfl⟩
  obtain ⟨sy, hsy⟩ : ∃ s, s = (spn p x).2.1 := ⟨_, rfl⟩
  obtain ⟨se, hse⟩ : ∃ s, s = (spn p x).2.2 := ⟨_, rfl⟩
  rw [← hsn, ← hsy, ← hse]
  have HSP := hide (And.intro hsn (And.intro hsy hse))
  clear hsn hsy hse
  have q0 := cell_keep (unhide BB) (unhide P01).1
  have q1 := cell_keep (unhide BB) (unhide P01).2
  go_wp2_with fail
  go_fit (rplvalid_any _ (unhide HPV _ (unhide BB)))
  rintro e W5 ⟨rfl, B1⟩
  have BB := hide (below_keep B1 (unhide BB))
  clear B1 q0 q1
  have q0 := cell_keep (unhide BB) (unhide P01).1
  have q1 := cell_keep (unhide BB) (unhide P01).2
  go_wp2_with fail
  go_fit (unhide HVC _ _ p ((unhide HS).later (unhide BB)) (unhide HPV _ (unhide BB)) (unhide HFW))
  rintro e W6 ⟨rfl, B1⟩
  have BB := hide (below_keep B1 (unhide BB))
  clear B1 q0 q1
  obtain ⟨ec, hec⟩ : ∃ ec, ec = plvalid p := ⟨_, rfl⟩
  have hcod := plvalid_codes p
  rw [← hec] at hcod ⊢
  have HEC := hide hec
  clear hec
  go_wp2_with fail
  go_fit (coded_err A _ hcod ((unhide HS).later (unhide BB)))
  rintro e W7 ⟨rfl, B1⟩
  have BB := hide (below_keep B1 (unhide BB))
  clear B1
  have q0 := cell_keep (unhide BB) (unhide P01).1
  have q1 := cell_keep (unhide BB) (unhide P01).2
  by_cases h0 : ec = 0
  rotate_left
  · have hpos : 0 < ec := by omega
    have h0' : (ec == 0) = false := by simpa using h0
    obtain ⟨rfl, rfl, rfl⟩ : sn = 0 ∧ sy = false ∧ se = ec := by
      obtain ⟨h1, h2, h3⟩ := unhide HSP
      rw [spn, if_pos (by rw [← unhide HEC]; exact h0)] at h1 h2 h3
      exact ⟨h1, h2, by rw [h3, unhide HEC]⟩
    go_wp2_with fail
    go_fit (coded_err A _ hcod ((unhide HS).later (unhide BB)))
    rintro e W8 ⟨rfl, B1⟩
    have BB := hide (below_keep B1 (unhide BB))
    clear B1
    go_wp2
    go_ret
    exact ⟨rfl, below_keep (unhide BB) (unhide HK)⟩
  subst h0
  by_cases hne : nx = nv
  rotate_left
  · have hne' : ((nx : Int) != (nv : Int)) = true := by simp; omega
    obtain ⟨rfl, rfl, rfl⟩ : sn = 0 ∧ sy = false ∧ se = 4 := by
      obtain ⟨h1, h2, h3⟩ := unhide HSP
      rw [spn, if_neg (by rw [← unhide HEC]; decide), if_pos (by have := unhide HN; omega)] at h1 h2 h3
      exact ⟨h1, h2, h3⟩
    go_wp2_with fail
    go_fit (coded_err A _ (e := 4) (Or.inr (Or.inr rfl)) ((unhide HS).later (unhide BB)))
    rintro e W8 ⟨rfl, B1⟩
    have BB := hide (below_keep B1 (unhide BB))
    clear B1
    go_wp2
    go_ret
    exact ⟨rfl, below_keep (unhide BB) (unhide HK)⟩
  have hne' : ((nx : Int) != (nv : Int)) = false := by simp; omega
  have HLE := hide (show x.length = p.jobs.length by have := unhide HN; omega)
  obtain ⟨h1, h2, rfl⟩ : sn = (ends p x).1 ∧ sy = (ends p x).2 ∧ se = 0 := by
    obtain ⟨h1, h2, h3⟩ := unhide HSP
    rw [spn, if_neg (by rw [← unhide HEC]; decide), if_neg (by have := unhide HN; omega)] at h1 h2 h3
    exact ⟨h1, h2, h3⟩
  have HE := hide (And.intro h1 h2)
  have hen : errV A 0 = .nilIface := rfl
  rw [hen]
  have HXW := hide (show ∀ w' : World, Below W.heap.size W w' → Rows 1 JE w' (.slice sa x.length sc) x from fun w' hb => by rw [← (unhide HN).1]; exact (unhide HX).later (JE.stays IsSl 0) hb)
  have hnxl := (unhide HN).1
  clear h1 h2 hne hen
  go_wp2_with fail
  go_fit (rends_any _ (unhide HPV _ (unhide BB)) (unhide HXW _ (unhide BB)) (plr_of (unhide HEC).symm) (unhide HLE))
  rintro e W8 ⟨rfl, B1⟩
  have BB := hide (below_keep B1 (unhide BB))
  rw [← (unhide HE).1, ← (unhide HE).2]
  clear B1
  go_wp2
  go_ret
  exact ⟨by simp, below_keep (unhide BB) (unhide HK)⟩
end Go.Proofs.YtmknlbldgjaagaaDoor
