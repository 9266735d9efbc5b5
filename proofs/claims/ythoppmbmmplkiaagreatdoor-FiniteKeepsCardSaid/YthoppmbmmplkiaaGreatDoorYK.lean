/-
  Puzzles: the law FiniteKeeps, over what the program's Valid and Keeps answer of small puzzles.
-/
import Derived.Test.YthoppmbmmplkiaaGreatDoorYJ
namespace Go.Proofs.YthoppmbmmplkiaaGreatDoor
open Go.RowKit

theorem dif_few : FewP dif := ⟨by decide, by decide, by decide, by decide⟩
/-- What is asked of the program's Valid. -/
def ValidC (A : Nat → Addr) : Prop := ∀ (w : World) (pv : Value) (p : Pz), Sents w A → PzV w pv p → FewP p → Calls Tryz.prog 8 #[pv] w fun e w' => e = .returned (errV A (pvalid p)) ∧ Below w.heap.size w w'
/-- What is asked of the program's Keeps. -/
def KeepsC (A : Nat → Addr) : Prop := ∀ (w : World) (pv xv : Value) (p : Pz) (x : List Int), Sents w A → PzV w pv p → Rows 1 JE w xv x → FewP p → x.length ≤ 20 → Calls Tryz.prog 4 #[pv, xv] w fun e w' => KpP A p x e ∧ Below w.heap.size w w'
set_option maxHeartbeats 8000000 in
set_option maxRecDepth 8000 in
theorem finiteKeeps_law {A : Nat → Addr} {pv xv : Value} {p : Pz} {x : List Int} (w : World) (hS : Sents w A) (hp : PzV w pv p) (hx : Rows 1 JE w xv x) (hV : ValidC A) (hK : KeepsC A) :
    Calls Tryz.prog 3 #[pv, xv] w fun e w' => e = .returned (.bool true) ∧ Below w.heap.size w w' := by
  obtain ⟨va, vc, qa, qc, rfl, hM⟩ := hp
  obtain ⟨sa, sc, rfl⟩ := hx.shape
  have kn := below_new w (.cells #[.slice va p.vals.length vc, .slice qa p.cons.length qc] 25)
  obtain ⟨p0, p1⟩ := two_new w 25 (.slice va p.vals.length vc) (.slice qa p.cons.length qc)
  have HM := hide (hM.later kn)
  have HX := hide (hx.later (JE.stays IsSl 0) kn)
  have HS := hide (hS.later kn)
  have HK := hide kn
  have HVC := hide hV
  have HKC := hide hK
  have sx : x.length ≤ 9223372036854775807 := by have := hx.small; unfold maxLen at this; omega
  have sv : p.vals.length ≤ 9223372036854775807 := by have := hM.v.small; unfold maxLen at this; omega
  clear hM hx hS kn hV hK
  obtain ⟨g, hg⟩ : ∃ X, X = w.heap.size := ⟨_, rfl⟩
  obtain ⟨W, hW⟩ : ∃ X, X = w.alloc (.cells #[.slice va p.vals.length vc, .slice qa p.cons.length qc] 25) := ⟨_, rfl⟩
  go_enter Tryz.func3, Tryz.ntmps3
  go_upto_region 1 with fail
  rw [← hW, ← hg]
  rw [← hW] at HM HX HS HK p0 p1
  rw [← hg] at p0 p1
  have P01 := hide (And.intro p0 p1)
  clear hW hg p0 p1
  obtain ⟨nx, hnx⟩ : ∃ n, n = x.length := ⟨_, rfl⟩
  obtain ⟨nv, hnv⟩ : ∃ n, n = p.vals.length := ⟨_, rfl⟩
  obtain ⟨nc, hnc⟩ : ∃ n, n = p.cons.length := ⟨_, rfl⟩
  rw [← hnx] at HX sx ⊢
  rw [← hnv] at P01 sv ⊢
  rw [← hnc] at P01 ⊢
  have HN := hide (And.intro hnx (And.intro hnv hnc))
  have HPV := hide (show ∀ w' : World, Below W.heap.size W w' → PzV w' (.agg #[.slice va nv vc, .slice qa nc qc]) p from fun w' hb => by rw [hnv, hnc]; exact ⟨va, vc, qa, qc, rfl, (unhide HM).later hb⟩)
  clear hnx hnv hnc
  have BB := hide (Below.refl W.heap.size W)
  go_wp2_with fail
  go_fit (differ_any _)
  rintro e W1 ⟨⟨dv, rfl, hdv⟩, B1⟩
  have BB := hide (below_keep B1 (unhide BB))
  have kn := below_new W1 (.cells #[.int .i64 2, .int .i64 1, .int .i64 3] 3)
  have h3 := ints_new W1 3 [2, 1, 3] (by decide) (by decide)
  rw [show ([2, 1, 3].map fun x => Value.int .i64 x).toArray = #[.int .i64 2, .int .i64 1, .int .i64 3] from rfl] at h3
  have HD := hide (And.intro (show PzV (W1.alloc (.cells #[.int .i64 2, .int .i64 1, .int .i64 3] 3)) dv dif from by obtain ⟨a, b, c, d, e, h⟩ := hdv; exact ⟨a, b, c, d, e, h.later kn⟩) h3)
  have BB := hide (below_keep kn (unhide BB))
  clear B1 hdv h3 kn
  go_wp2_with fail
  go_fit (unhide HKC _ dv _ dif [2, 1, 3] ((unhide HS).later (unhide BB)) (unhide HD).1 (unhide HD).2 dif_few (by decide))
  rintro e W2 ⟨hc, B1⟩
  have BB := hide (below_keep B1 (unhide BB))
  obtain ⟨bv, rfl, hbv⟩ : ∃ bv, e = .returned (.tuple #[bv, .nilIface]) ∧ bv = .bool true := by
    rcases hc with ⟨h, _⟩ | ⟨_, h, _⟩ | ⟨_, _, b, h1, h2⟩
    · exact absurd dif_valid h
    · exact absurd rfl h
    · rcases h2 with ⟨h2, _⟩ | ⟨_, h2⟩
      · exact ⟨b, h1, h2⟩
      · exact absurd dif_keeps h2
  subst hbv
  clear hc B1 HD
  have q0 := cell_keep (unhide BB) (unhide P01).1
  have q1 := cell_keep (unhide BB) (unhide P01).2
  go_wp2_with fail
  go_fit (few_any _ (unhide HPV _ (unhide BB)))
  rintro e W3 ⟨⟨fv, rfl, hfv⟩, B1⟩
  have BB := hide (below_keep B1 (unhide BB))
  clear B1 q0 q1
  have q0 := cell_keep (unhide BB) (unhide P01).1
  have q1 := cell_keep (unhide BB) (unhide P01).2
  rcases hfv with rfl | ⟨rfl, hfew⟩
  · go_wp2
    go_ret
    exact ⟨rfl, below_keep (unhide BB) (unhide HK)⟩
  have HFW := hide hfew
  clear hfew
  by_cases h20 : (20 : Int) < (nx : Int)
  · go_wp2
    go_ret
    exact ⟨rfl, below_keep (unhide BB) (unhide HK)⟩
  have HX20 := hide (show x.length ≤ 20 by have := unhide HN; omega)
  go_wp2_with fail
  go_fit (unhide HKC _ _ _ p x ((unhide HS).later (unhide BB)) (unhide HPV _ (unhide BB)) ((unhide HX).later (JE.stays IsSl 0) (unhide BB)) (unhide HFW) (unhide HX20))
  rintro e W4 ⟨hc, B1⟩
  have BB := hide (below_keep B1 (unhide BB))
  clear B1 q0 q1
  obtain ⟨bv, ev, rfl, HC⟩ : ∃ bv ev, e = .returned (.tuple #[bv, ev]) ∧ Hid ((pvalid p ≠ 0 ∧ bv = .bool false ∧ ev = errV A (pvalid p)) ∨ (pvalid p = 0 ∧ nx ≠ nv ∧ bv = .bool false ∧ ev = errV A 4) ∨ (pvalid p = 0 ∧ nx = nv ∧ ev = .nilIface ∧ ((bv = .bool true ∧ keepsP p x) ∨ (bv = .bool false ∧ ¬ keepsP p x)))) := by
    obtain ⟨n1, n2, _⟩ := unhide HN
    rcases hc with ⟨h1, rfl⟩ | ⟨h1, h2, rfl⟩ | ⟨h1, h2, b, rfl, h3⟩
    · exact ⟨_, _, rfl, hide (Or.inl ⟨h1, rfl, rfl⟩)⟩
    · exact ⟨_, _, rfl, hide (Or.inr (Or.inl ⟨h1, by rw [n1, n2]; exact h2, rfl, rfl⟩))⟩
    · exact ⟨_, _, rfl, hide (Or.inr (Or.inr ⟨h1, by rw [n1, n2]; exact h2, rfl, h3⟩))⟩
  clear hc
  have q0 := cell_keep (unhide BB) (unhide P01).1
  have q1 := cell_keep (unhide BB) (unhide P01).2
  go_wp2_with fail
  go_fit (rpvalid_any _ (unhide HPV _ (unhide BB)))
  rintro e W5 ⟨rfl, B1⟩
  have BB := hide (below_keep B1 (unhide BB))
  clear B1 q0 q1
  have q0 := cell_keep (unhide BB) (unhide P01).1
  have q1 := cell_keep (unhide BB) (unhide P01).2
  go_wp2_with fail
  go_fit (unhide HVC _ _ p ((unhide HS).later (unhide BB)) (unhide HPV _ (unhide BB)) (unhide HFW))
  rintro e W6 ⟨rfl, B1⟩
  have BB := hide (below_keep B1 (unhide BB))
  clear B1 q0 q1
  obtain ⟨ec, hec⟩ : ∃ ec, ec = pvalid p := ⟨_, rfl⟩
  have hcod := pvalid_codes p
  rw [← hec] at HC hcod ⊢
  have HEC := hide hec
  clear hec
  go_wp2_with fail
  go_fit (coded_err A _ hcod ((unhide HS).later (unhide BB)))
  rintro e W7 ⟨rfl, B1⟩
  have BB := hide (below_keep B1 (unhide BB))
  clear B1
  have q0 := cell_keep (unhide BB) (unhide P01).1
  have q1 := cell_keep (unhide BB) (unhide P01).2
  rcases unhide HC with ⟨h0, rfl, rfl⟩ | ⟨rfl, hne, rfl, rfl⟩ | ⟨rfl, heq, rfl, hkk⟩
  · have hpos : 0 < ec := by omega
    have h0' : (ec == 0) = false := by simpa using h0
    go_wp2_with fail
    go_fit (coded_err A _ hcod ((unhide HS).later (unhide BB)))
    rintro e W8 ⟨rfl, B1⟩
    have BB := hide (below_keep B1 (unhide BB))
    clear B1
    go_wp2
    go_ret
    exact ⟨rfl, below_keep (unhide BB) (unhide HK)⟩
  · have hne' : ((nx : Int) != (nv : Int)) = true := by simp; omega
    go_wp2_with fail
    go_fit (coded_err A _ (e := 4) (Or.inr (Or.inr rfl)) ((unhide HS).later (unhide BB)))
    rintro e W8 ⟨rfl, B1⟩
    have BB := hide (below_keep B1 (unhide BB))
    clear B1
    go_wp2
    go_ret
    exact ⟨rfl, below_keep (unhide BB) (unhide HK)⟩
  · have hne' : ((nx : Int) != (nv : Int)) = false := by simp; omega
    have HLE := hide (show x.length = p.vals.length by have := unhide HN; omega)
    have HKK := hide hkk
    clear heq hkk
    obtain ⟨bb, rfl, hbb⟩ : ∃ bb : Bool, bv = .bool bb ∧ (bb = true ↔ keepsP p x) := by
      rcases unhide HKK with ⟨h1, h2⟩ | ⟨h1, h2⟩
      · exact ⟨true, h1, fun _ => h2, fun _ => rfl⟩
      · exact ⟨false, h1, (fun h => by cases h), fun h => absurd h h2⟩
    have HBB := hide hbb
    clear hbb HKK HC
    go_wp2_with fail
    go_fit (rkeeps_any _ (unhide HPV _ (unhide BB)) ((unhide HX).later (JE.stays IsSl 0) (unhide BB)) (pzOk (unhide HEC).symm) (unhide HLE))
    rintro e W8 ⟨⟨cc, rfl, hcc⟩, B1⟩
    have BB := hide (below_keep B1 (unhide BB))
    obtain rfl : bb = cc := by
      have h1 := unhide HBB
      cases bb <;> cases cc <;> simp_all
    clear B1 hcc
    go_wp2
    go_ret
    exact ⟨by simp, below_keep (unhide BB) (unhide HK)⟩
end Go.Proofs.YthoppmbmmplkiaaGreatDoor
