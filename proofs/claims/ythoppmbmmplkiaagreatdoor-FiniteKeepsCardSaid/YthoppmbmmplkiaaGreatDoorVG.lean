/-
  Puzzles: rows that are made and filled; the program's pick.
-/
import Derived.Test.YthoppmbmmplkiaaGreatDoorVF
namespace Go.Proofs.YthoppmbmmplkiaaGreatDoor
open Go.RowKit

theorem run_make_k {P : Program} (t e : TypeId) (z : Value) (k bytes : Nat) (ht : P.underlying t = some (.slice e)) (hinfo : (P.info? e).map (fun i => (i.zero, i.size, i.bytes)) = some (some z, k, bytes))
    (kl kc : IntKind) (n : Nat) (hbytes : bytes * n ≤ 281474976710656) (h63 : n ≤ 9223372036854775807) (w : World) :
    (Instr.makeSlice t (.int kl (n : Int)) (.int kc (n : Int))).run P w = .ok (.slice (some ⟨w.heap.size, 0, none⟩) n n) (w.alloc (.cells (madeCells z.cells (n * k)) e)) := by
  obtain ⟨i, hi, hz, hs, hb⟩ := info_parts hinfo
  subst hb hs
  have hb' : (i.bytes : Int) * (n : Int) ≤ 281474976710656 := by
    have h : ((i.bytes * n : Nat) : Int) ≤ 281474976710656 := by omega
    rwa [Int.natCast_mul] at h
  have hr := run_make (P := P) w t e i z ht hi hz kl kc n n (by omega) (Int.le_refl _) hb' (by omega)
  simp only [Int.toNat_natCast] at hr
  exact hr
theorem setCell_block {w : World} {g o : Nat} {cur : Array Value} {t : TypeId} {f : Nat × Nat} (h : w.heap[g]? = some (.cells cur t f)) (v : Value) : (w.setCell ⟨g, o, none⟩ v).heap[g]? = some (.cells (cur.setIfInBounds o v) t f) := by
  simp [World.setCell, Array.getElem?_modify, h]
/-- A block of n cells that is filled from the first one on. -/
def FillV (t : TypeId) (w : World) (B n : Nat) (vs : List Value) : Prop := ∃ cur, w.heap[B]? = some (.cells cur t (0, 0)) ∧ cur.size = n ∧ vs.length ≤ n ∧ ∀ (j : Nat) (u : Value), vs[j]? = some u → cur[j]? = some u
theorem FillV.new (t : TypeId) (w : World) (z : Array Value) (n : Nat) : FillV t (w.alloc (.cells (madeCells z n) t)) w.heap.size n [] :=
  ⟨_, heap_alloc_new w _, size_madeCells _ _, Nat.zero_le _, fun j u hu => by simp at hu⟩
theorem FillV.later {t : TypeId} {w w' : World} {B n : Nat} {vs : List Value} (h : FillV t w B n vs) (hb : Below w.heap.size w w') : FillV t w' B n vs := by
  obtain ⟨cur, h1, h2⟩ := h
  exact ⟨cur, by rw [hb.block B (Array.getElem?_eq_some_iff.1 h1).1]; exact h1, h2⟩
theorem FillV.cell {t : TypeId} {w : World} {B n o : Nat} {vs : List Value} (h : FillV t w B n vs) (ho : o < n) : ∃ u, w.cell? ⟨B, o, none⟩ = some u := by
  obtain ⟨cur, h1, h2, _⟩ := h
  exact ⟨cur[o]'(by omega), block_cell h1 (by simp)⟩
theorem FillV.free {t : TypeId} {w : World} {B n : Nat} {vs : List Value} (h : FillV t w B n vs) (o : Nat) : w.frozen? ⟨B, o, none⟩ = false := by
  obtain ⟨cur, h1, _⟩ := h
  simp [World.frozen?, h1]
theorem FillV.store {t : TypeId} {w : World} {B n i : Nat} {vs : List Value} (h : FillV t w B n vs) (hi : vs.length = i) (hn : i < n) (v : Value) : FillV t (w.setCell ⟨B, i, none⟩ v) B n (vs ++ [v]) := by
  obtain ⟨cur, h1, h2, h3, h4⟩ := h
  refine ⟨_, setCell_block h1 v, by simp [h2], by simp; omega, fun j u hu => ?_⟩
  rw [Array.getElem?_setIfInBounds]
  rcases Nat.lt_trichotomy j vs.length with hj | rfl | hj
  · rw [List.getElem?_append_left hj] at hu
    rw [if_neg (by omega)]
    exact h4 j u hu
  · rw [if_pos hi.symm, if_pos (by omega)]
    simpa using hu
  · rw [List.getElem?_eq_none (by simp; omega)] at hu
    cases hu
theorem FillV.done {t : TypeId} {w : World} {B n : Nat} {vs : List Value} (h : FillV t w B n vs) (hn : vs.length = n) : w.heap[B]? = some (.cells vs.toArray t (0, 0)) := by
  obtain ⟨cur, h1, h2, h3, h4⟩ := h
  rw [h1]
  congr 2
  apply Array.ext
  · simp [h2, hn]
  · intro i hi1 hi2
    have := h4 i vs[i]! (by simp at hi2; simp [hi2])
    simp at hi2
    rw [Array.getElem?_eq_getElem hi1] at this
    simp [hi2] at this
    simpa using this
/-- The values of variables. -/
def pickL (x vars : List Int) : List Int := vars.map fun k => x.getD k.toNat 0
/-- Numbers as cells. -/
def intC (l : List Int) : List Value := l.map fun x => Value.int .i64 x
set_option maxHeartbeats 8000000 in
set_option maxRecDepth 8000 in
/-- pick. -/
theorem pick_any {xv : Value} {x vars : List Int} {a1 : Option Addr} {c1 : Nat} (w : World) (hx : Rows 1 JE w xv x) (hv : Rows 1 JE w (.slice a1 vars.length c1) vars) (hr : ∀ k ∈ vars, 0 ≤ k ∧ k < (x.length : Int)) (h8 : vars.length ≤ 8) :
    Calls Tryz.prog 75 #[.agg #[.slice a1 vars.length c1], xv] w fun e w' => (∃ B, e = .returned (.slice (some ⟨B, 0, none⟩) vars.length vars.length) ∧ w.heap.size ≤ B ∧ w'.heap[B]? = some (.cells (intC (pickL x vars)).toArray 3 (0, 0))) ∧ Below w.heap.size w w' := by
  obtain ⟨xa, xc, rfl⟩ := hx.shape
  have kn := below_new w (.cells #[.slice a1 vars.length c1] 67)
  have HX := hide (hx.later (JE.stays IsSl 0) kn)
  have HV := hide (hv.later (JE.stays IsSl 0) kn)
  have HR := hide hr
  have HK := hide kn
  have k0 := one_new w 67 (.slice a1 vars.length c1)
  have sx : x.length ≤ 9223372036854775807 := by have := hx.small; unfold maxLen at this; omega
  clear hx hv hr kn
  obtain ⟨n, hn⟩ : ∃ n, n = vars.length := ⟨_, rfl⟩
  obtain ⟨nx, hnx⟩ : ∃ n, n = x.length := ⟨_, rfl⟩
  rw [← hn] at h8 HV HK HX k0 ⊢
  rw [← hnx] at HX sx HR ⊢
  have HN := hide (And.intro hn hnx)
  clear hn hnx
  obtain ⟨g, hg⟩ : ∃ X, X = w.heap.size := ⟨_, rfl⟩
  obtain ⟨W, hW⟩ : ∃ X, X = w.alloc (.cells #[.slice a1 n c1] 67) := ⟨_, rfl⟩
  have hmk := run_make_k (P := Tryz.prog) 26 3 _ 1 8 Tryz.underlying26 info_i .i64 .i64 n (by omega) (by omega)
  go_enter Tryz.func75, Tryz.ntmps75
  go_upto_region 1 with fail
  rw [← hW, ← hg]
  rw [← hW] at HX HV HK k0
  rw [← hg] at k0
  have hgW : w.heap.size ≤ W.heap.size := by rw [hW]; simp
  clear hW hg
  have HGW := hide hgW
  clear hgW
  go_upto_region 2 with fail
  have hF := FillV.new 3 W #[.int .i64 0] n
  have kn := below_new W (.cells (madeCells #[.int .i64 0] n) 3)
  obtain ⟨B, hB⟩ : ∃ X, X = W.heap.size := ⟨_, rfl⟩
  obtain ⟨V, hV⟩ : ∃ X, X = W.alloc (.cells (madeCells #[.int .i64 0] n) 3) := ⟨_, rfl⟩
  rw [← hV, ← hB]
  rw [← hV, ← hB] at hF
  rw [← hV] at kn
  have HF := hide hF
  have HKN := hide kn
  have HBB := hide hB
  have q0 := cell_keep kn k0
  clear hF kn hB hV hmk
  go_wp2_with fail
  go_loopg [6, 7, 15] n (fun gk _ _ iv wr => ∃ (i : Nat) (vs : List Value), i ≤ n ∧ gk = n - i ∧ iv = .int .i64 (i : Int) ∧ vs.length = i ∧ Hid (vs = intC (pickL x (vars.take i))) ∧ Hid (Below W.heap.size W wr) ∧ Hid (FillV 3 wr B n vs))
  case atStart => exact ⟨0, [], by omega, by omega, rfl, rfl, hide rfl, HKN, HF⟩
  case round =>
    clear HF
    obtain ⟨i, vs, hi, hgk, rfl, hvl, HVS, HB, HF⟩ := hrel
    by_cases hin : i < n
    · obtain ⟨k, hk⟩ : ∃ k, vars[i]? = some k := ⟨vars[i]'(by have := unhide HN; omega), by simp⟩
      obtain ⟨hk1, hk2⟩ := unhide HR k (List.mem_of_getElem? hk)
      obtain ⟨z, rfl⟩ : ∃ z : Nat, k = (z : Int) := ⟨k.toNat, by omega⟩
      obtain ⟨y, hy⟩ : ∃ y, x[z]? = some y := ⟨x[z]'(by have := unhide HN; omega), by simp⟩
      obtain ⟨b, o, rfl, c0, _⟩ := (unhide HV).int hk
      obtain ⟨b', o', rfl, d0, _⟩ := (unhide HX).int hy
      have c0 := cell_keep (unhide HB) c0
      have d0 := cell_keep (unhide HB) d0
      have hin' : (i : Int) < (n : Int) := by omega
      obtain ⟨u, e0⟩ := (unhide HF).cell (o := i) hin
      have gf := (unhide HF).free i
      have HY := hide (And.intro hk hy)
      have HVL := hide hvl
      clear hk hy hk1 hvl
      go_wp2
      go_roundg (n - (i + 1))
      case measure => omega
      case rel =>
        refine ⟨i + 1, vs ++ [.int .i64 y], by omega, rfl, by go_num, by rw [List.length_append, unhide HVL]; rfl, hide ?_, hide ((unhide HB).setCell (by rw [unhide HBB]; exact Nat.le_refl _) _), hide ((unhide HF).store (unhide HVL) hin _)⟩
        rw [take_next (unhide HY).1, unhide HVS]
        simp [pickL, intC, (unhide HY).2]
    · obtain rfl : n = i := by omega
      have HVL := hide hvl
      clear hin hi hgk hvl
      go_wp2
      go_ret
      refine ⟨⟨B, rfl, by rw [unhide HBB]; exact unhide HGW, ?_⟩, below_keep (unhide HB) (unhide HK)⟩
      rw [(unhide HF).done (unhide HVL), unhide HVS, show vars.take n = vars from by rw [(unhide HN).1, List.take_length]]
end Go.Proofs.YthoppmbmmplkiaaGreatDoor
