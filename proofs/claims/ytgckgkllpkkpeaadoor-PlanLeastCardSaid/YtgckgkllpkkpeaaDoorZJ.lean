/-
  Jobs: slices.Backward, as what is ranged over.
-/
import Derived.Test.YtgckgkllpkkpeaaDoorZI
import Derived.RangeFuncNested
import Derived.RangeFuncBound
import Derived.RangeFuncCalls
import Derived.RangeFuncLeaves
import Derived.Shelf.Abstract
import Derived.WalkKit
import Derived.OwnWalkIn
import Derived.TacticsInMore
import Derived.LoopNIn
import Derived.LoopIn
namespace Go.Proofs.YtgckgkllpkkpeaaDoor
open Go.RowKit Go.Shelf

attribute [local go_sem] Oper.semAt_some

/-- The number of a job. -/
abbrev Ji (p : Pl) : Type := { i : Nat // i < p.jobs.length }
/-- The last jobs, from the last on. -/
def dnL (p : Pl) : Nat → List (Ji p)
  | 0 => []
  | t + 1 => dnL p t ++ (if h : t < p.jobs.length then [⟨p.jobs.length - 1 - t, by omega⟩] else [])
theorem dnL_len {p : Pl} : ∀ {t : Nat}, t ≤ p.jobs.length → (dnL p t).length = t
  | 0, _ => rfl
  | t + 1, h => by rw [dnL, List.length_append, dnL_len (by omega), dif_pos (by omega)]; rfl
theorem dnL_succ {p : Pl} {k : Nat} (h : k < p.jobs.length) : dnL p (p.jobs.length - k) = dnL p (p.jobs.length - (k + 1)) ++ [⟨k, h⟩] := by
  obtain ⟨t, ht⟩ : ∃ t, t + 1 = p.jobs.length - k := ⟨p.jobs.length - k - 1, by omega⟩
  rw [← ht, dnL, dif_pos (by omega), show p.jobs.length - (k + 1) = t by omega]
  congr 2
  apply Subtype.ext
  simp only
  omega
/-- What lies ahead of a block, and in one block more, stays. -/
def KpB (n₀ Bn : Nat) (W W' : World) : Prop := ∀ (a : Addr) (v : Value), (a.block < n₀ ∨ a.block = Bn) → W.cell? a = some v → W'.cell? a = some v
theorem KpB.t {n₀ Bn : Nat} {A B C : World} (h : KpB n₀ Bn A B) (k : KpB n₀ Bn B C) : KpB n₀ Bn A C := fun a v ha hv => k a v ha (h a v ha hv)
theorem KpB.b {n₀ Bn : Nat} (W : World) (l : Nat) (o o' : Obj) (h : W.heap[l]? = some o) (hc : o.isCells = false) : KpB n₀ Bn W (W.putObj l o') := fun _ _ _ hv => cell_kept hv (grownBy_putObj' W l o') (fun r e => by cases e; exact ⟨o, h, hc⟩)
/-- The jobs as values. -/
def JvOk (p : Pl) (w : World) (ja : Option Addr) (n₀ : Nat) (jv : Nat → Value) : Prop := ∀ i, i < p.jobs.length → ∃ (b o : Nat) (z : Int) (a1 a2 : Option Addr) (n1 n2 d1 d2 : Nat), ja = some ⟨b, o, none⟩ ∧ b < n₀ ∧ jv i = .agg #[.int .i64 z, .slice a1 n1 d1, .slice a2 n2 d2] ∧ w.cell? ⟨b, o + i * 3, none⟩ = some (.int .i64 z) ∧ w.cell? ⟨b, o + i * 3 + 1, none⟩ = some (.slice a1 n1 d1) ∧ w.cell? ⟨b, o + i * 3 + 2, none⟩ = some (.slice a2 n2 d2)
theorem JvOk.kept {p : Pl} {w w' : World} {ja : Option Addr} {n₀ Bn : Nat} {jv : Nat → Value} (h : JvOk p w ja n₀ jv) (hk : KpB n₀ Bn w w') : JvOk p w' ja n₀ jv := fun i hi => by
  obtain ⟨b, o, z, a1, a2, n1, n2, d1, d2, h1, h2, h3, h4, h5, h6⟩ := h i hi
  exact ⟨b, o, z, a1, a2, n1, n2, d1, d2, h1, h2, h3, hk _ _ (Or.inl h2) h4, hk _ _ (Or.inl h2) h5, hk _ _ (Or.inl h2) h6⟩
set_option maxRecDepth 100000 in
set_option maxHeartbeats 4000000 in
theorem back_stops {p : Pl} (hp : p.jobs.length ≤ 7) {ja : Option Addr} {jc n₀ Bn N1 : Nat} {jv : Nat → Value} (w : World) (hn : n₀ ≤ w.heap.size) (hBn : Bn < w.heap.size) (hc : w.cell? ⟨Bn, 0, none⟩ = some (.slice ja p.jobs.length jc)) (hJ : JvOk p w ja n₀ jv) :
    SeqStopsK Fence.wide N1 Tryd.prog 30 #[.pointer (some ⟨Bn, 0, none⟩)] (fun x : Ji p => #[.int .i64 (x.1 : Int), jv x.1]) (KpB n₀ Bn) (fun xs => xs = dnL p p.jobs.length) (fun _ => True) p.jobs.length w := fun l J Jx W hW _ _ hY h0 => by
  have hc' : W.cell? ⟨Bn, 0, none⟩ = some (.slice ja p.jobs.length jc) := cell_keep hW hc
  have hJ' : JvOk p W ja n₀ jv := hJ.kept (Bn := Bn) fun a v ha hv => (hW.cell (p := a) (by rcases ha with h | h <;> omega)).trans hv
  clear hJ hc
  have HJ := hide hJ'
  have HY := hide hY
  have HLN := hide (show ∀ t, t ≤ p.jobs.length → (dnL p t).length = t from fun t h => dnL_len h)
  clear hJ' hY
  obtain ⟨n, hnn⟩ : ∃ n, n = p.jobs.length := ⟨_, rfl⟩
  rw [← hnn] at hc' hp
  have HN := hide hnn
  show CallsIn Fence.wide N1 Tryd.prog 30 #[.func (.yield l) #[] #[], .pointer (some ⟨Bn, 0, none⟩)] W _
  refine callsIn_of_wp Tryd.func30 rfl trivial ?_ rfl
  simp only [Tryd.ntmps30, List.size_toArray, List.length_cons, List.length_nil, Nat.reduceAdd, Nat.reduceSub, Array.replicate_succ, Array.replicate_zero, List.push_toArray, List.append_toArray, List.nil_append, List.cons_append]
  clear hnn
  have ew : wrap64 ((n : Int) - 1) = (n : Int) - 1 := by unfold wrap64; omega
  gi_wp2
  gi_loopw [3] (fun iv wr => ∃ k : Nat, k ≤ n ∧ iv = .int .i64 ((k : Int) - 1) ∧ Hid (J (dnL p (p.jobs.length - k)) wr) ∧ Hid (KpB n₀ Bn W wr))
    (fun iv _ => (intOf iv + 1).toNat)
  case atStart => exact ⟨n, Nat.le_refl _, rfl, hide (by rw [← unhide HN, Nat.sub_self]; exact h0), hide (fun _ _ _ h => h)⟩
  case round =>
    obtain ⟨k, hk, rfl, HJs, HK⟩ := hrel
    cases k with
    | zero =>
      gi_wp2
      go_end0
      exact ⟨⟨_, rfl⟩, .inl ⟨_, rfl, by have := unhide HJs; rwa [Nat.sub_zero] at this⟩⟩
    | succ k =>
      have hkp : k < p.jobs.length := by rw [← unhide HN]; omega
      obtain ⟨b, o, z, a1, a2, n1, n2, d1, d2, rfl, hb, hjv, c0, c1, c2⟩ := (unhide HJ).kept (unhide HK) k hkp
      obtain ⟨fn, tmps, assign, body, hy, hR⟩ := unhide HY _ ⟨k, hkp⟩ wr (unhide HJs) (by rw [unhide HLN _ (by omega)]; omega)
      dsimp only at hy
      rw [hjv] at hy
      have cB := unhide HK _ _ (Or.inr rfl) hc'
      have ek : ((k + 1 : Nat) : Int) - 1 = (k : Int) := by omega
      rw [ek]
      have hkn : (k : Int) < (n : Int) := by omega
      have HMS := hide hk
      have HSU := hide (dnL_succ hkp)
      clear ek hk hjv
      gi_wp2
      refine ⟨(fun h => by cases h), hR.mono ?_⟩
      rintro e W3 (⟨rfl, hJ3, hk3⟩ | ⟨rfl, hJx3⟩)
      · have HJ3 := hide hJ3
        have HK3 := hide ((unhide HK).t hk3)
        clear hJ3 hk3 hy hR
        have ew2 : wrap64 ((k : Int) - 1) = (k : Int) - 1 := by unfold wrap64; omega
        gi_wp2
        go_roundw
        case rel => exact ⟨k, by have := unhide HMS; omega, by go_num, hide (by rw [unhide HSU]; exact unhide HJ3), HK3⟩
        case measure => simp [intOf]
      · gi_wp2
        refine bodyPost_ret (results_none rfl _ _ _) rfl ?_
        exact ⟨⟨_, rfl⟩, .inr ⟨_, trivial, hJx3⟩⟩
end Go.Proofs.YtgckgkllpkkpeaaDoor
