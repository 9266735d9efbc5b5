/-
  Jobs: the document's Least, and whether two rows are the same.
-/
import Derived.Test.YtgckgkllpkkpeaaDoorUF
namespace Go.Proofs.YtgckgkllpkkpeaaDoor
open Go.RowKit

/-- The least span and the first starts with it. -/
def LsP (p : Pl) (zv : Value) (n : Int) (w' : World) : Prop :=
  (∃ (s : Nat) (z : List Int), s ≤ 30 ∧ n = (s : Int) ∧ trySt p (s : Int) p.jobs.length [] = some z ∧ Rows 1 JE w' zv z ∧ ∀ s' : Nat, s' < s → trySt p (s' : Int) p.jobs.length [] = none) ∨
  (n = -1 ∧ zv = .slice none 0 0 ∧ ∀ s' : Nat, s' ≤ 30 → trySt p (s' : Int) p.jobs.length [] = none)
set_option maxHeartbeats 8000000 in
set_option maxRecDepth 8000 in
/-- Least. -/
theorem rleast_any {pv : Value} {p : Pl} (w : World) (h : PlV w pv p) (hR : PlR p) : Calls Tryd.prog 10 #[pv] w fun e w' => (∃ (zv : Value) (n : Int), e = .returned (.tuple #[zv, .int .i64 n]) ∧ LsP p zv n w') ∧ Below w.heap.size w w' := by
  obtain ⟨ja, jc, ca, cc, rfl, hM⟩ := h
  have kn := below_new w (.cells #[.slice ja p.jobs.length jc, .slice ca p.caps.length cc] 25)
  obtain ⟨p0, p1⟩ := two_new w 25 (.slice ja p.jobs.length jc) (.slice ca p.caps.length cc)
  have HM := hide (hM.later kn)
  have HK := hide kn
  clear hM kn
  obtain ⟨g, hg⟩ : ∃ X, X = w.heap.size := ⟨_, rfl⟩
  obtain ⟨W, hW⟩ : ∃ X, X = w.alloc (.cells #[.slice ja p.jobs.length jc, .slice ca p.caps.length cc] 25) := ⟨_, rfl⟩
  go_enter Tryd.func10, Tryd.ntmps10
  go_upto_region 1 with fail
  rw [← hW, ← hg]
  rw [← hW] at HM HK p0 p1
  rw [← hg] at p0 p1
  clear hW hg
  go_wp2_with fail
  go_loopg [4, 5, 6] 31 (fun gk sv _ _ wr => ∃ (s : Nat), s ≤ 31 ∧ gk = 31 - s ∧ sv = .int .i64 (s : Int) ∧ Hid (Below W.heap.size W wr) ∧ Hid (∀ s' : Nat, s' < s → trySt p (s' : Int) p.jobs.length [] = none))
  case atStart => exact ⟨0, by omega, by omega, rfl, hide (Below.refl _ _), hide (fun s' h => absurd h (Nat.not_lt_zero _))⟩
  case round =>
    obtain ⟨s, hs, hgk, rfl, HB, HA⟩ := hrel
    have q0 := cell_keep (unhide HB) p0
    have q1 := cell_keep (unhide HB) p1
    by_cases hle : s ≤ 30
    · have hle' : (s : Int) ≤ 30 := by omega
      have HC := hide (rstart_any (p := p) (span := s) hR hle p.jobs.length (.agg #[.slice ja p.jobs.length jc, .slice ca p.caps.length cc]) (.slice none 0 0) [] wr (by simp) ⟨_, _, _, _, rfl, (unhide HM).later (unhide HB)⟩ (rows_nil _) (fun y hy => by simp at hy) (fun _ => rfl))
      go_wp2_with fail
      go_fit (unhide HC)
      rintro e W1 ⟨⟨zv, zb, rfl, hz⟩, hb⟩
      have HB1 := hide (below_keep hb (unhide HB))
      have HZ := hide hz
      clear hb hz q0 q1 HC
      cases zb
      · go_wp2
        go_roundg (31 - (s + 1))
        case measure => omega
        case rel => exact ⟨s + 1, by omega, rfl, by go_num, HB1, hide fun s' hs' => by
          rcases (by omega : s' < s ∨ s' = s) with h | rfl
          · exact unhide HA s' h
          · rcases unhide HZ with ⟨h, _⟩ | ⟨_, h, _⟩
            · cases h
            · exact h⟩
      · obtain ⟨z, hz1, hz2⟩ : ∃ z, trySt p (s : Int) p.jobs.length [] = some z ∧ Rows 1 JE W1 zv z := by
          rcases unhide HZ with ⟨_, z, h1, h2⟩ | ⟨h, _⟩
          · exact ⟨z, h1, h2⟩
          · cases h
        have HZ1 := hide (And.intro hz1 hz2)
        obtain ⟨za, zc, rfl⟩ := hz2.shape
        clear hz1 hz2 HZ
        go_wp2
        go_ret2
        exact ⟨⟨_, _, rfl, Or.inl ⟨s, z, hle, rfl, (unhide HZ1).1, (unhide HZ1).2, unhide HA⟩⟩, below_keep (unhide HB1) (unhide HK)⟩
    · have hle' : ¬ (s : Int) ≤ 30 := by omega
      have HALL := hide (show ∀ s' : Nat, s' ≤ 30 → trySt p (s' : Int) p.jobs.length [] = none from fun s' h => unhide HA s' (by omega))
      go_wp2
      go_ret2
      exact ⟨⟨_, _, rfl, Or.inr ⟨rfl, rfl, unhide HALL⟩⟩, below_keep (unhide HB) (unhide HK)⟩
end Go.Proofs.YtgckgkllpkkpeaaDoor
