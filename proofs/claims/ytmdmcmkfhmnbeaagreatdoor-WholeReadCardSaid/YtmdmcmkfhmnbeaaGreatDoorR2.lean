/-
  Walks over the document's numbers: four, trim, made.
-/
import Derived.Test.YtmdmcmkfhmnbeaaGreatDoorR1
import Derived.Laws.IdiomStrings
namespace Go.Proofs.YtmdmcmkfhmnbeaaGreatDoor
open Go.RowKit

set_option maxRecDepth 8000 in
set_option maxHeartbeats 1000000 in
theorem four_any (x : Int) (h0 : 0 ≤ x) (h1 : x < 10000) (w : World) :
    Calls Tryz.prog 40 #[.int .i64 x] w fun e w' => e = .returned (.string ⟨(four x).toArray⟩) ∧ Below w.heap.size w w' := by
  have hc : (convert 69 9 (.slice (some ⟨w.heap.size, 0, none⟩) 4 4)).run Tryz.prog (w.alloc (.cells #[.int .u8 (48 + x / 1000), .int .u8 (48 + x / 100 % 10), .int .u8 (48 + x / 10 % 10), .int .u8 (48 + x % 10)] 5)) = .ok (.string ⟨(four x).toArray⟩) (w.alloc (.cells #[.int .u8 (48 + x / 1000), .int .u8 (48 + x / 100 % 10), .int .u8 (48 + x / 10 % 10), .int .u8 (48 + x % 10)] 5)) := by
    refine run_convert_bytes_back _ 69 9 5 ⟨w.heap.size, 0, none⟩ 4 (four x) Tryz.underlying69 Tryz.underlying5 Tryz.underlying9 ?_
    intro j hj
    have hj4 : j < 4 := hj
    rw [show (⟨w.heap.size, 0, none⟩ : Addr).add j = ⟨w.heap.size, j, none⟩ by unfold Addr.add; split <;> simp_all, new_cell rfl]
    rcases (by omega : j = 0 ∨ j = 1 ∨ j = 2 ∨ j = 3) with rfl | rfl | rfl | rfl
    · simp only [four, List.getElem_cons_zero]; rw [dg_toNat (by omega) (by omega)]; rfl
    · simp only [four, List.getElem_cons_succ, List.getElem_cons_zero]; rw [dg_toNat (by omega) (by omega)]; rfl
    · simp only [four, List.getElem_cons_succ, List.getElem_cons_zero]; rw [dg_toNat (by omega) (by omega)]; rfl
    · simp only [four, List.getElem_cons_succ, List.getElem_cons_zero]; rw [dg_toNat (by omega) (by omega)]; rfl
  go_enter Tryz.func40, Tryz.ntmps40
  go_wp2
  go_ret
  exact ⟨rfl, (Below.refl _ _).alloc (Nat.le_refl _) _⟩

/-- A row of ints. -/
def RowI (w : World) (b : Nat) (l : List Int) : Prop := ∀ k, k < l.length → w.cell? ⟨b, k, none⟩ = some (.int .i64 (nth l k))

set_option maxHeartbeats 400000 in
theorem rtrim_any (b cap : Nat) (l : List Int) (w : World) (hr : RowI w b l) (hl : l.length ≤ cap) (hcap : cap ≤ 9223372036854775807) :
    Calls Tryz.prog 65 #[.slice (some ⟨b, 0, none⟩) l.length cap] w fun e w' => (∃ m, m ≤ l.length ∧ e = .returned (.slice (some ⟨b, 0, none⟩) m cap) ∧ (∀ k, m ≤ k → nth l k = 0) ∧ (m = 0 ∨ nth l (m - 1) ≠ 0)) ∧ w' = w := by
  go_enter Tryz.func65, Tryz.ntmps65
  go_wp2_with fail
  go_loop [3] (fun v => ∃ m : Nat, m ≤ l.length ∧ v = .int .i64 m ∧ Hid (∀ k, m ≤ k → nth l k = 0)) (fun v => (intOf v).toNat)
  case atStart => exact ⟨l.length, Nat.le_refl _, rfl, fun k hk => nth_ge hk⟩
  case round =>
    obtain ⟨m, hm, rfl, HZ⟩ := hrel
    by_cases hm0 : m = 0
    · subst hm0
      go_wp2
      go_ret
      exact ⟨⟨0, Nat.zero_le _, rfl, unhide HZ, Or.inl rfl⟩, rfl⟩
    · have hc := hr (m - 1) (by omega)
      have hmi : (0 : Int) < m := by omega
      have hmt : ((m : Int) - 1).toNat = m - 1 := by omega
      have hmc : ((m - 1 : Nat) : Int) = (m : Int) - 1 := by omega
      by_cases hx : nth l (m - 1) = 0
      · have HX := hide hx
        rw [hx] at hc
        clear hx
        go_wp2
        go_round
        case rel =>
          refine ⟨m - 1, by omega, by go_num, fun k hk => ?_⟩
          by_cases e : k = m - 1
          · rw [e]; exact unhide HX
          · exact unhide HZ k (by omega)
        case measure => simp [intOf]; omega
      · go_wp2
        go_ret
        exact ⟨⟨m, hm, rfl, unhide HZ, Or.inr hx⟩, rfl⟩

set_option maxHeartbeats 400000 in
theorem rtrim_nil (w : World) : Calls Tryz.prog 65 #[.slice none 0 0] w fun e w' => e = .returned (.slice none 0 0) ∧ w' = w := by
  go_enter Tryz.func65, Tryz.ntmps65
  go_wp2_with fail
  refine wp_loop_rounds 1 ?_
  rw [rounds_succ]
  go_wp2
  go_ret
  exact ⟨rfl, rfl⟩
end Go.Proofs.YtmdmcmkfhmnbeaaGreatDoor
