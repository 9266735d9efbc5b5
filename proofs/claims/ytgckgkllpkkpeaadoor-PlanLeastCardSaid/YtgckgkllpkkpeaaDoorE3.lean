/-
  plain.Code of an error of package api: its number, and no place.
-/
import Derived.Test.YtgckgkllpkkpeaaDoorE2
import Derived.Deep.DeepFit
namespace Go.Proofs.YtgckgkllpkkpeaaDoor
open Go.RowKit

theorem older {w wp w1 : World} (hb : Below wp.heap.size wp w1) (h : Below w.heap.size w wp) : Below w.heap.size w w1 := h.trans (hb.mono h.size)
theorem hide2 {p : Prop} (h : p) : Hid p := h
/-- The ten errors of package api, where they lie. -/
structure Sents (w : World) (A : Nat → Addr) : Prop where
  h0 : w.cell? ⟨1, 0, none⟩ = some (.iface 114 (.pointer (some (A 0))))
  h1 : w.cell? ⟨0, 0, none⟩ = some (.iface 114 (.pointer (some (A 1))))
  h2 : w.cell? ⟨2, 0, none⟩ = some (.iface 114 (.pointer (some (A 2))))
  h3 : w.cell? ⟨3, 0, none⟩ = some (.iface 114 (.pointer (some (A 3))))
  h4 : w.cell? ⟨4, 0, none⟩ = some (.iface 114 (.pointer (some (A 4))))
  h5 : w.cell? ⟨5, 0, none⟩ = some (.iface 114 (.pointer (some (A 5))))
  h6 : w.cell? ⟨6, 0, none⟩ = some (.iface 114 (.pointer (some (A 6))))
  h7 : w.cell? ⟨7, 0, none⟩ = some (.iface 114 (.pointer (some (A 7))))
  h8 : w.cell? ⟨8, 0, none⟩ = some (.iface 114 (.pointer (some (A 8))))
  h9 : w.cell? ⟨9, 0, none⟩ = some (.iface 114 (.pointer (some (A 9))))
  rows : ∀ j, j < 10 → ∃ c t, w.heap[(A j).block]? = some (.cells c t (0, 0))
  apart : ∀ i j, i < 10 → j < 10 → i ≠ j → A i ≠ A j
  handle : w.cell? ⟨10, 0, none⟩ = some (.iface 99 (.agg #[.pointer (some ⟨11, 27, none⟩)]))
theorem cell_older {w w1 : World} {b o : Nat} {v : Value} (hb : Below w.heap.size w w1) (h : w.cell? ⟨b, o, none⟩ = some v) : w1.cell? ⟨b, o, none⟩ = some v := by
  have hlt := World.block_lt_of_cell? w _ h
  have := hb.block b hlt
  simp only [World.cell?] at h ⊢
  rw [this]; exact h
theorem Sents.later {w w1 : World} {A : Nat → Addr} (h : Sents w A) (hb : Below w.heap.size w w1) : Sents w1 A where
  h0 := cell_older hb h.h0
  h1 := cell_older hb h.h1
  h2 := cell_older hb h.h2
  h3 := cell_older hb h.h3
  h4 := cell_older hb h.h4
  h5 := cell_older hb h.h5
  h6 := cell_older hb h.h6
  h7 := cell_older hb h.h7
  h8 := cell_older hb h.h8
  h9 := cell_older hb h.h9
  rows j hj := by
    obtain ⟨c, t, e⟩ := h.rows j hj
    exact ⟨c, t, by rw [hb.block _ (Array.getElem?_eq_some_iff.1 e).1]; exact e⟩
  apart := h.apart
  handle := cell_older hb h.handle
/-- The row of them. -/
def tenOf (A : Nat → Addr) : Array Value := #[.iface 114 (.pointer (some (A 0))), .iface 114 (.pointer (some (A 1))), .iface 114 (.pointer (some (A 2))), .iface 114 (.pointer (some (A 3))), .iface 114 (.pointer (some (A 4))), .iface 114 (.pointer (some (A 5))), .iface 114 (.pointer (some (A 6))), .iface 114 (.pointer (some (A 7))), .iface 114 (.pointer (some (A 8))), .iface 114 (.pointer (some (A 9)))]
theorem tenOf_at (A : Nat → Addr) (j : Nat) (hj : j < 10) : (tenOf A)[j]? = some (.iface 114 (.pointer (some (A j)))) := by
  rcases (by omega : j = 0 ∨ j = 1 ∨ j = 2 ∨ j = 3 ∨ j = 4 ∨ j = 5 ∨ j = 6 ∨ j = 7 ∨ j = 8 ∨ j = 9) with rfl | rfl | rfl | rfl | rfl | rfl | rfl | rfl | rfl | rfl <;> rfl
theorem ten_cell (A : Nat → Addr) (w : World) (T : TypeId) (j : Nat) (hj : j < 10) : (w.alloc (.cells (tenOf A) T)).cell? ⟨w.heap.size, j, none⟩ = some (.iface 114 (.pointer (some (A j)))) := by
  have e : (w.alloc (.cells (tenOf A) T)).heap[w.heap.size]? = some (.cells (tenOf A) T (0, 0)) := heap_alloc_new w _
  simp only [World.cell?, e]
  exact tenOf_at A j hj

set_option maxRecDepth 8000 in
set_option maxHeartbeats 4000000 in
theorem code_any (A : Nat → Addr) (w : World) (k : Nat) (hk : k < 10) (hS : Sents w A) :
    Calls Tryd.prog 15 #[.iface 114 (.pointer (some (A k)))] w fun e w' => e = .returned (.tuple #[.int .i64 ((k : Int) + 1), .int .i64 (-1)]) ∧ Below w.heap.size w w' := by
  have h0 := hS.h0
  have h1 := hS.h1
  have h2 := hS.h2
  have h3 := hS.h3
  have h4 := hS.h4
  have h5 := hS.h5
  have h6 := hS.h6
  have h7 := hS.h7
  have h8 := hS.h8
  have h9 := hS.h9
  have HC := hide2 (ten_cell A w 27)
  have HB := hide2 (newer (o := .cells (tenOf A) 27) (Below.refl w.heap.size w))
  have HS := hide2 (hS.later HB.out)
  unfold tenOf at HC HB HS
  go_enter Tryd.func15, Tryd.ntmps15
  go_wp2_with fail
  clear h0 h1 h2 h3 h4 h5 h6 h7 h8 h9
  obtain ⟨w0, hw0⟩ : ∃ w0, w0 = w.alloc (.cells #[.iface 114 (.pointer (some (A 0))), .iface 114 (.pointer (some (A 1))), .iface 114 (.pointer (some (A 2))), .iface 114 (.pointer (some (A 3))), .iface 114 (.pointer (some (A 4))), .iface 114 (.pointer (some (A 5))), .iface 114 (.pointer (some (A 6))), .iface 114 (.pointer (some (A 7))), .iface 114 (.pointer (some (A 8))), .iface 114 (.pointer (some (A 9)))] 27) := ⟨_, rfl⟩
  rw [← hw0] at HC HB HS
  rw [← hw0]
  clear hw0
  go_loop [4, 22] (fun n i => ∃ j : Nat, j ≤ 10 ∧ i = .int .i64 j ∧ n = .int .i64 (if k < j then (k : Int) + 1 else 0)) (fun _ i => 10 - (intOf i).toNat)
  case atStart => exact ⟨0, by omega, rfl, by simp⟩
  case round =>
    obtain ⟨j, hj, rfl, rfl⟩ := hrel
    by_cases hlt : j < 10
    · have hc := HC.out j hlt
      have hji : (j : Int) < 10 := by omega
      by_cases hjk : j = k
      · subst hjk
        have hn : (if j < j then (j : Int) + 1 else 0) = 0 := by simp
        rw [hn]
        go_wp2_with fail
        go_fit (is_same (A j) _)
        rintro e w1 ⟨rfl, rfl⟩
        go_wp2
        go_round
        case rel => exact ⟨j + 1, by omega, by go_num, by simp⟩
        case measure => simp [intOf]; omega
      · obtain ⟨c1, t1, e1⟩ := HS.out.rows k hk
        obtain ⟨c2, t2, e2⟩ := HS.out.rows j hlt
        have hne := HS.out.apart k j hk hlt (fun e => hjk e.symm)
        have HNE := hide2 hne
        have E1 := hide2 e1
        have E2 := hide2 e2
        have HJK := hide2 hjk
        obtain ⟨v, hv⟩ : ∃ v : Int, (if k < j then (k : Int) + 1 else 0) = v := ⟨_, rfl⟩
        rw [hv]
        have HV := hide2 hv
        clear hne e1 e2 hv hjk
        go_wp2_with fail
        go_fit (is_other (A k) (A j) c1 c2 t1 t2 _ HNE.out E1.out E2.out)
        rintro e w1 ⟨rfl, rfl⟩
        go_wp2
        go_round
        case rel => exact ⟨j + 1, by omega, by go_num, by
          rw [← HV.out]
          have := HJK.out
          by_cases h : k < j
          · rw [if_pos h, if_pos (by omega)]
          · rw [if_neg h, if_neg (by omega)]⟩
        case measure => simp [intOf]; omega
    · obtain rfl : j = 10 := by omega
      rw [if_pos hk]
      have hki : ((k : Int) + 1 == 0) = false := by simp; omega
      have hkb : (k : Int) < 10 := by omega
      go_wp2_with fail
      go_fit (as_miss _ _ _ (cell_older (newer (Below.refl _ _)) HS.out.handle))
      rintro e w1 ⟨rfl, hb1⟩
      have hB : Below w.heap.size w w1 := older hb1 (newer HB.out)
      clear hb1
      go_wp2
      go_ret2
      exact ⟨rfl, hB⟩
end Go.Proofs.YtgckgkllpkkpeaaDoor
