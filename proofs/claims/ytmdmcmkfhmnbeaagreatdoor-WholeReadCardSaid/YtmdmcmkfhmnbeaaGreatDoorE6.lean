/-
  plain.Code of no error, and of a fault; the law's told.
-/
import Derived.Test.YtmdmcmkfhmnbeaaGreatDoorE5
import Derived.BigRegion
import Derived.BigQuiet
import Derived.Deep.QuietTactic
namespace Go.Proofs.YtmdmcmkfhmnbeaaGreatDoor
open Go.RowKit

theorem as_hit2 (e : Addr) (t : Nat) (old : Value) (w : World) (hg : w.cell? ⟨10, 0, none⟩ = some (.iface 149 (.agg #[.pointer (some ⟨17, 26, none⟩)]))) (ht0 : w.cell? ⟨t, 0, none⟩ = some old) (hf0 : w.frozen? ⟨t, 0, none⟩ = false) :
    Calls Tryz.prog 67 #[.iface 57 (.pointer (some e)), .iface 103 (.pointer (some ⟨t, 0, none⟩))] w fun ev w' => ev = .returned (.bool true) ∧ w'.cell? ⟨t, 0, none⟩ = some (.pointer (some e)) ∧ w.grownBy w' (some t) := by
  refine (as_hit e t old w hg ht0 hf0).mono ?_
  rintro ev w' ⟨rfl, rfl⟩
  obtain ⟨X, hX, eX⟩ : ∃ X, Below w.heap.size w X ∧ X = (((w.alloc (.cells #[.pointer (some ⟨t, 0, none⟩)] 103)).alloc (.cells #[.pointer (some ⟨17, 103, none⟩), .pointer (some ⟨w.heap.size, 0, none⟩), .int .u64 150] 128)).alloc (.cells #[.pointer (some ⟨17, 103, none⟩), .pointer (some ⟨w.heap.size, 0, none⟩), .int .u64 150] 128)).alloc (.cells #[.pointer (some e)] 57) := ⟨_, newer (newer (newer (newer (Below.refl _ _)))), rfl⟩
  rw [← eX]
  refine ⟨rfl, World.cell?_setCell_same _ _ _ (cell_older hX ht0), hX.os, hX.tape, hX.output, by have := hX.size; simpa [World.setCell] using this, fun k hk hne => ?_⟩
  rw [Below.heap_setCell _ _ _ _ (fun e => hne (by rw [e]))]
  exact hX.block k hk

set_option maxHeartbeats 1000000 in
theorem code_nil (w : World) : Calls Tryz.prog 32 #[.nilIface] w fun e w' => e = .returned (.tuple #[.int .i64 0, .int .i64 (-1)]) ∧ w' = w := by
  go_enter Tryz.func32, Tryz.ntmps32
  go_wp2
  go_ret2
  exact ⟨rfl, rfl⟩

set_option maxRecDepth 8000 in
set_option maxHeartbeats 4000000 in
theorem code_fault (A : Nat → Addr) (w : World) (k pb : Nat) (pl : Int) (hk : k < 10) (hS : Sents w A) (hp0 : w.cell? ⟨pb, 0, none⟩ = some (.int .i64 pl)) (hp1 : w.cell? ⟨pb, 1, none⟩ = some (.iface 172 (.pointer (some (A k))))) :
    Calls Tryz.prog 32 #[.iface 57 (.pointer (some ⟨pb, 0, none⟩))] w fun e w' => e = .returned (.tuple #[.int .i64 ((k : Int) + 1), .int .i64 pl]) ∧ Below w.heap.size w w' := by
  have h0 := hS.h0
  have h1 := hS.h1
  have h2 := hS.h2
  have h3 := hS.h3
  have h4 := hS.h4
  have h5 := hS.h5
  have h6 := hS.h6
  have h7 := hS.h7
  have h8 := hS.h8
  have h9 := hS.h9
  have HC := hide2 (ten_cell A w 26)
  have HB := hide2 (newer (o := .cells (tenOf A) 26) (Below.refl w.heap.size w))
  have HS := hide2 (hS.later HB.out)
  have P0 := hide2 (cell_older HB.out hp0)
  have P1 := hide2 (cell_older HB.out hp1)
  clear hp0 hp1
  unfold tenOf at HC HB HS P0 P1
  go_enter Tryz.func32, Tryz.ntmps32
  go_wp2_with fail
  clear h0 h1 h2 h3 h4 h5 h6 h7 h8 h9
  obtain ⟨w0, hw0⟩ : ∃ w0, w0 = w.alloc (.cells #[.iface 172 (.pointer (some (A 0))), .iface 172 (.pointer (some (A 1))), .iface 172 (.pointer (some (A 2))), .iface 172 (.pointer (some (A 3))), .iface 172 (.pointer (some (A 4))), .iface 172 (.pointer (some (A 5))), .iface 172 (.pointer (some (A 6))), .iface 172 (.pointer (some (A 7))), .iface 172 (.pointer (some (A 8))), .iface 172 (.pointer (some (A 9)))] 26) := ⟨_, rfl⟩
  rw [← hw0] at HC HB HS P0 P1
  rw [← hw0]
  clear hw0
  go_loop [4, 22] (fun n i => ∃ j : Nat, j ≤ 10 ∧ i = .int .i64 j ∧ n = .int .i64 (if k < j then (k : Int) + 1 else 0)) (fun _ i => 10 - (intOf i).toNat)
  case atStart => exact ⟨0, by omega, rfl, by simp⟩
  case round =>
    obtain ⟨j, hj, rfl, rfl⟩ := hrel
    by_cases hlt : j < 10
    · have hc := HC.out j hlt
      have hji : (j : Int) < 10 := by omega
      by_cases hjk : j = k
      · subst hjk
        have hn : (if j < j then (j : Int) + 1 else 0) = 0 := by simp
        rw [hn]
        go_wp2_with fail
        go_fit (is_fault_same pb (A j) _ P1.out)
        rintro e w1 ⟨rfl, rfl⟩
        go_wp2
        go_round
        case rel => exact ⟨j + 1, by omega, by go_num, by simp⟩
        case measure => simp [intOf]; omega
      · obtain ⟨c1, t1, e1⟩ := HS.out.rows k hk
        obtain ⟨c2, t2, e2⟩ := HS.out.rows j hlt
        have HNE := hide2 (HS.out.apart k j hk hlt (fun e => hjk e.symm))
        have E1 := hide2 e1
        have E2 := hide2 e2
        have HJK := hide2 hjk
        obtain ⟨v, hv⟩ : ∃ v : Int, (if k < j then (k : Int) + 1 else 0) = v := ⟨_, rfl⟩
        rw [hv]
        have HV := hide2 hv
        clear e1 e2 hv hjk
        go_wp2_with fail
        go_fit (is_fault_other pb (A j) (A k) c1 c2 t1 t2 _ P1.out HNE.out E1.out E2.out)
        rintro e w1 ⟨rfl, rfl⟩
        go_wp2
        go_round
        case rel => exact ⟨j + 1, by omega, by go_num, by
          rw [← HV.out]
          have := HJK.out
          by_cases h : k < j
          · rw [if_pos h, if_pos (by omega)]
          · rw [if_neg h, if_neg (by omega)]⟩
        case measure => simp [intOf]; omega
    · obtain rfl : j = 10 := by omega
      rw [if_pos hk]
      have hki : ((k : Int) + 1 == 0) = false := by simp; omega
      have hkb : (k : Int) < 10 := by omega
      have hnw := newer (o := .cells #[.pointer none] 57) (Below.refl w0.heap.size w0)
      have hHW := hide2 hnw
      clear hnw
      go_wp2_with fail
      go_fit (as_hit2 ⟨pb, 0, none⟩ w0.heap.size (.pointer none) _ (cell_older hHW.out HS.out.handle) (by simp) (by simp))
      rintro e w1 ⟨rfl, hf, hgr⟩
      have hlt0 : pb < w0.heap.size := World.block_lt_of_cell? w0 _ P0.out
      have hp : w1.cell? ⟨pb, 0, none⟩ = some (.int .i64 pl) := by
        rw [World.cell?_of_block (w := w0.alloc (.cells #[.pointer none] 57)) (a := ⟨pb, 0, none⟩) (hgr.block pb (by simp; omega) (fun e => by have := Option.some.inj e; omega))]
        exact cell_older hHW.out P0.out
      have hB : Below w.heap.size w w1 := by
        have hw := HB.out
        have hwl : w.heap.size ≤ w0.heap.size := hw.size
        exact (newer hw).grown hgr (by simp; omega) (fun k e => by have := Option.some.inj e; omega)
      clear hgr
      go_wp2
      go_region
      all_goals go_wp2
      all_goals go_ret2
      all_goals exact ⟨rfl, (by first | exact hB.drew | exact hB)⟩
end Go.Proofs.YtmdmcmkfhmnbeaaGreatDoor
