/-
  Puzzles: what the program's rules keep: sums, elements.
-/
import Derived.Test.YthoppmbmmplkiaaGreatDoorVG
namespace Go.Proofs.YthoppmbmmplkiaaGreatDoor
open Go.RowKit

theorem Rows.bound {w : World} {v : Value} {l : List Int} (h : Rows 1 JE w v l) : ∀ x ∈ l, I64 x := by
  intro x hx
  obtain ⟨i, hi⟩ := List.getElem?_of_mem hx
  obtain ⟨a, c, rfl⟩ := h.shape
  obtain ⟨_, _, _, _, hb⟩ := h.int hi
  exact hb
theorem pickL_at {x vars : List Int} {k z : Nat} {y : Int} (hz : vars[k]? = some (z : Int)) (hy : x[z]? = some y) : (pickL x vars)[k]? = some y := by
  rw [pickL, List.getElem?_map, hz]
  simp [List.getD, hy]
set_option maxHeartbeats 4000000 in
set_option maxRecDepth 8000 in
/-- part. -/
theorem part_any {g : Nat} {a2 : Option Addr} {nn c2 i : Nat} {nums : List Int} {q y : Int} (w : World) (k1 : w.cell? ⟨g, 1, none⟩ = some (.slice a2 nn c2)) (hr : Rows 1 JE w (.slice a2 nn c2) nums) (hq : nums[i]? = some q) (oq : Ok8 q) (oy : Ok8 y) :
    Calls Tryz.prog 100 #[.pointer (some ⟨g, 0, none⟩), .int .i64 (i : Int), .int .i64 y] w fun e w' => e = .returned (.int .i64 (q * y)) ∧ w' = w := by
  obtain ⟨b, o, rfl, d0, _⟩ := hr.int hq
  have hl := hr.len
  have hin : (i : Int) < (nn : Int) := by have := (List.getElem?_eq_some_iff.1 hq).1; omega
  have hb := mul_ok oq oy
  obtain ⟨z, hz⟩ : ∃ z, z = q * y := ⟨_, rfl⟩
  rw [← hz] at hb
  have e1 : wrap64 (q * y) = z := by rw [← hz]; unfold wrap64; omega
  rw [← hz]
  clear hz hb hr hq hl
  go_enter Tryz.func100, Tryz.ntmps100
  go_wp2
  go_ret
  exact ⟨by first | rfl | (rw [e1]; rfl), rfl⟩
set_option maxHeartbeats 8000000 in
set_option maxRecDepth 8000 in
/-- What a sum keeps. -/
theorem sum_any {g : Nat} {xv : Value} {x vars nums : List Int} {limit : Int} {a1 : Option Addr} {c1 : Nat} {a2 : Option Addr} {c2 : Nat} (w : World) (k0 : w.cell? ⟨g, 0, none⟩ = some (.slice a1 vars.length c1)) (k1 : w.cell? ⟨g, 1, none⟩ = some (.slice a2 nums.length c2)) (k2 : w.cell? ⟨g, 2, none⟩ = some (.int .i64 limit))
    (hv : Rows 1 JE w (.slice a1 vars.length c1) vars) (hn : Rows 1 JE w (.slice a2 nums.length c2) nums) (hx : Rows 1 JE w xv x) (hr : ∀ k ∈ vars, 0 ≤ k ∧ k < (x.length : Int)) (h8 : vars.length ≤ 8) (hl : nums.length = vars.length) (ho : ∀ y ∈ pickL x vars, Ok8 y) (hq : ∀ y ∈ nums, Ok8 y) :
    Calls Tryz.prog 98 #[.pointer (some ⟨g, 0, none⟩), xv] w fun e w' => YesP e (dotS nums (pickL x vars) = limit) ∧ Below w.heap.size w w' := by
  obtain ⟨xa, xc, rfl⟩ := hx.shape
  have HV := hide hv
  have HNU := hide hn
  have HX := hide hx
  have HR := hide hr
  have HO := hide (And.intro ho (And.intro hq hl))
  have sx : x.length ≤ 9223372036854775807 := by have := hx.small; unfold maxLen at this; omega
  obtain ⟨n, hnv⟩ : ∃ n, n = vars.length := ⟨_, rfl⟩
  obtain ⟨nx, hnx⟩ : ∃ n, n = x.length := ⟨_, rfl⟩
  obtain ⟨nn, hnn⟩ : ∃ n, n = nums.length := ⟨_, rfl⟩
  rw [← hnv] at h8 HV k0
  rw [← hnx] at HX sx HR ⊢
  rw [← hnn] at HNU k1
  have HN := hide (And.intro hnv (And.intro hnx hnn))
  clear hv hn hx hr ho hq hl hnv hnx hnn
  go_enter Tryz.func98, Tryz.ntmps98
  go_wp2_with fail
  go_loopg [5, 6, 7, 14] n (fun gk sv _ _ iv wr => ∃ (i : Nat) (s : Int), i ≤ n ∧ gk = n - i ∧ sv = .int .i64 s ∧ iv = .int .i64 (i : Int) ∧ wr = w ∧ Hid (s = dotS (nums.take i) ((pickL x vars).take i) ∧ -10000000000000000 * (i : Int) ≤ s ∧ s ≤ 10000000000000000 * (i : Int)))
  case atStart => exact ⟨0, 0, by omega, by omega, rfl, rfl, rfl, hide ⟨by simp [dotS], by decide, by decide⟩⟩
  case round =>
    obtain ⟨i, s, hi, hgk, rfl, rfl, rfl, HA⟩ := hrel
    by_cases hin : i < n
    · obtain ⟨k, hk⟩ : ∃ k, vars[i]? = some k := ⟨vars[i]'(by have := unhide HN; omega), by simp⟩
      obtain ⟨hk1, hk2⟩ := unhide HR k (List.mem_of_getElem? hk)
      obtain ⟨z, rfl⟩ : ∃ z : Nat, k = (z : Int) := ⟨k.toNat, by omega⟩
      obtain ⟨y, hy⟩ : ∃ y, x[z]? = some y := ⟨x[z]'(by have := unhide HN; omega), by simp⟩
      obtain ⟨q, hq⟩ : ∃ q, nums[i]? = some q := ⟨nums[i]'(by have := unhide HN; have := (unhide HO).2.2; omega), by simp⟩
      obtain ⟨b, o, rfl, c0, _⟩ := (unhide HV).int hk
      obtain ⟨b', o', rfl, d0, _⟩ := (unhide HX).int hy
      have hp := pickL_at hk hy
      have oy := (unhide HO).1 y (List.mem_of_getElem? hp)
      have oq := (unhide HO).2.1 q (List.mem_of_getElem? hq)
      have hb := mul_ok oq oy
      have hA := unhide HA
      obtain ⟨t, ht⟩ : ∃ t, t = q * y := ⟨_, rfl⟩
      rw [← ht] at hb
      have e2 : wrap64 (s + t) = s + t := by unfold wrap64; omega
      have HT := hide (And.intro ht hb)
      have HP := hide (And.intro hp hq)
      have hin' : (i : Int) < (n : Int) := by omega
      have hi60 : (i : Int) + 1 ≤ 100 := by omega
      have HC := hide (part_any _ k1 (unhide HNU) hq oq oy)
      rw [← ht] at HC
      clear hk hy hp hq oy oq hb hA ht hk1
      go_wp2_with fail
      go_fit (unhide HC)
      rintro e W1 ⟨rfl, rfl⟩
      go_wp2
      go_roundg (n - (i + 1))
      case measure => omega
      case rel => exact ⟨i + 1, s + t, by omega, rfl, (by first | rfl | (rw [e2]) | simp [e2]), by go_num, rfl, hide ⟨by
          rw [take_next (unhide HP).1, take_next (unhide HP).2, dotS_snoc (by have := unhide HN; have := (unhide HO).2.2; rw [List.length_take, List.length_take, show (pickL x vars).length = vars.length from List.length_map _]; omega), ← (unhide HA).1, (unhide HT).1], by have := unhide HA; have := unhide HT; omega, by have := unhide HA; have := unhide HT; omega⟩⟩
    · obtain rfl : n = i := by omega
      have hA := (unhide HA).1
      rw [show (pickL x vars).take n = pickL x vars from by rw [List.take_of_length_le]; rw [show (pickL x vars).length = vars.length from List.length_map _]; have := unhide HN; omega, show nums.take n = nums from by rw [List.take_of_length_le]; have := unhide HN; have := (unhide HO).2.2; omega] at hA
      have HAA := hide hA
      clear hin hi hgk hA HA
      go_wp2
      go_ret
      refine ⟨YesP.of ?_, Below.refl _ _⟩
      rw [← unhide HAA]
      simp
set_option maxHeartbeats 8000000 in
set_option maxRecDepth 8000 in
/-- What an element keeps. -/
theorem elem_any {g p q : Nat} {xv : Value} {x rest : List Int} {a1 : Option Addr} {c1 : Nat} (w : World) (k0 : w.cell? ⟨g, 0, none⟩ = some (.int .i64 (p : Int))) (k1 : w.cell? ⟨g, 1, none⟩ = some (.int .i64 (q : Int))) (k2 : w.cell? ⟨g, 2, none⟩ = some (.slice a1 rest.length c1))
    (hv : Rows 1 JE w (.slice a1 rest.length c1) rest) (hx : Rows 1 JE w xv x) (hp : p < x.length) (hq : q < x.length) (hr : ∀ k ∈ rest, 0 ≤ k ∧ k < (x.length : Int)) :
    Calls Tryz.prog 108 #[.pointer (some ⟨g, 0, none⟩), xv] w fun e w' => YesP e (elemP (pickL x ((p : Int) :: (q : Int) :: rest))) ∧ Below w.heap.size w w' := by
  obtain ⟨xa, xc, rfl⟩ := hx.shape
  have sx : x.length ≤ 9223372036854775807 := by have := hx.small; unfold maxLen at this; omega
  have sr : rest.length ≤ 9223372036854775807 := by have := hv.small; unfold maxLen at this; omega
  obtain ⟨i, hi⟩ : ∃ y, x[p]? = some y := ⟨x[p], by simp⟩
  obtain ⟨y2, hy2⟩ : ∃ y, x[q]? = some y := ⟨x[q], by simp⟩
  obtain ⟨b, o, rfl, d0, _⟩ := hx.int hi
  obtain ⟨b', o', e1, d1, _⟩ := hx.int hy2
  obtain ⟨rfl, rfl⟩ : b = b' ∧ o = o' := by simpa using e1
  clear e1
  have w0 : (pickL x ((p : Int) :: (q : Int) :: rest))[0]? = some i := pickL_at (z := p) rfl hi
  have w1 : (pickL x ((p : Int) :: (q : Int) :: rest))[1]? = some y2 := pickL_at (z := q) rfl hy2
  have HW := hide (And.intro w0 w1)
  have hll : (pickL x ((p : Int) :: (q : Int) :: rest)).length = rest.length + 2 := by simp [pickL]
  have HLL := hide hll
  have HV := hide hv
  have HX := hide hx
  have HR := hide hr
  clear hv hx hr hi hy2 w0 w1 hll
  obtain ⟨m, hm⟩ : ∃ n, n = rest.length := ⟨_, rfl⟩
  obtain ⟨nx, hnx⟩ : ∃ n, n = x.length := ⟨_, rfl⟩
  rw [← hm] at k2 HV sr HLL
  rw [← hnx] at HX sx HR hp hq ⊢
  have HN := hide (And.intro hm hnx)
  clear hm hnx
  have hp' : (p : Int) < (nx : Int) := by omega
  have hq' : (q : Int) < (nx : Int) := by omega
  go_enter Tryz.func108, Tryz.ntmps108
  go_upto_region 2 with fail
  by_cases h0 : 0 ≤ i
  · by_cases h1 : i < (m : Int)
    · obtain ⟨k, rfl⟩ : ∃ k : Nat, i = (k : Int) := ⟨i.toNat, by omega⟩
      obtain ⟨z, hz⟩ : ∃ z, rest[k]? = some z := ⟨rest[k]'(by have := unhide HN; omega), by simp⟩
      obtain ⟨hz1, hz2⟩ := unhide HR z (List.mem_of_getElem? hz)
      obtain ⟨z, rfl⟩ : ∃ k : Nat, z = (k : Int) := ⟨z.toNat, by omega⟩
      obtain ⟨y, hy⟩ : ∃ y, x[z]? = some y := ⟨x[z]'(by have := unhide HN; omega), by simp⟩
      obtain ⟨b3, o3, rfl, f0, _⟩ := (unhide HV).int hz
      obtain ⟨b4, o4, e4, f1, _⟩ := (unhide HX).int hy
      obtain ⟨rfl, rfl⟩ : b = b4 ∧ o = o4 := by simpa using e4
      have HY := hide (show (pickL x ((p : Int) :: (q : Int) :: rest))[k + 2]? = some y from pickL_at (z := z) (by simpa using hz) hy)
      clear hz hy hz1 e4
      go_quiet (fail)
      go_wp2
      go_ret
      refine ⟨YesP.of ?_, below_drewN (Below.refl _ _) _⟩
      have hw := unhide HW
      have hy := unhide HY
      constructor
      · intro h
        refine ⟨k, hw.1, by rw [unhide HLL]; omega, ?_⟩
        rw [hy, hw.2]
        simpa using h
      · rintro ⟨k', e1, _, e2⟩
        rw [hw.1] at e1
        obtain rfl : k = k' := by have := Option.some.inj e1; omega
        rw [hy, hw.2] at e2
        simpa using e2
    · have hd : decide (i < (m : Int)) = false := decide_eq_false h1
      go_quiet (fail)
      go_wp2
      go_ret
      refine ⟨YesP.no ?_, below_drewN (Below.refl _ _) _⟩
      rintro ⟨k', e1, e2, _⟩
      rw [(unhide HW).1] at e1
      rw [unhide HLL] at e2
      obtain rfl : i = (k' : Int) := by simpa using e1
      omega
  · have hd : decide (0 ≤ i) = false := decide_eq_false h0
    go_quiet (fail)
    go_wp2
    go_ret
    refine ⟨YesP.no ?_, below_drewN (Below.refl _ _) _⟩
    rintro ⟨k', e1, _⟩
    rw [(unhide HW).1] at e1
    obtain rfl : i = (k' : Int) := by simpa using e1
    omega
end Go.Proofs.YthoppmbmmplkiaaGreatDoor
