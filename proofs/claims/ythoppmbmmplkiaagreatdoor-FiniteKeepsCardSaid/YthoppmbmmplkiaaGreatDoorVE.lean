/-
  Puzzles: the program's validCon, validList.
-/
import Derived.Test.YthoppmbmmplkiaaGreatDoorVD
import Derived.Test.YthoppmbmmplkiaaGreatDoorYK
namespace Go.Proofs.YthoppmbmmplkiaaGreatDoor
open Go.RowKit

theorem errV2 (A : Nat → Addr) : errV A 2 = .iface 117 (.pointer (some (A 1))) := rfl
theorem errV4 (A : Nat → Addr) : errV A 4 = .iface 117 (.pointer (some (A 3))) := rfl
theorem errV0 (A : Nat → Addr) : errV A 0 = .nilIface := rfl
theorem conV_few {n : Nat} {c : Cn} (hf : FewC c) : conV n c = if greatC c then 2 else if c.vars.any (fun x => decide (x < 0) || decide ((n : Int) ≤ x)) then 4 else if formedC c then 0 else 4 := by
  obtain ⟨f1, f2, f3, f4, f5⟩ := hf
  rw [conV, if_neg (by omega), show c.rows.any (fun r => decide (60 < r.length)) = false from any_no fun r hr => by have := f5 r hr; simp; omega, greatC]
  cases anyBigI c.nums <;> cases anyBigI c.uses <;> cases bigI c.limit <;> cases c.rows.any anyBigI <;> rfl
theorem one_new (w : World) (t : TypeId) (u : Value) : (w.alloc (.cells #[u] t)).cell? ⟨w.heap.size, 0, none⟩ = some u := by rw [new_cell rfl]; rfl
set_option maxHeartbeats 8000000 in
set_option maxRecDepth 8000 in
/-- validCon. -/
theorem validcon_any {A : Nat → Addr} {v : Value} {c : Cn} {n : Nat} (w : World) (hS : Sents w A) (h : CnV w v c) (hf : FewC c) : Calls Tryz.prog 18 #[v, .int .i64 (n : Int)] w fun e w' => e = .returned (errV A (conV n c)) ∧ Below w.heap.size w w' := by
  obtain ⟨a1, c1, a2, c2, a3, c3, a4, c4, rfl, hM⟩ := h
  have kn := below_new w (.cells #[.int .i64 c.kind, .slice a1 c.vars.length c1, .slice a2 c.nums.length c2, .slice a3 c.uses.length c3, .int .i64 c.limit, .slice a4 c.rows.length c4] 46)
  have HB := hide (cnB_new w 46 hM)
  have HS := hide (hS.later kn)
  have HK := hide kn
  have HF := hide hf
  have HE := hide (conV_few (n := n) hf)
  clear hM kn hS hf
  obtain ⟨g, hg⟩ : ∃ X, X = w.heap.size := ⟨_, rfl⟩
  obtain ⟨W0, hW0⟩ : ∃ X, X = w.alloc (.cells #[.int .i64 c.kind, .slice a1 c.vars.length c1, .slice a2 c.nums.length c2, .slice a3 c.uses.length c3, .int .i64 c.limit, .slice a4 c.rows.length c4] 46) := ⟨_, rfl⟩
  have hz : W0.heap.size = g + 1 := by rw [hW0, hg]; simp
  rw [← hW0] at HB HK HS
  rw [← hg] at HB
  have kn := below_new W0 (.cells #[.int .i64 (n : Int)] 3)
  have q0 := one_new W0 3 (.int .i64 (n : Int))
  rw [hz] at q0
  have HB := hide ((unhide HB).later kn)
  have HS := hide ((unhide HS).later kn)
  have HK := hide (below_keep kn (unhide HK))
  have HQ := hide q0
  clear q0 kn
  obtain ⟨W, hW⟩ : ∃ X, X = W0.alloc (.cells #[.int .i64 (n : Int)] 3) := ⟨_, rfl⟩
  go_enter Tryz.func18, Tryz.ntmps18
  go_upto_region 1 with fail
  rw [← hW0, ← hW, ← hg]
  rw [← hW] at HB HK HS HQ
  clear hW0 hW hg hz
  obtain ⟨k0, k1, k2, k3, k4, k5, m⟩ := unhide HB
  go_wp2_with fail
  go_fit (islong_any _ ⟨a1, c1, a2, c2, a3, c3, a4, c4, rfl, m⟩ (unhide HF))
  rintro e W1 ⟨rfl, hb⟩
  have HK := hide (below_keep hb (unhide HK))
  have HB := hide ((unhide HB).later hb)
  have HS := hide ((unhide HS).later hb)
  have HQ := hide (cell_keep hb (unhide HQ))
  clear k0 k1 k2 k3 k4 k5 m hb
  obtain ⟨k0, k1, k2, k3, k4, k5, m⟩ := unhide HB
  go_wp2_with fail
  go_fit (hasgreat_any _ ⟨a1, c1, a2, c2, a3, c3, a4, c4, rfl, m⟩)
  rintro e W2 ⟨rfl, hb⟩
  have HK := hide (below_keep hb (unhide HK))
  have HB := hide ((unhide HB).later hb)
  have HS := hide ((unhide HS).later hb)
  have HQ := hide (cell_keep hb (unhide HQ))
  clear k0 k1 k2 k3 k4 k5 m hb
  cases hq : greatC c
  rotate_left
  · have e1 := (unhide HS).h1
    go_wp2
    go_ret
    exact ⟨by rw [unhide HE, hq]; rfl, unhide HK⟩
  obtain ⟨k0, k1, k2, k3, k4, k5, m⟩ := unhide HB
  go_wp2_with fail
  go_fit (hasI_any _ eg_none lastJ m.r1 (pred_none _ (unhide HQ)))
  rintro e W3 ⟨rfl, hb⟩
  have HK := hide (below_keep hb (unhide HK))
  have HB := hide ((unhide HB).later hb)
  have HS := hide ((unhide HS).later hb)
  clear k0 k1 k2 k3 k4 k5 m hb HQ
  cases hq1 : c.vars.any (fun x => decide (x < 0) || decide ((n : Int) ≤ x))
  rotate_left
  · have e1 := (unhide HS).h3
    go_wp2
    go_ret
    exact ⟨by rw [unhide HE, hq, hq1]; rfl, unhide HK⟩
  obtain ⟨k0, k1, k2, k3, k4, k5, m⟩ := unhide HB
  go_wp2_with fail
  go_fit (shaped_any _ ⟨a1, c1, a2, c2, a3, c3, a4, c4, rfl, m⟩)
  rintro e W4 ⟨rfl, hb⟩
  have HK := hide (below_keep hb (unhide HK))
  have HS := hide ((unhide HS).later hb)
  clear k0 k1 k2 k3 k4 k5 m hb
  cases hq2 : formedC c
  · have e1 := (unhide HS).h3
    go_wp2
    go_ret
    exact ⟨by rw [unhide HE, hq, hq1, hq2]; rfl, unhide HK⟩
  · go_wp2
    go_ret
    exact ⟨by rw [unhide HE, hq, hq1, hq2]; rfl, unhide HK⟩
set_option maxHeartbeats 8000000 in
set_option maxRecDepth 8000 in
/-- validList. -/
theorem validlist_any {A : Nat → Addr} {v : Value} {l : List Int} (w : World) (hS : Sents w A) (h : Rows 1 JE w v l) (hl : l.length ≤ 12) : Calls Tryz.prog 17 #[v] w fun e w' => e = .returned (errV A (valV l)) ∧ w' = w := by
  obtain ⟨a, c, rfl⟩ := h.shape
  have HR := hide h
  have HV := hide (show valV l = goV none l from if_neg (by omega))
  have e1 := hS.h1
  have e3 := hS.h3
  clear h hS
  obtain ⟨nl, hnl⟩ : ∃ n, n = l.length := ⟨_, rfl⟩
  rw [← hnl] at hl HR ⊢
  have HN := hide hnl
  clear hnl
  have hd : decide ((200 : Int) < (nl : Int)) = false := decide_eq_false (by omega)
  go_enter Tryz.func17, Tryz.ntmps17
  go_wp2_with fail
  go_loopg [3, 4, 11] nl (fun gk _ _ iv wr => ∃ k : Nat, k ≤ nl ∧ gk = nl - k ∧ iv = .int .i64 (k : Int) ∧ wr = w ∧ Hid (goV none l = goV (prevO l k) (l.drop k)))
  case atStart => exact ⟨0, by omega, by omega, rfl, rfl, hide (by simp [prevO])⟩
  case round =>
    obtain ⟨k, hk, hgk, rfl, rfl, HG⟩ := hrel
    by_cases hkn : k < nl
    · obtain ⟨x, hx⟩ : ∃ x, l[k]? = some x := ⟨l[k]'(by have := unhide HN; omega), by simp⟩
      obtain ⟨b, o, rfl, d0, _⟩ := (unhide HR).int hx
      have HST := hide (goV_step hx)
      have hkn' : (k : Int) < (nl : Int) := by omega
      clear hx
      go_wp2_with fail
      go_fit (great_any x _)
      rintro e W1 ⟨rfl, rfl⟩
      cases hb : bigI x
      rotate_left
      · go_wp2
        go_ret
        exact ⟨by rw [unhide HV, unhide HG, unhide HST, hb]; rfl, rfl⟩
      by_cases hk0 : k = 0
      · subst hk0
        go_wp2
        go_roundg (nl - (0 + 1))
        case measure => omega
        case rel => exact ⟨1, by omega, rfl, by go_num, rfl, hide (by rw [unhide HG, unhide HST, hb]; rfl)⟩
      · obtain ⟨y, hy⟩ : ∃ y, l[k - 1]? = some y := ⟨l[k - 1]'(by have := unhide HN; omega), by simp⟩
        obtain ⟨b2, o2, e2, d1, _⟩ := (unhide HR).int hy
        obtain ⟨rfl, rfl⟩ : b = b2 ∧ o = o2 := by simpa using e2
        have hpo : prevO l k = some y := by rw [prevO, if_neg hk0, hy]
        have HPO := hide hpo
        obtain ⟨k', rfl⟩ : ∃ k', k = k' + 1 := ⟨k - 1, by omega⟩
        rw [Nat.add_sub_cancel] at d1
        have hsb : wrap64 (((k' + 1 : Nat) : Int) - 1) = (k' : Int) := by rw [show ((k' + 1 : Nat) : Int) - 1 = (k' : Int) by omega]; unfold wrap64; omega
        have hk1 : (k' : Int) < (nl : Int) := by omega
        have hd0 : decide ((0 : Int) < ((k' + 1 : Nat) : Int)) = true := decide_eq_true (by omega)
        clear hy hpo e2 hk0
        by_cases hz : x ≤ y
        · go_wp2
          go_ret
          exact ⟨by rw [unhide HV, unhide HG, unhide HST, hb, unhide HPO]; simp [hz, errV4], rfl⟩
        · go_wp2
          go_roundg (nl - (k' + 1 + 1))
          case measure => omega
          case rel => exact ⟨k' + 1 + 1, by omega, rfl, by go_num, rfl, hide (by rw [unhide HG, unhide HST, hb, unhide HPO]; simp; intro h; omega)⟩
    · obtain rfl : nl = k := by omega
      have hv0 : valV l = 0 := by rw [unhide HV, unhide HG, show l.drop nl = [] from by rw [unhide HN, List.drop_length]]; cases prevO l nl <;> rfl
      have HV0 := hide hv0
      clear hv0 hkn hk hgk
      go_wp2
      go_ret
      exact ⟨by rw [unhide HV0]; rfl, rfl⟩
end Go.Proofs.YthoppmbmmplkiaaGreatDoor
