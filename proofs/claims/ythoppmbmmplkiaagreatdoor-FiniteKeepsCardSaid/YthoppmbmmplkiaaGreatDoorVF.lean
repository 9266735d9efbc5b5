/-
  Puzzles: the program's Valid.
-/
import Derived.Test.YthoppmbmmplkiaaGreatDoorVE
namespace Go.Proofs.YthoppmbmmplkiaaGreatDoor
open Go.RowKit

theorem goV_codes : ∀ (l : List Int) (p : Option Int), goV p l = 0 ∨ goV p l = 2 ∨ goV p l = 4
  | [], p => Or.inl (by cases p <;> rfl)
  | x :: t, p => by
    rw [goV_cons]
    by_cases h : bigI x = true
    · rw [if_pos h]; exact Or.inr (Or.inl rfl)
    · rw [if_neg h]
      cases p with
      | none => simpa using goV_codes t (some x)
      | some y =>
        by_cases h2 : x ≤ y
        · exact Or.inr (Or.inr (by simp [h2]))
        · simpa [h2] using goV_codes t (some x)
theorem valV_codes (l : List Int) : valV l = 0 ∨ valV l = 2 ∨ valV l = 4 := by
  unfold valV
  split
  · exact Or.inr (Or.inl rfl)
  · exact goV_codes l none
set_option maxHeartbeats 8000000 in
set_option maxRecDepth 8000 in
/-- Valid. -/
theorem valid_any (A : Nat → Addr) : ValidC A := by
  intro w v p hS h hf
  obtain ⟨va, vc, qa, qc, rfl, hM⟩ := h
  obtain ⟨vals, cons⟩ := p
  have kn := below_new w (.cells #[.slice va vals.length vc, .slice qa cons.length qc] 25)
  obtain ⟨p0, p1⟩ := two_new w 25 (.slice va vals.length vc) (.slice qa cons.length qc)
  have HM := hide (hM.later kn)
  have HS := hide (hS.later kn)
  have HK := hide kn
  have HF := hide hf
  have f1 : vals.length ≤ 6 := hf.n
  have f2 : cons.length ≤ 8 := hf.m
  clear hM kn hS hf
  obtain ⟨nv, hnv⟩ : ∃ n, n = vals.length := ⟨_, rfl⟩
  obtain ⟨nc, hnc⟩ : ∃ n, n = cons.length := ⟨_, rfl⟩
  rw [← hnv] at f1
  rw [← hnc] at f2
  obtain ⟨g, hg⟩ : ∃ X, X = w.heap.size := ⟨_, rfl⟩
  obtain ⟨W, hW⟩ : ∃ X, X = w.alloc (.cells #[.slice va vals.length vc, .slice qa cons.length qc] 25) := ⟨_, rfl⟩
  go_enter Tryz.func8, Tryz.ntmps8
  go_upto_region 1 with fail
  rw [← hW, ← hg]
  rw [← hW] at HM HS HK p0 p1
  rw [← hg] at p0 p1
  rw [← hnv] at p0
  rw [← hnc] at p1
  rw [← hnv, ← hnc]
  have HN := hide (And.intro hnv hnc)
  clear hW hg hnv hnc
  have HP := hide (show pvalid ⟨vals, cons⟩ = firstE (vals.map valV ++ cons.map (conV vals.length)) from if_neg (by simp only; have := unhide HN; omega))
  have d1 : decide ((60 : Int) < (nv : Int)) = false := decide_eq_false (by omega)
  have d2 : decide ((100 : Int) < (nc : Int)) = false := decide_eq_false (by omega)
  go_wp2_with fail
  go_loopg [4, 5, 23] nv (fun gk _ _ iv wr => ∃ i : Nat, i ≤ nv ∧ gk = nv - i ∧ iv = .int .i64 (i : Int) ∧ wr = W ∧ Hid (∀ l ∈ vals.take i, valV l = 0))
  case atStart => exact ⟨0, by omega, by omega, rfl, rfl, hide (by simp)⟩
  case round =>
    obtain ⟨i, hi, hgk, rfl, rfl, HA⟩ := hrel
    by_cases hin : i < nv
    · obtain ⟨l, hl⟩ : ∃ x, vals[i]? = some x := ⟨vals[i]'(by have := unhide HN; omega), by simp⟩
      obtain ⟨b, o, ra, rc, rfl, c0, hr⟩ := (unhide HM).v.row hl
      have HR := hide hr
      have HL := hide hl
      have HL12 := hide ((unhide HF).v l (List.mem_of_getElem? hl))
      have hin' : (i : Int) < (nv : Int) := by omega
      clear hl hr
      go_wp2_with fail
      go_fit (validlist_any _ (unhide HS) (unhide HR) (unhide HL12))
      rintro e W1 ⟨rfl, rfl⟩
      obtain ⟨e, he⟩ : ∃ e, e = valV l := ⟨_, rfl⟩
      rw [← he]
      have HE := hide he.symm
      have hcod := valV_codes l
      rw [← he] at hcod
      clear he
      rcases hcod with rfl | rfl | rfl
      · rw [errV0]
        go_wp2
        go_roundg (nv - (i + 1))
        case measure => omega
        case rel => exact ⟨i + 1, by omega, rfl, by go_num, rfl, hide (by rw [take_next (unhide HL)]; intro y hy; rcases List.mem_append.1 hy with h | h; exact unhide HA y h; simp at h; rw [h]; exact unhide HE)⟩
      · rw [errV2]
        go_wp2
        go_ret
        refine ⟨?_, unhide HK⟩
        rw [unhide HP, firstE_hit (unhide HA) (unhide HL) (by rw [unhide HE]; decide), unhide HE]
        rfl
      · rw [errV4]
        go_wp2
        go_ret
        refine ⟨?_, unhide HK⟩
        rw [unhide HP, firstE_hit (unhide HA) (unhide HL) (by rw [unhide HE]; decide), unhide HE]
        rfl
    · obtain rfl : nv = i := by omega
      have hA := unhide HA
      rw [show vals.take nv = vals from by rw [(unhide HN).1, List.take_length]] at hA
      have HP2 := hide (show pvalid ⟨vals, cons⟩ = firstE (cons.map (conV vals.length)) by rw [unhide HP, firstE_skip]; intro e he; obtain ⟨y, hy, rfl⟩ := List.mem_map.1 he; exact hA y hy)
      clear hin hi hgk hA HA
      obtain ⟨X, rfl⟩ : ∃ X, X = wr := ⟨_, rfl⟩
      go_wp2_with fail
      go_loopg [7, 8, 36] nc (fun gk _ _ iv wr => ∃ i : Nat, i ≤ nc ∧ gk = nc - i ∧ iv = .int .i64 (i : Int) ∧ Hid (Below X.heap.size X wr) ∧ Hid (∀ c ∈ cons.take i, conV vals.length c = 0))
      case atStart => exact ⟨0, by omega, by omega, rfl, hide (Below.refl _ _), hide (by simp)⟩
      case round =>
        obtain ⟨i, hi, hgk, rfl, HB, HA⟩ := hrel
        have q0 := cell_keep (unhide HB) p0
        have q1 := cell_keep (unhide HB) p1
        by_cases hin : i < nc
        · obtain ⟨c, hc⟩ : ∃ x, cons[i]? = some x := ⟨cons[i]'(by have := unhide HN; omega), by simp⟩
          obtain ⟨b, o, a1, c1, a2, c2, a3, c3, a4, c4, rfl, ⟨d0, d1, d2, d3, d4, d5⟩, hcm⟩ := (unhide HM).q.con hc
          have d0 := cell_keep (unhide HB) d0
          have d1 := cell_keep (unhide HB) d1
          have d2 := cell_keep (unhide HB) d2
          have d3 := cell_keep (unhide HB) d3
          have d4 := cell_keep (unhide HB) d4
          have d5 := cell_keep (unhide HB) d5
          have HCM := hide (hcm.later (unhide HB))
          have HC := hide hc
          have HFC := hide (show FewC c from (unhide HF).c c (List.mem_of_getElem? hc))
          have hin' : (i : Int) < (nc : Int) := by omega
          clear hc hcm
          go_upto_region 13 with fail
          have kn := below_new wr (.cells #[.int .i64 c.kind, .slice a1 c.vars.length c1, .slice a2 c.nums.length c2, .slice a3 c.uses.length c3, .int .i64 c.limit, .slice a4 c.rows.length c4] 46)
          have hB := cnB_new wr 46 (unhide HCM)
          obtain ⟨g2, hg2⟩ : ∃ X, X = wr.heap.size := ⟨_, rfl⟩
          obtain ⟨V, hV⟩ : ∃ X, X = wr.alloc (.cells #[.int .i64 c.kind, .slice a1 c.vars.length c1, .slice a2 c.nums.length c2, .slice a3 c.uses.length c3, .int .i64 c.limit, .slice a4 c.rows.length c4] 46) := ⟨_, rfl⟩
          rw [← hV, ← hg2]
          rw [← hV] at hB kn
          rw [← hg2] at hB
          have HB := hide (below_keep kn (unhide HB))
          have HBX := hide hB
          clear hV hg2 hB kn d0 d1 d2 d3 d4 d5 q0 q1
          have q0 := cell_keep (unhide HB) p0
          obtain ⟨d0, d1, d2, d3, d4, d5, m⟩ := unhide HBX
          go_wp2_with fail
          go_fit (validcon_any (n := nv) _ ((unhide HS).later (unhide HB)) ⟨a1, c1, a2, c2, a3, c3, a4, c4, rfl, m⟩ (unhide HFC))
          rintro e W1 ⟨rfl, hb⟩
          have HB := hide (below_keep hb (unhide HB))
          clear hb q0 d0 d1 d2 d3 d4 d5 m HBX HCM
          obtain ⟨e, he⟩ : ∃ e, e = conV nv c := ⟨_, rfl⟩
          rw [← he]
          have HE := hide (show conV vals.length c = e by rw [he, (unhide HN).1])
          have hcod := conV_codes nv c
          rw [← he] at hcod
          clear he
          rcases hcod with rfl | rfl | rfl
          · rw [errV0]
            go_wp2
            go_roundg (nc - (i + 1))
            case measure => omega
            case rel => exact ⟨i + 1, by omega, rfl, by go_num, HB, hide (by rw [take_next (unhide HC)]; intro y hy; rcases List.mem_append.1 hy with h | h; exact unhide HA y h; simp at h; rw [h]; exact unhide HE)⟩
          · rw [errV2]
            go_wp2
            go_ret
            refine ⟨?_, below_keep (unhide HB) (unhide HK)⟩
            rw [unhide HP2, ← List.append_nil (cons.map (conV vals.length)), firstE_hit (unhide HA) (unhide HC) (by rw [unhide HE]; decide), unhide HE]
            rfl
          · rw [errV4]
            go_wp2
            go_ret
            refine ⟨?_, below_keep (unhide HB) (unhide HK)⟩
            rw [unhide HP2, ← List.append_nil (cons.map (conV vals.length)), firstE_hit (unhide HA) (unhide HC) (by rw [unhide HE]; decide), unhide HE]
            rfl
        · obtain rfl : nc = i := by omega
          have hA := unhide HA
          rw [show cons.take nc = cons from by rw [(unhide HN).2, List.take_length]] at hA
          have hp0 : pvalid ⟨vals, cons⟩ = 0 := by
            rw [unhide HP2, ← List.append_nil (cons.map (conV vals.length)), firstE_skip]
            · rfl
            · intro e he; obtain ⟨y, hy, rfl⟩ := List.mem_map.1 he; exact hA y hy
          have HP0 := hide hp0
          clear hin hi hgk hA HA hp0
          go_wp2
          go_ret
          exact ⟨by rw [unhide HP0]; rfl, below_keep (unhide HB) (unhide HK)⟩
end Go.Proofs.YthoppmbmmplkiaaGreatDoor
