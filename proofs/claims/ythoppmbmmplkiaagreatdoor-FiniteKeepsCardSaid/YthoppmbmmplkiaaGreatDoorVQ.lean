/-
  Puzzles: the program's rulesOf.
-/
import Derived.Test.YthoppmbmmplkiaaGreatDoorVP
namespace Go.Proofs.YthoppmbmmplkiaaGreatDoor
open Go.RowKit

theorem info_u : (Tryz.prog.info? 41).map (fun i => (i.zero, i.size, i.bytes)) = some (some .nilIface, 1, 16) := by kernel_rfl
/-- Rules that have been made of constraints. -/
def RuL (W w : World) (lo : Nat) (us : List Value) (cs : List Cn) : Prop := ∀ (j : Nat) (u : Value) (c : Cn), us[j]? = some u → cs[j]? = some c → ∃ a1 c1 a2 c2 a3 c3 a4 c4, CnM W c a1 c1 a2 c2 a3 c3 a4 c4 ∧ RuC w lo u c a1 c1 a2 c2 a3 c3 a4 c4
theorem RuL.on {W w w' : World} {lo : Nat} {us : List Value} {cs : List Cn} (h : RuL W w lo us cs) (hc : ∀ g o v, lo ≤ g → w.cell? ⟨g, o, none⟩ = some v → w'.cell? ⟨g, o, none⟩ = some v) : RuL W w' lo us cs := fun j u c h1 h2 => by
  obtain ⟨a1, c1, a2, c2, a3, c3, a4, c4, h3, h4⟩ := h j u c h1 h2
  exact ⟨a1, c1, a2, c2, a3, c3, a4, c4, h3, h4.on (Nat.le_refl _) hc⟩
theorem RuC.shape {w : World} {lo : Nat} {u : Value} {c : Cn} {a1 : Option Addr} {c1 : Nat} {a2 : Option Addr} {c2 : Nat} {a3 : Option Addr} {c3 : Nat} {a4 : Option Addr} {c4 : Nat} (h : RuC w lo u c a1 c1 a2 c2 a3 c3 a4 c4) : ∃ T g, u = .iface T (.pointer (some ⟨g, 0, none⟩)) := by
  obtain ⟨g, _, ⟨_, e, _⟩ | ⟨_, e, _⟩ | ⟨_, e, _⟩ | ⟨_, e, _⟩ | ⟨_, e, _⟩⟩ := h <;> exact ⟨_, g, e⟩
theorem cell_aside {w : World} {B g i o : Nat} {v u : Value} (hne : g ≠ B) (h : w.cell? ⟨g, o, none⟩ = some v) : (w.setCell ⟨B, i, none⟩ u).cell? ⟨g, o, none⟩ = some v := by
  obtain ⟨c, t, f, h1, _, h3⟩ := cell_block h
  exact block_cell (by rw [Below.heap_setCell _ _ _ _ hne]; exact h1) h3
set_option maxHeartbeats 8000000 in
set_option maxRecDepth 8000 in
/-- rulesOf. -/
theorem rules_any {v : Value} {p : Pz} (w : World) (h : PzV w v p) (hf : ∀ c ∈ p.cons, formedC c = true) (h8 : p.cons.length ≤ 8) :
    Calls Tryz.prog 13 #[v] w fun e w' => (∃ (B : Nat) (us : List Value), e = .returned (.slice (some ⟨B, 0, none⟩) p.cons.length p.cons.length) ∧ us.length = p.cons.length ∧ w'.heap[B]? = some (.cells us.toArray 41 (0, 0)) ∧ RuL w w' 0 us p.cons) ∧ Below w.heap.size w w' := by
  obtain ⟨va, vc, qa, qc, rfl, hM⟩ := h
  obtain ⟨vals, cons⟩ := p
  have kn := below_new w (.cells #[.slice va vals.length vc, .slice qa cons.length qc] 25)
  obtain ⟨p0, p1⟩ := two_new w 25 (.slice va vals.length vc) (.slice qa cons.length qc)
  have HM := hide hM
  have HK := hide kn
  have HF := hide hf
  simp only at h8
  clear hM kn hf
  obtain ⟨nc, hnc⟩ : ∃ n, n = cons.length := ⟨_, rfl⟩
  rw [← hnc] at h8
  obtain ⟨g, hg⟩ : ∃ X, X = w.heap.size := ⟨_, rfl⟩
  obtain ⟨W, hW⟩ : ∃ X, X = w.alloc (.cells #[.slice va vals.length vc, .slice qa cons.length qc] 25) := ⟨_, rfl⟩
  have hmk := run_make_k (P := Tryz.prog) 39 41 _ 1 16 Tryz.underlying39 info_u .i64 .i64 nc (by omega) (by omega)
  go_enter Tryz.func13, Tryz.ntmps13
  go_upto_region 1 with fail
  rw [← hW, ← hg]
  rw [← hW] at HK p0 p1
  rw [← hg] at p0 p1
  rw [← hnc] at p1
  simp only at *
  rw [← hnc]
  have HN := hide hnc
  clear hW hg hnc
  go_upto_region 2 with fail
  have hF := FillV.new 41 W #[.nilIface] nc
  have kn := below_new W (.cells (madeCells #[.nilIface] nc) 41)
  have hsz : (W.alloc (.cells (madeCells #[.nilIface] nc) 41)).heap.size = W.heap.size + 1 := by simp
  obtain ⟨B, hB⟩ : ∃ X, X = W.heap.size := ⟨_, rfl⟩
  obtain ⟨V, hV⟩ : ∃ X, X = W.alloc (.cells (madeCells #[.nilIface] nc) 41) := ⟨_, rfl⟩
  rw [← hV, ← hB]
  rw [← hV, ← hB] at hF hsz
  rw [← hV] at kn
  have HF0 := hide hF
  have HKN := hide kn
  have HBB := hide hB
  have HSZ := hide (Nat.le_of_eq hsz.symm)
  have q0 := cell_keep kn p0
  have q1 := cell_keep kn p1
  clear hF kn hB hV hsz hmk
  go_wp2_with fail
  go_loopg [4, 5, 13] nc (fun gk _ _ iv wr => ∃ (i : Nat) (us : List Value), i ≤ nc ∧ gk = nc - i ∧ iv = .int .i64 (i : Int) ∧ us.length = i ∧ Hid (Below W.heap.size W wr) ∧ Hid (B + 1 ≤ wr.heap.size) ∧ Hid (FillV 41 wr B nc us) ∧ Hid (RuL w wr (B + 1) us cons))
  case atStart => exact ⟨0, [], by omega, by omega, rfl, rfl, HKN, HSZ, HF0, hide (fun j u c h => by simp at h)⟩
  case round =>
    clear HF0 HKN HSZ q0 q1
    obtain ⟨i, us, hi, hgk, rfl, hul, HBW, HSZ, HFV, HL⟩ := hrel
    by_cases hin : i < nc
    · obtain ⟨c, hc⟩ : ∃ x, cons[i]? = some x := ⟨cons[i]'(by have := unhide HN; omega), by simp⟩
      obtain ⟨b, o, a1, c1, a2, c2, a3, c3, a4, c4, rfl, ⟨d0, d1, d2, d3, d4, d5⟩, hcm⟩ := (unhide HM).q.con hc
      have hbw := below_keep (unhide HBW) (unhide HK)
      have d0 := cell_keep hbw d0
      have d1 := cell_keep hbw d1
      have d2 := cell_keep hbw d2
      have d3 := cell_keep hbw d3
      have d4 := cell_keep hbw d4
      have d5 := cell_keep hbw d5
      have HCM := hide (And.intro hcm (hcm.later hbw))
      have HC := hide hc
      have HFC := hide (unhide HF c (List.mem_of_getElem? hc))
      have hin' : (i : Int) < (nc : Int) := by omega
      have HUL := hide hul
      clear hc hcm hbw hul
      obtain ⟨X, rfl⟩ : ∃ X, X = wr := ⟨_, rfl⟩
      go_upto_region 5 with fail
      have kn := below_new X (.cells #[.int .i64 c.kind, .slice a1 c.vars.length c1, .slice a2 c.nums.length c2, .slice a3 c.uses.length c3, .int .i64 c.limit, .slice a4 c.rows.length c4] 46)
      have hB := cnB_new X 46 (unhide HCM).2
      obtain ⟨g2, hg2⟩ : ∃ X1, X1 = X.heap.size := ⟨_, rfl⟩
      obtain ⟨Y, hY⟩ : ∃ X1, X1 = X.alloc (.cells #[.int .i64 c.kind, .slice a1 c.vars.length c1, .slice a2 c.nums.length c2, .slice a3 c.uses.length c3, .int .i64 c.limit, .slice a4 c.rows.length c4] 46) := ⟨_, rfl⟩
      rw [← hY, ← hg2]
      rw [← hY] at hB kn
      rw [← hg2] at hB
      have HBW := hide (below_keep kn (unhide HBW))
      have HSZ := hide (Nat.le_trans (unhide HSZ) kn.size)
      have HFV := hide ((unhide HFV).later kn)
      have HL := hide ((unhide HL).on fun g o v _ h => cell_keep kn h)
      have HBX := hide hB
      clear hY hg2 hB kn d0 d1 d2 d3 d4 d5
      obtain ⟨d0, d1, d2, d3, d4, d5, m⟩ := unhide HBX
      go_wp2_with fail
      go_fit (ruleof_any _ m (unhide HFC))
      rintro e W1 ⟨⟨u, rfl, hu⟩, hb⟩
      have HBW := hide (below_keep hb (unhide HBW))
      have HFV := hide ((unhide HFV).later hb)
      have HL := hide ((unhide HL).on fun g o v _ h => cell_keep hb h)
      have HU := hide (hu.on (lo' := B + 1) (w' := W1) (unhide HSZ) fun _ _ _ _ h => h)
      have HSZ := hide (Nat.le_trans (unhide HSZ) hb.size)
      obtain ⟨T, gu, rfl⟩ := hu.shape
      clear hu hb d0 d1 d2 d3 d4 d5 m HBX
      obtain ⟨u0, e0⟩ := (unhide HFV).cell (o := i) hin
      have gf := (unhide HFV).free i
      go_wp2
      go_roundg (nc - (i + 1))
      case measure => omega
      case rel =>
        have hcl : ∀ g o v, B + 1 ≤ g → W1.cell? ⟨g, o, none⟩ = some v → (W1.setCell ⟨B, i, none⟩ (.iface T (.pointer (some ⟨gu, 0, none⟩)))).cell? ⟨g, o, none⟩ = some v := fun g o v hg h => cell_aside (by omega) h
        refine ⟨i + 1, us ++ [.iface T (.pointer (some ⟨gu, 0, none⟩))], by omega, rfl, by go_num, by rw [List.length_append, unhide HUL]; rfl, hide ((unhide HBW).setCell (by rw [unhide HBB]; exact Nat.le_refl _) _), hide (by simpa using unhide HSZ), hide ((unhide HFV).store (unhide HUL) hin _), hide ?_⟩
        intro j u' c' h1 h2
        rcases Nat.lt_trichotomy j i with hj | rfl | hj
        · rw [List.getElem?_append_left (by rw [unhide HUL]; exact hj)] at h1
          exact (unhide HL).on hcl j u' c' h1 h2
        · rw [List.getElem?_append_right (by rw [unhide HUL]; exact Nat.le_refl _), unhide HUL, Nat.sub_self] at h1
          obtain rfl : Value.iface T (.pointer (some ⟨gu, 0, none⟩)) = u' := by simpa using h1
          obtain rfl : c = c' := Option.some.inj ((unhide HC).symm.trans h2)
          exact ⟨_, c1, a2, c2, a3, c3, a4, c4, (unhide HCM).1, (unhide HU).on (Nat.le_refl _) hcl⟩
        · rw [List.getElem?_eq_none (by rw [List.length_append, unhide HUL]; simp; omega)] at h1
          cases h1
    · obtain rfl : nc = i := by omega
      have HUL := hide hul
      clear hin hi hgk hul
      go_wp2
      go_ret
      refine ⟨⟨B, us, by rw [← unhide HN]; rfl, (unhide HUL).trans (unhide HN), (unhide HFV).done (unhide HUL), fun j u c h1 h2 => ?_⟩, below_keep (unhide HBW) (unhide HK)⟩
      obtain ⟨a1, c1, a2, c2, a3, c3, a4, c4, h3, h4⟩ := unhide HL j u c h1 h2
      exact ⟨a1, c1, a2, c2, a3, c3, a4, c4, h3, h4.on (Nat.zero_le _) fun _ _ _ _ h => h⟩
end Go.Proofs.YthoppmbmmplkiaaGreatDoor
