/-
  Puzzles: whether one is right.
-/
import Derived.Test.YthoppmbmmplkiaaGreatDoorYC
namespace Go.Proofs.YthoppmbmmplkiaaGreatDoor
open Go.RowKit

theorem CnE.later {w w' : World} {cs : List Value} {c : Cn} (h : CnE w cs c) (hb : Below w.heap.size w w') : CnE w' cs c := by
  obtain ⟨a1, c1, a2, c2, a3, c3, a4, c4, h1, h2⟩ := h
  exact ⟨a1, c1, a2, c2, a3, c3, a4, c4, h1, h2.later hb⟩
/-- A puzzle. -/
structure Pz where
  vals : List (List Int)
  cons : List Cn
/-- A puzzle's rows in memory. -/
structure PzM (w : World) (p : Pz) (va : Option Addr) (vc : Nat) (qa : Option Addr) (qc : Nat) : Prop where
  v : Rows 1 (LE 1 JE) w (.slice va p.vals.length vc) p.vals
  q : Rows 6 CnE w (.slice qa p.cons.length qc) p.cons
theorem PzM.later {w w' : World} {p : Pz} {va : Option Addr} {vc : Nat} {qa : Option Addr} {qc : Nat} (h : PzM w p va vc qa qc) (hb : Below w.heap.size w w') : PzM w' p va vc qa qc :=
  ⟨h.v.later (jss_stays 0) hb, h.q.on (fun _ _ h => h.later hb) hb⟩
/-- A puzzle as a value. -/
def PzV (w : World) (v : Value) (p : Pz) : Prop := ∃ va vc qa qc, v = .agg #[.slice va p.vals.length vc, .slice qa p.cons.length qc] ∧ PzM w p va vc qa qc
/-- The cells of a constraint of a puzzle. -/
theorem Rows.con {w : World} {a : Option Addr} {n c i : Nat} {L : List Cn} {x : Cn} (h : Rows 6 CnE w (.slice a n c) L) (hx : L[i]? = some x) : ∃ b o a1 c1 a2 c2 a3 c3 a4 c4, a = some ⟨b, o, none⟩ ∧ (w.cell? ⟨b, o + i * 6, none⟩ = some (.int .i64 x.kind) ∧ w.cell? ⟨b, o + i * 6 + 1, none⟩ = some (.slice a1 x.vars.length c1) ∧ w.cell? ⟨b, o + i * 6 + 2, none⟩ = some (.slice a2 x.nums.length c2) ∧ w.cell? ⟨b, o + i * 6 + 3, none⟩ = some (.slice a3 x.uses.length c3) ∧ w.cell? ⟨b, o + i * 6 + 4, none⟩ = some (.int .i64 x.limit) ∧ w.cell? ⟨b, o + i * 6 + 5, none⟩ = some (.slice a4 x.rows.length c4)) ∧ CnM w x a1 c1 a2 c2 a3 c3 a4 c4 := by
  obtain ⟨b, o, rfl, cs, _, hcs, a1, c1, a2, c2, a3, c3, a4, c4, rfl, hM⟩ := h.at hx
  exact ⟨b, o, a1, c1, a2, c2, a3, c3, a4, c4, rfl, ⟨by simpa using hcs 0 _ rfl, hcs 1 _ rfl, hcs 2 _ rfl, hcs 3 _ rfl, hcs 4 _ rfl, hcs 5 _ rfl⟩, hM⟩
/-- What is wrong with a list of values behind one. -/
def goV : Option Int → List Int → Int
  | _, [] => 0
  | p, x :: t => if bigI x then 2 else if (match p with | some y => decide (x ≤ y) | none => false) then 4 else goV (some x) t
def valV (l : List Int) : Int := if 200 < l.length then 2 else goV none l
/-- The first number that is not 0. -/
def firstE : List Int → Int
  | [] => 0
  | e :: t => if e = 0 then firstE t else e
/-- What is wrong with a puzzle. -/
def pvalid (p : Pz) : Int := if 60 < p.vals.length ∨ 100 < p.cons.length then 2 else firstE (p.vals.map valV ++ p.cons.map (conV p.vals.length))
theorem firstE_skip : ∀ {l m : List Int}, (∀ e ∈ l, e = 0) → firstE (l ++ m) = firstE m
  | [], _, _ => rfl
  | e :: l, m, h => by
    rw [List.cons_append, firstE, if_pos (h e (by simp))]
    exact firstE_skip fun x hx => h x (by simp [hx])
theorem firstE_hit {α : Type} {f : α → Int} {l : List α} {m : List Int} {i : Nat} {x : α} (h : ∀ y ∈ l.take i, f y = 0) (hx : l[i]? = some x) (he : f x ≠ 0) : firstE (l.map f ++ m) = f x := by
  have hl : l = l.take i ++ x :: l.drop (i + 1) := by
    have hi := (List.getElem?_eq_some_iff.1 hx)
    obtain ⟨h1, h2⟩ := hi
    rw [← h2]
    rw [← List.drop_eq_getElem_cons h1, List.take_append_drop]
  rw [hl, List.map_append, List.append_assoc, firstE_skip (by intro e he; obtain ⟨y, hy, rfl⟩ := List.mem_map.1 he; exact h y hy), List.map_cons, List.cons_append, firstE, if_neg he]
theorem conV_codes (n : Nat) (c : Cn) : conV n c = 0 ∨ conV n c = 2 ∨ conV n c = 4 := by
  unfold conV
  repeat' split
  all_goals simp
/-- The list behind a place, and what stands ahead of it. -/
def prevO (l : List Int) (k : Nat) : Option Int := if k = 0 then none else l[k - 1]?
theorem goV_cons (p : Option Int) (x : Int) (t : List Int) : goV p (x :: t) = if bigI x then 2 else if (match p with | some y => decide (x ≤ y) | none => false) then 4 else goV (some x) t := by cases p <;> rfl
theorem goV_step {l : List Int} {k : Nat} {x : Int} (hx : l[k]? = some x) : goV (prevO l k) (l.drop k) = if bigI x then 2 else if (match prevO l k with | some y => decide (x ≤ y) | none => false) then 4 else goV (prevO l (k + 1)) (l.drop (k + 1)) := by
  obtain ⟨h1, h2⟩ := List.getElem?_eq_some_iff.1 hx
  rw [List.drop_eq_getElem_cons h1, h2, goV_cons, show prevO l (k + 1) = some x by simp [prevO, hx]]
set_option maxHeartbeats 8000000 in
set_option maxRecDepth 8000 in
/-- PuzzleValid. -/
theorem rpvalid_any {v : Value} {p : Pz} (w : World) (h : PzV w v p) :
    Calls Tryz.prog 7 #[v] w fun e w' => e = .returned (.int .i64 (pvalid p)) ∧ Below w.heap.size w w' := by
  obtain ⟨va, vc, qa, qc, rfl, hM⟩ := h
  obtain ⟨vals, cons⟩ := p
  have kn := below_new w (.cells #[.slice va vals.length vc, .slice qa cons.length qc] 25)
  obtain ⟨p0, p1⟩ := two_new w 25 (.slice va vals.length vc) (.slice qa cons.length qc)
  have HM := hide (hM.later kn)
  have HK := hide kn
  have s1 : vals.length ≤ 9223372036854775807 := by have := hM.v.small; unfold maxLen at this; omega
  have s2 : cons.length ≤ 9223372036854775807 := by have := hM.q.small; unfold maxLen at this; omega
  clear hM kn
  obtain ⟨nv, hnv⟩ : ∃ n, n = vals.length := ⟨_, rfl⟩
  obtain ⟨nc, hnc⟩ : ∃ n, n = cons.length := ⟨_, rfl⟩
  rw [← hnv] at s1
  rw [← hnc] at s2
  obtain ⟨g, hg⟩ : ∃ X, X = w.heap.size := ⟨_, rfl⟩
  obtain ⟨W, hW⟩ : ∃ X, X = w.alloc (.cells #[.slice va vals.length vc, .slice qa cons.length qc] 25) := ⟨_, rfl⟩
  go_enter Tryz.func7, Tryz.ntmps7
  go_upto_region 1 with fail
  rw [← hW, ← hg]
  rw [← hW] at HM HK p0 p1
  rw [← hg] at p0 p1
  rw [← hnv] at p0
  rw [← hnc] at p1
  rw [← hnv, ← hnc]
  have HN := hide (And.intro hnv hnc)
  clear hW hg hnv hnc
  by_cases b1 : (60 : Int) < (nv : Int)
  · go_wp2
    go_ret
    refine ⟨?_, unhide HK⟩
    rw [pvalid, if_pos (Or.inl (by simp only; have := unhide HN; omega))]
    rfl
  by_cases b2 : (100 : Int) < (nc : Int)
  · go_wp2
    go_ret
    refine ⟨?_, unhide HK⟩
    rw [pvalid, if_pos (Or.inr (by simp only; have := unhide HN; omega))]
    rfl
  have HP := hide (show pvalid ⟨vals, cons⟩ = firstE (vals.map valV ++ cons.map (conV vals.length)) from if_neg (by simp only; have := unhide HN; omega))
  go_wp2_with fail
  go_loopg [3] nv (fun gk iv wr => ∃ i : Nat, i ≤ nv ∧ gk = nv - i ∧ iv = .int .i64 (i : Int) ∧ Hid (Below W.heap.size W wr) ∧ Hid (∀ l ∈ vals.take i, valV l = 0))
  case atStart => exact ⟨0, by omega, by omega, rfl, hide (Below.refl _ _), hide (by simp)⟩
  case round =>
    obtain ⟨i, hi, hgk, rfl, HB, HA⟩ := hrel
    have q0 := cell_keep (unhide HB) p0
    have q1 := cell_keep (unhide HB) p1
    by_cases hin : i < nv
    · obtain ⟨l, hl⟩ : ∃ x, vals[i]? = some x := ⟨vals[i]'(by have := unhide HN; omega), by simp⟩
      obtain ⟨b, o, ra, rc, rfl, c0, hr⟩ := (unhide HM).v.row hl
      have c0 := cell_keep (unhide HB) c0
      have HR := hide hr
      have HL := hide hl
      have sl : l.length ≤ 9223372036854775807 := by have := hr.small; unfold maxLen at this; omega
      obtain ⟨nl, hnl⟩ : ∃ n, n = l.length := ⟨_, rfl⟩
      rw [← hnl] at c0 sl
      have HNL := hide hnl
      have hin' : (i : Int) < (nv : Int) := by omega
      clear hl hr hnl
      by_cases b3 : (200 : Int) < (nl : Int)
      · go_wp2
        go_ret
        refine ⟨?_, below_keep (unhide HB) (unhide HK)⟩
        have hv : valV l = 2 := if_pos (by have := unhide HNL; omega)
        rw [unhide HP, firstE_hit (unhide HA) (unhide HL) (by rw [hv]; decide), hv]
        rfl
      have HV := hide (show valV l = goV none l from if_neg (by have := unhide HNL; omega))
      have HGI := hide (And.intro hgk hi)
      clear hgk hi
      obtain ⟨wi, rfl⟩ : ∃ X, X = wr := ⟨_, rfl⟩
      go_wp2_with fail
      go_loopg [5] nl (fun gj kv wr => ∃ k : Nat, k ≤ nl ∧ gj = nl - k ∧ kv = .int .i64 (k : Int) ∧ Hid (Below W.heap.size W wr) ∧ Hid (goV none l = goV (prevO l k) (l.drop k)))
      case atStart => exact ⟨0, by omega, by omega, rfl, HB, hide (by simp [prevO])⟩
      case round =>
        clear HB
        obtain ⟨k, hk, hgj, rfl, HB, HGV⟩ := hrel
        have q0 := cell_keep (unhide HB) p0
        have q1 := cell_keep (unhide HB) p1
        by_cases hkn : k < nl
        · obtain ⟨x, hx⟩ : ∃ x, l[k]? = some x := ⟨l[k]'(by have := unhide HNL; omega), by simp⟩
          obtain ⟨b', o', rfl, d0, _⟩ := (unhide HR).int hx
          have d0 := cell_keep (unhide HB) d0
          have HX := hide hx
          have hkn' : (k : Int) < (nl : Int) := by omega
          have HST := hide (goV_step hx)
          clear hx
          go_wp2_with fail
          go_fit (rbig_any x _)
          rintro e W1 ⟨rfl, rfl⟩
          cases hb : bigI x
          rotate_left
          · go_wp2
            go_ret
            refine ⟨?_, below_keep (unhide HB) (unhide HK)⟩
            have hv : valV l = 2 := by rw [unhide HV, unhide HGV, unhide HST, hb]; rfl
            rw [unhide HP, firstE_hit (unhide HA) (unhide HL) (by rw [hv]; decide), hv]
            rfl
          go_upto_region 15 with fail
          by_cases hk0 : k = 0
          · subst hk0
            have hd : decide ((0 : Int) < ((0 : Nat) : Int)) = false := by decide
            go_quiet (fail)
            have HB' := hide (below_drewN (unhide HB) nq)
            go_wp2
            go_roundg (nl - (0 + 1))
            case measure => omega
            case rel => exact ⟨1, by omega, rfl, by go_num, HB', hide (by rw [unhide HGV, unhide HST, hb]; rfl)⟩
          · obtain ⟨y, hy⟩ : ∃ y, l[k - 1]? = some y := ⟨l[k - 1]'(by have := unhide HNL; omega), by simp⟩
            obtain ⟨b2, o2, e2, d1, _⟩ := (unhide HR).int hy
            obtain ⟨rfl, rfl⟩ : b' = b2 ∧ o' = o2 := by simpa using e2
            have d1 := cell_keep (unhide HB) d1
            have hpo : prevO l k = some y := by rw [prevO, if_neg hk0, hy]
            have HPO := hide hpo
            obtain ⟨k', rfl⟩ : ∃ k', k = k' + 1 := ⟨k - 1, by omega⟩
            rw [Nat.add_sub_cancel] at d1
            have hd : decide ((0 : Int) < ((k' + 1 : Nat) : Int)) = true := decide_eq_true (by omega)
            have hsb : wrap64 (((k' + 1 : Nat) : Int) - 1) = (k' : Int) := by rw [show ((k' + 1 : Nat) : Int) - 1 = (k' : Int) by omega]; unfold wrap64; omega
            have hk1 : (k' : Int) < (nl : Int) := by omega
            clear hy hpo e2 hk0
            by_cases hz : x ≤ y
            · go_quiet (fail)
              have HB' := hide (below_drewN (unhide HB) nq)
              go_wp2
              go_ret
              refine ⟨?_, below_keep (unhide HB') (unhide HK)⟩
              have hv : valV l = 4 := by rw [unhide HV, unhide HGV, unhide HST, hb, unhide HPO]; simp [hz]
              rw [unhide HP, firstE_hit (unhide HA) (unhide HL) (by rw [hv]; decide), hv]
              rfl
            · go_quiet (fail)
              have HB' := hide (below_drewN (unhide HB) nq)
              go_wp2
              go_roundg (nl - (k' + 1 + 1))
              case measure => omega
              case rel => exact ⟨k' + 1 + 1, by omega, rfl, by go_num, HB', hide (by rw [unhide HGV, unhide HST, hb, unhide HPO]; simp; intro h; omega)⟩
        · obtain rfl : nl = k := by omega
          have hv0 : valV l = 0 := by rw [unhide HV, unhide HGV, show l.drop nl = [] from by rw [unhide HNL, List.drop_length]]; cases prevO l nl <;> rfl
          have HV0 := hide hv0
          obtain ⟨hgk, hi⟩ := unhide HGI
          clear hv0 hkn hk hgj
          go_wp2
          go_roundg (nv - (i + 1))
          case measure => omega
          case rel => exact ⟨i + 1, by omega, rfl, by go_num, HB, hide (by rw [take_next (unhide HL)]; intro y hy; rcases List.mem_append.1 hy with h | h; exact unhide HA y h; simp at h; rw [h]; exact unhide HV0)⟩
    · obtain rfl : nv = i := by omega
      have hA := unhide HA
      rw [show vals.take nv = vals from by rw [(unhide HN).1, List.take_length]] at hA
      have HP2 := hide (show pvalid ⟨vals, cons⟩ = firstE (cons.map (conV vals.length)) by rw [unhide HP, firstE_skip]; intro e he; obtain ⟨y, hy, rfl⟩ := List.mem_map.1 he; exact hA y hy)
      clear hin hi hgk hA HA
      go_wp2_with fail
      go_loopg [7] nc (fun gk iv wr => ∃ i : Nat, i ≤ nc ∧ gk = nc - i ∧ iv = .int .i64 (i : Int) ∧ Hid (Below W.heap.size W wr) ∧ Hid (∀ c ∈ cons.take i, conV vals.length c = 0))
      case atStart => exact ⟨0, by omega, by omega, rfl, HB, hide (by simp)⟩
      case round =>
        clear HB
        obtain ⟨i, hi, hgk, rfl, HB, HA⟩ := hrel
        have q0 := cell_keep (unhide HB) p0
        have q1 := cell_keep (unhide HB) p1
        by_cases hin : i < nc
        · obtain ⟨c, hc⟩ : ∃ x, cons[i]? = some x := ⟨cons[i]'(by have := unhide HN; omega), by simp⟩
          obtain ⟨b, o, a1, c1, a2, c2, a3, c3, a4, c4, rfl, ⟨d0, d1, d2, d3, d4, d5⟩, hcm⟩ := (unhide HM).q.con hc
          have d0 := cell_keep (unhide HB) d0
          have d1 := cell_keep (unhide HB) d1
          have d2 := cell_keep (unhide HB) d2
          have d3 := cell_keep (unhide HB) d3
          have d4 := cell_keep (unhide HB) d4
          have d5 := cell_keep (unhide HB) d5
          have HCM := hide (hcm.later (unhide HB))
          have HC := hide hc
          have hin' : (i : Int) < (nc : Int) := by omega
          clear hc hcm
          go_upto_region 20 with fail
          obtain ⟨V, rfl⟩ : ∃ X, X = wr := ⟨_, rfl⟩
          have HD := hide ((unhide HCM).later (Below.refl _ _).drew)
          go_region_held3 (fun w' => w'.cell? ⟨g, 0, none⟩ = some (.slice va nv vc) ∧ w'.cell? ⟨g, 1, none⟩ = some (.slice (some ⟨b, o, none⟩) nc qc) ∧ w'.cell? ⟨b, o + i * 6, none⟩ = some (.int .i64 c.kind) ∧ w'.cell? ⟨b, o + i * 6 + 1, none⟩ = some (.slice a1 c.vars.length c1) ∧ w'.cell? ⟨b, o + i * 6 + 2, none⟩ = some (.slice a2 c.nums.length c2) ∧ w'.cell? ⟨b, o + i * 6 + 3, none⟩ = some (.slice a3 c.uses.length c3) ∧ w'.cell? ⟨b, o + i * 6 + 4, none⟩ = some (.int .i64 c.limit) ∧ w'.cell? ⟨b, o + i * 6 + 5, none⟩ = some (.slice a4 c.rows.length c4))
            (first | exact ⟨q0, q1, d0, d1, d2, d3, d4, d5⟩ | exact ⟨cell_keep hb q0, cell_keep hb q1, cell_keep hb d0, cell_keep hb d1, cell_keep hb d2, cell_keep hb d3, cell_keep hb d4, cell_keep hb d5⟩)
            (first | (go_at_call 16; go_fit (rconvalid_any (c := c) (n := nv) va vc (some ⟨b, o, none⟩) nc qc _ ⟨a1, c1, a2, c2, a3, c3, a4, c4, rfl, unhide HD⟩ s1); rintro e9 Y1 ⟨rfl, hb⟩))
          have HB := hide (below_keep hb (unhide HB).drew)
          obtain ⟨e, he⟩ : ∃ e, e = conV nv c := ⟨_, rfl⟩
          rw [← he]
          have HE := hide (show conV vals.length c = e by rw [he, (unhide HN).1])
          have hcod := conV_codes nv c
          rw [← he] at hcod
          clear he hb q0 q1 d0 d1 d2 d3 d4 d5
          by_cases h0 : e = 0
          · subst h0
            go_wp2
            go_roundg (nc - (i + 1))
            case measure => omega
            case rel => exact ⟨i + 1, by omega, rfl, by go_num, HB, hide (by rw [take_next (unhide HC)]; intro y hy; rcases List.mem_append.1 hy with h | h; exact unhide HA y h; simp at h; rw [h]; exact unhide HE)⟩
          · have h0' : (0 : Int) < e := by omega
            go_wp2
            go_ret
            refine ⟨?_, below_keep (unhide HB) (unhide HK)⟩
            rw [unhide HP2, ← List.append_nil (cons.map (conV vals.length)), firstE_hit (unhide HA) (unhide HC) (by rw [unhide HE]; exact h0), unhide HE]
            rfl
        · obtain rfl : nc = i := by omega
          have hA := unhide HA
          rw [show cons.take nc = cons from by rw [(unhide HN).2, List.take_length]] at hA
          have hp0 : pvalid ⟨vals, cons⟩ = 0 := by
            rw [unhide HP2, ← List.append_nil (cons.map (conV vals.length)), firstE_skip]
            · rfl
            · intro e he; obtain ⟨y, hy, rfl⟩ := List.mem_map.1 he; exact hA y hy
          have HP0 := hide hp0
          clear hin hi hgk hA HA hp0
          go_wp2
          go_ret
          refine ⟨?_, below_keep (unhide HB) (unhide HK)⟩
          rw [unhide HP0]
          rfl
end Go.Proofs.YthoppmbmmplkiaaGreatDoor
