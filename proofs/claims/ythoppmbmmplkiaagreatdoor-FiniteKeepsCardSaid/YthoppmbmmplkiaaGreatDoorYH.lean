/-
  Puzzles: whether values keep one.
-/
import Derived.Test.YthoppmbmmplkiaaGreatDoorYG
namespace Go.Proofs.YthoppmbmmplkiaaGreatDoor
open Go.RowKit

/-- Do values keep a constraint? -/
def keptP (c : Cn) (v : List Int) : Prop :=
  if c.kind = 1 then v.Nodup
  else if c.kind = 2 then dotS c.nums v = c.limit
  else if c.kind = 3 then v ∈ c.rows
  else if c.kind = 4 then elemP v
  else shareP v c.nums c.uses c.limit
/-- What a constraint that is right has. -/
structure ConOk (n : Nat) (c : Cn) : Prop where
  vs : c.vars.length ≤ 60
  nb : ∀ x ∈ c.nums, Ok8 x
  ub : ∀ x ∈ c.uses, Ok8 x
  va : ∀ x ∈ c.vars, 0 ≤ x ∧ x < (n : Int)
  f : formedC c = true
theorem bigI_no {x : Int} (h : bigI x = false) : Ok8 x := by
  simp [bigI] at h
  unfold Ok8
  omega
theorem anyBig_no {l : List Int} (h : anyBigI l = false) : ∀ x ∈ l, Ok8 x := fun x hx => bigI_no (by
  cases hb : bigI x
  · rfl
  · rw [show anyBigI l = true from List.any_eq_true.2 ⟨x, hx, hb⟩] at h
    cases h)
theorem conOk {n : Nat} {c : Cn} (h : conV n c = 0) : ConOk n c := by
  unfold conV at h
  split at h
  · cases h
  rename_i h1
  split at h
  · cases h
  split at h
  · cases h
  rename_i h3
  split at h
  · cases h
  rename_i h4
  split at h
  · cases h
  split at h
  · cases h
  rename_i h6
  split at h
  · rename_i h7
    refine ⟨by omega, anyBig_no (by simpa using h3), anyBig_no (by simpa using h4), fun x hx => ?_, h7⟩
    have h8 : ¬ ((decide (x < 0) || decide ((n : Int) ≤ x)) = true) := fun hh => h6 (List.any_eq_true.2 ⟨x, hx, hh⟩)
    simp at h8
    omega
  · cases h
set_option maxHeartbeats 4000000 in
/-- kept. -/
theorem rkept_any {cv vv : Value} {c : Cn} {v : List Int} {n : Nat} (w : World) (h : CnV w cv c) (hv : Rows 1 JE w vv v) (hc : ConOk n c) (hl : v.length = c.vars.length) (ho : ∀ x ∈ v, Ok8 x) :
    Calls Tryz.prog 21 #[cv, vv] w fun e w' => YesP e (keptP c v) ∧ Below w.heap.size w w' := by
  have hf := hc.f
  have h60 := hc.vs
  unfold formedC at hf
  unfold keptP
  split at hf
  · rename_i e1
    rw [if_pos e1]
    exact rkept1 w h hv e1
  rename_i e1
  rw [if_neg e1]
  split at hf
  · rename_i e2
    rw [if_pos e2]
    simp at hf
    exact rkept2 w h hv e2 (by rw [hl]; exact hf.1.1.2) (by omega) ho hc.nb
  rename_i e2
  rw [if_neg e2]
  split at hf
  · rename_i e3
    rw [if_pos e3]
    simp at hf
    exact rkept3 w h hv e3 (fun r hr => by rw [hl]; exact hf.1.1.1 r hr)
  rename_i e3
  rw [if_neg e3]
  split at hf
  · rename_i e4
    rw [if_pos e4]
    simp at hf
    exact rkept4 w h hv e4 (by rw [hl]; exact hf.1.1.1.1)
  rename_i e4
  rw [if_neg e4]
  split at hf
  · rename_i e5
    simp at hf
    exact rkept5 w h hv e5 (by rw [hl]; exact hf.1.1.1.1.1) (by rw [hl]; exact hf.1.1.1.1.2) (by omega) ho hc.nb hc.ub
  · cases hf
/-- Do values keep a puzzle? -/
def pick (x : List Int) (c : Cn) : List Int := c.vars.map fun k => x.getD k.toNat 0
def keepsP (p : Pz) (x : List Int) : Prop := (∀ (i : Nat) (y : Int) (l : List Int), x[i]? = some y → p.vals[i]? = some l → y ∈ l) ∧ ∀ c ∈ p.cons, keptP c (pick x c)
/-- What a puzzle that is right has. -/
structure PzOk (p : Pz) : Prop where
  n : p.vals.length ≤ 60
  m : p.cons.length ≤ 100
  v : ∀ l ∈ p.vals, ∀ x ∈ l, Ok8 x
  c : ∀ c ∈ p.cons, ConOk p.vals.length c
theorem firstE_zero : ∀ {l : List Int}, firstE l = 0 → ∀ e ∈ l, e = 0
  | [], _, _, h => by cases h
  | a :: l, h, e, he => by
    rw [firstE] at h
    split at h
    · rename_i h0
      rcases List.mem_cons.1 he with rfl | he
      · exact h0
      · exact firstE_zero h e he
    · exact absurd h (by assumption)
theorem goV_ok : ∀ {l : List Int} {p : Option Int}, goV p l = 0 → ∀ x ∈ l, Ok8 x
  | [], _, _, _, h => by cases h
  | a :: l, p, h, x, hx => by
    rw [goV_cons] at h
    by_cases h1 : bigI a = true
    · rw [if_pos h1] at h; cases h
    rw [if_neg h1] at h
    have h2 : goV (some a) l = 0 := by
      cases p with
      | none => simpa using h
      | some y =>
        by_cases h3 : a ≤ y
        · simp [h3] at h
        · simpa [h3] using h
    rcases List.mem_cons.1 hx with rfl | hx
    · exact bigI_no (by simpa using h1)
    · exact goV_ok h2 x hx
theorem pzOk {p : Pz} (h : pvalid p = 0) : PzOk p := by
  unfold pvalid at h
  split at h
  · cases h
  rename_i h1
  have h2 := firstE_zero h
  refine ⟨by omega, by omega, fun l hl => ?_, fun c hc => conOk (h2 _ (by simp; exact Or.inr ⟨c, hc, rfl⟩))⟩
  have h3 : valV l = 0 := h2 _ (by simp; exact Or.inl ⟨l, hl, rfl⟩)
  unfold valV at h3
  split at h3
  · cases h3
  exact goV_ok h3
theorem pick_at {x : List Int} {c : Cn} {k z : Nat} {y : Int} (hz : c.vars[k]? = some (z : Int)) (hy : x[z]? = some y) : (pick x c)[k]? = some y := by
  rw [pick, List.getElem?_map, hz]
  simp [List.getD, hy]
theorem pick_ok {x : List Int} {p : Pz} {c : Cn} (hp : PzOk p) (hc : c ∈ p.cons) (hl : x.length = p.vals.length) (ha : ∀ (j : Nat) (y : Int) (l : List Int), x[j]? = some y → p.vals[j]? = some l → y ∈ l) : ∀ y ∈ pick x c, Ok8 y := by
  intro y hy
  obtain ⟨k, hk, rfl⟩ := List.mem_map.1 hy
  have h1 := (hp.c c hc).va k hk
  obtain ⟨z, rfl⟩ : ∃ z : Nat, k = (z : Int) := ⟨k.toNat, by omega⟩
  obtain ⟨y, hy⟩ : ∃ y, x[z]? = some y := ⟨x[z]'(by omega), by simp⟩
  obtain ⟨l, hl⟩ : ∃ y, p.vals[z]? = some y := ⟨p.vals[z]'(by omega), by simp⟩
  rw [show x.getD (z : Int).toNat 0 = y by simp [List.getD, hy]]
  exact hp.v l (List.mem_of_getElem? hl) y (ha z y l hy hl)
set_option maxHeartbeats 8000000 in
set_option maxRecDepth 8000 in
/-- Keeps. -/
theorem rkeeps_any {pv vv : Value} {p : Pz} {x : List Int} (w : World) (h : PzV w pv p) (hx : Rows 1 JE w vv x) (hp : PzOk p) (hl : x.length = p.vals.length) :
    Calls Tryz.prog 10 #[pv, vv] w fun e w' => YesP e (keepsP p x) ∧ Below w.heap.size w w' := by
  obtain ⟨va, vc, qa, qc, rfl, hM⟩ := h
  obtain ⟨vals, cons⟩ := p
  obtain ⟨sa, sc, rfl⟩ := hx.shape
  have kn := below_new w (.cells #[.slice va vals.length vc, .slice qa cons.length qc] 25)
  obtain ⟨p0, p1⟩ := two_new w 25 (.slice va vals.length vc) (.slice qa cons.length qc)
  have HM := hide (hM.later kn)
  have HV := hide (hx.later (JE.stays IsSl 0) kn)
  have HK := hide kn
  have HP := hide hp
  have HL := hide hl
  have b1 : vals.length ≤ 60 := hp.n
  have b2 : cons.length ≤ 100 := hp.m
  have b3 : x.length ≤ 60 := by rw [hl]; exact b1
  clear hM hx kn hp hl
  obtain ⟨nv, hnv⟩ : ∃ n, n = vals.length := ⟨_, rfl⟩
  obtain ⟨nc, hnc⟩ : ∃ n, n = cons.length := ⟨_, rfl⟩
  obtain ⟨m, hm⟩ : ∃ n, n = x.length := ⟨_, rfl⟩
  rw [← hnv] at b1
  rw [← hnc] at b2
  rw [← hm] at b3 HV ⊢
  obtain ⟨g, hg⟩ : ∃ X, X = w.heap.size := ⟨_, rfl⟩
  obtain ⟨W, hW⟩ : ∃ X, X = w.alloc (.cells #[.slice va vals.length vc, .slice qa cons.length qc] 25) := ⟨_, rfl⟩
  go_enter Tryz.func10, Tryz.ntmps10
  go_upto_region 1 with fail
  rw [← hW, ← hg]
  rw [← hW] at HM HV HK p0 p1
  rw [← hg] at p0 p1
  rw [← hnv] at p0
  rw [← hnc] at p1
  rw [← hnv, ← hnc]
  have HN := hide (show nv = vals.length ∧ nc = cons.length ∧ m = x.length ∧ m = nv from ⟨hnv, hnc, hm, by rw [hm, hnv]; exact unhide HL⟩)
  clear hW hg hnv hnc hm
  go_wp2_with fail
  go_loopg [5] m (fun gk iv wr => ∃ i : Nat, i ≤ m ∧ gk = m - i ∧ iv = .int .i64 (i : Int) ∧ Hid (Below W.heap.size W wr) ∧ Hid (∀ (j : Nat) (y : Int) (l : List Int), j < i → x[j]? = some y → vals[j]? = some l → y ∈ l))
  case atStart => exact ⟨0, by omega, by omega, rfl, hide (Below.refl _ _), hide (by intro j y l hj; omega)⟩
  case round =>
    obtain ⟨i, hi, hgk, rfl, HB, HA⟩ := hrel
    have q0 := cell_keep (unhide HB) p0
    have q1 := cell_keep (unhide HB) p1
    by_cases hin : i < m
    · obtain ⟨y, hy⟩ : ∃ y, x[i]? = some y := ⟨x[i]'(by have := unhide HN; omega), by simp⟩
      obtain ⟨l, hl⟩ : ∃ y, vals[i]? = some y := ⟨vals[i]'(by have := unhide HN; omega), by simp⟩
      obtain ⟨b, o, rfl, d0, _⟩ := (unhide HV).int hy
      obtain ⟨b', o', ra, rc, rfl, d1, hr⟩ := (unhide HM).v.row hl
      have d0 := cell_keep (unhide HB) d0
      have d1 := cell_keep (unhide HB) d1
      have HR := hide (hr.later (JE.stays IsSl 0) (unhide HB).drew)
      have HX := hide (And.intro hy hl)
      have hin' : (i : Int) < (m : Int) := by omega
      have hin2 : (i : Int) < (nv : Int) := by have := unhide HN; omega
      clear hy hl hr
      go_upto_region 4 with fail
      obtain ⟨V, rfl⟩ : ∃ X, X = wr := ⟨_, rfl⟩
      go_region_held3 (fun w' => w'.cell? ⟨g, 0, none⟩ = some (.slice (some ⟨b', o', none⟩) nv vc) ∧ w'.cell? ⟨b', o' + i, none⟩ = some (.slice ra l.length rc) ∧ w'.cell? ⟨b, o + i, none⟩ = some (.int .i64 y))
        (first | exact ⟨q0, d1, d0⟩)
        (first | (go_at_call 20; go_fit (rin_any (l := l) (x := y) _ (unhide HR)); rintro e9 Y1 ⟨⟨bb, rfl, hbb⟩, rfl⟩; have HBB := hide hbb; clear hbb))
      have HB := hide (unhide HB).drew
      obtain ⟨V1, hV1⟩ : ∃ X, X = V.drew := ⟨_, rfl⟩
      rw [← hV1] at HB ⊢
      clear hV1 d0 d1 q0 q1 HR
      cases bb
      · go_wp2
        go_ret
        refine ⟨YesP.no fun h => ?_, below_keep (unhide HB) (unhide HK)⟩
        have := (unhide HBB).2 (h.1 i y l (unhide HX).1 (unhide HX).2)
        cases this
      · go_wp2
        go_roundg (m - (i + 1))
        case measure => omega
        case rel => exact ⟨i + 1, by omega, rfl, by go_num, HB, hide (by
          intro j y' l' hj h1 h2
          by_cases e : j = i
          · subst e
            rw [(unhide HX).1] at h1
            rw [(unhide HX).2] at h2
            obtain rfl : y = y' := by simpa using h1
            obtain rfl : l = l' := by simpa using h2
            exact (unhide HBB).1 (by simp)
          · exact unhide HA j y' l' (by omega) h1 h2)⟩
    · obtain rfl : m = i := by omega
      have HAA := hide (show ∀ (j : Nat) (y : Int) (l : List Int), x[j]? = some y → vals[j]? = some l → y ∈ l from fun j y l h1 h2 => unhide HA j y l (by have := (List.getElem?_eq_some_iff.1 h1).1; have := unhide HN; omega) h1 h2)
      clear hin hi hgk HA
      go_wp2_with fail
      go_loopg [7] nc (fun gk iv wr => ∃ i : Nat, i ≤ nc ∧ gk = nc - i ∧ iv = .int .i64 (i : Int) ∧ Hid (Below W.heap.size W wr) ∧ Hid (∀ c ∈ cons.take i, keptP c (pick x c)))
      case atStart => exact ⟨0, by omega, by omega, rfl, HB, hide (by simp)⟩
      case round =>
        clear HB q0 q1
        obtain ⟨i, hi, hgk, rfl, HB, HA⟩ := hrel
        have q0 := cell_keep (unhide HB) p0
        have q1 := cell_keep (unhide HB) p1
        by_cases hin : i < nc
        · obtain ⟨c, hc⟩ : ∃ y, cons[i]? = some y := ⟨cons[i]'(by have := unhide HN; omega), by simp⟩
          obtain ⟨b, o, a1, c1, a2, c2, a3, c3, a4, c4, rfl, ⟨d0, d1, d2, d3, d4, d5⟩, hcm⟩ := (unhide HM).q.con hc
          have HD := hide (And.intro d0 (And.intro d1 (And.intro d2 (And.intro d3 (And.intro d4 d5)))))
          have HCM := hide hcm
          have HC := hide hc
          have HOK := hide ((unhide HP).c c (List.mem_of_getElem? hc))
          have hin' : (i : Int) < (nc : Int) := by omega
          have hvs : c.vars.length ≤ 60 := (unhide HOK).vs
          obtain ⟨k1, hk1⟩ : ∃ n, n = c.vars.length := ⟨_, rfl⟩
          rw [← hk1] at hvs
          have HK1 := hide hk1
          have HGI := hide (And.intro hgk (And.intro hi hin))
          clear hc hcm d0 d1 d2 d3 d4 d5 hgk hi hin hk1
          obtain ⟨wi, rfl⟩ : ∃ X, X = wr := ⟨_, rfl⟩
          go_wp2_with fail
          go_loopg [8, 9] k1 (fun gk ov kv wr => ∃ (k : Nat) (O : List Int), k ≤ k1 ∧ gk = k1 - k ∧ kv = .int .i64 (k : Int) ∧ Hid (Below wi.heap.size wi wr) ∧ Hid (O = (pick x c).take k) ∧ Hid (OwnR NoWord 1 JE 3 wr wi.heap.size ov O))
          case atStart => exact ⟨0, [], by omega, by omega, rfl, hide (Below.refl _ _), hide (by simp), hide (OwnR.nil _ _ _ _ _ _)⟩
          case round =>
            obtain ⟨k, O, hk, hgk, rfl, HBi, HOE, HO⟩ := hrel
            have HBW := hide (below_keep (unhide HBi) (unhide HB))
            have q0 := cell_keep (unhide HBW) p0
            have q1 := cell_keep (unhide HBW) p1
            have d1 := cell_keep (unhide HBW) (unhide HD).2.1
            rw [← unhide HK1] at d1
            obtain ⟨oa, oc, rfl⟩ := (unhide HO).slice
            by_cases hkn : k < k1
            · obtain ⟨z0, hz⟩ : ∃ y, c.vars[k]? = some y := ⟨c.vars[k]'(by have := unhide HK1; omega), by simp⟩
              have hzb := (unhide HOK).va z0 (List.mem_of_getElem? hz)
              obtain ⟨z, rfl⟩ : ∃ z : Nat, z0 = (z : Int) := ⟨z0.toNat, by omega⟩
              obtain ⟨y, hy⟩ : ∃ y, x[z]? = some y := ⟨x[z]'(by have := unhide HN; omega), by simp⟩
              obtain ⟨b1, o1, rfl, e1, _⟩ := (unhide HCM).r1.int hz
              obtain ⟨b2, o2, rfl, e2, hyb⟩ := (unhide HV).int hy
              have e1 := cell_keep (unhide HBW) e1
              have e2 := cell_keep (unhide HBW) e2
              have HZ := hide (pick_at hz hy)
              have hkn' : (k : Int) < (k1 : Int) := by omega
              have hzm : (z : Int) < (m : Int) := by have := unhide HN; omega
              have hk60 : (k : Int) + 1 ≤ 100 := by omega
              have hOn : O.length ≤ 100000000 := by rw [unhide HOE, List.length_take]; omega
              have hbs : wi.heap.size ≤ wr.heap.size := (unhide HBi).size
              have HYB := hide hyb
              clear hz hy hyb hzb
              go_wp2_with (at_builtin; refine wpList_pushE (y := y) rfl _ _ _ rfl Tryz.underlying26 info_i rfl (by decide) (by decide) zk_i (JE.stays NoWord _) wi.heap.size _ rfl (unhide HO) [.int .i64 y] rfl (one_i y) (JE.kinds y) ⟨rfl, unhide HYB⟩ rfl rfl hOn hbs ?_; intro ov' Z1 hO1 hc1 hgr1 hge1)
              go_roundg (k1 - (k + 1))
              case measure => omega
              case rel => exact ⟨k + 1, O ++ [y], by omega, rfl, by go_num, hide ((below_keep (below_new _ _) (unhide HBi)).grown hgr1 (below_keep (below_new _ _) (unhide HBi)).size hge1), hide (by rw [take_next (unhide HZ), unhide HOE]), hide hO1⟩
            · obtain rfl : k1 = k := by omega
              have hO : O = pick x c := by rw [unhide HOE, List.take_of_length_le]; rw [pick, List.length_map, ← unhide HK1]; omega
              have HOR := hide (unhide HO).rows
              rw [hO] at HOR ⊢
              have d0 := cell_keep (unhide HBW) (unhide HD).1
              have d2 := cell_keep (unhide HBW) (unhide HD).2.2.1
              have d3 := cell_keep (unhide HBW) (unhide HD).2.2.2.1
              have d4 := cell_keep (unhide HBW) (unhide HD).2.2.2.2.1
              have d5 := cell_keep (unhide HBW) (unhide HD).2.2.2.2.2
              clear hkn hk hgk HOE HO hO
              go_wp2_with fail
              go_fit (rkept_any (c := c) (v := pick x c) (n := vals.length) _ (by have e := unhide HK1; subst e; exact ⟨a1, c1, a2, c2, a3, c3, a4, c4, rfl, (unhide HCM).later (unhide HBW)⟩) (unhide HOR) (unhide HOK) (by simp [pick]) (pick_ok (unhide HP) (List.mem_of_getElem? (unhide HC)) (unhide HL) (unhide HAA)))
              rintro e Y2 ⟨⟨bb, rfl, hbb⟩, B2⟩
              have HBB := hide hbb
              have HB2 := hide (below_keep B2 (unhide HBW))
              obtain ⟨hgk, hi, hin⟩ := unhide HGI
              clear hbb B2 q0 q1 d0 d1 d2 d3 d4 d5
              cases bb
              · go_wp2
                go_ret
                refine ⟨YesP.no fun h => ?_, below_keep (unhide HB2) (unhide HK)⟩
                have := (unhide HBB).2 (h.2 c (List.mem_of_getElem? (unhide HC)))
                cases this
              · go_wp2
                go_roundg (nc - (i + 1))
                case measure => omega
                case rel => exact ⟨i + 1, by omega, rfl, by go_num, HB2, hide (by rw [take_next (unhide HC)]; intro c' hc'; rcases List.mem_append.1 hc' with h | h; exact unhide HA c' h; simp at h; rw [h]; exact (unhide HBB).1 (by simp))⟩
        · obtain rfl : nc = i := by omega
          have hA := unhide HA
          rw [show cons.take nc = cons from by rw [(unhide HN).2.1, List.take_length]] at hA
          have HKP := hide (show keepsP ⟨vals, cons⟩ x from ⟨unhide HAA, hA⟩)
          clear hin hi hgk hA HA
          go_wp2
          go_ret
          exact ⟨YesP.yes (unhide HKP), below_keep (unhide HB) (unhide HK)⟩
end Go.Proofs.YthoppmbmmplkiaaGreatDoor
