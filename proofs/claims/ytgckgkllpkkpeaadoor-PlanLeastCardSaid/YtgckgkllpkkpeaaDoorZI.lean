/-
  Jobs: the program's apart: how long jobs take of which no two can run at once.
-/
import Derived.Test.YtgckgkllpkkpeaaDoorZH
import Derived.Test.YtgckgkllpkkpeaaDoorOX
namespace Go.Proofs.YtgckgkllpkkpeaaDoor
open Go.RowKit

open Classical in
set_option maxHeartbeats 4000000 in
set_option maxRecDepth 8000 in
/-- The question of apart. -/
theorem apart1_any {p : Pl} {ja ca : Option Addr} {jc cc : Nat} (w : World) (hM : PlM w p ja jc ca cc) (hR : PlR p) {g G i k : Nat} (p0 : w.cell? ⟨g, 0, none⟩ = some (.slice ja p.jobs.length jc)) (p1 : w.cell? ⟨g, 1, none⟩ = some (.slice ca p.caps.length cc)) (hG : w.cell? ⟨G, 0, none⟩ = some (.int .i64 (i : Int))) (hk : k < p.jobs.length) (hi : i < p.jobs.length) :
    Calls Tryd.prog 26 #[.int .i64 (k : Int), .pointer (some ⟨g, 0, none⟩), .pointer (some ⟨G, 0, none⟩)] w fun e w' => e = .returned (.bool (decide (CanB p k i))) ∧ Below w.heap.size w w' := by
  have hb := both_any w hM hR hk hi
  clear hM hR hk hi
  go_enter Tryd.func26, Tryd.ntmps26
  go_wp2_with fail
  go_fit hb
  rintro e W1 ⟨⟨bb, rfl, hbb⟩, h1⟩
  have HB := hide (And.intro hbb h1)
  clear hbb h1 hb
  go_wp2
  go_ret
  refine ⟨?_, (unhide HB).2⟩
  have := (unhide HB).1
  cases bb
  · rw [decide_eq_false (fun h => by have := this.2 h; cases this)]
    rfl
  · rw [decide_eq_true (this.1 rfl)]
    rfl
theorem step_app {P : Program} {o : Oper} {A : Act} {w : World} {K : Act → World → Prop} {Q : Exit → Act → World → Prop} (s x : Operand) (T : TypeId) (ho : o.op = .call { callee := .builtin .append, args := #[s, x], argTypes := #[T, T] }) {v1 v2 v' : Value} {w' : World} (hs : A.eval s = v1) (hx : A.eval x = v2) (hr : (Builtin.append_ #[T, T] o.type #[v1, v2]).run P w = .ok v' w') (h : K (A.put o.dst v') w') : Oper.wp P o A w K Q := by
  unfold Oper.wp execOp
  simp only [ho, resolve, invoke, builtin, Sem.run_bind, Sem.run_pure, Result.andThen_ok, List.map_toArray, List.map_cons, List.map_nil, hs, hx, hr]
  exact h
theorem new_frz (W : World) (c : Array Value) (t : TypeId) (k : Nat) : (W.alloc (.cells c t)).frozen? ⟨W.heap.size, k, none⟩ = false := by
  unfold World.frozen?
  rw [show (W.alloc (.cells c t)).heap[W.heap.size]? = some (.cells c t) from heap_alloc_new W _]
  simp
/-- What apart answers. -/
def ApC (p : Pl) (N : Nat) : Prop := ∀ (w : World) (ja ca oa : Option Addr) (jc cc oc fr : Nat) (os : List Nat), PlM w p ja jc ca cc → PlR p → Rows 1 JE w (.slice oa os.length oc) (osL os) → (∀ o ∈ os, o < fr) → os.length ≤ fr → fr ≤ p.jobs.length → p.jobs.length - fr ≤ N →
  Calls Tryd.prog 19 #[.agg #[.slice ja p.jobs.length jc, .slice ca p.caps.length cc], .int .i64 (fr : Int), .slice oa os.length oc] w fun e w' => (∃ r : Nat, e = .returned (.int .i64 (r : Int)) ∧ r ≤ 30 * (p.jobs.length - fr) ∧ LB p os r) ∧ Below w.heap.size w w'
/-- What is known of each value of the region. -/
def ApF (p : Pl) (os : List Nat) (oa ca : Option Addr) (g jA jo jc cc oc n nc i mo lg fr m : Nat) : Nat → Value → World → Prop
  | 0, v, _ => v = .int .i64 (mo : Int)
  | 1, v, _ => v = .pointer (some ⟨g, 0, none⟩)
  | 2, v, _ => v = .slice (some ⟨jA, jo, none⟩) n jc
  | 3, v, _ => v = .int .i64 (i : Int)
  | 4, v, _ => v = .pointer (some ⟨jA, jo + i * 3, none⟩)
  | 5, v, _ => v = .pointer (some ⟨jA, jo + i * 3, none⟩)
  | 6, v, _ => v = .int .i64 (lg : Int)
  | 7, v, _ => v = .agg #[.slice (some ⟨jA, jo, none⟩) n jc, .slice ca nc cc]
  | 8, v, _ => v = .int .i64 (i : Int)
  | 9, v, _ => v = .int .i64 ((i : Int) + 1)
  | 10, v, _ => v = .slice oa m oc
  | 11, v, w => ∃ oa', v = .slice oa' m m ∧ Rows 1 JE w (.slice oa' m m) (osL os)
  | 12, v, _ => v = .int .i64 (i : Int)
  | 13, v, w => ∃ B, v = .slice (some ⟨B, 0, none⟩) 1 1 ∧ w.cell? ⟨B, 0, none⟩ = some (.int .i64 (i : Int))
  | 14, v, w => ∃ a' c', v = .slice a' (m + 1) c' ∧ Rows 1 JE w (.slice a' (m + 1) c') (osL (os ++ [i]))
  | 15, v, _ => ∃ r : Nat, v = .int .i64 (r : Int) ∧ r ≤ 30 * (n - (i + 1)) ∧ LB p (os ++ [i]) r
  | 16, v, _ => ∃ r : Nat, v = .int .i64 (r : Int) ∧ r ≤ 30 * (n - fr) ∧ LB p os r
  | 17, v, _ => ∃ r : Nat, v = .int .i64 (r : Int) ∧ r ≤ 30 * (n - fr) ∧ LB p os r
  | 18, v, _ => ∃ r : Nat, v = .int .i64 (r : Int) ∧ r ≤ 30 * (n - fr) ∧ LB p os r
  | _, _, _ => True
theorem ApF.later {p : Pl} {os : List Nat} {oa ca : Option Addr} {g jA jo jc cc oc n nc i mo lg fr m j : Nat} {v : Value} {w w' : World} (h : ApF p os oa ca g jA jo jc cc oc n nc i mo lg fr m j v w) (hb : Below w.heap.size w w') : ApF p os oa ca g jA jo jc cc oc n nc i mo lg fr m j v w' := by
  by_cases h11 : j = 11
  · subst h11
    obtain ⟨a, h1, h2⟩ := h
    exact ⟨a, h1, h2.later (JE.stays IsSl 0) hb⟩
  · by_cases h13 : j = 13
    · subst h13
      obtain ⟨B, h1, h2⟩ := h
      exact ⟨B, h1, cell_keep hb h2⟩
    · by_cases h14 : j = 14
      · subst h14
        obtain ⟨a, c, h1, h2⟩ := h
        exact ⟨a, c, h1, h2.later (JE.stays IsSl 0) hb⟩
      · unfold ApF at h ⊢
        split at h <;> first | exact h | contradiction
theorem eg_ap : ∀ args w, (callFunc 26 args).run Tryd.prog w = .ok (.enter 26 args) w := enters_of Tryd.func26 (by kernel_rfl) rfl
open Classical in
set_option maxHeartbeats 16000000 in
set_option maxRecDepth 8000 in
theorem apart_step {p : Pl} {N : Nat} (ih : ∀ N', N' < N → ApC p N') : ApC p N := by
  intro w ja ca oa jc cc oc fr os hM hR hO hos hol hfr hN
  have kn := below_new w (.cells #[.slice ja p.jobs.length jc, .slice ca p.caps.length cc] 25)
  obtain ⟨p0, p1⟩ := two_new w 25 (.slice ja p.jobs.length jc) (.slice ca p.caps.length cc)
  have kn1 := below_new (w.alloc (.cells #[.slice ja p.jobs.length jc, .slice ca p.caps.length cc] 25)) (.cells #[.int .i64 (fr : Int)] 3)
  have bx : ((w.alloc (.cells #[.slice ja p.jobs.length jc, .slice ca p.caps.length cc] 25)).alloc (.cells #[.int .i64 (fr : Int)] 3)).cell? ⟨w.heap.size + 1, 0, none⟩ = some (.int .i64 (fr : Int)) := by
    rw [new_cell (by simp)]
    rfl
  have p0 := cell_keep kn1 p0
  have p1 := cell_keep kn1 p1
  have hM := hM.later (below_keep kn1 kn)
  have hO := hO.later (JE.stays IsSl 0) (below_keep kn1 kn)
  have HM := hide hM
  have HO := hide hO
  have HR := hide hR
  have HOS := hide (And.intro hos (And.intro hol (And.intro hfr hN)))
  have HIH := hide ih
  have HK := hide (below_keep kn1 kn)
  have HLB0 := hide (LB.zero (p := p) (os := os) fun o ho => by have := hos o ho; omega)
  have n7 := hR.nj
  obtain ⟨n, hnn⟩ : ∃ n, n = p.jobs.length := ⟨_, rfl⟩
  obtain ⟨nc, hnc⟩ : ∃ n, n = p.caps.length := ⟨_, rfl⟩
  obtain ⟨m, hmm⟩ : ∃ n, n = os.length := ⟨_, rfl⟩
  rw [← hnn, ← hnc] at p0 p1 HK HM HO bx
  rw [← hmm] at HO
  rw [← hnn] at n7 hfr
  rw [← hmm] at hol
  rw [← hnn, ← hnc, ← hmm]
  have HN := hide (And.intro hnn (And.intro hnc hmm))
  clear hM hO hR hos hN ih kn kn1 hnn hnc hmm
  obtain ⟨g, hg⟩ : ∃ X, X = w.heap.size := ⟨_, rfl⟩
  go_enter Tryd.func19, Tryd.ntmps19
  go_wp2_with fail
  obtain ⟨V0, hV0⟩ : ∃ X, X = (w.alloc (.cells #[.slice ja n jc, .slice ca nc cc] 25)).alloc (.cells #[.int .i64 (fr : Int)] 3) := ⟨_, rfl⟩
  rw [← hV0] at p0 p1 bx HK HM HO
  rw [← hg] at p0 p1 bx
  rw [← hV0, ← hg]
  clear hV0 hg
  go_loopg [7, 8, 9] (n - fr) (fun gk mv bv _ wr => ∃ (i mo Bx : Nat), fr ≤ i ∧ i ≤ n ∧ gk = n - i ∧ mv = .int .i64 (mo : Int) ∧ bv = .pointer (some ⟨Bx, 0, none⟩) ∧ wr.cell? ⟨Bx, 0, none⟩ = some (.int .i64 (i : Int)) ∧ mo ≤ 30 * (n - fr) ∧ Hid (LB p os mo) ∧ Hid (Below V0.heap.size V0 wr))
  case atStart => exact ⟨fr, 0, g + 1, Nat.le_refl _, hfr, rfl, rfl, rfl, bx, by omega, HLB0, hide (Below.refl _ _)⟩
  case round =>
    obtain ⟨i, mo, Bx, hfi, hi, hgk, rfl, rfl, cB, hmo, HLB, HBW⟩ := hrel
    have p0 := cell_keep (unhide HBW) p0
    have p1 := cell_keep (unhide HBW) p1
    by_cases hin : i < n
    · have hin' : (i : Int) < (n : Int) := by omega
      have hiq : i < p.jobs.length := by rw [← (unhide HN).1]; exact hin
      have hM2 := (unhide HM).later (unhide HBW)
      obtain ⟨jb, hjb⟩ : ∃ y, p.jobs[i]? = some y := at_some hiq
      obtain ⟨jA, jo, a1, d1, a2, d2, hja, ⟨e0, _, _⟩, _⟩ := hM2.j.job hjb
      obtain ⟨lg, hlg⟩ : ∃ n, n = lgN p i := ⟨_, rfl⟩
      rw [lgN_eq (unhide HR) hjb, ← hlg] at e0
      have hl30 : lg ≤ 30 := by
        have h1 := (unhide HR).j i jb hjb
        have h2 := lgN_eq (unhide HR) hjb
        omega
      have HP := hide (show PredE (JEP fun a => ∃ k : Nat, a = (k : Int) ∧ k < p.jobs.length) 26 #[.pointer (some ⟨g, 0, none⟩), .pointer (some ⟨Bx, 0, none⟩)] (fun a => decide (CanB p a.toNat i)) wr from fun Y v a hY he => by
        obtain ⟨⟨h1, _⟩, k, rfl, hk⟩ := he
        obtain rfl : v = .int .i64 (k : Int) := by simpa using h1
        simp only [Int.toNat_natCast]
        exact apart1_any (G := Bx) Y (hM2.later hY) (unhide HR) (by rw [← (unhide HN).1]; exact cell_keep hY p0) (by rw [← (unhide HN).2.1]; exact cell_keep hY p1) (cell_keep hY cB) hk hiq)
      have HAL := hide (show ∀ a ∈ osL os, ∃ k : Nat, a = (k : Int) ∧ k < p.jobs.length from fun a ha => by
        obtain ⟨o, ho, rfl⟩ : ∃ o ∈ os, (o : Int) = a := by simpa [osL] using ha
        have := (unhide HOS).1 o ho
        exact ⟨o, rfl, by omega⟩)
      have HO1 := hide ((unhide HO).later (JE.stays IsSl 0) (unhide HBW))
      have HM2 := hide hM2
      have HJB := hide (And.intro hjb (And.intro hiq (And.intro hlg hja)))
      have HGI := hide (And.intro hgk (And.intro hi hin))
      rw [hja] at p0
      clear hM2 hja hjb hlg hiq hgk hi hin
      go_wp2_with fail
      go_fit (hasI_any _ eg_ap (lastP _) ((unhide HO1).kind (unhide HAL)) (unhide HP))
      rintro e V ⟨rfl, hb⟩
      have HBV := hide hb
      have cB := cell_keep hb cB
      have p0 := cell_keep hb p0
      have p1 := cell_keep hb p1
      have e0 := cell_keep hb e0
      clear hb HP
      obtain ⟨bb, hbb⟩ : ∃ bb, bb = (osL os).any (fun a => decide (CanB p a.toNat i)) := ⟨_, rfl⟩
      rw [← hbb]
      have HBB := hide hbb
      clear hbb
      cases bb
      rotate_left
      · obtain ⟨V1, hV1⟩ : ∃ X, X = V.alloc (.cells #[.int .i64 (i : Int)] 3) := ⟨_, rfl⟩
        have c8 : V1.cell? ⟨V.heap.size, 0, none⟩ = some (.int .i64 (i : Int)) := by rw [hV1, new_cell rfl]; rfl
        have f8 : V1.frozen? ⟨V.heap.size, 0, none⟩ = false := by rw [hV1]; exact new_frz _ _ _ _
        have k8 := below_new V (.cells #[.int .i64 (i : Int)] 3)
        rw [← hV1] at k8
        have HK8 := hide k8
        clear k8
        go_upto_region 4 with fail
        rw [← hV1]
        clear hV1
        go_wp2
        go_roundg (n - (i + 1))
        case measure => have := unhide HGI; omega
        case rel => exact ⟨i + 1, mo, V.heap.size, by omega, by have := unhide HGI; omega, rfl, rfl, rfl, set_same c8, hmo, HLB, hide (below_keep (below_keep ((unhide HK8).setCell (p := ⟨V.heap.size, 0, none⟩) (Nat.le_refl _) _) (unhide HBV)) (unhide HBW))⟩
      have HNC := hide (show ∀ o ∈ os, ¬ CanB p o i from fun o ho hc => by
        have h1 := List.any_eq_false.1 (unhide HBB).symm (o : Int) (by simp only [osL, List.mem_map]; exact ⟨o, ho, rfl⟩)
        exact h1 (decide_eq_true (by simpa using hc)))
      have HSTEP := hide (show ∀ r, LB p (os ++ [i]) r → LB p os (lg + r) from fun r hr => by
        rw [(unhide HJB).2.2.1]
        exact LB.step (unhide HR) (fun o ho => by have := (unhide HOS).1 o ho; omega) (unhide HJB).2.1 (unhide HNC) hr)
      have HO2 := hide ((unhide HO1).later (JE.stays IsSl 0) (unhide HBV))
      have HREC := hide (show ∀ (w1 : World) (a' : Option Addr) (c' : Nat), Below V.heap.size V w1 → Rows 1 JE w1 (.slice a' (m + 1) c') (osL (os ++ [i])) → Calls Tryd.prog 19 #[.agg #[.slice (some ⟨jA, jo, none⟩) n jc, .slice ca nc cc], .int .i64 ((i : Int) + 1), .slice a' (m + 1) c'] w1 fun e w' => (∃ r : Nat, e = .returned (.int .i64 (r : Int)) ∧ r ≤ 30 * (n - (i + 1)) ∧ LB p (os ++ [i]) r) ∧ Below w1.heap.size w1 w' from fun w1 a' c' hb hr => by
        have h1 := unhide HN
        have h2 := unhide HOS
        have h3 := unhide HJB
        have hlen : (os ++ [i]).length = m + 1 := by simp; omega
        have := unhide HIH (p.jobs.length - (i + 1)) (by omega) w1 (some ⟨jA, jo, none⟩) ca a' jc cc c' (i + 1) (os ++ [i]) (by rw [← h3.2.2.2]; exact (unhide HM2).later (below_keep hb (unhide HBV))) (unhide HR) (by rw [hlen]; exact hr) (fun o ho => by
          rcases List.mem_append.1 ho with ho | ho
          · have := h2.1 o ho; omega
          · obtain rfl : o = i := by simpa using ho
            omega) (by rw [hlen]; omega) (by omega) (Nat.le_refl _)
        rw [hlen, ← h1.1, ← h1.2.1, show ((i + 1 : Nat) : Int) = (i : Int) + 1 from by omega] at this
        exact this)
      go_upto_region 7 with fail
      · skip
        refine wp_region_closed (by kernel_rfl) (by kernel_rfl) (by kernel_rfl) (fun _ w1 => Below V.heap.size V w1) (ApF p os oa ca g jA jo jc cc oc n nc i mo lg fr m) (Below.refl _ _).drew ?_ ?_
        · intro L vals vals0 w1 i' o' hown hund hcl hW hF hL ho hdep
          have hi' : i' < 19 := (Array.getElem?_eq_some_iff.1 ho).1
          rcases (by omega : i' = 0 ∨ i' = 1 ∨ i' = 2 ∨ i' = 3 ∨ i' = 4 ∨ i' = 5 ∨ i' = 6 ∨ i' = 7 ∨ i' = 8 ∨ i' = 9 ∨ i' = 10 ∨ i' = 11 ∨ i' = 12 ∨ i' = 13 ∨ i' = 14 ∨ i' = 15 ∨ i' = 16 ∨ i' = 17 ∨ i' = 18) with rfl | rfl | rfl | rfl | rfl | rfl | rfl | rfl | rfl | rfl | rfl | rfl | rfl | rfl | rfl | rfl | rfl | rfl | rfl
          · obtain rfl := Option.some.inj ho
            have h18 : L 18 = false := by
              cases h : L 18 with
              | false => rfl
              | true => exact absurd (hcl.on 18 0 rfl ⟨⟨0, .phase⟩, by simp, rfl, rfl⟩ h) (by rw [hL]; exact Bool.false_ne_true)
            have e18 : vals 18 = .int .i64 (mo : Int) := by
              rw [hund 18 h18]
              have := congrArg (fun A : Act => A.tmps[7]?) hown
              simp only [frs] at this
              simpa using this
            refine wpOp_step rfl (fun K hK' => ?_)
            simp only [frs]
            rw [e18]
            go_simp
            exact hK' _ _ ⟨.int .i64 (mo : Int), (by show _ = Act.put _ (some 23) _; simp only [frs, e18]), rfl, hW, hF⟩
          · obtain rfl := Option.some.inj ho
            refine wpOp_step rfl (fun K hK' => ?_)
            simp only [frs]
            go_simp
            exact hK' _ _ ⟨.pointer (some ⟨g, 0, none⟩), (by show _ = Act.put _ (some 24) _; simp only [frs]), rfl, hW, hF⟩
          · obtain rfl := Option.some.inj ho
            have f1 := hF 1 (hdep ⟨1, .data⟩ (by simp) rfl)
            have c := cell_keep hW p0
            refine wpOp_step rfl (fun K hK' => ?_)
            simp only [frs]
            rw [show vals 1 = _ from f1]
            go_simp
            exact hK' _ _ ⟨.slice (some ⟨jA, jo, none⟩) n jc, (by show _ = Act.put _ (some 25) _; simp only [frs, show vals 1 = _ from f1]), rfl, hW, hF⟩
          · obtain rfl := Option.some.inj ho
            have c := cell_keep hW cB
            refine wpOp_step rfl (fun K hK' => ?_)
            simp only [frs]
            go_simp
            exact hK' _ _ ⟨.int .i64 (i : Int), (by show _ = Act.put _ (some 26) _; simp only [frs]), rfl, hW, hF⟩
          · obtain rfl := Option.some.inj ho
            have f2 := hF 2 (hdep ⟨2, .data⟩ (by simp) rfl)
            have f3 := hF 3 (hdep ⟨3, .data⟩ (by simp) rfl)
            refine wpOp_step rfl (fun K hK' => ?_)
            simp only [frs]
            rw [show vals 2 = _ from f2]
            rw [show vals 3 = _ from f3]
            go_simp
            exact hK' _ _ ⟨.pointer (some ⟨jA, jo + i * 3, none⟩), (by show _ = Act.put _ (some 27) _; simp only [frs, show vals 2 = _ from f2, show vals 3 = _ from f3]), rfl, hW, hF⟩
          · obtain rfl := Option.some.inj ho
            have f4 := hF 4 (hdep ⟨4, .data⟩ (by simp) rfl)
            refine wpOp_step rfl (fun K hK' => ?_)
            simp only [frs]
            rw [show vals 4 = _ from f4]
            go_simp
            exact hK' _ _ ⟨.pointer (some ⟨jA, jo + i * 3, none⟩), (by show _ = Act.put _ (some 28) _; simp only [frs, show vals 4 = _ from f4]), rfl, hW, hF⟩
          · obtain rfl := Option.some.inj ho
            have f5 := hF 5 (hdep ⟨5, .data⟩ (by simp) rfl)
            have c := cell_keep hW e0
            refine wpOp_step rfl (fun K hK' => ?_)
            simp only [frs]
            rw [show vals 5 = _ from f5]
            go_simp
            exact hK' _ _ ⟨.int .i64 (lg : Int), (by show _ = Act.put _ (some 29) _; simp only [frs, show vals 5 = _ from f5]), rfl, hW, hF⟩
          · obtain rfl := Option.some.inj ho
            have c := cell_keep hW p0
            have c1 := cell_keep hW p1
            refine wpOp_step rfl (fun K hK' => ?_)
            simp only [frs]
            go_simp
            exact hK' _ _ ⟨.agg #[.slice (some ⟨jA, jo, none⟩) n jc, .slice ca nc cc], (by show _ = Act.put _ (some 30) _; simp only [frs]), rfl, hW, hF⟩
          · obtain rfl := Option.some.inj ho
            have c := cell_keep hW cB
            refine wpOp_step rfl (fun K hK' => ?_)
            simp only [frs]
            go_simp
            exact hK' _ _ ⟨.int .i64 (i : Int), (by show _ = Act.put _ (some 31) _; simp only [frs]), rfl, hW, hF⟩
          · obtain rfl := Option.some.inj ho
            have f8 := hF 8 (hdep ⟨8, .data⟩ (by simp) rfl)
            have ew : IntKind.i64.wrap ((i : Int) + 1) = (i : Int) + 1 := by rw [wrapI64]; unfold wrap64; omega
            refine wpOp_step rfl (fun K hK' => ?_)
            simp only [frs]
            rw [show vals 8 = _ from f8]
            go_simp
            exact hK' _ _ ⟨.int .i64 ((i : Int) + 1), (by show _ = Act.put _ (some 32) _; simp only [frs, show vals 8 = _ from f8]), rfl, hW, hF⟩
          · obtain rfl := Option.some.inj ho
            refine wpOp_step rfl (fun K hK' => ?_)
            simp only [frs]
            go_simp
            exact hK' _ _ ⟨.slice oa m oc, (by show _ = Act.put _ (some 33) _; simp only [frs]), rfl, hW, hF⟩
          · obtain rfl := Option.some.inj ho
            have f10 := hF 10 (hdep ⟨10, .data⟩ (by simp) rfl)
            refine wpOp_step rfl (fun K hK' => ?_)
            simp only [frs]
            rw [show vals 10 = _ from f10]
            go_simp
            go_fit (clip_any _ ((unhide HO2).later (JE.stays IsSl 0) hW) (by rw [osL_len]; exact (unhide HN).2.2) (by omega))
            rintro e9 Y ⟨⟨oa', rfl, hV⟩, rfl⟩
            exact hK' _ _ ⟨_, (by show _ = Act.put _ (some 34) _; simp only [frs, show vals 10 = _ from f10]), ⟨oa', rfl, hV⟩, hW, hF⟩
          · obtain rfl := Option.some.inj ho
            have c := cell_keep hW cB
            refine wpOp_step rfl (fun K hK' => ?_)
            simp only [frs]
            go_simp
            exact hK' _ _ ⟨.int .i64 (i : Int), (by show _ = Act.put _ (some 35) _; simp only [frs]), rfl, hW, hF⟩
          · obtain rfl := Option.some.inj ho
            have f12 := hF 12 (hdep ⟨12, .data⟩ (by simp) rfl)
            refine wpOp_step rfl (fun K hK' => ?_)
            simp only [frs]
            rw [show vals 12 = _ from f12]
            go_simp
            exact hK' _ _ ⟨.slice (some ⟨w1.heap.size, 0, none⟩) 1 1, (by show _ = Act.put _ (some 36) _; simp only [frs, show vals 12 = _ from f12]), ⟨w1.heap.size, rfl, by rw [new_cell rfl]; rfl⟩, below_keep (below_new w1 _) hW, fun j hj => (hF j hj).later (below_new w1 _)⟩
          · obtain rfl := Option.some.inj ho
            have f11 := hF 11 (hdep ⟨11, .data⟩ (by simp) rfl)
            have f13 := hF 13 (hdep ⟨13, .data⟩ (by simp) rfl)
            obtain ⟨oa', e11, r11⟩ := f11
            obtain ⟨B, e13, r13⟩ := f13
            obtain ⟨a', c', Y, hr, hV, hb⟩ := app_run (i := (i : Int)) r11 (by omega) ⟨by omega, by omega⟩ r13 23
            refine wpOp_step rfl (fun K hK' => ?_)
            simp only [frs]
            rw [e11, e13]
            rw [if_pos (by simp [Region.wanted])]
            refine step_app (v1 := .slice oa' m m) (v2 := .slice (some ⟨B, 0, none⟩) 1 1) (.tmp 34) (.tmp 36) 23 ?_ ?_ ?_ hr ?_
            · rfl
            · rfl
            · rfl
            exact hK' _ _ ⟨_, (by show Act.put _ (some 37) _ = Act.put _ (some 37) _; simp only [frs, e11, e13]), ⟨a', c', rfl, by rw [osL_snoc]; exact hV⟩, below_keep hb hW, fun j hj => (hF j hj).later hb⟩
          · obtain rfl := Option.some.inj ho
            have f7 := hF 7 (hdep ⟨7, .data⟩ (by simp) rfl)
            have f9 := hF 9 (hdep ⟨9, .data⟩ (by simp) rfl)
            have f14 := hF 14 (hdep ⟨14, .data⟩ (by simp) rfl)
            obtain ⟨a', c', e14, r14⟩ := f14
            have hrec := unhide HREC w1 a' c' hW r14
            refine wpOp_step rfl (fun K hK' => ?_)
            simp only [frs]
            rw [show vals 7 = _ from f7]
            rw [show vals 9 = _ from f9]
            rw [e14]
            go_simp
            go_fit hrec
            rintro e9 Y ⟨⟨r, rfl, hr1, hr2⟩, hb⟩
            exact hK' _ _ ⟨_, (by show _ = Act.put _ (some 38) _; simp only [frs, e14, show vals 7 = _ from f7, show vals 9 = _ from f9]), ⟨r, rfl, hr1, hr2⟩, below_keep hb hW, fun j hj => (hF j hj).later hb⟩
          · obtain rfl := Option.some.inj ho
            have f6 := hF 6 (hdep ⟨6, .data⟩ (by simp) rfl)
            have f15 := hF 15 (hdep ⟨15, .data⟩ (by simp) rfl)
            obtain ⟨r, e15, hr1, hr2⟩ := f15
            have ew : IntKind.i64.wrap ((lg : Int) + (r : Int)) = (lg : Int) + (r : Int) := by rw [wrapI64]; unfold wrap64; omega
            refine wpOp_step rfl (fun K hK' => ?_)
            simp only [frs]
            rw [show vals 6 = _ from f6]
            rw [e15]
            go_simp
            exact hK' _ _ ⟨.int .i64 ((lg : Int) + (r : Int)), (by show _ = Act.put _ (some 39) _; simp only [frs, e15, show vals 6 = _ from f6]), ⟨lg + r, by rw [Int.natCast_add], by have := unhide HGI; omega, unhide HSTEP r hr2⟩, hW, hF⟩
          · obtain rfl := Option.some.inj ho
            have f0 := hF 0 (hdep ⟨0, .data⟩ (by simp) rfl)
            have f16 := hF 16 (hdep ⟨16, .data⟩ (by simp) rfl)
            obtain ⟨r, e16, hr1, hr2⟩ := f16
            refine wpOp_step rfl (fun K hK' => ?_)
            simp only [frs]
            rw [show vals 0 = _ from f0]
            rw [e16]
            go_simp
            exact hK' _ _ ⟨.int .i64 (if mo < r then (r : Int) else (mo : Int)), (by show _ = Act.put _ (some 40) _; simp only [frs, e16, show vals 0 = _ from f0]), ⟨max mo r, by congr 1; split <;> omega, by omega, (unhide HLB).max hr2⟩, hW, hF⟩
          · obtain rfl := Option.some.inj ho
            have f17 := hF 17 (hdep ⟨17, .data⟩ (by simp) rfl)
            obtain ⟨r, e17, hr1, hr2⟩ := f17
            refine wpOp_step rfl (fun K hK' => ?_)
            simp only [frs]
            rw [e17]
            go_simp
            exact hK' _ _ ⟨_, (by show _ = Act.put _ (some 7) _; simp only [frs, e17]), ⟨r, rfl, hr1, hr2⟩, hW, hF⟩
        · intro L vals w1 hW hall
          obtain ⟨r, e18, hr1, hr2⟩ := (hall 18 (by decide)).2
          simp only [frs]
          rw [e18]
          have HLB := hide hr2
          have HW := hide hW
          have cB := cell_keep hW cB
          clear hall e18 hr2 p0 p1 e0
          obtain ⟨V1, hV1⟩ : ∃ X, X = w1.alloc (.cells #[.int .i64 (i : Int)] 3) := ⟨_, rfl⟩
          have c8 : V1.cell? ⟨w1.heap.size, 0, none⟩ = some (.int .i64 (i : Int)) := by rw [hV1, new_cell rfl]; rfl
          have f8 : V1.frozen? ⟨w1.heap.size, 0, none⟩ = false := by rw [hV1]; exact new_frz _ _ _ _
          have k8 := below_new w1 (.cells #[.int .i64 (i : Int)] 3)
          rw [← hV1] at k8
          have HK8 := hide k8
          clear k8 hW
          go_upto_region 4 with fail
          rw [← hV1]
          clear hV1
          go_wp2
          go_roundg (n - (i + 1))
          case measure => have := unhide HGI; omega
          case rel => exact ⟨i + 1, r, w1.heap.size, by omega, by have := unhide HGI; omega, rfl, rfl, rfl, set_same c8, hr1, HLB, hide (below_keep (below_keep (below_keep ((unhide HK8).setCell (p := ⟨w1.heap.size, 0, none⟩) (Nat.le_refl _) _) (unhide HW)) (unhide HBV)) (unhide HBW))⟩
    · obtain rfl : n = i := by omega
      clear hin hi hgk
      go_wp2
      go_ret
      exact ⟨⟨mo, rfl, by have := unhide HN; omega, unhide HLB⟩, below_keep (unhide HBW) (unhide HK)⟩
theorem apart_all (p : Pl) : ∀ N, ApC p N := by
  intro N
  induction N using Nat.strongRecOn with
  | _ N ih => exact apart_step ih
end Go.Proofs.YtgckgkllpkkpeaaDoor
