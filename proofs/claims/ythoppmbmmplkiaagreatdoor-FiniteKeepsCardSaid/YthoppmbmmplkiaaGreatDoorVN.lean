/-
  Puzzles: what the program's rules keep: what is shared.
-/
import Derived.Test.YthoppmbmmplkiaaGreatDoorVM
namespace Go.Proofs.YthoppmbmmplkiaaGreatDoor
open Go.RowKit

/-- What is asked of a question about spans. -/
def PredS (g : Nat) (lb : Array Value) (p : Int × Int × Int → Bool) (w : World) : Prop :=
  ∀ (W : World) (s : Int × Int × Int), Below w.heap.size w W → Calls Tryz.prog g (#[.agg #[.int .i64 s.1, .int .i64 s.2.1, .int .i64 s.2.2]] ++ lb) W fun e w' => e = .returned (.bool (p s)) ∧ Below W.heap.size W w'
set_option maxHeartbeats 4000000 in
set_option maxRecDepth 8000 in
/-- slices.IndexFunc of spans. -/
theorem idxS_any {g : Nat} {lb : Array Value} {p : Int × Int × Int → Bool} {v : Value} {L : List (Int × Int × Int)} (w : World) (eg : ∀ args w, (callFunc g args).run Tryz.prog w = .ok (.enter g args) w) (h : Rows 3 SpE w v L) (hp : PredS g lb p w) :
    Calls Tryz.prog 119 #[v, .func (.func g) #[] lb] w fun e w' => (∃ i : Int, e = .returned (.int .i64 i) ∧ (L.any p = decide (0 ≤ i))) ∧ Below w.heap.size w w' := by
  obtain ⟨sa, sc, rfl⟩ := h.shape
  have HR := hide h
  have hsm := h.small
  unfold maxLen at hsm
  have HP := hide hp
  clear h hp
  go_enter Tryz.func119, Tryz.ntmps119
  go_wp2_with fail
  go_loopg [5, 8] L.length (fun gk _ iv wr => ∃ i : Nat, i ≤ L.length ∧ gk = L.length - i ∧ iv = .int .i64 (i : Int) ∧ Hid (Below w.heap.size w wr) ∧ Hid ((L.take i).any p = false))
  case atStart => exact ⟨0, by omega, by omega, rfl, hide (Below.refl _ _), hide rfl⟩
  case round =>
    obtain ⟨i, hi, hgk, rfl, HB, HN⟩ := hrel
    by_cases hil : i < L.length
    · obtain ⟨x, hx⟩ : ∃ x, L[i]? = some x := ⟨L[i], by simp [hil]⟩
      obtain ⟨b, o, rfl, d0, d1, d2⟩ := (unhide HR).span hx
      have d0 := cell_keep (unhide HB) d0
      have d1 := cell_keep (unhide HB) d1
      have d2 := cell_keep (unhide HB) d2
      have HC := hide (unhide HP wr x (unhide HB))
      have hil' : (i : Int) < (L.length : Int) := by omega
      have HS := hide hx
      clear hx
      go_wp2_with fail
      go_fit (unhide HC)
      rintro e W1 ⟨rfl, hb⟩
      have HB' := hide (below_keep hb (unhide HB))
      clear hb
      cases hq : p x
      · go_wp2
        go_roundg (L.length - (i + 1))
        case measure => omega
        case rel => exact ⟨i + 1, by omega, rfl, by go_num, HB', hide (by rw [take_next (unhide HS)]; simp only [List.any_append, List.any_cons, List.any_nil, hq]; simpa using unhide HN)⟩
      · go_wp2
        go_ret
        refine ⟨⟨_, rfl, ?_⟩, unhide HB'⟩
        rw [show L.any p = true from List.any_eq_true.2 ⟨x, List.mem_of_getElem? (unhide HS), hq⟩]
        simp
    · obtain rfl : i = L.length := by omega
      clear hil hi hgk
      go_wp2
      go_ret
      refine ⟨⟨_, rfl, ?_⟩, unhide HB⟩
      have := unhide HN
      rw [List.take_length] at this
      rw [this]
      rfl
set_option maxHeartbeats 4000000 in
set_option maxRecDepth 8000 in
/-- slices.ContainsFunc of spans. -/
theorem hasS_any {g : Nat} {lb : Array Value} {p : Int × Int × Int → Bool} {v : Value} {L : List (Int × Int × Int)} (w : World) (eg : ∀ args w, (callFunc g args).run Tryz.prog w = .ok (.enter g args) w) (h : Rows 3 SpE w v L) (hp : PredS g lb p w) :
    Calls Tryz.prog 116 #[v, .func (.func g) #[] lb] w fun e w' => e = .returned (.bool (L.any p)) ∧ Below w.heap.size w w' := by
  have HC := hide (idxS_any w eg h hp)
  obtain ⟨sa, sc, rfl⟩ := h.shape
  clear h hp
  go_enter Tryz.func116, Tryz.ntmps116
  go_wp2_with fail
  go_fit (unhide HC)
  rintro e W1 ⟨⟨i, rfl, hi⟩, hb⟩
  have HI := hide hi
  clear hi
  go_wp2
  go_ret
  exact ⟨by rw [unhide HI]; rfl, hb⟩
set_option maxHeartbeats 4000000 in
set_option maxRecDepth 8000 in
/-- The question of what is shared. -/
theorem sh1_any {g B : Nat} {limit : Int} (s : Int × Int × Int) (w : World) (k0 : w.cell? ⟨B, 0, none⟩ = some (.pointer (some ⟨g, 0, none⟩))) (k3 : w.cell? ⟨g, 3, none⟩ = some (.int .i64 limit)) : Calls Tryz.prog 118 #[.agg #[.int .i64 s.1, .int .i64 s.2.1, .int .i64 s.2.2], .pointer (some ⟨B, 0, none⟩)] w fun e w' => e = .returned (.bool (decide (limit < s.2.2))) ∧ Below w.heap.size w w' := by
  obtain ⟨f, t, u⟩ := s
  have kn := below_new w (.cells #[.int .i64 f, .int .i64 t, .int .i64 u] 166)
  obtain ⟨e0, e1, e2⟩ := three_cells w 166 (.int .i64 f) (.int .i64 t) (.int .i64 u)
  have k0 := cell_keep kn k0
  have k3 := cell_keep kn k3
  obtain ⟨g2, hg2⟩ : ∃ G, G = w.heap.size := ⟨_, rfl⟩
  obtain ⟨V, hV⟩ : ∃ Y, Y = w.alloc (.cells #[.int .i64 f, .int .i64 t, .int .i64 u] 166) := ⟨_, rfl⟩
  have HK := hide kn
  clear kn
  go_enter Tryz.func118, Tryz.ntmps118
  go_upto_region 1 with fail
  rw [← hV, ← hg2]
  rw [← hV] at HK e0 e1 e2 k0 k3
  rw [← hg2] at e0 e1 e2
  clear hV hg2
  go_quiet (fail)
  go_wp2
  go_ret
  exact ⟨rfl, below_drewN (unhide HK) _⟩
theorem eg_sh1 : ∀ args w, (callFunc 118 args).run Tryz.prog w = .ok (.enter 118 args) w := enters_of Tryz.func118 (by kernel_rfl) rfl
theorem pred_sh {g B : Nat} {limit : Int} (w : World) (k0 : w.cell? ⟨B, 0, none⟩ = some (.pointer (some ⟨g, 0, none⟩))) (k3 : w.cell? ⟨g, 3, none⟩ = some (.int .i64 limit)) : PredS 118 #[.pointer (some ⟨B, 0, none⟩)] (fun s => decide (limit < s.2.2)) w := fun W s hb =>
  sh1_any s W (cell_keep hb k0) (cell_keep hb k3)
theorem runs_at : ∀ {vs ns us : List Int} {i : Nat} {y q u : Int}, vs[i]? = some y → ns[i]? = some q → us[i]? = some u → (runsOf vs ns us)[i]? = some (y, y + q, u)
  | v :: vs, n :: ns, u :: us, 0, _, _, _, h1, h2, h3 => by
    simp at h1 h2 h3
    simp [runsOf, h1, h2, h3]
  | v :: vs, n :: ns, u :: us, i + 1, _, _, _, h1, h2, h3 => by
    rw [runsOf, List.getElem?_cons_succ]
    exact runs_at (by simpa using h1) (by simpa using h2) (by simpa using h3)
  | [], _, _, _, _, _, _, h, _, _ => by simp at h
  | _ :: _, [], _, _, _, _, _, _, h, _ => by simp at h
  | _ :: _, _ :: _, [], _, _, _, _, _, _, h => by simp at h
theorem runs_len : ∀ {vs ns us : List Int}, ns.length = vs.length → us.length = vs.length → (runsOf vs ns us).length = vs.length
  | v :: vs, n :: ns, u :: us, h1, h2 => by
    rw [runsOf, List.length_cons, List.length_cons, runs_len (by simpa using h1) (by simpa using h2)]
  | [], [], _, _, _ => by simp [runsOf]
  | [], _ :: _, _, h, _ => by simp at h
  | _ :: _, [], _, h, _ => by simp at h
  | _ :: _, _ :: _, [], _, h => by simp at h
theorem runs_ok : ∀ {vs ns us : List Int}, (∀ u ∈ us, Ok8 u) → ∀ s ∈ runsOf vs ns us, Ok9 s.2.2
  | v :: vs, n :: ns, u :: us, h, s, hs => by
    rw [runsOf] at hs
    rcases List.mem_cons.1 hs with rfl | hs
    · have := h u (by simp)
      unfold Ok8 at this
      unfold Ok9
      simp only
      omega
    · exact runs_ok (fun x hx => h x (by simp [hx])) s hs
  | [], _, _, _, s, hs => by simp [runsOf] at hs
  | _ :: _, [], _, _, s, hs => by simp [runsOf] at hs
  | _ :: _, _ :: _, [], _, s, hs => by simp [runsOf] at hs
theorem spans_block {w : World} {B n : Nat} {L : List (Int × Int × Int)} {t : TypeId} {f : Nat × Nat} (h : w.heap[B]? = some (.cells (flatS L).toArray t f)) (hn : L.length = n) (hl : n ≤ 100) : Rows 3 SpE w (.slice (some ⟨B, 0, none⟩) n n) L := by
  subst hn
  refine ⟨_, _, rfl, Nat.le_refl _, by unfold maxLen; omega, Or.inr ⟨_, _, rfl, fun i x hx => ⟨encS x, rfl, fun j u hu => ?_, rfl⟩⟩⟩
  have hj : j < 3 := (List.getElem?_eq_some_iff.1 hu).1
  rw [Nat.zero_add]
  exact block_cell h (by simpa using (flatS_at hx hj).trans hu)
set_option maxHeartbeats 8000000 in
set_option maxRecDepth 8000 in
/-- What a rule keeps by which something is shared. -/
theorem share_any {g : Nat} {xv : Value} {x vars nums uses : List Int} {limit : Int} {a1 : Option Addr} {c1 : Nat} {a2 : Option Addr} {c2 : Nat} {a3 : Option Addr} {c3 : Nat} (w : World) (k0 : w.cell? ⟨g, 0, none⟩ = some (.slice a1 vars.length c1)) (k1 : w.cell? ⟨g, 1, none⟩ = some (.slice a2 nums.length c2)) (k2 : w.cell? ⟨g, 2, none⟩ = some (.slice a3 uses.length c3)) (k3 : w.cell? ⟨g, 3, none⟩ = some (.int .i64 limit))
    (hv : Rows 1 JE w (.slice a1 vars.length c1) vars) (hn : Rows 1 JE w (.slice a2 nums.length c2) nums) (hu : Rows 1 JE w (.slice a3 uses.length c3) uses) (hx : Rows 1 JE w xv x) (hr : ∀ k ∈ vars, 0 ≤ k ∧ k < (x.length : Int)) (h8 : vars.length ≤ 8) (hl : nums.length = vars.length) (hl2 : uses.length = vars.length) (ho : ∀ y ∈ pickL x vars, Ok8 y) (hq : ∀ y ∈ nums, Ok8 y) (hq2 : ∀ y ∈ uses, Ok8 y) (hu0 : ∀ y ∈ uses, 0 ≤ y) (h0 : 0 ≤ limit) :
    Calls Tryz.prog 112 #[.pointer (some ⟨g, 0, none⟩), xv] w fun e w' => YesP e (shareP (pickL x vars) nums uses limit) ∧ Below w.heap.size w w' := by
  have kn := below_new w (.cells #[.pointer (some ⟨g, 0, none⟩)] 80)
  have p0 := one_new w 80 (.pointer (some ⟨g, 0, none⟩))
  have k0 := cell_keep kn k0
  have k1 := cell_keep kn k1
  have k2 := cell_keep kn k2
  have k3 := cell_keep kn k3
  have HC := hide (fun (W : World) (hb : Below w.heap.size w W) => pick_any W (hx.later (JE.stays IsSl 0) hb) (hv.later (JE.stays IsSl 0) hb) hr h8)
  have HNU := hide (hn.later (JE.stays IsSl 0) kn)
  have HUS := hide (hu.later (JE.stays IsSl 0) kn)
  have HPL := hide (show (pickL x vars).length = vars.length from List.length_map _)
  have HQ := hide (And.intro ho (And.intro hq hq2))
  have HSH := hide (fun (D : List (Int × Int)) (hp : D.Perm (turnsOf (runsOf (pickL x vars) nums uses))) (hs : D.Pairwise (fun a b => a.1 ≤ b.1)) => share_iff (limit := limit) (by rw [unhide HPL]; exact hl2) hu0 h0 hp hs)
  obtain ⟨xa, xc, rfl⟩ := hx.shape
  have HK := hide kn
  clear hv hn hu hx hr kn ho hq hq2 hu0 h0
  obtain ⟨L, hL⟩ : ∃ L, L = pickL x vars := ⟨_, rfl⟩
  rw [← hL] at HPL HC HQ HSH ⊢
  clear hL
  obtain ⟨n, hnv⟩ : ∃ n, n = vars.length := ⟨_, rfl⟩
  rw [← hnv] at k0 HC HPL h8 hl hl2
  clear hnv
  obtain ⟨nn, hnn⟩ : ∃ m, m = nums.length := ⟨_, rfl⟩
  obtain ⟨nu, hnu⟩ : ∃ m, m = uses.length := ⟨_, rfl⟩
  rw [← hnn] at k1 HNU
  rw [← hnu] at k2 HUS
  have HN := hide (And.intro hnn (And.intro hnu (And.intro hl hl2)))
  have hnn' : (nn : Int) = (n : Int) := by omega
  have hnu' : (nu : Int) = (n : Int) := by omega
  have HNN := hide (And.intro hnn' hnu')
  clear hnn hnu hl hl2 hnn' hnu'
  obtain ⟨P, hP⟩ : ∃ X, X = w.heap.size := ⟨_, rfl⟩
  obtain ⟨W, hW⟩ : ∃ X, X = w.alloc (.cells #[.pointer (some ⟨g, 0, none⟩)] 80) := ⟨_, rfl⟩
  have hmk := run_make_k (P := Tryz.prog) 164 166 _ 3 24 Tryz.underlying164 info_s .i64 .i64 n (by omega) (by omega)
  go_enter Tryz.func112, Tryz.ntmps112
  go_upto_region 1 with fail
  rw [← hW, ← hP]
  rw [← hW] at HK HNU HUS k0 k1 k2 k3 p0
  rw [← hP] at p0
  clear hW hP
  go_upto_region 2 with fail
  have hF := FillV.new 166 W #[.int .i64 0, .int .i64 0, .int .i64 0] (n * 3)
  have kn := below_new W (.cells (madeCells #[.int .i64 0, .int .i64 0, .int .i64 0] (n * 3)) 166)
  have hsz : (W.alloc (.cells (madeCells #[.int .i64 0, .int .i64 0, .int .i64 0] (n * 3)) 166)).heap.size = W.heap.size + 1 := by simp
  obtain ⟨R, hR⟩ : ∃ X, X = W.heap.size := ⟨_, rfl⟩
  obtain ⟨V, hV⟩ : ∃ X, X = W.alloc (.cells (madeCells #[.int .i64 0, .int .i64 0, .int .i64 0] (n * 3)) 166) := ⟨_, rfl⟩
  rw [← hV, ← hR]
  rw [← hV, ← hR] at hF
  rw [← hV, ← hR] at hsz
  rw [← hV] at kn
  have HF := hide hF
  have HKN := hide kn
  have HRR := hide (And.intro hR hsz)
  have q0 := cell_keep kn k0
  have q1 := cell_keep kn p0
  clear hF kn hR hV hmk hsz
  go_wp2_with fail
  go_fit (unhide HC V (below_keep (unhide HKN) (unhide HK)))
  rintro e W1 ⟨⟨B, rfl, hB, hh⟩, hb⟩
  have HBW := hide (below_keep hb (unhide HKN))
  have HF := hide ((unhide HF).later hb)
  have HH := hide hh
  have HBR := hide (show B ≠ R by have := (unhide HRR).2; omega)
  clear hB hh hb q0 q1 HC HKN
  obtain ⟨S, hS⟩ : ∃ S, S = runsOf L nums uses := ⟨_, rfl⟩
  rw [← hS] at HSH
  have HS := hide hS
  have HSL := hide (show S.length = n by have := unhide HN; rw [hS, runs_len, unhide HPL]; rw [unhide HPL]; omega; rw [unhide HPL]; omega)
  clear hS
  go_wp2_with fail
  go_loopg [6, 7, 22] n (fun gk _ _ iv wr => ∃ (i : Nat), i ≤ n ∧ gk = n - i ∧ iv = .int .i64 (i : Int) ∧ Hid (Below W.heap.size W wr) ∧ Hid (wr.heap[B]? = some (.cells (intC L).toArray 3 (0, 0))) ∧ Hid (FillV 166 wr R (n * 3) (flatS (S.take i))))
  case atStart => exact ⟨0, by omega, by omega, rfl, HBW, HH, HF⟩
  case round =>
    clear HBW HH HF
    obtain ⟨i, hi, hgk, rfl, HBW, HH, HF⟩ := hrel
    have l0 := cell_keep (unhide HBW) p0
    have l1 := cell_keep (unhide HBW) k1
    have l2 := cell_keep (unhide HBW) k2
    by_cases hin : i < n
    · obtain ⟨y, hy⟩ : ∃ y, L[i]? = some y := ⟨L[i]'(by rw [unhide HPL]; exact hin), by simp⟩
      obtain ⟨q, hq⟩ : ∃ y, nums[i]? = some y := ⟨nums[i]'(by have := unhide HN; omega), by simp⟩
      obtain ⟨u, hu⟩ : ∃ y, uses[i]? = some y := ⟨uses[i]'(by have := unhide HN; omega), by simp⟩
      have m0 : wr.cell? ⟨B, i, none⟩ = some (.int .i64 y) := block_cell (unhide HH) (by simp [intC, hy])
      obtain ⟨b2, o2, rfl, m1, _⟩ := (unhide HNU).int hq
      obtain ⟨b3, o3, rfl, m2, _⟩ := (unhide HUS).int hu
      have m1 := cell_keep (unhide HBW) m1
      have m2 := cell_keep (unhide HBW) m2
      have oy := (unhide HQ).1 y (List.mem_of_getElem? hy)
      have oq := (unhide HQ).2.1 q (List.mem_of_getElem? hq)
      have hw1 : wrap64 (y + q) = y + q := by unfold Ok8 at oy oq; unfold wrap64; omega
      have hw2 : IntKind.i64.wrap (y + q) = y + q := by rw [wrapI64]; exact hw1
      have HSI := hide (show S[i]? = some (y, y + q, u) by rw [unhide HS]; exact runs_at hy hq hu)
      have HLI := hide (show (flatS (S.take i)).length = i * 3 by rw [flatS_len, List.length_take, unhide HSL]; omega)
      obtain ⟨u0, e0⟩ := (unhide HF).cell (o := i * 3) (by omega)
      obtain ⟨u1, e1⟩ := (unhide HF).cell (o := i * 3 + 1) (by omega)
      obtain ⟨u2, e2⟩ := (unhide HF).cell (o := i * 3 + 2) (by omega)
      have gf := (unhide HF).free
      have hin' : (i : Int) < (n : Int) := by omega
      have hin2 : (i : Int) < (nn : Int) := by have := unhide HNN; omega
      have hin3 : (i : Int) < (nu : Int) := by have := unhide HNN; omega
      clear hy hq hu oy oq
      obtain ⟨X, rfl⟩ : ∃ X, X = wr := ⟨_, rfl⟩
      go_upto_region 5 with fail
      go_region
      go_wp2
      go_roundg (n - (i + 1))
      case measure => omega
      case rel =>
        have hst := (((unhide HF).store (unhide HLI) (by omega) (.int .i64 y)).store (i := i * 3 + 1) (by rw [List.length_append, unhide HLI]; rfl) (by omega) (.int .i64 (y + q))).store (i := i * 3 + 2) (by rw [List.length_append, List.length_append, unhide HLI]; rfl) (by omega) (.int .i64 u)
        refine ⟨i + 1, by omega, rfl, by go_num, hide ?_, hide ?_, hide ?_⟩
        · have hle : W.heap.size ≤ R := Nat.le_of_eq (unhide HRR).1.symm
          exact ((((unhide HBW).setCell hle _).setCell hle _).setCell hle _).drew
        · have hne := unhide HBR
          show (((X.setCell ⟨R, i * 3, none⟩ _).setCell ⟨R, i * 3 + 1, none⟩ _).setCell ⟨R, i * 3 + 2, none⟩ _).heap[B]? = _
          rw [Below.heap_setCell _ _ _ _ hne, Below.heap_setCell _ _ _ _ hne, Below.heap_setCell _ _ _ _ hne]
          exact unhide HH
        · rw [take_next (unhide HSI), flatS_snoc, show flatS (S.take i) ++ encS (y, y + q, u) = flatS (S.take i) ++ [.int .i64 y] ++ [.int .i64 (y + q)] ++ [.int .i64 u] by simp [encS]]
          exact hst
    · obtain rfl : n = i := by omega
      have hd := (unhide HF).done (by rw [flatS_len, List.length_take, unhide HSL]; omega)
      rw [show S.take n = S from by rw [← unhide HSL, List.take_length]] at hd
      have HRS := hide (spans_block hd (unhide HSL) (by omega))
      have l3 := cell_keep (unhide HBW) k3
      have HOK := hide (show ∀ s ∈ S, Ok9 s.2.2 from by rw [unhide HS]; exact runs_ok (unhide HQ).2.2)
      have HS8 := hide (show S.length ≤ 8 by rw [unhide HSL]; exact h8)
      clear hin hi hgk hd HF HH
      go_wp2_with fail
      go_fit (tog_any _ (unhide HRS) (unhide HS8) (unhide HOK))
      rintro e W2 ⟨⟨D, ov, rfl, hp, hs, hr⟩, hb⟩
      have HSI := hide (unhide HSH D hp hs)
      have l0 := cell_keep hb l0
      have l3 := cell_keep hb l3
      have HRO := hide hr
      have HBW := hide (below_keep hb (unhide HBW))
      obtain ⟨oa, oc, rfl⟩ := hr.shape
      clear hp hs hr hb
      go_wp2_with fail
      go_fit (hasS_any _ eg_sh1 (unhide HRO) (pred_sh _ l0 l3))
      rintro e W3 ⟨rfl, hb⟩
      have HBW := hide (below_keep hb (unhide HBW))
      clear hb
      go_wp2
      go_ret
      refine ⟨YesP.of ?_, below_keep (unhide HBW) (unhide HK)⟩
      have h := unhide HSI
      rw [Bool.not_eq_true', ← Bool.not_eq_true, List.any_eq_true]
      simp only [decide_eq_true_eq]
      rw [h]
      exact Classical.not_not
end Go.Proofs.YthoppmbmmplkiaaGreatDoor
