/-
  Jobs: the program's rosterOf.
-/
import Derived.Test.YtgckgkllpkkpeaaDoorZL
import Derived.Test.YtgckgkllpkkpeaaDoorZN
import Derived.Test.YtgckgkllpkkpeaaDoorZR
namespace Go.Proofs.YtgckgkllpkkpeaaDoor
open Go.RowKit Go.Shelf

attribute [local go_sem] Oper.semAt_some

theorem run_make_n {P : Program} (t e : TypeId) (z : Value) (bytes : Nat) (ht : P.underlying t = some (.slice e)) (hinfo : (P.info? e).map (fun i => (i.zero, i.size, i.bytes)) = some (some z, 1, bytes))
    (n : Nat) (hbytes : bytes * n ≤ 281474976710656) (h63 : n ≤ 9223372036854775807) (w : World) :
    (Instr.makeSlice t (.int .i64 (n : Int)) (.int .i64 (n : Int))).run P w = .ok (.slice (some ⟨w.heap.size, 0, none⟩) n n) (w.alloc (.cells (madeCells z.cells (n * 1)) e)) := by
  obtain ⟨i, hi, hz, hs, hb⟩ := info_parts hinfo
  subst hb
  have hb' : (i.bytes : Int) * (n : Int) ≤ 281474976710656 := by
    have h : ((i.bytes * n : Nat) : Int) ≤ 281474976710656 := by omega
    rwa [Int.natCast_mul] at h
  have hr := run_make (P := P) w t e i z ht hi hz .i64 .i64 n n (by omega) (Int.le_refl _) hb' (by omega)
  simp only [Int.toNat_natCast, hs] at hr
  exact hr
/-- A roster's cells when it is made. -/
noncomputable def rosA (ja ca : Option Addr) (jc cc n nc BT r BS BB : Nat) : Array Value := ((((((Tryd.zeroCells48.setIfInBounds 0 (.slice ja n jc)).setIfInBounds 1 (.slice ca nc cc)).setIfInBounds 2 (.slice (some ⟨BT, 0, none⟩) n n)).setIfInBounds 3 (.int .i64 (r : Int))).setIfInBounds 4 (.slice (some ⟨BS, 0, none⟩) n n)).setIfInBounds 5 (.slice (some ⟨BB, 0, none⟩) n n))
/-- What is known while a roster is made. -/
structure RgG (p : Pl) (ja ca : Option Addr) (jc cc n nc : Nat) (V : World) (L : Nat → Bool) (vals : Nat → Value) (w1 : World) (BT BS BB BR BP r : Nat) : Prop where
  b : Below V.heap.size V w1
  f0 : L 0 = true → vals 0 = .agg #[.slice ja n jc, .slice ca nc cc]
  f1 : L 1 = true → vals 1 = .int .i64 (n : Int)
  f2 : L 2 = true → vals 2 = .slice (some ⟨BT, 0, none⟩) n n ∧ V.heap.size ≤ BT ∧ w1.heap[BT]? = some (.cells (madeCells #[.int .i64 0] n) 3)
  f3 : L 3 = true → vals 3 = .agg #[.slice ja n jc, .slice ca nc cc]
  f4 : L 4 = true → vals 4 = .int .i64 (r : Int) ∧ r ≤ 210 ∧ LB p [] r
  f5 : L 5 = true → vals 5 = .int .i64 (n : Int)
  f6 : L 6 = true → vals 6 = .slice (some ⟨BS, 0, none⟩) n n ∧ V.heap.size ≤ BS ∧ w1.heap[BS]? = some (.cells (madeCells #[.int .i64 0] n) 3)
  f7 : L 7 = true → vals 7 = .int .i64 (n : Int)
  f8 : L 8 = true → vals 8 = .slice (some ⟨BB, 0, none⟩) n n ∧ V.heap.size ≤ BB ∧ w1.heap[BB]? = some (.cells (madeCells #[.bool false] n) 4)
  f9 : L 9 = true → vals 9 = .agg (rosA ja ca jc cc n nc BT r BS BB)
  f10 : L 10 = true → vals 10 = .pointer (some ⟨BR, 0, none⟩) ∧ V.heap.size ≤ BR ∧ w1.heap[BR]? = some (.cells (rosA ja ca jc cc n nc BT r BS BB) 48)
  f11 : L 11 = true → vals 11 = .pointer (some ⟨BP, 0, none⟩) ∧ V.heap.size ≤ BP ∧ ∃ u, w1.heap[BP]? = some (.cells #[u] 41) ∧ (L 12 = true → u = .pointer (some ⟨BR, 0, none⟩))
  c9 : L 9 = true → L 2 = true ∧ L 4 = true ∧ L 6 = true ∧ L 8 = true
  c10 : L 10 = true → L 9 = true
  c12 : L 12 = true → L 10 = true ∧ L 11 = true
  d26 : L 2 = true → L 6 = true → BT ≠ BS
  d28 : L 2 = true → L 8 = true → BT ≠ BB
  d68 : L 6 = true → L 8 = true → BS ≠ BB
  d2r : L 2 = true → L 10 = true → BR ≠ BT
  d6r : L 6 = true → L 10 = true → BR ≠ BS
  d8r : L 8 = true → L 10 = true → BR ≠ BB
  d2p : L 2 = true → L 11 = true → BP ≠ BT
  d6p : L 6 = true → L 11 = true → BP ≠ BS
  d8p : L 8 = true → L 11 = true → BP ≠ BB
  drp : L 10 = true → L 11 = true → BP ≠ BR
theorem zc_eq : Tryd.zeroCells48 = (Value.slice none 0 0 :: Value.slice none 0 0 :: Value.slice none 0 0 :: Value.int .i64 0 :: Value.slice none 0 0 :: Value.slice none 0 0 :: List.replicate 210 (Value.int .i64 0)).toArray := by kernel_rfl
set_option maxRecDepth 100000 in
theorem rosA_cells (ja ca : Option Addr) (jc cc n nc BT r BS BB : Nat) : (rosA ja ca jc cc n nc BT r BS BB)[0]? = some (.slice ja n jc) ∧ (rosA ja ca jc cc n nc BT r BS BB)[1]? = some (.slice ca nc cc) ∧ (rosA ja ca jc cc n nc BT r BS BB)[2]? = some (.slice (some ⟨BT, 0, none⟩) n n) ∧ (rosA ja ca jc cc n nc BT r BS BB)[3]? = some (.int .i64 (r : Int)) ∧ (rosA ja ca jc cc n nc BT r BS BB)[4]? = some (.slice (some ⟨BS, 0, none⟩) n n) ∧ (rosA ja ca jc cc n nc BT r BS BB)[5]? = some (.slice (some ⟨BB, 0, none⟩) n n) ∧ ∀ m k, m < 30 → k < 7 → (rosA ja ca jc cc n nc BT r BS BB)[6 + m * 7 + k]? = some (.int .i64 0) := by
  have e : rosA ja ca jc cc n nc BT r BS BB = (Value.slice ja n jc :: Value.slice ca nc cc :: Value.slice (some ⟨BT, 0, none⟩) n n :: Value.int .i64 (r : Int) :: Value.slice (some ⟨BS, 0, none⟩) n n :: Value.slice (some ⟨BB, 0, none⟩) n n :: List.replicate 210 (Value.int .i64 0)).toArray := by
    unfold rosA
    rw [zc_eq]
    simp only [List.setIfInBounds_toArray, List.set_cons_zero, List.set_cons_succ]
  rw [e]
  refine ⟨rfl, rfl, rfl, rfl, rfl, rfl, fun m k hm hk => ?_⟩
  rw [List.getElem?_toArray, show 6 + m * 7 + k = (m * 7 + k) + 1 + 1 + 1 + 1 + 1 + 1 by omega]
  simp only [List.getElem?_cons_succ]
  rw [List.getElem?_replicate, if_pos (by omega)]
theorem made_cell {w : World} {B n i : Nat} {z : Value} {t : TypeId} (h : w.heap[B]? = some (.cells (madeCells #[z] n) t)) (hi : i < n) : w.cell? ⟨B, i, none⟩ = some z := by
  have e : (madeCells #[z] n)[i]? = some z := by
    rw [← Array.getElem?_toList, toList_madeCells_one, List.getElem?_replicate, if_pos hi]
  simp [World.cell?, h, e]
theorem blk_cell {w : World} {B i : Nat} {c : Array Value} {t : TypeId} {v : Value} (h : w.heap[B]? = some (.cells c t)) (e : c[i]? = some v) : w.cell? ⟨B, i, none⟩ = some v := by simp [World.cell?, h, e]
theorem blk_frz {w : World} {B i : Nat} {c : Array Value} {t : TypeId} (h : w.heap[B]? = some (.cells c t)) : w.frozen? ⟨B, i, none⟩ = false := by simp [World.frozen?, h]
theorem keep_blk {w w' : World} {B : Nat} {o : Obj} (hb : Below w.heap.size w w') (h : w.heap[B]? = some o) : w'.heap[B]? = some o := by
  rw [hb.block B (Array.getElem?_eq_some_iff.1 h).1]
  exact h
theorem blk_lt {w : World} {B : Nat} {o : Obj} (h : w.heap[B]? = some o) : B ≠ w.heap.size := Nat.ne_of_lt (Array.getElem?_eq_some_iff.1 h).1
theorem RgG.later {p : Pl} {ja ca : Option Addr} {jc cc n nc : Nat} {V : World} {L : Nat → Bool} {vals : Nat → Value} {w1 w2 : World} {BT BS BB BR BP r : Nat} (h : RgG p ja ca jc cc n nc V L vals w1 BT BS BB BR BP r) (hb : Below w1.heap.size w1 w2) : RgG p ja ca jc cc n nc V L vals w2 BT BS BB BR BP r where
  b := below_keep hb h.b
  f0 := h.f0
  f1 := h.f1
  f2 := fun e => ⟨(h.f2 e).1, (h.f2 e).2.1, keep_blk hb (h.f2 e).2.2⟩
  f3 := h.f3
  f4 := h.f4
  f5 := h.f5
  f6 := fun e => ⟨(h.f6 e).1, (h.f6 e).2.1, keep_blk hb (h.f6 e).2.2⟩
  f7 := h.f7
  f8 := fun e => ⟨(h.f8 e).1, (h.f8 e).2.1, keep_blk hb (h.f8 e).2.2⟩
  f9 := h.f9
  f10 := fun e => ⟨(h.f10 e).1, (h.f10 e).2.1, keep_blk hb (h.f10 e).2.2⟩
  f11 := fun e => by obtain ⟨h1, h2, u, h3, h4⟩ := h.f11 e; exact ⟨h1, h2, u, keep_blk hb h3, h4⟩
  c9 := h.c9
  c10 := h.c10
  c12 := h.c12
  d26 := h.d26
  d28 := h.d28
  d68 := h.d68
  d2r := h.d2r
  d6r := h.d6r
  d8r := h.d8r
  d2p := h.d2p
  d6p := h.d6p
  d8p := h.d8p
  drp := h.drp
set_option maxHeartbeats 4000000 in
theorem backw_any (w : World) {a : Option Addr} {n c : Nat} : Calls Tryd.prog 20 #[.slice a n c] w fun e w' => e = .returned (.func (.func 30) #[] #[.pointer (some ⟨w.heap.size, 0, none⟩)]) ∧ w' = w.alloc (.cells #[.slice a n c] 22) := by
  go_enter Tryd.func20, Tryd.ntmps20
  go_wp2
  go_ret
  exact ⟨rfl, rfl⟩
theorem block_cell0 {w : World} {B : Nat} {u : Value} {t : TypeId} (h : w.heap[B]? = some (.cells #[u] t)) : w.cell? ⟨B, 0, none⟩ = some u := by simp [World.cell?, h]
theorem block_frz0 {w : World} {B : Nat} {u : Value} {t : TypeId} (h : w.heap[B]? = some (.cells #[u] t)) : w.frozen? ⟨B, 0, none⟩ = false := by simp [World.frozen?, h]
theorem set_one {w : World} {B : Nat} {u : Value} {t : TypeId} (h : w.heap[B]? = some (.cells #[u] t)) (v : Value) : (w.setCell ⟨B, 0, none⟩ v).heap[B]? = some (.cells #[v] t) := by simp [World.setCell, Array.getElem?_modify, h]
/-- The jobs as values. -/
theorem jv_ex {p : Pl} (hR : PlR p) {w : World} {ja ca : Option Addr} {jc cc : Nat} (hM : PlM w p ja jc ca cc) : ∃ jv : Nat → Value, JvOk p w ja w.heap.size jv ∧ ∀ i, i < p.jobs.length → ∃ (a1 a2 : Option Addr) (d1 d2 nu : Nat), jv i = .agg #[.int .i64 (lgN p i : Int), .slice a1 (aftL p i).length d1, .slice a2 nu d2] ∧ Rows 1 JE w (.slice a1 (aftL p i).length d1) (aftL p i) := by
  have h : ∀ i, ∃ v : Value, i < p.jobs.length → ∃ (b o : Nat) (a1 a2 : Option Addr) (d1 d2 nu : Nat), v = .agg #[.int .i64 (lgN p i : Int), .slice a1 (aftL p i).length d1, .slice a2 nu d2] ∧ ja = some ⟨b, o, none⟩ ∧ b < w.heap.size ∧ w.cell? ⟨b, o + i * 3, none⟩ = some (.int .i64 (lgN p i : Int)) ∧ w.cell? ⟨b, o + i * 3 + 1, none⟩ = some (.slice a1 (aftL p i).length d1) ∧ w.cell? ⟨b, o + i * 3 + 2, none⟩ = some (.slice a2 nu d2) ∧ Rows 1 JE w (.slice a1 (aftL p i).length d1) (aftL p i) := fun i => by
    by_cases hi : i < p.jobs.length
    · obtain ⟨jb, hjb⟩ : ∃ y, p.jobs[i]? = some y := at_some hi
      obtain ⟨b, o, a1, d1, a2, d2, hja, ⟨e0, e1, e2⟩, hjm⟩ := hM.j.job hjb
      refine ⟨_, fun _ => ⟨b, o, a1, a2, d1, d2, jb.uses.length, rfl, hja, World.block_lt_of_cell? w _ e0, ?_, ?_, e2, ?_⟩⟩
      · rw [← lgN_eq hR hjb]
        exact e0
      · rw [aftL_eq hjb]
        exact e1
      · rw [aftL_eq hjb]
        exact hjm.r1
    · exact ⟨undef, fun h => absurd h hi⟩
  obtain ⟨jv, hjv⟩ := Classical.axiomOfChoice h
  refine ⟨jv, fun i hi => ?_, fun i hi => ?_⟩
  · obtain ⟨b, o, a1, a2, d1, d2, nu, h1, h2, h3, h4, h5, h6, _⟩ := hjv i hi
    exact ⟨b, o, _, a1, a2, _, nu, d1, d2, h2, h3, h1, h4, h5, h6⟩
  · obtain ⟨b, o, a1, a2, d1, d2, nu, h1, _, _, _, _, _, h7⟩ := hjv i hi
    exact ⟨a1, a2, d1, d2, nu, h1, h7⟩
/-- What rosterOf gives. -/
structure RosP (p : Pl) (w : World) (e : Ending) (w' : World) : Prop where
  ex : ∃ (q : Rq) (S0 : Nat), e = .returned (.pointer (some ⟨q.R, 0, none⟩)) ∧ q.w0 = w ∧ q.p = p ∧ q.Ok ∧ Tails q ∧ Ros q w' S0 (fun _ => 0) noB (fun _ _ => 0) ∧ ∀ S y, Feas p S y → S0 ≤ S
set_option maxHeartbeats 8000000 in
set_option maxRecDepth 100000 in
theorem ros_any {p : Pl} {ja ca : Option Addr} {jc cc : Nat} (w : World) (hM : PlM w p ja jc ca cc) (hR : PlR p) (hex : ∃ S y, S ≤ 30 ∧ Feas p S y) :
    Calls Tryd.prog 13 #[.agg #[.slice ja p.jobs.length jc, .slice ca p.caps.length cc]] w fun e w' => RosP p w e w' := by
  obtain ⟨jv, hJv, hJs⟩ := jv_ex hR hM
  have HJV := hide (And.intro hJv hJs)
  have HEX := hide (And.intro hex hM)
  clear hJv hJs hex
  obtain ⟨n, hnn⟩ : ∃ n, n = p.jobs.length := ⟨_, rfl⟩
  obtain ⟨nc, hnc⟩ : ∃ n, n = p.caps.length := ⟨_, rfl⟩
  have kn := below_new w (.cells #[.slice ja p.jobs.length jc, .slice ca p.caps.length cc] 25)
  obtain ⟨p0, p1⟩ := two_new w 25 (.slice ja p.jobs.length jc) (.slice ca p.caps.length cc)
  have HM := hide (hM.later kn)
  have HR := hide hR
  rw [← hnn, ← hnc] at p0 p1 kn HM ⊢
  have n7 := hR.nj
  rw [← hnn] at n7
  have HN := hide (And.intro hnn hnc)
  obtain ⟨g, hg⟩ : ∃ X, X = w.heap.size := ⟨_, rfl⟩
  obtain ⟨V, hV⟩ : ∃ X, X = w.alloc (.cells #[.slice ja n jc, .slice ca nc cc] 25) := ⟨_, rfl⟩
  rw [← hV] at p0 p1 kn HM
  rw [← hg] at p0 p1
  have HK := hide kn
  have HAP := hide (show ∀ w1, Below V.heap.size V w1 → Calls Tryd.prog 19 #[.agg #[.slice ja n jc, .slice ca nc cc], .int .i64 0, .slice none 0 0] w1 fun e w' => (∃ r : Nat, e = .returned (.int .i64 (r : Int)) ∧ r ≤ 210 ∧ LB p [] r) ∧ Below w1.heap.size w1 w' from fun w1 hb => by
    have := apart_all p (p.jobs.length - 0) w1 ja ca none jc cc 0 0 [] ((unhide HM).later hb) (unhide HR) (rows_nil _) (fun o ho => by cases ho) (Nat.zero_le _) (Nat.zero_le _) (Nat.le_refl _)
    rw [← (unhide HN).1, ← (unhide HN).2] at this
    exact this.mono fun e w' ⟨⟨r, h1, h2, h3⟩, h4⟩ => ⟨⟨r, h1, by omega, h3⟩, h4⟩)
  clear hM hR kn hnn hnc
  refine (callsIn_wide (n := 9)).1 (callsIn_of_wp_marks Tryd.func13 rfl trivial ?_ rfl)
  refine wpIn_wide.2 ?_
  simp only [Tryd.ntmps13, List.size_toArray, List.length_cons, List.length_nil, Nat.reduceAdd, Nat.reduceSub, Array.replicate_succ, Array.replicate_zero, List.push_toArray, List.append_toArray, List.nil_append, List.cons_append]
  go_upto_region 2 with fail
  rw [← hV, ← hg]
  clear hV hg
  refine wp_region_vals (by kernel_rfl) (by kernel_rfl) (by kernel_rfl) (fun L vals w1 => ∃ BT BS BB BR BP r, RgG p ja ca jc cc n nc V L vals w1 BT BS BB BR BP r) (fun _ => ⟨0, 0, 0, 0, 0, 0, ⟨(Below.refl _ _).drew, (fun e => by cases e), (fun e => by cases e), (fun e => by cases e), (fun e => by cases e), (fun e => by cases e), (fun e => by cases e), (fun e => by cases e), (fun e => by cases e), (fun e => by cases e), (fun e => by cases e), (fun e => by cases e), (fun e => by cases e), (fun e => by cases e), (fun e => by cases e), (fun e => by cases e), (fun e => by cases e), (fun e => by cases e), (fun e => by cases e), (fun e => by cases e), (fun e => by cases e), (fun e => by cases e), (fun e => by cases e), (fun e => by cases e), (fun e => by cases e), (fun e => by cases e)⟩⟩) ?_ ?_
  · intro L vals w1 i' o' hG hL ho hdep
    obtain ⟨BT, BS, BB, BR, BP, r, h⟩ := hG
    have hi' : i' < 13 := (Array.getElem?_eq_some_iff.1 ho).1
    rcases (by omega : i' = 0 ∨ i' = 1 ∨ i' = 2 ∨ i' = 3 ∨ i' = 4 ∨ i' = 5 ∨ i' = 6 ∨ i' = 7 ∨ i' = 8 ∨ i' = 9 ∨ i' = 10 ∨ i' = 11 ∨ i' = 12) with rfl | rfl | rfl | rfl | rfl | rfl | rfl | rfl | rfl | rfl | rfl | rfl | rfl
    · obtain rfl := Option.some.inj ho
      have c := cell_keep h.b p0
      have c1 := cell_keep h.b p1
      refine wpOp_step rfl (fun K hK' => ?_)
      simp only [frs]
      go_simp
      exact hK' _ _ ⟨.agg #[.slice ja n jc, .slice ca nc cc], (by show _ = Act.put _ (some 12) _; simp only [frs]), BT, BS, BB, BR, BP, r, ⟨h.b, (fun _ => rfl), h.f1, h.f2, h.f3, h.f4, h.f5, h.f6, h.f7, h.f8, h.f9, h.f10, h.f11, h.c9, h.c10, h.c12, h.d26, h.d28, h.d68, h.d2r, h.d6r, h.d8r, h.d2p, h.d6p, h.d8p, h.drp⟩⟩
    · obtain rfl := Option.some.inj ho
      refine wpOp_step rfl (fun K hK' => ?_)
      simp only [frs]
      go_simp
      exact hK' _ _ ⟨.int .i64 (n : Int), (by show _ = Act.put _ (some 13) _; simp only [frs]), BT, BS, BB, BR, BP, r, ⟨h.b, h.f0, (fun _ => rfl), h.f2, h.f3, h.f4, h.f5, h.f6, h.f7, h.f8, h.f9, h.f10, h.f11, h.c9, h.c10, h.c12, h.d26, h.d28, h.d68, h.d2r, h.d6r, h.d8r, h.d2p, h.d6p, h.d8p, h.drp⟩⟩
    · obtain rfl := Option.some.inj ho
      have e := h.f1 (hdep ⟨1, .data⟩ (by simp) rfl)
      have hmk := run_make_n 23 3 (.int .i64 0) 8 Tryd.underlying23 (by kernel_rfl) n (by omega) (by omega) w1
      rw [Nat.mul_one] at hmk
      have h' := h.later (below_new w1 (.cells (madeCells #[.int .i64 0] n) 3))
      refine wpOp_step rfl (fun K hK' => ?_)
      simp only [frs]
      rw [e]
      go_simp
      exact hK' _ _ ⟨.slice (some ⟨w1.heap.size, 0, none⟩) n n, (by show _ = Act.put _ (some 14) _; simp only [frs, e]), w1.heap.size, BS, BB, BR, BP, r, ⟨h'.b, h'.f0, h'.f1, (fun _ => ⟨rfl, h.b.size, heap_alloc_new _ _⟩), h'.f3, h'.f4, h'.f5, h'.f6, h'.f7, h'.f8, (fun e => absurd (h.c9 e).1 (by rw [hL]; exact Bool.false_ne_true)), (fun e => absurd (h.c9 (h.c10 e)).1 (by rw [hL]; exact Bool.false_ne_true)), h'.f11, (fun e => absurd (h.c9 e).1 (by rw [hL]; exact Bool.false_ne_true)), h'.c10, h'.c12, (fun _ e => Ne.symm (blk_lt (h.f6 e).2.2)), (fun _ e => Ne.symm (blk_lt (h.f8 e).2.2)), h'.d68, (fun _ e => blk_lt (h.f10 e).2.2), h'.d6r, h'.d8r, (fun _ e => by obtain ⟨_, _, u, h3, _⟩ := h.f11 e; exact blk_lt h3), h'.d6p, h'.d8p, h'.drp⟩⟩
    · obtain rfl := Option.some.inj ho
      have c := cell_keep h.b p0
      have c1 := cell_keep h.b p1
      refine wpOp_step rfl (fun K hK' => ?_)
      simp only [frs]
      go_simp
      exact hK' _ _ ⟨.agg #[.slice ja n jc, .slice ca nc cc], (by show _ = Act.put _ (some 15) _; simp only [frs]), BT, BS, BB, BR, BP, r, ⟨h.b, h.f0, h.f1, h.f2, (fun _ => rfl), h.f4, h.f5, h.f6, h.f7, h.f8, h.f9, h.f10, h.f11, h.c9, h.c10, h.c12, h.d26, h.d28, h.d68, h.d2r, h.d6r, h.d8r, h.d2p, h.d6p, h.d8p, h.drp⟩⟩
    · obtain rfl := Option.some.inj ho
      have e := h.f3 (hdep ⟨3, .data⟩ (by simp) rfl)
      refine wpOp_step rfl (fun K hK' => ?_)
      simp only [frs]
      rw [e]
      go_simp
      go_fit (unhide HAP w1 h.b)
      rintro e9 Y ⟨⟨r', rfl, hr1, hr2⟩, hb⟩
      exact hK' _ _ ⟨_, (by show _ = Act.put _ (some 16) _; simp only [frs, e]), BT, BS, BB, BR, BP, r', ⟨(h.later hb).b, (h.later hb).f0, (h.later hb).f1, (h.later hb).f2, (h.later hb).f3, (fun _ => ⟨rfl, hr1, hr2⟩), (h.later hb).f5, (h.later hb).f6, (h.later hb).f7, (h.later hb).f8, (fun e => absurd (h.c9 e).2.1 (by rw [hL]; exact Bool.false_ne_true)), (fun e => absurd (h.c9 (h.c10 e)).2.1 (by rw [hL]; exact Bool.false_ne_true)), (h.later hb).f11, (fun e => absurd (h.c9 e).2.1 (by rw [hL]; exact Bool.false_ne_true)), (h.later hb).c10, (h.later hb).c12, (h.later hb).d26, (h.later hb).d28, (h.later hb).d68, (h.later hb).d2r, (h.later hb).d6r, (h.later hb).d8r, (h.later hb).d2p, (h.later hb).d6p, (h.later hb).d8p, (h.later hb).drp⟩⟩
    · obtain rfl := Option.some.inj ho
      refine wpOp_step rfl (fun K hK' => ?_)
      simp only [frs]
      go_simp
      exact hK' _ _ ⟨.int .i64 (n : Int), (by show _ = Act.put _ (some 17) _; simp only [frs]), BT, BS, BB, BR, BP, r, ⟨h.b, h.f0, h.f1, h.f2, h.f3, h.f4, (fun _ => rfl), h.f6, h.f7, h.f8, h.f9, h.f10, h.f11, h.c9, h.c10, h.c12, h.d26, h.d28, h.d68, h.d2r, h.d6r, h.d8r, h.d2p, h.d6p, h.d8p, h.drp⟩⟩
    · obtain rfl := Option.some.inj ho
      have e := h.f5 (hdep ⟨5, .data⟩ (by simp) rfl)
      have hmk := run_make_n 23 3 (.int .i64 0) 8 Tryd.underlying23 (by kernel_rfl) n (by omega) (by omega) w1
      rw [Nat.mul_one] at hmk
      have h' := h.later (below_new w1 (.cells (madeCells #[.int .i64 0] n) 3))
      refine wpOp_step rfl (fun K hK' => ?_)
      simp only [frs]
      rw [e]
      go_simp
      exact hK' _ _ ⟨.slice (some ⟨w1.heap.size, 0, none⟩) n n, (by show _ = Act.put _ (some 18) _; simp only [frs, e]), BT, w1.heap.size, BB, BR, BP, r, ⟨h'.b, h'.f0, h'.f1, h'.f2, h'.f3, h'.f4, h'.f5, (fun _ => ⟨rfl, h.b.size, heap_alloc_new _ _⟩), h'.f7, h'.f8, (fun e => absurd (h.c9 e).2.2.1 (by rw [hL]; exact Bool.false_ne_true)), (fun e => absurd (h.c9 (h.c10 e)).2.2.1 (by rw [hL]; exact Bool.false_ne_true)), h'.f11, (fun e => absurd (h.c9 e).2.2.1 (by rw [hL]; exact Bool.false_ne_true)), h'.c10, h'.c12, (fun e _ => blk_lt (h.f2 e).2.2), h'.d28, (fun _ e => Ne.symm (blk_lt (h.f8 e).2.2)), h'.d2r, (fun _ e => blk_lt (h.f10 e).2.2), h'.d8r, h'.d2p, (fun _ e => by obtain ⟨_, _, u, h3, _⟩ := h.f11 e; exact blk_lt h3), h'.d8p, h'.drp⟩⟩
    · obtain rfl := Option.some.inj ho
      refine wpOp_step rfl (fun K hK' => ?_)
      simp only [frs]
      go_simp
      exact hK' _ _ ⟨.int .i64 (n : Int), (by show _ = Act.put _ (some 19) _; simp only [frs]), BT, BS, BB, BR, BP, r, ⟨h.b, h.f0, h.f1, h.f2, h.f3, h.f4, h.f5, h.f6, (fun _ => rfl), h.f8, h.f9, h.f10, h.f11, h.c9, h.c10, h.c12, h.d26, h.d28, h.d68, h.d2r, h.d6r, h.d8r, h.d2p, h.d6p, h.d8p, h.drp⟩⟩
    · obtain rfl := Option.some.inj ho
      have e := h.f7 (hdep ⟨7, .data⟩ (by simp) rfl)
      have hmk := run_make_n 44 4 (.bool false) 1 Tryd.underlying44 (by kernel_rfl) n (by omega) (by omega) w1
      rw [Nat.mul_one] at hmk
      have h' := h.later (below_new w1 (.cells (madeCells #[.bool false] n) 4))
      refine wpOp_step rfl (fun K hK' => ?_)
      simp only [frs]
      rw [e]
      go_simp
      exact hK' _ _ ⟨.slice (some ⟨w1.heap.size, 0, none⟩) n n, (by show _ = Act.put _ (some 20) _; simp only [frs, e]), BT, BS, w1.heap.size, BR, BP, r, ⟨h'.b, h'.f0, h'.f1, h'.f2, h'.f3, h'.f4, h'.f5, h'.f6, h'.f7, (fun _ => ⟨rfl, h.b.size, heap_alloc_new _ _⟩), (fun e => absurd (h.c9 e).2.2.2 (by rw [hL]; exact Bool.false_ne_true)), (fun e => absurd (h.c9 (h.c10 e)).2.2.2 (by rw [hL]; exact Bool.false_ne_true)), h'.f11, (fun e => absurd (h.c9 e).2.2.2 (by rw [hL]; exact Bool.false_ne_true)), h'.c10, h'.c12, h'.d26, (fun e _ => blk_lt (h.f2 e).2.2), (fun e _ => blk_lt (h.f6 e).2.2), h'.d2r, h'.d6r, (fun _ e => blk_lt (h.f10 e).2.2), h'.d2p, h'.d6p, (fun _ e => by obtain ⟨_, _, u, h3, _⟩ := h.f11 e; exact blk_lt h3), h'.drp⟩⟩
    · obtain rfl := Option.some.inj ho
      have l2 : L 2 = true := hdep ⟨2, .data⟩ (by simp) rfl
      have l4 : L 4 = true := hdep ⟨4, .data⟩ (by simp) rfl
      have l6 : L 6 = true := hdep ⟨6, .data⟩ (by simp) rfl
      have l8 : L 8 = true := hdep ⟨8, .data⟩ (by simp) rfl
      have e0 := h.f0 (hdep ⟨0, .data⟩ (by simp) rfl)
      have e2 := (h.f2 l2).1
      have e4 := (h.f4 l4).1
      have e6 := (h.f6 l6).1
      have e8 := (h.f8 l8).1
      refine wpOp_step rfl (fun K hK' => ?_)
      simp only [frs]
      rw [e0, e2, e4, e6, e8]
      go_simp
      exact hK' _ _ ⟨.agg (rosA ja ca jc cc n nc BT r BS BB), (by show _ = Act.put _ (some 21) _; simp only [frs, e0, e2, e4, e6, e8, rosA]), BT, BS, BB, BR, BP, r, ⟨h.b, h.f0, h.f1, h.f2, h.f3, h.f4, h.f5, h.f6, h.f7, h.f8, (fun _ => rfl), h.f10, h.f11, (fun _ => ⟨l2, l4, l6, l8⟩), (fun e => rfl), h.c12, h.d26, h.d28, h.d68, h.d2r, h.d6r, h.d8r, h.d2p, h.d6p, h.d8p, h.drp⟩⟩
    · obtain rfl := Option.some.inj ho
      have l9 : L 9 = true := hdep ⟨9, .data⟩ (by simp) rfl
      have e := h.f9 l9
      have h' := h.later (below_new w1 (.cells (rosA ja ca jc cc n nc BT r BS BB) 48))
      refine wpOp_step rfl (fun K hK' => ?_)
      simp only [frs]
      rw [e]
      go_simp
      exact hK' _ _ ⟨.pointer (some ⟨w1.heap.size, 0, none⟩), (by show _ = Act.put _ (some 22) _; simp only [frs, e]), BT, BS, BB, w1.heap.size, BP, r, ⟨h'.b, h'.f0, h'.f1, h'.f2, h'.f3, h'.f4, h'.f5, h'.f6, h'.f7, h'.f8, h'.f9, (fun _ => ⟨rfl, h.b.size, heap_alloc_new _ _⟩), (fun e => by obtain ⟨h1, h2, u, h3, h4⟩ := h'.f11 e; exact ⟨h1, h2, u, h3, fun e12 => absurd (h.c12 e12).1 (by rw [hL]; exact Bool.false_ne_true)⟩), h'.c9, (fun _ => l9), (fun e => absurd (h.c12 e).1 (by rw [hL]; exact Bool.false_ne_true)), h'.d26, h'.d28, h'.d68, (fun e _ => Ne.symm (blk_lt (h.f2 e).2.2)), (fun e _ => Ne.symm (blk_lt (h.f6 e).2.2)), (fun e _ => Ne.symm (blk_lt (h.f8 e).2.2)), h'.d2p, h'.d6p, h'.d8p, (fun _ e => by obtain ⟨_, _, u, h3, _⟩ := h.f11 e; exact blk_lt h3)⟩⟩
    · obtain rfl := Option.some.inj ho
      have h' := h.later (below_new w1 (.cells #[.pointer none] 41))
      refine wpOp_step rfl (fun K hK' => ?_)
      simp only [frs]
      go_simp
      exact hK' _ _ ⟨.pointer (some ⟨w1.heap.size, 0, none⟩), (by show _ = Act.put _ (some 4) _; simp only [frs]), BT, BS, BB, BR, w1.heap.size, r, ⟨h'.b, h'.f0, h'.f1, h'.f2, h'.f3, h'.f4, h'.f5, h'.f6, h'.f7, h'.f8, h'.f9, h'.f10, (fun _ => ⟨rfl, h.b.size, _, heap_alloc_new _ _, fun e12 => absurd (h.c12 e12).2 (by rw [hL]; exact Bool.false_ne_true)⟩), h'.c9, h'.c10, (fun e => absurd (h.c12 e).2 (by rw [hL]; exact Bool.false_ne_true)), h'.d26, h'.d28, h'.d68, h'.d2r, h'.d6r, h'.d8r, (fun e _ => Ne.symm (blk_lt (h.f2 e).2.2)), (fun e _ => Ne.symm (blk_lt (h.f6 e).2.2)), (fun e _ => Ne.symm (blk_lt (h.f8 e).2.2)), (fun e _ => Ne.symm (blk_lt (h.f10 e).2.2))⟩⟩
    · obtain rfl := Option.some.inj ho
      have l11 : L 11 = true := hdep ⟨11, .data⟩ (by simp) rfl
      have l10 : L 10 = true := hdep ⟨10, .data⟩ (by simp) rfl
      obtain ⟨e10, g10, b10⟩ := h.f10 l10
      obtain ⟨e11, g11, u, b11, _⟩ := h.f11 l11
      have c := block_cell0 b11
      have cf := block_frz0 b11
      have l9 := h.c10 l10
      obtain ⟨l2, l4, l6, l8⟩ := h.c9 l9
      refine wpOp_step rfl (fun K hK' => ?_)
      simp only [frs]
      rw [e10, e11]
      go_simp
      exact hK' _ _ ⟨undef, (by show _ = Act.put _ none _; simp only [frs, e10, e11]), BT, BS, BB, BR, BP, r, ⟨(h.b.setCell (p := ⟨BP, 0, none⟩) g11 _), h.f0, h.f1, (fun e => ⟨(h.f2 e).1, (h.f2 e).2.1, (set_block (h.d2p e l11)).trans (h.f2 e).2.2⟩), h.f3, h.f4, h.f5, (fun e => ⟨(h.f6 e).1, (h.f6 e).2.1, (set_block (h.d6p e l11)).trans (h.f6 e).2.2⟩), h.f7, (fun e => ⟨(h.f8 e).1, (h.f8 e).2.1, (set_block (h.d8p e l11)).trans (h.f8 e).2.2⟩), h.f9, (fun _ => ⟨e10, g10, (set_block (h.drp l10 l11)).trans b10⟩), (fun _ => ⟨e11, g11, _, set_one b11 _, fun _ => rfl⟩), h.c9, h.c10, (fun _ => ⟨l10, l11⟩), h.d26, h.d28, h.d68, h.d2r, h.d6r, h.d8r, h.d2p, h.d6p, h.d8p, h.drp⟩⟩
  · rintro L vals w1 ⟨BT, BS, BB, BR, BP, r, h⟩ hall
    obtain ⟨_, gT, bT⟩ := h.f2 (hall 2 (by decide))
    obtain ⟨_, r210, hlb⟩ := h.f4 (hall 4 (by decide))
    obtain ⟨_, gS, bS⟩ := h.f6 (hall 6 (by decide))
    obtain ⟨_, gB, bB⟩ := h.f8 (hall 8 (by decide))
    obtain ⟨_, gR, bR⟩ := h.f10 (hall 10 (by decide))
    obtain ⟨e11, gP, u, bP, hu⟩ := h.f11 (hall 11 (by decide))
    obtain rfl := hu (hall 12 (by decide))
    obtain ⟨k0, k1, k2, k3, k4, k5, k6⟩ := rosA_cells ja ca jc cc n nc BT r BS BB
    have hw := below_keep h.b (unhide HK)
    have hsz := (unhide HK).size
    obtain ⟨q, hq⟩ : ∃ q : Rq, q = { p := p, w0 := w, R := BR, RT := BT, RS := BS, RB := BB, T := fun _ => 0, ja := ja, jc := jc, ca := ca, cc := cc } := ⟨_, rfl⟩
    have hqd : QD q BP := by
      rw [hq]
      exact ⟨Nat.le_trans hsz gR, Nat.le_trans hsz gT, Nat.le_trans hsz gS, Nat.le_trans hsz gB, ⟨h.d2r (hall 2 (by decide)) (hall 10 (by decide)), h.d6r (hall 6 (by decide)) (hall 10 (by decide)), h.d8r (hall 8 (by decide)) (hall 10 (by decide)), h.d26 (hall 2 (by decide)) (hall 6 (by decide)), h.d28 (hall 2 (by decide)) (hall 8 (by decide)), h.d68 (hall 6 (by decide)) (hall 8 (by decide))⟩, h.drp (hall 10 (by decide)) (hall 11 (by decide)), h.d2p (hall 2 (by decide)) (hall 11 (by decide))⟩
    have hI : RoI q BP (fun _ => 0) r w1 := by
      rw [hq]
      obtain ⟨hn1, hn2⟩ := unhide HN
      have lt : ∀ {B : Nat} {o : Obj}, w1.heap[B]? = some o → B < w1.heap.size := fun h => (Array.getElem?_eq_some_iff.1 h).1
      refine ⟨⟨hw, ?_, ?_, ?_, blk_cell bR k3, ?_, ?_, fun m k hm hk => blk_cell bR (k6 m k hm hk), fun i hi => made_cell bT (by rw [hn1]; exact hi), fun i hi => made_cell bS (by rw [hn1]; exact hi), fun i hi => made_cell bB (by rw [hn1]; exact hi), fun o => blk_frz bR, fun o => blk_frz bS, fun o => blk_frz bB, lt bR, lt bS, lt bB⟩, fun o => blk_frz bT, block_cell0 bP, ⟨_, _, _, bR⟩, ⟨_, _, _, bT⟩, ⟨_, _, _, bS⟩, ⟨_, _, _, bB⟩, ⟨_, _, _, bP⟩⟩
      · show w1.cell? ⟨BR, 0, none⟩ = some (.slice ja p.jobs.length jc)
        rw [← hn1]
        exact blk_cell bR k0
      · show w1.cell? ⟨BR, 1, none⟩ = some (.slice ca p.caps.length cc)
        rw [← hn2]
        exact blk_cell bR k1
      · show w1.cell? ⟨BR, 2, none⟩ = some (.slice (some ⟨BT, 0, none⟩) p.jobs.length p.jobs.length)
        rw [← hn1]
        exact blk_cell bR k2
      · show w1.cell? ⟨BR, 4, none⟩ = some (.slice (some ⟨BS, 0, none⟩) p.jobs.length p.jobs.length)
        rw [← hn1]
        exact blk_cell bR k4
      · show w1.cell? ⟨BR, 5, none⟩ = some (.slice (some ⟨BB, 0, none⟩) p.jobs.length p.jobs.length)
        rw [← hn1]
        exact blk_cell bR k5
    have eRP : BR = q.R := by rw [hq]
    have HQ := hide hq
    have HQD := hide hqd
    have HI := hide hI
    have HLT := hide (And.intro hI.i1.lt hI.i2.lt)
    have HRB := hide (And.intro r210 hlb)
    have p0 := cell_keep h.b p0
    have HVW := hide h.b
    have HBP := hide (And.intro gP eRP)
    have HBPLT := hide (Array.getElem?_eq_some_iff.1 bP).1
    simp only [frs]
    rw [e11]
    clear hI hqd hq h hall bT bS bB bR bP k0 k1 k2 k3 k4 k5 k6 hu e11 hlb hw hsz r210 eRP gT gS gB gR gP
    generalize vals 0 = v0
    generalize vals (0 + 1) = v1
    generalize vals (0 + 1 + 1) = v2
    generalize vals (0 + 1 + 1 + 1) = v3
    generalize vals (0 + 1 + 1 + 1 + 1) = v4
    generalize vals (0 + 1 + 1 + 1 + 1 + 1) = v5
    generalize vals (0 + 1 + 1 + 1 + 1 + 1 + 1) = v6
    generalize vals (0 + 1 + 1 + 1 + 1 + 1 + 1 + 1) = v7
    generalize vals (0 + 1 + 1 + 1 + 1 + 1 + 1 + 1 + 1) = v8
    generalize vals (0 + 1 + 1 + 1 + 1 + 1 + 1 + 1 + 1 + 1) = v9
    generalize vals (0 + 1 + 1 + 1 + 1 + 1 + 1 + 1 + 1 + 1 + 1) = v10
    have hbw := backw_any w1 (a := ja) (n := n) (c := jc)
    go_wp2_with fail
    go_fit hbw
    rintro e W1 ⟨rfl, rfl⟩
    clear hbw
    go_wp2
    obtain ⟨X, hX⟩ : ∃ X, X = w1.alloc (.cells #[.slice ja n jc] 22) := ⟨_, rfl⟩
    have kX := below_new w1 (.cells #[.slice ja n jc] 22)
    have zX : X.heap.size = w1.heap.size + 1 := by rw [hX]; simp
    have cX : X.cell? ⟨w1.heap.size, 0, none⟩ = some (.slice ja n jc) := by rw [hX, new_cell rfl]; rfl
    rw [← hX] at kX
    rw [← hX]
    have HKX := hide kX
    have HZX := hide zX
    have eW : q.w0 = w := by rw [unhide HQ]
    have hwX : Below w.heap.size w X := below_keep kX (below_keep (unhide HVW) (unhide HK))
    have HI := hide ((unhide HI).later kX)
    have eP : q.p = p := by rw [unhide HQ]
    have hJX : JvOk p X ja w.heap.size jv := (unhide HJV).1.kept (Bn := w.heap.size) fun a v ha hv => by
      have := World.block_lt_of_cell? w _ hv
      exact (hwX.cell (p := a) this).trans hv
    have HEW := hide (And.intro eW eP)
    clear hX kX zX eW eP
    refine (wpIn_wide (n := 9)).1 (wpIn_rangeFunc_ownH rfl (by decide) (gf := 30) (lb := #[.pointer (some ⟨w1.heap.size, 0, none⟩)]) rfl trivial (enters_of Tryd.func30 (by kernel_rfl) rfl)
      (back_stops (p := p) (n₀ := w.heap.size) (jv := jv) (by rw [← (unhide HN).1]; exact n7) X hwX.size (by rw [unhide HZX]; omega) (by rw [← (unhide HN).1]; exact cX) hJX) (fun h k => h.t k) (fun W l o o' _ h hc _ => KpB.b W l o o' h hc) (Below.refl _ _) (fun _ => rfl)
      (fun pre W => RoI q BP (stL p r pre).1 (stL p r pre).2 W ∧ X.heap.size ≤ W.heap.size) (fun _ _ _ => False)
      (fun s A B row hs hg hr => ⟨hs.1.own (by rw [(unhide HEW).1]; exact hwX.size) hg hr, Nat.le_trans hs.2 hg.size⟩) (fun _ _ _ _ _ hs _ _ => hs) ⟨unhide HI, Nat.le_refl _⟩
      (fun x a' W => ∃ Bx, X.heap.size ≤ Bx ∧ (∃ c0 c1 c2, jv x.1 = .agg #[c0, c1, c2] ∧ W.heap[Bx]? = some (.cells #[c0, c1, c2] 50)) ∧ a' = { tmps := #[.agg #[.slice ja n jc, .slice ca nc cc], .pointer (some ⟨g, 0, none⟩), .pointer none, .int .i64 (n : Int), .pointer (some ⟨BP, 0, none⟩), .int .i64 (x.1 : Int), .pointer (some ⟨Bx, 0, none⟩), undef, undef, .pointer (some ⟨g, 0, none⟩), .slice ja n jc, .int .i64 (n : Int), v0, v1, v2, v3, v4, v5, v6, v7, v8, v9, v10, .pointer (some ⟨g, 0, none⟩), .slice ja n jc, .func (.func 30) #[] #[.pointer (some ⟨w1.heap.size, 0, none⟩)], .int .i64 (x.1 : Int), jv x.1, undef, undef, undef, undef, undef, undef, undef, undef, undef, undef, undef, undef, undef, undef, undef, undef, undef, undef, undef, undef, undef, undef, undef, undef, undef, undef, undef, undef, undef, undef, undef, undef, undef, undef, undef, undef, undef, undef, undef, undef, undef, undef, undef, undef, undef, undef, undef, undef, undef, undef, undef, undef, undef, undef, undef, undef], defers := [] })
      (fun x a' _ A B row hs hg hr => by
        obtain ⟨Bx, h1, ⟨c0, c1, c2, h2, h3⟩, h4⟩ := hs
        exact ⟨Bx, h1, ⟨c0, c1, c2, h2, (IsC.own ⟨_, _, _, h3⟩ hg (fun r e => (hr r e).2)).trans h3⟩, h4⟩)
      ?assign ?body ?done ?stop)
    case assign =>
      rintro l pre x W K hi hK
      obtain ⟨a1, a2, d1, d2, nu, hjv, _⟩ := (unhide HJV).2 x.1 x.2
      dsimp only
      simp only [hjv]
      gi_wp2
      exact hK _ _ ((KeepsOthers.alloc _ _).from _) (fun a v _ hv => ((Below.refl _ W).alloc (Nat.le_refl _) _ |>.cell (p := a) (World.block_lt_of_cell? W _ hv)).trans hv) ⟨hi.1.later (below_new _ _), Nat.le_trans hi.2 (by simp)⟩ ⟨W.heap.size, hi.2, ⟨_, _, _, hjv, heap_alloc_new _ _⟩, by rw [hjv]⟩
    case body =>
      rintro l pre x a' W hl - ⟨hI1, hXW⟩ ⟨Bx, hBx, ⟨c0, c1, c2, hj, hb⟩, rfl⟩ hlt
      obtain ⟨a1, a2, d1, d2, nu, hjv, hrows⟩ := (unhide HJV).2 x.1 x.2
      rw [hjv] at hj
      simp only [Value.agg.injEq, Array.mk.injEq, List.cons.injEq, and_true] at hj
      obtain ⟨rfl, rfl, rfl⟩ := hj
      rw [hjv]
      obtain ⟨hT, hsp⟩ := stL_bound (unhide HR) r pre
      have hp7 : pre.length < 7 := by have := (unhide HN).1; omega
      have hr2 := (unhide HRB).1
      have HPT := hide (stL_snoc p r pre x)
      obtain ⟨T, hTT⟩ : ∃ T, T = (stL p r pre).1 := ⟨_, rfl⟩
      obtain ⟨sp, hss⟩ : ∃ s, s = (stL p r pre).2 := ⟨_, rfl⟩
      rw [← hTT] at hT hI1
      rw [← hss] at hsp hI1
      have HTS := hide (And.intro hTT hss)
      obtain ⟨x, hxn⟩ := x
      simp only at *
      have hxq : x < q.p.jobs.length := by rw [(unhide HEW).2]; exact hxn
      have b0 : W.cell? ⟨Bx, 0, none⟩ = some (.int .i64 (lgN p x : Int)) := blk_cell hb rfl
      have b1 : W.cell? ⟨Bx, 1, none⟩ = some (.slice a1 (aftL p x).length d1) := blk_cell hb rfl
      have rp := hI1.rp
      have c2 := hI1.r.c2
      have ct := hI1.r.ct x hxq
      have ft := hI1.ft x
      have hqd := unhide HQD
      obtain ⟨R, hRR⟩ : ∃ R, R = q.R := ⟨_, rfl⟩
      obtain ⟨RT, hRT⟩ : ∃ R, R = q.RT := ⟨_, rfl⟩
      obtain ⟨lg, hlg⟩ : ∃ k, k = lgN p x := ⟨_, rfl⟩
      obtain ⟨na, hna⟩ : ∃ k, k = (aftL p x).length := ⟨_, rfl⟩
      have hl30 : lg ≤ 30 := by
        obtain ⟨j, hj⟩ : ∃ y, p.jobs[x]? = some y := at_some hxn
        have h1 := ((unhide HR).j x j hj).1
        have h2 := lgN_eq (unhide HR) hj
        omega
      have HGEO := hide (show R ≠ RT ∧ BP ≠ R ∧ BP ≠ RT ∧ R ≠ Bx ∧ RT ≠ Bx ∧ w.heap.size ≤ R ∧ w.heap.size ≤ RT ∧ R ≠ w1.heap.size ∧ RT ≠ w1.heap.size from by
        have h1 := unhide HLT
        have h2 := unhide HZX
        have h3 := hqd.ne.1
        have h4 := hqd.p1
        have h5 := hqd.p2
        have h6 := hqd.zR
        have h7 := hqd.zT
        rw [(unhide HEW).1] at h6 h7
        rw [hRR, hRT]
        omega)
      have c2 : W.cell? ⟨R, 2, none⟩ = some (.slice (some ⟨RT, 0, none⟩) n n) := by rw [hRR, hRT, (unhide HN).1, ← (unhide HEW).2]; exact c2
      have ct : W.cell? ⟨RT, x, none⟩ = some (.int .i64 (T x : Int)) := by rw [hRT]; exact ct
      rw [← hRR] at rp
      rw [← hRT] at ft
      rw [← hlg] at b0
      rw [← hna] at b1 hrows
      rw [← hlg, ← hna]
      have HXW := hide hXW
      have HI1 := hide hI1
      have HROW := hide hrows
      have HXN := hide (And.intro hxn hxq)
      have HEQ := hide (And.intro hRR (And.intro hRT (And.intro hlg hna)))
      have hTx := hT x
      have HTB := hide hT
      have hxi : (x : Int) < (n : Int) := by have := (unhide HN).1; omega
      have hna7 : na ≤ 7 := by
        obtain ⟨j, hj⟩ : ∃ y, p.jobs[x]? = some y := at_some hxn
        have h1 := ((unhide HR).j x j hj).2.1
        rw [← aftL_eq hj] at h1
        omega
      have ew : IntKind.i64.wrap ((T x : Int) + (lg : Int)) = (T x : Int) + (lg : Int) := by rw [wrapI64]; unfold wrap64; omega
      clear hI1 hrows hRR hRT hlg hna hT hTT hss hqd hjv hb hxq hl hXW hJX hwX cX p0 p1
      gi_wp2
      refine region_round (m := 11) rfl (by kernel_rfl) (by kernel_rfl) rfl ?_
      simp only [List.set_cons_succ, List.set_cons_zero, nopOf]
      repeat (quiet_step (fail))
      refine wpQuiet_nil ?_
      rintro _ ⟨nq, rfl⟩
      have gx1 : ¬ RT = Bx := (unhide HGEO).2.2.2.2.1
      have gx2 : ¬ Bx = RT := fun e => gx1 e.symm
      have HI2 := hide (show RoI q BP (tl1 p T x) sp ((W.drewN nq).setCell ⟨RT, x, none⟩ (.int .i64 ((T x : Int) + (lg : Int)))) from by
        have h1 := ((unhide HI1).later (below_drewN (Below.refl W.heap.size W) nq)).setT (unhide HQD) (unhide HXN).2 (T x + lg)
        rw [Int.natCast_add, ← (unhide HEQ).2.1, (unhide HEQ).2.2.1] at h1
        rw [(unhide HEQ).2.2.1]
        exact h1)
      have HD2 := hide (show RdK q w.heap.size w1.heap.size Bx W ((W.drewN nq).setCell ⟨RT, x, none⟩ (.int .i64 ((T x : Int) + (lg : Int)))) from (RdK.drewN W nq).trans (RdK.set _ _ (unhide HGEO).2.2.2.2.2.2.1 (unhide HGEO).2.2.2.2.2.2.2.2 gx1))
      gi_wp2
      obtain ⟨W2, hW2⟩ : ∃ X, X = (W.drewN nq).setCell ⟨RT, x, none⟩ (.int .i64 ((T x : Int) + (lg : Int))) := ⟨_, rfl⟩
      rw [← hW2] at HI2 HD2
      rw [← hW2]
      clear hW2 ct c2 rp ft ew
      have HTB1 := hide (show ∀ i, tl1 p T x i ≤ 210 from fun i => by
        have h1 := unhide HTB i
        have h2 := unhide HTB x
        unfold tl1
        by_cases e : i = x
        · subst e
          rw [upd_same, ← (unhide HEQ).2.2.1]
          omega
        · rw [upd_other _ _ e]
          omega)
      gi_loopw [8, 42] (fun _ iv wr => ∃ i : Nat, i ≤ na ∧ iv = .int .i64 (i : Int) ∧ Hid (RoI q BP (tlA x (tl1 p T x) ((aftL p x).take i)) sp wr) ∧ Hid (RdK q w.heap.size w1.heap.size Bx W wr)) (fun _ iv _ => na - (intOf iv).toNat)
      case atStart => exact ⟨0, Nat.zero_le _, rfl, by rw [List.take_zero]; exact HI2, HD2⟩
      case round =>
        obtain ⟨i, hi, rfl, HIr, HDr⟩ := hrel
        by_cases hin : i < na
        · have hin' : (i : Int) < (na : Int) := by omega
          obtain ⟨av, hav⟩ : ∃ y, (aftL p x)[i]? = some y := at_some (by rw [← (unhide HEQ).2.2.2]; exact hin)
          obtain ⟨ab, ao, rfl, ra, _⟩ := (unhide HROW).int hav
          have ra : wr.cell? ⟨ab, ao + i, none⟩ = some (.int .i64 av) := by
            have hbel := (unhide HIr).r.bel
            have e : (qT q (tlA x (tl1 p T x) ((aftL p x).take i))).w0 = w := (unhide HEW).1
            rw [e] at hbel
            exact cell_keep hbel ra
          obtain ⟨a, rfl⟩ : ∃ a : Nat, av = (a : Int) := by
            obtain ⟨j, hj⟩ : ∃ y, p.jobs[x]? = some y := at_some (unhide HXN).1
            have h1 := ((unhide HR).j x j hj).2.2.2.2 av (by rw [← aftL_eq hj]; exact List.mem_of_getElem? hav)
            exact ⟨av.toNat, by omega⟩
          have hax : a < x := by
            obtain ⟨j, hj⟩ : ∃ y, p.jobs[x]? = some y := at_some (unhide HXN).1
            have h1 := ((unhide HR).j x j hj).2.2.2.2 (a : Int) (by rw [← aftL_eq hj]; exact List.mem_of_getElem? hav)
            omega
          have haq : a < q.p.jobs.length := by have := (unhide HXN).2; omega
          have hai : (a : Int) < (n : Int) := by omega
          have HTN := hide (show upd (tlA x (tl1 p T x) ((aftL p x).take i)) a (max (tlA x (tl1 p T x) ((aftL p x).take i) a) (tlA x (tl1 p T x) ((aftL p x).take i) x)) = tlA x (tl1 p T x) ((aftL p x).take (i + 1)) from by rw [take_next hav, tlA_snoc, Int.toNat_natCast])
          obtain ⟨Ti, hTi⟩ : ∃ T', T' = tlA x (tl1 p T x) ((aftL p x).take i) := ⟨_, rfl⟩
          have hTib : ∀ k, Ti k ≤ 210 := by rw [hTi]; exact tlA_le (unhide HTB1) _
          rw [← hTi] at HIr HTN
          have rp := (unhide HIr).rp
          rw [← (unhide HEQ).1] at rp
          have c2 : wr.cell? ⟨R, 2, none⟩ = some (.slice (some ⟨RT, 0, none⟩) n n) := by rw [(unhide HEQ).1, (unhide HEQ).2.1, (unhide HN).1, ← (unhide HEW).2]; exact (unhide HIr).r.c2
          have ca' : wr.cell? ⟨RT, a, none⟩ = some (.int .i64 (Ti a : Int)) := by rw [(unhide HEQ).2.1]; exact (unhide HIr).r.ct a haq
          have cx' : wr.cell? ⟨RT, x, none⟩ = some (.int .i64 (Ti x : Int)) := by rw [(unhide HEQ).2.1]; exact (unhide HIr).r.ct x (unhide HXN).2
          have ft : wr.frozen? ⟨RT, a, none⟩ = false := by rw [(unhide HEQ).2.1]; exact (unhide HIr).ft a
          have HAV := hide (And.intro hav (And.intro hin haq))
          clear hTi hav hTib haq
          gi_wp2
          refine region_round (m := 21) rfl (by kernel_rfl) (by kernel_rfl) rfl ?_
          simp only [List.set_cons_succ, List.set_cons_zero, nopOf]
          repeat (quiet_step (fail))
          refine wpQuiet_nil ?_
          rintro _ ⟨nq2, rfl⟩
          clear rp c2 cx'
          obtain ⟨mx, hmx⟩ : ∃ m : Int, m = (if Ti a < Ti x then (Ti x : Int) else (Ti a : Int)) := ⟨_, rfl⟩
          rw [← hmx]
          have HMX := hide hmx
          clear hmx
          gi_wp2
          go_roundw
          case rel => exact ⟨i + 1, by have := unhide HAV; omega, by go_num, hide (by
            rw [← unhide HTN]
            have h1 := ((unhide HIr).later (below_drewN (Below.refl wr.heap.size wr) nq2)).setT (unhide HQD) (unhide HAV).2.2 (max (Ti a) (Ti x))
            rw [show ((max (Ti a) (Ti x) : Nat) : Int) = mx from by rw [unhide HMX]; split <;> omega, ← (unhide HEQ).2.1] at h1
            exact h1), hide ((unhide HDr).trans ((RdK.drewN wr nq2).trans (RdK.set _ _ (unhide HGEO).2.2.2.2.2.2.1 (unhide HGEO).2.2.2.2.2.2.2.2 gx1)))⟩
          case measure => have := (unhide HAV).2.1; simp [intOf]; omega
        · obtain rfl : na = i := by omega
          have HTN := hide (show tlA x (tl1 p T x) ((aftL p x).take na) = tlA x (tl1 p T x) (aftL p x) from by rw [(unhide HEQ).2.2.2, List.take_length])
          rw [unhide HTN] at HIr
          have HFIN := hide (show stL p r (pre ++ [⟨x, hxn⟩]) = (tlA x (tl1 p T x) (aftL p x), max sp (tlA x (tl1 p T x) (aftL p x) x)) from by
            rw [unhide HPT, stT, ← (unhide HTS).1, ← (unhide HTS).2])
          obtain ⟨Ti, hTi⟩ : ∃ T', T' = tlA x (tl1 p T x) (aftL p x) := ⟨_, rfl⟩
          rw [← hTi] at HIr HFIN
          have rp := (unhide HIr).rp
          rw [← (unhide HEQ).1] at rp
          have c2 : wr.cell? ⟨R, 2, none⟩ = some (.slice (some ⟨RT, 0, none⟩) n n) := by rw [(unhide HEQ).1, (unhide HEQ).2.1, (unhide HN).1, ← (unhide HEW).2]; exact (unhide HIr).r.c2
          have c3 : wr.cell? ⟨R, 3, none⟩ = some (.int .i64 (sp : Int)) := by rw [(unhide HEQ).1]; exact (unhide HIr).r.c3
          have cx' : wr.cell? ⟨RT, x, none⟩ = some (.int .i64 (Ti x : Int)) := by rw [(unhide HEQ).2.1]; exact (unhide HIr).r.ct x (unhide HXN).2
          have ft : wr.frozen? ⟨R, 3, none⟩ = false := by rw [(unhide HEQ).1]; exact (unhide HIr).r.fr 3
          clear hTi hin hi
          gi_wp2
          refine region_round (m := 15) rfl (by kernel_rfl) (by kernel_rfl) rfl ?_
          simp only [List.set_cons_succ, List.set_cons_zero, nopOf]
          repeat (quiet_step (fail))
          refine wpQuiet_nil ?_
          rintro _ ⟨nq2, rfl⟩
          clear rp c2 cx'
          obtain ⟨mx, hmx⟩ : ∃ m : Int, m = (if sp < Ti x then (Ti x : Int) else (sp : Int)) := ⟨_, rfl⟩
          rw [← hmx]
          have HMX := hide hmx
          clear hmx
          gi_wp2
          have hd := (unhide HDr).trans ((RdK.drewN wr nq2).trans (RdK.set (B := R) (o := 3) _ (.int .i64 mx) (unhide HGEO).2.2.2.2.2.1 (unhide HGEO).2.2.2.2.2.2.2.1 (unhide HGEO).2.2.2.1))
          refine ⟨hd.k.from _, hd.b, ?_, Nat.le_trans (unhide HXW) hd.k.size⟩
          rw [unhide HFIN]
          have h1 := ((unhide HIr).later (below_drewN (Below.refl wr.heap.size wr) nq2)).setN (unhide HQD) (max sp (Ti x))
          rw [show ((max sp (Ti x) : Nat) : Int) = mx from by rw [unhide HMX]; split <;> omega, ← (unhide HEQ).1] at h1
          exact h1
    case done =>
      rintro D xs W hD rfl ⟨hI1, _⟩ hdef
      have rp := hI1.rp
      have HI1 := hide hI1
      have HDD := hide (And.intro hD hdef)
      clear hI1 hD hdef hJX cX p0 p1
      go_wp2
      refine ⟨by simp, .inl ⟨_, _, rfl, run_takeDeferred (unhide HDD).2, ?_⟩⟩
      refine ⟨_, results_tmp rfl _ _ _, ?_⟩
      obtain ⟨⟨S1, y1, hS1, hy1⟩, hM⟩ := unhide HEX
      have hT := TlI.all (unhide HR) r p.jobs.length (Nat.le_refl _)
      rw [Nat.sub_self] at hT
      have hI2 := (unhide HI1).own (B := X.heap.size) (by rw [(unhide HEW).1]; exact hwX.size) (grownBy_putObj' W D (.deferred none)) (fun r e => by cases e; exact ⟨(unhide HDD).1, _, (unhide HDD).2, rfl⟩)
      have hqd := unhide HQD
      have hq := unhide HQ
      clear HI HI1 HQD HBP
      subst hq
      refine ⟨⟨qT { p := p, w0 := w, R := BR, RT := BT, RS := BS, RB := BB, T := fun _ => 0, ja := ja, jc := jc, ca := ca, cc := cc } (stL p r (dnL p p.jobs.length)).1, (stL p r (dnL p p.jobs.length)).2, rfl, rfl, rfl, ⟨hM, unhide HR, fun i hi => ⟨hT.lg i (Nat.zero_le _) hi, ?_⟩, hqd.zR, hqd.zT, hqd.zS, hqd.zB, hqd.ne⟩, fun S y hf j hj => hT.on S y hf j (Nat.zero_le _) hj, hI2.r, fun S y hf => hT.sp S y hf ?_⟩⟩
      · have h1 := hT.on S1 y1 hy1 i (Nat.zero_le _) hi
        show (stL p r (dnL p p.jobs.length)).1 i ≤ 30
        omega
      · have := (unhide HRB).2 S y hf List.Pairwise.nil
        simp [sumL] at this
        exact this
    case stop =>
      rintro D c pre W _ _ h _
      exact h.elim
end Go.Proofs.YtgckgkllpkkpeaaDoor
