/-
  Puzzles: the program's together.
-/
import Derived.Test.YthoppmbmmplkiaaGreatDoorVL
import Derived.Deep.RegionLaw
namespace Go.Proofs.YthoppmbmmplkiaaGreatDoor
open Go.RowKit

/-- A span's cells. -/
def encS (s : Int × Int × Int) : List Value := [.int .i64 s.1, .int .i64 s.2.1, .int .i64 s.2.2]
/-- A span in its cells. -/
def SpE (_w : World) (cs : List Value) (s : Int × Int × Int) : Prop := cs = encS s
/-- The cells of spans. -/
def flatS (l : List (Int × Int × Int)) : List Value := l.flatMap encS
theorem flatS_len (l : List (Int × Int × Int)) : (flatS l).length = l.length * 3 := by
  induction l with
  | nil => rfl
  | cons a l ih => simp [flatS, encS] at *; omega
theorem flatS_at : ∀ {l : List (Int × Int × Int)} {i c : Nat} {t : Int × Int × Int}, l[i]? = some t → c < 3 → (flatS l)[i * 3 + c]? = (encS t)[c]?
  | [], _, _, _, h, _ => by simp at h
  | a :: l, 0, c, t, h, hc => by
    obtain rfl : a = t := by simpa using h
    rw [flatS, List.flatMap_cons, Nat.zero_mul, Nat.zero_add, List.getElem?_append_left (by show c < 3; exact hc)]
  | a :: l, i + 1, c, t, h, hc => by
    rw [flatS, List.flatMap_cons, List.getElem?_append_right (by show 3 ≤ _; omega), show (i + 1) * 3 + c - (encS a).length = i * 3 + c from by show (i + 1) * 3 + c - 3 = _; omega]
    exact flatS_at (l := l) (by simpa using h) hc
theorem flatS_snoc (l : List (Int × Int × Int)) (s : Int × Int × Int) : flatS (l ++ [s]) = flatS l ++ encS s := by simp [flatS]
theorem flatT_snoc2 (l : List (Int × Int)) (s t : Int × Int) : flatT (l ++ [s, t]) = flatT l ++ (encT s ++ encT t) := by simp [flatT]
/-- A row of spans of one's own. -/
def OwnS (w : World) (base : Nat) (v : Value) (l : List (Int × Int × Int)) : Prop := w.ownsRow base 166 3 v l.length (flatS l)
theorem OwnS.rows {w : World} {base : Nat} {v : Value} {l : List (Int × Int × Int)} (h : OwnS w base v l) : Rows 3 SpE w v l := by
  have hc := @World.ownsRow.cells _ _ _ _ _ _ _ h
  obtain ⟨_, ⟨rfl, h0⟩ | ⟨g, cap, cur, rfl, _, _, h6, h7, _⟩⟩ := h
  · obtain rfl : l = [] := List.eq_nil_of_length_eq_zero h0
    exact rows_nil _
  · refine ⟨_, cap, rfl, h6, h7, Or.inr ⟨g, 0, rfl, fun i x hx => ⟨encS x, rfl, fun j u hu => ?_, rfl⟩⟩⟩
    have hj : j < 3 := (List.getElem?_eq_some_iff.1 hu).1
    have := hc (g := g) rfl _ _ ((flatS_at hx hj).trans hu)
    rw [show (⟨g, 0, none⟩ : Addr).add (i * 3 + j) = ⟨g, 0 + (i * 3 + j), none⟩ by unfold Addr.add; split <;> simp_all] at this
    exact this
/-- append onto a row of one's own. -/
theorem run_push {P : Program} {w w0 : World} {T ty e : TypeId} {z : Value} {size bytes : Nat} (ht : P.underlying T = some (.slice e)) (hinfo : (P.info? e).map (fun i => (i.zero, i.size, i.bytes)) = some (some z, size, bytes))
    (hzs : z.cells.size = size) (hsz : 0 < size) (hby : bytes ≤ 1000) (base : Nat) (v : Value) {n : Nat} {xs : List Value} (hown : w0.ownsRow base e size v n xs) (m : Nat) (news : List Value) (hl : news.length = m * size) (h1 : ∀ u ∈ news, u.oneCell' = true) (hw : w = w0.alloc (.cells news.toArray e)) (hn : n + m ≤ 100000000) (hbase : base ≤ w0.heap.size) :
    ∃ v' w', (Builtin.append_ #[T, T] ty #[v, .slice (some ⟨w0.heap.size, 0, none⟩) m m]).run P w = .ok v' w' ∧ w'.ownsRow base e size v' (n + m) (xs ++ news) ∧ w.grownBy w' v.ownBlock := by
  obtain ⟨i0, hi, hz0, hz1, hz2⟩ := info_parts hinfo
  subst hw
  have hown' := own_later hown (below_new w0 (.cells news.toArray e))
  obtain ⟨v', w', hr, h2, h3, _⟩ := run_append_own (P := P) (w0.alloc (.cells news.toArray e)) base T ty e i0 z size bytes ht hi hz0 hz1 hz2 hzs hsz v n xs hown' ⟨w0.heap.size, 0, none⟩ m m news hl
    (fun j u hu => by rw [show (⟨w0.heap.size, 0, none⟩ : Addr).add j = ⟨w0.heap.size, j, none⟩ by rcases j with _ | j <;> simp [Addr.add], new_cell rfl]; simpa using hu) h1 (by unfold maxLen; omega) (by have : (n + m) * bytes ≤ (n + m) * 1000 := Nat.mul_le_mul_left _ hby; omega) (by simp; omega)
  exact ⟨v', w', hr, h2, h3⟩
theorem wpList_pushN {P : Program} {ops : Array Oper} {rest : List Oper} {o : Oper} {A : Act} {w w0 : World} {Q : Exit → Act → World → Prop} (hgd : o.guard = none) (s x : Operand) (T : TypeId)
    (ho : o.op = .call { callee := .builtin .append, args := #[s, x], argTypes := #[T, T] }) {e : TypeId} {z : Value} {size bytes : Nat} (ht : P.underlying T = some (.slice e)) (hinfo : (P.info? e).map (fun i => (i.zero, i.size, i.bytes)) = some (some z, size, bytes))
    (hzs : z.cells.size = size) (hsz : 0 < size) (hby : bytes ≤ 1000) (base : Nat) (v : Value) {n : Nat} {xs : List Value} (hs : A.eval s = v) (hown : w0.ownsRow base e size v n xs)
    (m : Nat) (news : List Value) (hl : news.length = m * size) (h1 : ∀ u ∈ news, u.oneCell' = true) (hx : A.eval x = .slice (some ⟨w0.heap.size, 0, none⟩) m m) (hw : w = w0.alloc (.cells news.toArray e)) (hn : n + m ≤ 100000000) (hbase : base ≤ w0.heap.size)
    (h : ∀ v' w', w'.ownsRow base e size v' (n + m) (xs ++ news) → w.grownBy w' v.ownBlock → wpList P ops Q rest (A.put o.dst v') w') : wpList P ops Q (o :: rest) A w := by
  obtain ⟨v', w', hr, h2, h3⟩ := run_push (ty := o.type) ht hinfo hzs hsz hby base v hown m news hl h1 hw hn hbase
  refine wpList_plain hgd fun _ hK => ?_
  unfold Oper.wp execOp
  simp only [ho, resolve, invoke, builtin, Sem.run_bind, Sem.run_pure, Result.andThen_ok, List.map_toArray, List.map_cons, List.map_nil, hs, hx, hr]
  exact hK _ _ (h v' w' h2 h3)
theorem step_push {P : Program} {ops : Array Oper} {o : Oper} {A : Act} {w w0 : World} {K : Act → World → Prop} {Q : Exit → Act → World → Prop} {E : Prop} (hgd : o.guard = none) (s x : Operand) (T : TypeId)
    (ho : o.op = .call { callee := .builtin .append, args := #[s, x], argTypes := #[T, T] }) {e : TypeId} {z : Value} {size bytes : Nat} (ht : P.underlying T = some (.slice e)) (hinfo : (P.info? e).map (fun i => (i.zero, i.size, i.bytes)) = some (some z, size, bytes))
    (hzs : z.cells.size = size) (hsz : 0 < size) (hby : bytes ≤ 1000) (base : Nat) (v : Value) {n : Nat} {xs : List Value} (hs : A.eval s = v) (hown : w0.ownsRow base e size v n xs)
    (m : Nat) (news : List Value) (hl : news.length = m * size) (h1 : ∀ u ∈ news, u.oneCell' = true) (hx : A.eval x = .slice (some ⟨w0.heap.size, 0, none⟩) m m) (hw : w = w0.alloc (.cells news.toArray e)) (hn : n + m ≤ 100000000) (hbase : base ≤ w0.heap.size)
    (h : ∀ v' w', w'.ownsRow base e size v' (n + m) (xs ++ news) → w.grownBy w' v.ownBlock → K (A.put o.dst v') w') : if Region.wanted o (yielded ops A.tmps) = true then Oper.wp P o A w K Q else E := by
  obtain ⟨v', w', hr, h2, h3⟩ := run_push (ty := o.type) ht hinfo hzs hsz hby base v hown m news hl h1 hw hn hbase
  rw [if_pos (by simp [Region.wanted, hgd])]
  unfold Oper.wp execOp
  simp only [ho, resolve, invoke, builtin, Sem.run_bind, Sem.run_pure, Result.andThen_ok, List.map_toArray, List.map_cons, List.map_nil, hs, hx, hr]
  exact h v' w' h2 h3
theorem info_t : (Tryz.prog.info? 173).map (fun i => (i.zero, i.size, i.bytes)) = some (some (.agg #[.int .i64 0, .int .i64 0]), 2, 16) := by kernel_rfl
theorem info_s : (Tryz.prog.info? 166).map (fun i => (i.zero, i.size, i.bytes)) = some (some (.agg #[.int .i64 0, .int .i64 0, .int .i64 0]), 3, 24) := by kernel_rfl
theorem turns_append : ∀ (l m : List (Int × Int × Int)), turnsOf (l ++ m) = turnsOf l ++ turnsOf m
  | [], _ => rfl
  | a :: l, m => by rw [List.cons_append, turnsOf, turnsOf, turns_append l m, List.append_assoc]
theorem turns_len : ∀ (l : List (Int × Int × Int)), (turnsOf l).length ≤ l.length * 2
  | [] => by simp [turnsOf]
  | a :: l => by
    have := turns_len l
    rw [turnsOf, List.length_append, List.length_cons]
    split <;> simp <;> omega
/-- The cells of a span of a row. -/
theorem Rows.span {w : World} {a : Option Addr} {n c i : Nat} {L : List (Int × Int × Int)} {s : Int × Int × Int} (h : Rows 3 SpE w (.slice a n c) L) (hx : L[i]? = some s) : ∃ b o, a = some ⟨b, o, none⟩ ∧ w.cell? ⟨b, o + i * 3, none⟩ = some (.int .i64 s.1) ∧ w.cell? ⟨b, o + i * 3 + 1, none⟩ = some (.int .i64 s.2.1) ∧ w.cell? ⟨b, o + i * 3 + 2, none⟩ = some (.int .i64 s.2.2) := by
  obtain ⟨b, o, rfl, cs, _, hcs, rfl⟩ := h.at hx
  exact ⟨b, o, rfl, by simpa using hcs 0 _ rfl, hcs 1 _ rfl, hcs 2 _ rfl⟩
/-- The cells of a turn of a row. -/
theorem Rows.turn {w : World} {a : Option Addr} {n c i : Nat} {L : List (Int × Int)} {s : Int × Int} (h : Rows 2 TuE w (.slice a n c) L) (hx : L[i]? = some s) : ∃ b o, a = some ⟨b, o, none⟩ ∧ w.cell? ⟨b, o + i * 2, none⟩ = some (.int .i64 s.1) ∧ w.cell? ⟨b, o + i * 2 + 1, none⟩ = some (.int .i64 s.2) := by
  obtain ⟨b, o, rfl, cs, _, hcs, rfl⟩ := h.at hx
  exact ⟨b, o, rfl, by simpa using hcs 0 _ rfl, hcs 1 _ rfl⟩
theorem stayT (K : Value → Prop) (e : TypeId) : Stays K e TuE := fun _ _ _ _ h _ => h
theorem stayS (K : Value → Prop) (e : TypeId) : Stays K e SpE := fun _ _ _ _ h _ => h
theorem three_cells (w : World) (t : TypeId) (u0 u1 u2 : Value) : (w.alloc (.cells #[u0, u1, u2] t)).cell? ⟨w.heap.size, 0, none⟩ = some u0 ∧ (w.alloc (.cells #[u0, u1, u2] t)).cell? ⟨w.heap.size, 1, none⟩ = some u1 ∧ (w.alloc (.cells #[u0, u1, u2] t)).cell? ⟨w.heap.size, 2, none⟩ = some u2 := by
  refine ⟨?_, ?_, ?_⟩ <;> rw [new_cell rfl] <;> rfl
/-- A number that is not great. -/
def Ok9 (x : Int) : Prop := -1000000000 ≤ x ∧ x ≤ 1000000000
theorem turns_ok : ∀ {S : List (Int × Int × Int)}, (∀ s ∈ S, Ok9 s.2.2) → ∀ t ∈ turnsOf S, Ok9 t.2
  | [], _, t, ht => by simp [turnsOf] at ht
  | a :: l, h, t, ht => by
    rw [turnsOf, List.mem_append] at ht
    rcases ht with ht | ht
    · have := h a (by simp)
      split at ht
      · simp at ht
        rcases ht with rfl | rfl
        · exact this
        · unfold Ok9 at *
          simp only
          omega
      · simp at ht
    · exact turns_ok (fun s hs => h s (by simp [hs])) t ht
set_option maxHeartbeats 8000000 in
set_option maxRecDepth 8000 in
/-- together. -/
theorem tog_any {v : Value} {S : List (Int × Int × Int)} (w : World) (h : Rows 3 SpE w v S) (h8 : S.length ≤ 8) (hu : ∀ s ∈ S, Ok9 s.2.2) :
    Calls Tryz.prog 117 #[v] w fun e w' => (∃ (D : List (Int × Int)) (ov : Value), e = .returned ov ∧ D.Perm (turnsOf S) ∧ D.Pairwise (fun a b => a.1 ≤ b.1) ∧ Rows 3 SpE w' ov (outs 0 D)) ∧ Below w.heap.size w w' := by
  obtain ⟨a, c, rfl⟩ := h.shape
  have HR := hide h
  have HU := hide hu
  clear h hu
  obtain ⟨n, hn⟩ : ∃ n, n = S.length := ⟨_, rfl⟩
  rw [← hn] at h8 HR ⊢
  have HN := hide hn
  clear hn
  go_enter Tryz.func117, Tryz.ntmps117
  go_wp2_with fail
  go_loopg [3, 5, 12] n (fun gk tv _ iv wr => ∃ (i : Nat), i ≤ n ∧ gk = n - i ∧ iv = .int .i64 (i : Int) ∧ Hid (Below w.heap.size w wr) ∧ Hid (OwnT wr w.heap.size tv (turnsOf (S.take i))))
  case atStart => exact ⟨0, by omega, by omega, rfl, hide (Below.refl _ _), hide (World.ownsRow_nil _ _ _ _)⟩
  case round =>
    obtain ⟨i, hi, hgk, rfl, HB, HO⟩ := hrel
    by_cases hin : i < n
    · obtain ⟨s, hs⟩ : ∃ s, S[i]? = some s := ⟨S[i]'(by have := unhide HN; omega), by simp⟩
      obtain ⟨b, o, rfl, d0, d1, d2⟩ := (unhide HR).span hs
      have d0 := cell_keep (unhide HB) d0
      have d1 := cell_keep (unhide HB) d1
      have d2 := cell_keep (unhide HB) d2
      have hin' : (i : Int) < (n : Int) := by omega
      have ou := unhide HU s (List.mem_of_getElem? hs)
      obtain ⟨f, t, u⟩ := s
      simp only at d0 d1 d2 ou
      have HS := hide (take_next hs)
      clear hs
      obtain ⟨X, rfl⟩ : ∃ X, X = wr := ⟨_, rfl⟩
      go_upto_region 5 with fail
      have kn := below_new X (.cells #[.int .i64 f, .int .i64 t, .int .i64 u] 166)
      obtain ⟨e0, e1, e2⟩ := three_cells X 166 (.int .i64 f) (.int .i64 t) (.int .i64 u)
      obtain ⟨g2, hg2⟩ : ∃ G, G = X.heap.size := ⟨_, rfl⟩
      obtain ⟨V, hV⟩ : ∃ Y, Y = X.alloc (.cells #[.int .i64 f, .int .i64 t, .int .i64 u] 166) := ⟨_, rfl⟩
      rw [← hV, ← hg2]
      rw [← hV] at kn e0 e1 e2
      rw [← hg2] at e0 e1 e2
      have HO := hide (own_later (unhide HO) kn)
      have HB := hide (below_keep kn (unhide HB))
      have hbs : w.heap.size ≤ V.heap.size := (unhide HB).size
      clear hV hg2 kn d0 d1 d2
      by_cases hft : f < t
      · have HT := hide (show turnsOf (S.take (i + 1)) = turnsOf (S.take i) ++ [(f, u), (t, -u)] by rw [unhide HS, turns_append, turnsOf, turnsOf]; simp [hft])
        have hng : wrap64 (-u) = -u := by unfold Ok9 at ou; unfold wrap64; omega
        have hln : (turnsOf (S.take i)).length + 2 ≤ 100000000 := by have := turns_len (S.take i); rw [List.length_take] at this; omega
        have HOU := hide ou
        clear ou
        go_wp2_with (at_builtin; refine wpList_pushN rfl _ _ _ rfl Tryz.underlying171 info_t rfl (by decide) (by decide) w.heap.size _ rfl (unhide HO) 2 [.int .i64 f, .int .i64 u, .int .i64 t, .int .i64 (-u)] rfl (by intro q hq; simp at hq; rcases hq with rfl | rfl | rfl | rfl <;> rfl) rfl rfl hln hbs ?_; intro ov' Z1 hO1 hg1)
        go_roundg (n - (i + 1))
        case measure => omega
        case rel =>
          refine ⟨i + 1, by omega, rfl, by go_num, hide ((below_keep (below_new _ _) (unhide HB)).grown hg1 (below_keep (below_new _ _) (unhide HB)).size fun k hk => (World.ownsRow.lt (unhide HO) k hk).1), hide ?_⟩
          rw [unhide HT, OwnT, List.length_append, flatT_snoc2]
          exact hO1
      · have HT := hide (show turnsOf (S.take (i + 1)) = turnsOf (S.take i) by rw [unhide HS, turns_append, turnsOf, turnsOf]; simp [hft])
        go_wp2
        go_roundg (n - (i + 1))
        case measure => omega
        case rel => exact ⟨i + 1, by omega, rfl, by go_num, HB, by rw [unhide HT]; exact HO⟩
    · obtain rfl : n = i := by omega
      rw [show S.take n = S from by rw [unhide HN, List.take_length]] at HO
      clear hin hi hgk
      obtain ⟨X, rfl⟩ : ∃ X, X = wr := ⟨_, rfl⟩
      have hl16 : (turnsOf S).length ≤ 16 := by have := turns_len S; have := unhide HN; omega
      go_wp2_with fail
      go_fit (sortT_any (unhide HO) (by omega))
      rintro e W1 ⟨rfl, ⟨D, hp, hs, hr⟩, hb⟩
      have HB := hide ((unhide HB).trans hb)
      have hl : D.length ≤ 16 := by rw [hp.length_eq]; exact hl16
      have HD := hide (And.intro hp hs)
      have HOK := hide (show ∀ t ∈ D, Ok9 t.2 from fun t ht => turns_ok (unhide HU) t (hp.mem_iff.1 ht))
      obtain ⟨ta, tc, rfl⟩ := hr.shape
      have HT := hide hr
      clear hp hs hr hb hl16 HO
      obtain ⟨m, hm⟩ : ∃ m, m = D.length := ⟨_, rfl⟩
      rw [← hm] at HT hl ⊢
      have HM := hide hm
      clear hm
      go_wp2_with fail
      go_loopg [6, 7, 8, 9, 40] m (fun gk ov uv _ _ iv wr => ∃ (i : Nat) (u : Int) (O : List (Int × Int × Int)), i ≤ m ∧ gk = m - i ∧ uv = .int .i64 u ∧ iv = .int .i64 (i : Int) ∧ O.length ≤ i ∧ Hid (Below W1.heap.size W1 wr) ∧ Hid (OwnS wr W1.heap.size ov O) ∧ Hid (outs 0 D = O ++ outs u (D.drop i)) ∧ Hid (-1000000000 * (i : Int) ≤ u ∧ u ≤ 1000000000 * (i : Int)))
      case atStart => exact ⟨0, 0, [], by omega, by omega, rfl, rfl, by simp, hide (Below.refl _ _), hide (World.ownsRow_nil _ _ _ _), hide rfl, hide ⟨by decide, by decide⟩⟩
      case round =>
        obtain ⟨i, u, O, hi, hgk, rfl, rfl, hOl, HBL, HO, HE, HUB⟩ := hrel
        by_cases hin : i < m
        · obtain ⟨t, ht⟩ : ∃ t, D[i]? = some t := ⟨D[i]'(by have := unhide HM; omega), by simp⟩
          obtain ⟨b, o, rfl, d0, d1⟩ := (unhide HT).turn ht
          have d0 := cell_keep (unhide HBL) d0
          have d1 := cell_keep (unhide HBL) d1
          have hin' : (i : Int) < (m : Int) := by omega
          have ot := unhide HOK t (List.mem_of_getElem? ht)
          obtain ⟨t1, t2⟩ := t
          simp only at d0 d1 ot
          have HDR := hide (show D.drop i = (t1, t2) :: D.drop (i + 1) from by obtain ⟨q1, q2⟩ := List.getElem?_eq_some_iff.1 ht; rw [List.drop_eq_getElem_cons q1, q2])
          clear ht
          obtain ⟨Y, rfl⟩ : ∃ X, X = wr := ⟨_, rfl⟩
          go_upto_region 14 with fail
          have kn := below_new Y (.cells #[.int .i64 t1, .int .i64 t2] 173)
          obtain ⟨e0, e1⟩ := two_new Y 173 (.int .i64 t1) (.int .i64 t2)
          obtain ⟨g2, hg2⟩ : ∃ G, G = Y.heap.size := ⟨_, rfl⟩
          obtain ⟨V, hV⟩ : ∃ Z, Z = Y.alloc (.cells #[.int .i64 t1, .int .i64 t2] 173) := ⟨_, rfl⟩
          rw [← hV, ← hg2]
          rw [← hV] at kn e0 e1
          rw [← hg2] at e0 e1
          have HO := hide (own_later (unhide HO) kn)
          have HBL := hide (below_keep kn (unhide HBL))
          have hbs : W1.heap.size ≤ V.heap.size := (unhide HBL).size
          have hsu : wrap64 (u + t2) = u + t2 := by have := unhide HUB; unfold Ok9 at ot; unfold wrap64; omega
          have HUB' := hide (show -1000000000 * ((i + 1 : Nat) : Int) ≤ u + t2 ∧ u + t2 ≤ 1000000000 * ((i + 1 : Nat) : Int) by have := unhide HUB; unfold Ok9 at ot; omega)
          have hi16 : (i : Int) + 1 ≤ 100 := by omega
          clear hV hg2 kn d0 d1 ot
          go_upto_region 15 with fail
          by_cases hj : i + 1 < m
          · obtain ⟨r, hr⟩ : ∃ t, D[i + 1]? = some t := ⟨D[i + 1]'(by have := unhide HM; omega), by simp⟩
            obtain ⟨b', o', eb, f0, f1⟩ := (unhide HT).turn hr
            obtain ⟨rfl, rfl⟩ : b = b' ∧ o = o' := by simpa using eb
            have f0 := cell_keep (unhide HBL) f0
            obtain ⟨r1, r2⟩ := r
            simp only at f0
            have HDR2 := hide (show D.drop (i + 1) = (r1, r2) :: D.drop (i + 1 + 1) from by obtain ⟨q1, q2⟩ := List.getElem?_eq_some_iff.1 hr; rw [List.drop_eq_getElem_cons q1, q2])
            clear hr eb f1
            have hj' : (i : Int) + 1 < (m : Int) := by omega
            by_cases hlt : t1 < r1
            · go_quiet (fail)
              have HO := hide (own_later (unhide HO) (below_drewN (Below.refl _ V) nq))
              have HBL := hide (below_drewN (unhide HBL) nq)
              have hbs : W1.heap.size ≤ (V.drewN nq).heap.size := (unhide HBL).size
              have e0 : (V.drewN nq).cell? ⟨g2, 0, none⟩ = some (.int .i64 t1) := e0
              have f0 : (V.drewN nq).cell? ⟨b, o + (i + 1) * 2, none⟩ = some (.int .i64 r1) := f0
              obtain ⟨Z, hZ⟩ : ∃ X, X = V.drewN nq := ⟨_, rfl⟩
              rw [← hZ] at HO HBL hbs e0 f0 ⊢
              clear hZ e1
              have HE2 := hide (show outs 0 D = (O ++ [(t1, r1, u + t2)]) ++ outs (u + t2) (D.drop (i + 1)) by rw [unhide HE, unhide HDR, unhide HDR2, outs, if_pos hlt, List.append_assoc])
              have HO := hide (own_later (unhide HO) (Below.refl _ Z).drew)
              have hln : O.length + 1 ≤ 100000000 := by omega
              go_upto_region 16 with fail
              obtain ⟨j, hjj⟩ : ∃ j, j = i + 1 := ⟨_, rfl⟩
              rw [← hjj] at f0
              have hwr : IntKind.i64.wrap ((i : Int) + 1) = (j : Int) := by rw [wrapI64, hjj]; unfold wrap64; omega
              have hjm : (j : Int) < (m : Int) := by omega
              have HJJ := hide hjj
              have HJ := hide hj
              clear hjj hj hj' hi16
              go_region_law (refine step_push (w0 := Z.drew) rfl (.tmp 65) (.tmp 76) 164 rfl Tryz.underlying164 info_s rfl (by decide) (by decide) W1.heap.size _ rfl (unhide HO) 1 [.int .i64 t1, .int .i64 r1, .int .i64 (u + t2)] rfl (by intro q hq; simp at hq; rcases hq with rfl | rfl | rfl <;> rfl) rfl rfl hln hbs ?_; intro ov' Z1 hO1 hg1)
              all_goals
                go_wp2
                go_roundg (m - (i + 1))
                case measure => have := unhide HJ; omega
                case rel =>
                  have hj := unhide HJ
                  refine ⟨i + 1, u + t2, O ++ [(t1, r1, u + t2)], by omega, rfl, (by first | rfl | (rw [hsu]) | simp [hsu]), by rw [unhide HJJ], by rw [List.length_append, List.length_singleton]; omega, hide ((below_keep (below_new _ _) (unhide HBL).drew).grown hg1 (below_keep (below_new _ _) (unhide HBL).drew).size fun k hk => (World.ownsRow.lt (unhide HO) k hk).1), hide ?_, HE2, HUB'⟩
                  rw [OwnS, List.length_append, flatS_snoc]
                  exact hO1
            · have HE2 := hide (show outs 0 D = O ++ outs (u + t2) (D.drop (i + 1)) by rw [unhide HE, unhide HDR, unhide HDR2, outs, if_neg hlt, List.nil_append])
              have hlt' : decide (t1 < r1) = false := decide_eq_false hlt
              go_quiet (fail)
              go_wp2
              go_roundg (m - (i + 1))
              case measure => omega
              case rel => exact ⟨i + 1, u + t2, O, by omega, rfl, (by first | rfl | (rw [hsu]) | simp [hsu]), by go_num, by omega, hide (below_drewN (unhide HBL) nq), hide (own_later (unhide HO) (below_drewN (Below.refl _ V) nq)), HE2, HUB'⟩
          · have hj' : decide ((i : Int) + 1 < (m : Int)) = false := decide_eq_false (by omega)
            have HE2 := hide (show outs 0 D = O ++ outs (u + t2) (D.drop (i + 1)) by rw [unhide HE, unhide HDR, show D.drop (i + 1) = [] from List.drop_eq_nil_of_le (by have := unhide HM; omega)]; rfl)
            go_quiet (fail)
            go_wp2
            go_roundg (m - (i + 1))
            case measure => omega
            case rel => exact ⟨i + 1, u + t2, O, by omega, rfl, (by first | rfl | (rw [hsu]) | simp [hsu]), by go_num, by omega, hide (below_drewN (unhide HBL) nq), hide (own_later (unhide HO) (below_drewN (Below.refl _ V) nq)), HE2, HUB'⟩
        · obtain rfl : m = i := by omega
          have hE := unhide HE
          rw [show D.drop m = [] from List.drop_eq_nil_of_le (by have := unhide HM; omega), show outs u [] = [] from rfl, List.append_nil] at hE
          have HEE := hide hE
          clear hin hi hgk hE
          go_wp2
          go_ret
          refine ⟨⟨D, _, rfl, (unhide HD).1, (unhide HD).2, ?_⟩, below_keep (unhide HBL) (unhide HB)⟩
          rw [unhide HEE]
          exact (unhide HO).rows
end Go.Proofs.YthoppmbmmplkiaaGreatDoor
