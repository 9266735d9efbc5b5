/-
  Jobs: the document's starting.
-/
import Derived.Test.YtgckgkllpkkpeaaDoorUE
import Derived.Test.YtgckgkllpkkpeaaDoorYN
namespace Go.Proofs.YtgckgkllpkkpeaaDoor
open Go.RowKit

/-- Numbers as cells. -/
def intC (l : List Int) : List Value := l.map fun x => Value.int .i64 x
theorem rows_own {w : World} {base : Nat} {t : TypeId} {v : Value} {n : Nat} {L : List Int} (h : w.ownsRow base t 1 v n (intC L)) (hn : L.length = n) (hb : ∀ x ∈ L, I64 x) : Rows 1 JE w v L := by
  subst hn
  have hc := @World.ownsRow.cells _ _ _ _ _ _ _ h
  obtain ⟨_, ⟨rfl, h0⟩ | ⟨g, cap, cur, rfl, _, _, h6, h7, _⟩⟩ := h
  · obtain rfl : L = [] := List.eq_nil_of_length_eq_zero h0
    exact rows_nil _
  · refine ⟨_, cap, rfl, h6, h7, Or.inr ⟨g, 0, rfl, fun i x hx => ⟨[.int .i64 x], rfl, fun j u hu => ?_, rfl, hb x (List.mem_of_getElem? hx)⟩⟩⟩
    rcases j with _ | j
    · obtain rfl : Value.int .i64 x = u := by simpa using hu
      have := hc (g := g) rfl i (.int .i64 x) (by simp [intC, hx])
      rw [show (⟨g, 0, none⟩ : Addr).add i = ⟨g, 0 + i, none⟩ by unfold Addr.add; split <;> simp_all] at this
      simpa using this
    · simp at hu
/-- append of a whole row onto a row of one's own. -/
theorem wpList_cat {P : Program} {ops : Array Oper} {rest : List Oper} {o : Oper} {A : Act} {w : World} {Q : Exit → Act → World → Prop} (hgd : o.guard = none) (s x : Operand) (T : TypeId)
    (ho : o.op = .call { callee := .builtin .append, args := #[s, x], argTypes := #[T, T] }) {e : TypeId} {z : Value} {size bytes : Nat} (ht : P.underlying T = some (.slice e)) (hinfo : (P.info? e).map (fun i => (i.zero, i.size, i.bytes)) = some (some z, size, bytes))
    (hzs : z.cells.size = size) (hsz : 0 < size) (hby : bytes ≤ 1000) (base : Nat) (v : Value) {n : Nat} {xs : List Value} (hs : A.eval s = v) (hown : w.ownsRow base e size v n xs)
    (ad : Addr) (m c : Nat) (news : List Value) (hl : news.length = m * size) (hnews : ∀ j u, news[j]? = some u → w.cell? (ad.add j) = some u) (h1 : ∀ u ∈ news, u.oneCell' = true) (hx : A.eval x = .slice (some ad) m c) (hn : n + m ≤ 100000000) (hbase : base ≤ w.heap.size)
    (h : ∀ v' w', w'.ownsRow base e size v' (n + m) (xs ++ news) → w.grownBy w' v.ownBlock → wpList P ops Q rest (A.put o.dst v') w') : wpList P ops Q (o :: rest) A w := by
  obtain ⟨i0, hi, hz0, hz1, hz2⟩ := info_parts hinfo
  obtain ⟨v', w', hr, h2, h3, _⟩ := run_append_own (P := P) w base T o.type e i0 z size bytes ht hi hz0 hz1 hz2 hzs hsz v n xs hown ad m c news hl hnews h1 (by unfold maxLen; omega) (by have : (n + m) * bytes ≤ (n + m) * 1000 := Nat.mul_le_mul_left _ hby; omega) hbase
  refine wpList_plain hgd fun _ hK => ?_
  unfold Oper.wp execOp
  simp only [ho, resolve, invoke, builtin, Sem.run_bind, Sem.run_pure, Result.andThen_ok, List.map_toArray, List.map_cons, List.map_nil, hs, hx, hr]
  exact hK _ _ (h v' w' h2 h3)
theorem plr_cut {p : Pl} (h : PlR p) (k : Nat) : PlR (cutP p k) := by
  refine ⟨?_, h.nc, h.c, fun i j hj => ?_⟩
  · show (p.jobs.take k).length ≤ 7
    have := h.nj
    rw [List.length_take]; omega
  · have hj' : p.jobs[i]? = some j := by
      have : (p.jobs.take k)[i]? = some j := hj
      rw [List.getElem?_take] at this
      split at this
      · exact this
      · cases this
    exact h.j i j hj'
theorem try_hit {p : Pl} {span : Int} {k t : Nat} {x z : List Int} (ht : t < (span - longAt p x.length + 1).toNat) (hA : ∀ t' : Nat, t' < t → okS p (x ++ [(t' : Int)]) → trySt p span k (x ++ [(t' : Int)]) = none) (hok : okS p (x ++ [(t : Int)])) (hz : trySt p span k (x ++ [(t : Int)]) = some z) : trySt p span (k + 1) x = some z := by
  rw [trySt, List.findSome?_eq_some_iff]
  refine ⟨List.range t, t, (List.range (span - longAt p x.length + 1).toNat).drop (t + 1), ?_, by rw [if_pos hok]; exact hz, fun t' ht' => ?_⟩
  · have h1 : (List.range (span - longAt p x.length + 1).toNat)[t]'(by simpa using ht) = t := by simp
    have h2 := List.take_append_drop t (List.range (span - longAt p x.length + 1).toNat)
    rw [List.drop_eq_getElem_cons (by simpa using ht), h1, List.take_range, Nat.min_eq_left (by omega)] at h2
    exact h2.symm
  · split
    · rename_i ho
      exact hA t' (by simpa using ht') ho
    · rfl
theorem try_miss {p : Pl} {span : Int} {k : Nat} {x : List Int} (hA : ∀ t' : Nat, t' < (span - longAt p x.length + 1).toNat → okS p (x ++ [(t' : Int)]) → trySt p span k (x ++ [(t' : Int)]) = none) : trySt p span (k + 1) x = none := by
  rw [trySt, List.findSome?_eq_none_iff]
  intro t' ht'
  split
  · rename_i ho
    exact hA t' (by simpa using ht') ho
  · rfl
/-- What starting answers. -/
def StP (r : Option (List Int)) (e : Ending) (w' : World) : Prop := ∃ (zv : Value) (b : Bool), e = .returned (.tuple #[zv, .bool b]) ∧ ((b = true ∧ ∃ z, r = some z ∧ Rows 1 JE w' zv z) ∨ (b = false ∧ r = none ∧ zv = .slice none 0 0))
set_option maxHeartbeats 8000000 in
set_option maxRecDepth 8000 in
/-- starting. -/
theorem rstart_any {p : Pl} {span : Nat} (hR : PlR p) (hs : span ≤ 30) : ∀ (k : Nat) (pv xv : Value) (x : List Int) (w : World), x.length + k = p.jobs.length → PlV w pv p → Rows 1 JE w xv x → (∀ y ∈ x, 0 ≤ y ∧ y ≤ 100) → (x = [] → xv = .slice none 0 0) →
    Calls Tryd.prog 16 #[pv, xv, .int .i64 (span : Int)] w fun e w' => StP (trySt p (span : Int) k x) e w' ∧ Below w.heap.size w w' := by
  intro k
  induction k with
  | zero =>
    intro pv xv x w hk hp hx hb hnil
    obtain ⟨ja, jc, ca, cc, rfl, hM⟩ := hp
    obtain ⟨xa, xc, rfl⟩ := hx.shape
    have kn := below_new w (.cells #[.slice ja p.jobs.length jc, .slice ca p.caps.length cc] 25)
    obtain ⟨p0, p1⟩ := two_new w 25 (.slice ja p.jobs.length jc) (.slice ca p.caps.length cc)
    have HX := hide (hx.later (JE.stays IsSl 0) kn)
    have HK := hide kn
    have hnj := hR.nj
    clear hM hx hb hnil kn
    obtain ⟨nj, hnj'⟩ : ∃ n, n = p.jobs.length := ⟨_, rfl⟩
    obtain ⟨nx, hnx⟩ : ∃ n, n = x.length := ⟨_, rfl⟩
    obtain rfl : nx = nj := by omega
    rw [← hnj'] at p0 p1 HX HK hnj ⊢
    rw [← hnx] at HX ⊢
    clear hnj' hk hnx
    go_enter Tryd.func16, Tryd.ntmps16
    go_wp2
    go_ret2
    exact ⟨⟨_, true, rfl, Or.inl ⟨rfl, x, rfl, unhide HX⟩⟩, unhide HK⟩
  | succ k ih =>
    intro pv xv x w hk hp hx hb hnil
    obtain ⟨ja, jc, ca, cc, rfl, hM⟩ := hp
    obtain ⟨xa, xc, rfl⟩ := hx.shape
    have kn := below_new w (.cells #[.slice ja p.jobs.length jc, .slice ca p.caps.length cc] 25)
    obtain ⟨p0, p1⟩ := two_new w 25 (.slice ja p.jobs.length jc) (.slice ca p.caps.length cc)
    have HM := hide (hM.later kn)
    have HX := hide (hx.later (JE.stays IsSl 0) kn)
    have HK := hide kn
    have hnj := hR.nj
    have hjc : p.jobs.length ≤ jc ∧ jc ≤ 9223372036854775807 := by obtain ⟨_, _, e, h1, h2, _⟩ := hM.j; simp at e; unfold maxLen at h2; omega
    obtain ⟨j, hj⟩ : ∃ j, p.jobs[x.length]? = some j := ⟨p.jobs[x.length]'(by omega), by simp⟩
    have hlg := (hR.j _ j hj).1
    have HLA := hide (show longAt p x.length = j.long by rw [longAt, hj])
    have HB := hide hb
    have HNIL := hide hnil
    have HIH := hide ih
    clear ih hnil hb kn hx
    obtain ⟨b, o, _, _, _, _, rfl, ⟨d0, _, _⟩, _⟩ := (unhide HM).j.job hj
    clear hj hM
    obtain ⟨g, hg⟩ : ∃ X, X = w.heap.size := ⟨_, rfl⟩
    obtain ⟨W, hW⟩ : ∃ X, X = w.alloc (.cells #[.slice (some ⟨b, o, none⟩) p.jobs.length jc, .slice ca p.caps.length cc] 25) := ⟨_, rfl⟩
    rw [← hW] at HM HX HK p0 p1 d0
    rw [← hg] at p0 p1
    obtain ⟨nj, hnj'⟩ : ∃ n, n = p.jobs.length := ⟨_, rfl⟩
    obtain ⟨n, hn⟩ : ∃ n, n = x.length := ⟨_, rfl⟩
    rw [← hnj'] at p0 hnj hjc hk hW ⊢
    rw [← hn] at HX d0 HLA hk ⊢
    have HN := hide (And.intro hnj' hn)
    have hnl : n < nj := by omega
    have HKK := hide hk
    clear hnj' hn hk
    obtain ⟨lg, hlg'⟩ : ∃ l, l = j.long := ⟨_, rfl⟩
    rw [← hlg'] at hlg d0 HLA
    clear hlg'
    go_enter Tryd.func16, Tryd.ntmps16
    go_upto_region 1 with fail
    rw [← hW, ← hg]
    clear hW hg
    have hnl' : (n : Int) < (nj : Int) := by omega
    have hne : ((n : Int) == (nj : Int)) = false := by simp; omega
    go_wp2_with fail
    go_loopg [9, 10, 11, 12, 13, 14] (span + 1) (fun gk tv _ _ _ _ _ wr => ∃ (t : Nat), (t : Int) ≤ ((span : Int) - lg + 1).toNat ∧ gk = span + 1 - t ∧ tv = .int .i64 (t : Int) ∧ Hid (Below W.heap.size W wr) ∧ Hid (∀ t' : Nat, t' < t → okS p (x ++ [(t' : Int)]) → trySt p (span : Int) k (x ++ [(t' : Int)]) = none))
    case atStart => exact ⟨0, by omega, by omega, rfl, hide (Below.refl _ _), hide (fun t' ht => absurd ht (Nat.not_lt_zero _))⟩
    case round =>
      obtain ⟨t, ht, hgk, rfl, HBW, HA⟩ := hrel
      have q0 := cell_keep (unhide HBW) p0
      have q1 := cell_keep (unhide HBW) p1
      have e0 := cell_keep (unhide HBW) d0
      have hwa : wrap64 ((t : Int) + lg) = (t : Int) + lg := by unfold wrap64; omega
      by_cases hle : (t : Int) + lg ≤ (span : Int)
      · obtain ⟨X, rfl⟩ : ∃ X, X = wr := ⟨_, rfl⟩
        have ht100 : (t : Int) ≤ 100 := by omega
        go_upto_region 8 with fail
        go_cut [10] (fun yv wx => Hid (wx.ownsRow X.heap.size 3 1 yv n (intC x)) ∧ Hid (Below X.heap.size X wx))
        case first =>
          by_cases hxe : x = []
          · have hxa := unhide HNIL hxe
            have hn0 : n = 0 := by rw [(unhide HN).2, hxe]; rfl
            subst hn0
            obtain ⟨rfl, rfl⟩ : xa = none ∧ xc = 0 := by rw [hxe] at hxa; simpa using hxa
            have HXE := hide hxe
            clear hxe hxa
            go_wp2
            go_meet
            exact ⟨hide (by rw [unhide HXE]; exact World.ownsRow_nil _ _ _ _), hide (Below.refl _ _)⟩
          · obtain ⟨y0, hy0⟩ : ∃ y, x[0]? = some y := ⟨x[0]'(by exact List.length_pos_iff.2 hxe), by simp [List.length_pos_iff.2 hxe]⟩
            obtain ⟨b2, o2, rfl, _⟩ := (unhide HX).int hy0
            have HCW := hide (show ∀ (i : Nat) (u : Value), (intC x)[i]? = some u → X.cell? ((⟨b2, o2, none⟩ : Addr).add i) = some u from fun i u hu => by
              obtain ⟨y, hy, rfl⟩ : ∃ y, x[i]? = some y ∧ Value.int .i64 y = u := by simpa [intC] using hu
              obtain ⟨b3, o3, e3, c3, _⟩ := (unhide HX).int hy
              obtain ⟨rfl, rfl⟩ : b2 = b3 ∧ o2 = o3 := by simpa using e3
              rw [show (⟨b2, o2, none⟩ : Addr).add i = ⟨b2, o2 + i, none⟩ by unfold Addr.add; split <;> simp_all]
              exact cell_keep (unhide HBW) c3)
            have HIL := hide (show (intC x).length = n * 1 by rw [intC, List.length_map, Nat.mul_one]; exact (unhide HN).2.symm)
            have hn8 : 0 + n ≤ 100000000 := by omega
            clear hy0 hxe
            go_wp2_with (at_builtin; refine wpList_cat rfl _ _ _ rfl Tryd.underlying23 info_i rfl (by decide) (by decide) X.heap.size _ rfl (World.ownsRow_nil _ _ _ _) ⟨b2, o2, none⟩ n xc (intC x) (unhide HIL) (unhide HCW) (by intro q hq; simp [intC] at hq; obtain ⟨_, _, rfl⟩ := hq; rfl) rfl hn8 (Nat.le_refl _) ?_; intro yv Z1 hO1 hg1)
            go_meet
            rw [Nat.zero_add, List.nil_append] at hO1
            exact ⟨hide hO1, hide ((Below.refl _ _).grown hg1 (Nat.le_refl _) (fun k hk => by have hk' : (none : Option Nat) = some k := hk; cases hk'))⟩
        case rest =>
          obtain ⟨HO, HB1⟩ := hcut
          obtain ⟨Y, rfl⟩ : ∃ Z, Z = wc := ⟨_, rfl⟩
          have hn8 : n + 1 ≤ 100000000 := by omega
          have hbs : X.heap.size ≤ Y.heap.size := (unhide HB1).size
          clear q0 q1 e0
          go_upto_region 10 with (at_builtin; refine wpList_pushN rfl _ _ _ rfl Tryd.underlying23 info_i rfl (by decide) (by decide) X.heap.size _ rfl (unhide HO) 1 [.int .i64 (t : Int)] rfl (by intro q hq; simp at hq; subst hq; rfl) rfl rfl hn8 hbs ?_; intro yv Z1 hO1 hg1)
          have hZ := (below_keep (below_new _ _) (unhide HB1)).grown hg1 (below_keep (below_new _ _) (unhide HB1)).size fun k hk => (World.ownsRow.lt (unhide HO) k hk).1
          have hyr := rows_own (L := x ++ [(t : Int)]) (n := n + 1) (by rw [show intC (x ++ [(t : Int)]) = intC x ++ [.int .i64 (t : Int)] by simp [intC]]; exact hO1) (by rw [List.length_append, ← (unhide HN).2]; rfl) (by intro y hy; rcases List.mem_append.1 hy with h | h; have := unhide HB y h; unfold I64; omega; simp at h; unfold I64; omega)
          obtain ⟨ya, yc, rfl⟩ := hyr.shape
          have hlen : (x ++ [(t : Int)]).length = n + 1 := by rw [List.length_append, ← (unhide HN).2]; rfl
          rw [hlen] at hyr ⊢
          have HBZ := hide (below_keep hZ (unhide HBW))
          have HYR := hide hyr
          have HLEN := hide hlen
          clear hO1 hg1 hZ hyr hlen HO HB1
          have q0 := cell_keep (unhide HBZ) p0
          have q1 := cell_keep (unhide HBZ) p1
          obtain ⟨m, hm⟩ : ∃ m, m = n + 1 := ⟨_, rfl⟩
          rw [← hm] at HYR HLEN ⊢
          have hwr : IntKind.i64.wrap ((n : Int) + 1) = (m : Int) := by rw [wrapI64, hm]; unfold wrap64; omega
          have hmj : (m : Int) ≤ (jc : Int) := by omega
          have hmj2 : m ≤ jc := by omega
          have HMM := hide hm
          clear hm
          have r0 := cell_keep (below_new Z1 (.cells #[.slice none 0 0, .slice none 0 0] 25)) q0
          have r1 := cell_keep (below_new Z1 (.cells #[.slice none 0 0, .slice none 0 0] 25)) q1
          go_region
          go_upto_region 11 with fail
          have kn := below_new Z1 (.cells #[.slice (some ⟨b, o, none⟩) m jc, .slice ca p.caps.length cc] 25)
          obtain ⟨v0, v1⟩ := two_new Z1 25 (.slice (some ⟨b, o, none⟩) m jc) (.slice ca p.caps.length cc)
          obtain ⟨g3, hg3⟩ : ∃ G, G = Z1.heap.size := ⟨_, rfl⟩
          obtain ⟨V0, hV0⟩ : ∃ Y, Y = Z1.alloc (.cells #[.slice (some ⟨b, o, none⟩) m jc, .slice ca p.caps.length cc] 25) := ⟨_, rfl⟩
          rw [← hV0, ← hg3]
          rw [← hV0] at kn v0 v1
          rw [← hg3] at v0 v1
          have HBV := hide (below_keep kn.drew (unhide HBZ))
          have HYV := hide ((unhide HYR).later (JE.stays IsSl 0) kn.drew)
          have v0 : V0.drew.cell? ⟨g3, 0, none⟩ = some (.slice (some ⟨b, o, none⟩) m jc) := v0
          have v1 : V0.drew.cell? ⟨g3, 1, none⟩ = some (.slice ca p.caps.length cc) := v1
          obtain ⟨V, hV⟩ : ∃ Y, Y = V0.drew := ⟨_, rfl⟩
          rw [← hV]
          rw [← hV] at HBV HYV v0 v1
          clear hV hV0 hg3 kn q0 q1 r0 r1 HYR HBZ
          have HPV := hide (show PlV V (.agg #[.slice (some ⟨b, o, none⟩) m jc, .slice ca p.caps.length cc]) (cutP p m) from by
            have hml : (p.jobs.take m).length = m := by rw [List.length_take]; have := unhide HN; have := unhide HMM; omega
            refine ⟨some ⟨b, o, none⟩, jc, ca, cc, by show _ = Value.agg #[.slice _ (p.jobs.take m).length jc, _]; rw [hml]; rfl, ?_, ((unhide HM).later (unhide HBV)).c⟩
            show Rows 3 JbE V (.slice _ (p.jobs.take m).length jc) (p.jobs.take m)
            rw [hml]
            exact ((unhide HM).later (unhide HBV)).j.prefix m (by have := unhide HN; have := unhide HMM; omega))
          have HEC := hide (rends_any (st := x ++ [(t : Int)]) (sa := ya) (sc := yc) V (unhide HPV) (by rw [unhide HLEN]; exact unhide HYV) (plr_cut hR m) (by rw [unhide HLEN]; show m = (p.jobs.take m).length; rw [List.length_take]; have := unhide HN; have := unhide HMM; omega))
          rw [unhide HLEN] at HEC
          have HOK := hide (show okS p (x ++ [(t : Int)]) ↔ (ends (cutP p m) (x ++ [(t : Int)])).2 = true from by unfold okS; rw [unhide HLEN])
          go_wp2_with fail
          go_fit (unhide HEC)
          rintro e W1 ⟨rfl, hb⟩
          have HB1 := hide (below_keep hb (unhide HBV))
          have HY1 := hide ((unhide HYV).later (JE.stays IsSl 0) hb)
          clear hb v0 v1 HPV HEC HYV HBV
          have q0 := cell_keep (unhide HB1) p0
          have q1 := cell_keep (unhide HB1) p1
          obtain ⟨ev, hev⟩ : ∃ e, e = (ends (cutP p m) (x ++ [(t : Int)])).1 := ⟨_, rfl⟩
          obtain ⟨eb, heb⟩ : ∃ e, e = (ends (cutP p m) (x ++ [(t : Int)])).2 := ⟨_, rfl⟩
          rw [← hev, ← heb]
          rw [← heb] at HOK
          clear hev heb
          have hts : t + 1 ≤ span + 1 := by omega
          cases eb
          · go_wp2
            go_roundg (span + 1 - (t + 1))
            case measure => omega
            case rel => exact ⟨t + 1, by omega, by omega, by go_num, HB1, hide fun t' ht' ho => by
              rcases (by omega : t' < t ∨ t' = t) with h | rfl
              · exact unhide HA t' h ho
              · exact absurd ((unhide HOK).1 ho) Bool.false_ne_true⟩
          · have HCC := hide (unhide HIH (.agg #[.slice (some ⟨b, o, none⟩) p.jobs.length jc, .slice ca p.caps.length cc]) (.slice ya m yc) (x ++ [(t : Int)]) W1 (by rw [unhide HLEN]; have := unhide HN; have := unhide HMM; have := unhide HKK; omega) ⟨_, _, _, _, rfl, (unhide HM).later (unhide HB1)⟩ (unhide HY1) (by intro y hy; rcases List.mem_append.1 hy with h | h; exact unhide HB y h; simp at h; omega) (fun h => by simp at h))
            rw [← (unhide HN).1] at HCC
            go_wp2_with fail
            go_fit (unhide HCC)
            rintro e W2 ⟨⟨zv, zb, rfl, hz⟩, hb⟩
            have HB2 := hide (below_keep hb (unhide HB1))
            have HZ := hide hz
            clear hb hz q0 q1 HY1
            cases zb
            · go_wp2
              go_roundg (span + 1 - (t + 1))
              case measure => omega
              case rel => exact ⟨t + 1, by omega, by omega, by go_num, HB2, hide fun t' ht' ho => by
                rcases (by omega : t' < t ∨ t' = t) with h | rfl
                · exact unhide HA t' h ho
                · rcases unhide HZ with ⟨h, _⟩ | ⟨_, h, _⟩
                  · cases h
                  · exact h⟩
            · obtain ⟨z, hz1, hz2⟩ : ∃ z, trySt p (span : Int) k (x ++ [(t : Int)]) = some z ∧ Rows 1 JE W2 zv z := by
                rcases unhide HZ with ⟨_, z, h1, h2⟩ | ⟨h, _⟩
                · exact ⟨z, h1, h2⟩
                · cases h
              have HRR := hide (try_hit (p := p) (span := (span : Int)) (k := k) (x := x) (t := t) (by rw [← (unhide HN).2, unhide HLA]; omega) (unhide HA) ((unhide HOK).2 (by trivial)) hz1)
              have HZ2 := hide hz2
              obtain ⟨za, zc, rfl⟩ := hz2.shape
              clear hz1 hz2 HZ
              go_wp2
              go_ret2
              exact ⟨⟨_, true, rfl, Or.inl ⟨rfl, z, unhide HRR, unhide HZ2⟩⟩, below_keep (unhide HB2) (unhide HK)⟩
      · have htN : t = ((span : Int) - longAt p x.length + 1).toNat := by rw [← (unhide HN).2, unhide HLA]; omega
        have HMS := hide (try_miss (p := p) (span := (span : Int)) (k := k) (x := x) (by rw [← htN]; exact unhide HA))
        clear htN
        go_wp2
        go_ret2
        exact ⟨⟨_, false, rfl, Or.inr ⟨rfl, unhide HMS, rfl⟩⟩, below_keep (unhide HBW) (unhide HK)⟩
end Go.Proofs.YtgckgkllpkkpeaaDoor
