/-
 Walks over package matrix: Product.
-/
import Derived.Test.YtkifiolkfdicoaaGreatDoorMKG
import Derived.BigQuiet
namespace Go.Proofs.YtkifiolkfdicoaaGreatDoor
open Go.RowKit
def MPP (K : Nat) (A : Nat → Addr) (L M : List (List (Int × Int))) (e : Ending) (w' : World) : Prop :=
 (¬ (isTab L ∧ isTab M ∧ wide L = M.length) ∧ e = .returned (.tuple #[.slice none 0 0, .iface 307 (.pointer (some (A 3)))])) ∨
 ((isTab L ∧ isTab M ∧ wide L = M.length) ∧ ∃ v, e = .returned (.tuple #[v, .nilIface]) ∧ Rows 1 (LE 4 (RE K)) w' v (prodT L M))
theorem cols_start {M : List (List (Int × Int))} {T R : Nat} {w w0 : World} {ga gb m lo : Nat} (_hb : Below w0.heap.size w0 w) (h1 : Tab 183 w ga m (fun _ => .slice none 0 0)) (h2 : Fill NoWord 4 (RE R) 52 w gb m []) (hl : ga < lo ∧ gb < lo ∧ ga ≠ gb ∧ lo ≤ w.heap.size) : Cols M T R ga gb m lo w.heap.size (fun _ => .slice none 0 0) (fun _ => []) [] w :=
 ⟨h1, h2, fun _ _ => ⟨_, _, _, rfl⟩, fun i x hx => by simp at hx, hl⟩
theorem two_ab {M : List (List (Int × Int))} {T R : Nat} (w : World) (m : Nat) :
   let w2 := (w.alloc (.cells (madeCells #[.slice none 0 0] m) 183)).alloc (.cells (madeCells #[.int .i64 0, .slice none 0 0, .int .i64 0, .slice none 0 0] (m * 4)) 52)
   Below w.heap.size w w2 ∧ Cols M T R w.heap.size (w.heap.size + 1) m (w.heap.size + 1 + 1) w2.heap.size (fun _ => .slice none 0 0) (fun _ => []) [] w2 := by
 intro w2
 have k1 := below_new w (.cells (madeCells #[.slice none 0 0] m) 183)
 have k2 := below_new (w.alloc (.cells (madeCells #[.slice none 0 0] m) 183)) (.cells (madeCells #[.int .i64 0, .slice none 0 0, .int .i64 0, .slice none 0 0] (m * 4)) 52)
 have h1 := Tab.new (t := 183) w m (.slice none 0 0)
 have h2 := Fill.new (k := 4) (E := RE R) (t := 52) (w.alloc (.cells (madeCells #[.slice none 0 0] m) 183)) (z := #[.int .i64 0, .slice none 0 0, .int .i64 0, .slice none 0 0]) m zk_r (by decide)
 rw [show (w.alloc (.cells (madeCells #[.slice none 0 0] m) 183)).heap.size = w.heap.size + 1 by simp] at h2
 have hb := below_keep k2 k1
 exact ⟨hb, cols_start hb (h1.later k2) h2 ⟨by omega, by omega, by omega, by simp [w2]⟩⟩
theorem wide_le {M : List (List (Int × Int))} (h : ∀ r ∈ M, r.length ≤ 6) : wide M ≤ 6 := by
 cases M with
 | nil => simp [wide]
 | cons r M => simpa [wide] using h r (by simp)
theorem info_zs : (Tryz.prog.info? 183).map (fun i => (i.zero, i.size, i.bytes)) = some (some (.slice none 0 0), 1, 24) := by kernel_rfl
theorem belowN {n : Nat} {w w' : World} (h : Below n w w') (k : Nat) : Below n w (w'.drewN k) := by
 exact ⟨h.1, h.2, h.3, h.4, h.5⟩
theorem tab_wide {M : List (List (Int × Int))} (h : isTab M) {r : List (Int × Int)} (hr : r ∈ M) : wide M = r.length := (h.2.2 r hr).symm
theorem two_ba {M : List (List (Int × Int))} {T R : Nat} (w : World) (m : Nat) :
   let w2 := (w.alloc (.cells (madeCells #[.int .i64 0, .slice none 0 0, .int .i64 0, .slice none 0 0] (m * 4)) 52)).alloc (.cells (madeCells #[.slice none 0 0] m) 183)
   Below w.heap.size w w2 ∧ Cols M T R (w.heap.size + 1) w.heap.size m (w.heap.size + 1 + 1) w2.heap.size (fun _ => .slice none 0 0) (fun _ => []) [] w2 := by
 intro w2
 have k1 := below_new w (.cells (madeCells #[.int .i64 0, .slice none 0 0, .int .i64 0, .slice none 0 0] (m * 4)) 52)
 have k2 := below_new (w.alloc (.cells (madeCells #[.int .i64 0, .slice none 0 0, .int .i64 0, .slice none 0 0] (m * 4)) 52)) (.cells (madeCells #[.slice none 0 0] m) 183)
 have h2 := Tab.new (t := 183) (w.alloc (.cells (madeCells #[.int .i64 0, .slice none 0 0, .int .i64 0, .slice none 0 0] (m * 4)) 52)) m (.slice none 0 0)
 have h1 := Fill.new (k := 4) (E := RE R) (t := 52) w (z := #[.int .i64 0, .slice none 0 0, .int .i64 0, .slice none 0 0]) m zk_r (by decide)
 rw [show (w.alloc (.cells (madeCells #[.int .i64 0, .slice none 0 0, .int .i64 0, .slice none 0 0] (m * 4)) 52)).heap.size = w.heap.size + 1 by simp] at h2
 have hb := below_keep k2 k1
 exact ⟨hb, cols_start hb h2 (h1.later (RE.stays _ _ noWord_word) k2) ⟨by omega, by omega, by omega, by simp [w2]⟩⟩
set_option maxHeartbeats 4000000 in
set_option maxRecDepth 8000 in
theorem mproduct_any {A : Nat → Addr} {v v' : Value} {L M : List (List (Int × Int))} (w : World) (hA : Env A w) (hS : Sents w A) (h : Rows 1 (LE 4 (RE 78)) w v L) (h' : Rows 1 (LE 4 (RE 78)) w v' M) (hl : L.length ≤ 6) (hl2 : ∀ r ∈ L, r.length ≤ 6) (hm : M.length ≤ 6) (hm2 : ∀ r ∈ M, r.length ≤ 6) :
   Calls Tryz.prog 80 #[v, v'] w fun e w' => MPP 20000 A L M e w' ∧ Below w.heap.size w w' := by
 obtain ⟨sa, sc, rfl⟩ := h.shape
 obtain ⟨sb, sd, rfl⟩ := h'.shape
 have HR := hide h
 have HR' := hide h'
 have HA := hide hA
 have HSE := hide hS
 have HL2 := hide hl2
 have HM2 := hide hm2
 clear h h' hA hS hl2 hm2
 have HWM := hide (wide_le (unhide HM2))
 go_enter Tryz.func80, Tryz.ntmps80
 have hmk := run_make_k (P := Tryz.prog) 118 52 _ 4 64 Tryz.underlying118 info_r .i64 .i64 (wide M) (by have := unhide HWM; omega) (by have := unhide HWM; omega)
 have hmk2 := run_make_k (P := Tryz.prog) 182 183 _ 1 24 Tryz.underlying182 info_zs .i64 .i64 (wide M) (by have := unhide HWM; omega) (by have := unhide HWM; omega)
 go_wp2_with fail
 go_fit (widthOf_any _ (unhide HR) (by omega) (fun r hr => by have := unhide HL2 r hr; omega))
 rintro e1 W1 ⟨h1, B1⟩
 have HB := hide B1
 have HR1 := hide ((unhide HR').later (rss_stays _ 52) B1)
 clear B1
 obtain ⟨ok1, hk1, d1, hd1, rfl⟩ : ∃ ok, ∃ _ : Hid (ok = true ↔ isTab L), ∃ d : Nat, ∃ _ : Hid (ok = true → d = wide L), e1 = .returned (.tuple #[.int .i64 (d : Nat), .bool ok]) := by
   rcases h1 with ⟨ht, rfl⟩ | ⟨ht, rfl⟩
   · exact ⟨true, hide (by simp [ht]), _, hide (fun _ => rfl), rfl⟩
   · exact ⟨false, hide (by simp [ht]), 0, hide (fun h => by simp at h), rfl⟩
 clear h1
 go_wp2_with fail
 go_fit (widthOf_any _ (unhide HR1) (by omega) (fun r hr => by have := unhide HM2 r hr; omega))
 rintro e2 W2 ⟨h2, B2⟩
 have HB := hide (below_keep B2 (unhide HB))
 clear B2 HR1
 obtain ⟨ok2, hk2, d2, hd2, rfl⟩ : ∃ ok, ∃ _ : Hid (ok = true ↔ isTab M), ∃ d : Nat, ∃ _ : Hid (ok = true → d = wide M), e2 = .returned (.tuple #[.int .i64 (d : Nat), .bool ok]) := by
   rcases h2 with ⟨ht, rfl⟩ | ⟨ht, rfl⟩
   · exact ⟨true, hide (by simp [ht]), _, hide (fun _ => rfl), rfl⟩
   · exact ⟨false, hide (by simp [ht]), 0, hide (fun h => by simp at h), rfl⟩
 clear h2
 by_cases hall : ok1 = true ∧ ok2 = true ∧ d1 = M.length
 · obtain ⟨rfl, rfl, rfl⟩ := hall
   obtain rfl := unhide hd2 rfl
   have HTAB := hide (And.intro ((unhide hk1).1 rfl) (And.intro ((unhide hk2).1 rfl) (unhide hd1 rfl).symm))
   clear hk1 hk2 hd1 hd2
   have hmm : ((M.length : Int) == (M.length : Int)) = true := by simp
   obtain ⟨m, hmw⟩ : ∃ m, m = wide M := ⟨_, rfl⟩
   rw [← hmw] at hmk hmk2 HWM
   rw [← hmw]
   have HMW := hide hmw
   clear hmw
   go_upto_region 5 with fail
   obtain ⟨W3, rfl⟩ : ∃ X, X = W2 := ⟨_, rfl⟩
   go_cut [10, 11] (fun v10 v11 wx => ∃ ga gb, v10 = .slice (some ⟨ga, 0, none⟩) m m ∧ v11 = .slice (some ⟨gb, 0, none⟩) m m ∧ Hid (Below w.heap.size w wx) ∧ Hid (w.heap.size ≤ ga ∧ w.heap.size ≤ gb) ∧ Hid (∃ lo, Cols M 547 1100 ga gb m lo wx.heap.size (fun _ => .slice none 0 0) (fun _ => []) [] wx))
   case first =>
     have hsz := (unhide HB).size
     go_region
     all_goals
       go_wp2
       go_meet
       first
         | exact ⟨_, _, rfl, rfl, hide (below_keep (two_ab (M := M) (T := 547) (R := 1100) W3 m).1 (unhide HB)).drew, hide ⟨by omega, by omega⟩, hide ⟨_, (two_ab W3 m).2.drew⟩⟩
         | exact ⟨_, _, rfl, rfl, hide (below_keep (two_ba (M := M) (T := 547) (R := 1100) W3 m).1 (unhide HB)).drew, hide ⟨by omega, by omega⟩, hide ⟨_, (two_ba W3 m).2.drew⟩⟩
   case rest =>
     obtain ⟨ga, gb, rfl, rfl, HB, HG, HC⟩ := hcut
     obtain ⟨W4, rfl⟩ : ∃ X, X = wc := ⟨_, rfl⟩
     obtain ⟨lo, HC⟩ := unhide HC
     have HC := hide HC
     clear hmk hmk2 hmm
     have HR1 := hide (unhide HR')
     go_wp2_with fail
     go_loopg [48] m (fun gk iv wr => ∃ (i : Nat) (f : Nat → Value) (zz : Nat → List Int) (bs : List (Int × Int)), i ≤ m ∧ gk = m - i ∧ iv = .int .i64 (i : Int) ∧ bs.length = i ∧ Hid (Below w.heap.size w wr) ∧ Hid (Cols M 547 1100 ga gb m lo wr.heap.size f zz bs wr))
     case atStart => exact ⟨0, _, _, [], by omega, by omega, rfl, rfl, HB, HC⟩
     case round =>
       clear HB HC
       obtain ⟨i, f, zz, bs, hi, hgk, rfl, hbs, HB, HC⟩ := hrel
       by_cases hil : i < m
       · have hil' : (i : Int) < (m : Int) := by omega
         have hm6 := unhide HWM
         have HCI := hide (unhide HTAB).2.1
         go_wp2_with fail
         go_fit (column_any (c := i) _ ((unhide HR').later (rss_stays _ 52) (unhide HB)) (by omega) (fun r hr => by rw [← tab_wide (unhide HCI) hr, ← unhide HMW]; exact hil) (by omega))
         rintro e5 W5 ⟨⟨vc, rfl, hcol⟩, B5⟩
         have HB := hide (below_keep B5 (unhide HB))
         have HC := hide (((unhide HC).later B5).mono B5.size)
         clear B5
         have HCOL := hide hcol
         clear hcol
         go_wp2_with fail
         go_fit (scaled_any (N := 77) _ ((unhide HA).later (unhide HB)) (unhide HCOL) (by rw [colOf, List.length_map]; exact hm) (by omega))
         rintro e6 W6 ⟨⟨vz, vr, z, P, D, rfl, hown, hz, hr, hP, hzl, hze⟩, B6⟩
         have HB := hide (below_keep B6 (unhide HB))
         have HZS := hide (Zs.make hz (fun g hg => by have := hown g hg; have := (unhide HC).lo; omega : ∀ g, vz.ownBlock = some g → lo ≤ g))
         have HC := hide (((unhide HC).later B6).mono B6.size)
         have HSC := hide (⟨hP, hr.posD, hzl, hze⟩ : Scd (colOf i M) z (P, D))
         obtain ⟨r1, r2, r3, r4, r5, r6, r7, r8, rfl⟩ := hr.shape
         obtain ⟨z1, z2, rfl⟩ := hz.shape
         have HRR := hide hr
         clear B6 hr hz hown hP hzl hze HCOL
         subst hbs
         have e0 := (unhide HC).ta.cell hil
         have gf := (unhide HC).ta.free
         obtain ⟨a0, k0⟩ := (unhide HC).fb.cell (o := bs.length * 4) (by omega)
         obtain ⟨a1, k1⟩ := (unhide HC).fb.cell (o := bs.length * 4 + 1) (by omega)
         obtain ⟨a2, k2⟩ := (unhide HC).fb.cell (o := bs.length * 4 + 2) (by omega)
         obtain ⟨a3, k3⟩ := (unhide HC).fb.cell (o := bs.length * 4 + 3) (by omega)
         have gf2 := (unhide HC).fb.free
         have hne := (unhide HC).lo.2.2.1
         have HN := hide ((unhide HC).next (x := (P, D)) hil ⟨_, _, _, rfl⟩ (unhide HZS) (unhide HSC) (unhide HRR))
         have HB2 := hide (below_put4 (o := bs.length * 4) ((unhide HB).setCell (p := ⟨ga, bs.length, none⟩) (unhide HG).1 (.slice z1 z.length z2)) (unhide HG).2 (.int .i64 r1) (.slice r2 r3 r4) (.int .i64 r5) (.slice r6 r7 r8))
         go_wp2
         go_roundg (m - (bs.length + 1))
         case measure => omega
         case rel => exact ⟨bs.length + 1, _, _, bs ++ [(P, D)], by omega, rfl, by go_num, by simp, HB2, hide ((unhide HN).mono (by simp))⟩
       · obtain rfl : i = m := by omega
         clear hil hi hgk
         have hm6 := unhide HWM
         have hsz3 := (unhide HB).size
         go_wp2_with fail
         go_fit (table_any (N := 20000) (n := L.length) (m := i) _ hl hm6)
         rintro e7 W7 ⟨⟨g1, g2, AA, rfl, hg1, hg2, hg12, hAA, hFi, hTa⟩, B7⟩
         replace HB := hide (below_keep B7 (unhide HB))
         obtain ⟨hi7, hhi7⟩ : ∃ k, k = wr.heap.size := ⟨_, rfl⟩
         replace HC := hide ((unhide HC).later B7)
         rw [← hhi7] at HC hg1 hg2
         have HGG := hide (And.intro hg1 (And.intro hg2 (And.intro hg12 (And.intro hAA (show w.heap.size ≤ hi7 by omega)))))
         obtain ⟨X, hX⟩ : ∃ X, X = (prodT L M).flatten := ⟨_, rfl⟩
         have HO := hide (Outs.start (X := X) hFi hTa)
         have HX := hide hX
         have HBS := hide hbs
         have HGT := hide (And.intro (hTa.lt) hFi.lt)
         clear hg1 hg2 hg12 hAA hFi hTa B7 hhi7 hX hbs hsz3
         go_wp2_with fail
         go_loopg [71] L.length (fun gk iv wr => ∃ (k : Nat), k ≤ L.length ∧ gk = L.length - k ∧ iv = .int .i64 (k : Int) ∧ Hid (Below w.heap.size w wr) ∧ Hid (Below W7.heap.size W7 W7 ∧ W7.heap.size ≤ wr.heap.size) ∧ Hid (Cols M 547 1100 ga gb i lo hi7 f zz bs wr) ∧ Hid (Outs X g1 g2 L.length i k 0 AA wr))
         case atStart => exact ⟨0, by omega, by omega, rfl, HB, hide ⟨Below.refl _ _, Nat.le_refl _⟩, HC, HO⟩
         case round =>
           clear HB HC HO
           obtain ⟨k, hk, hgk, rfl, HB, HW7, HC, HO⟩ := hrel
           by_cases hkl : k < L.length
           · have hkl' : (k : Int) < (L.length : Int) := by omega
             obtain ⟨r, hr⟩ : ∃ s, L[k]? = some s := ⟨L[k], by simp [hkl]⟩
             obtain ⟨b, o, rfl, cs, _, hcs, u, rfl, hru⟩ := ((unhide HR).later (rss_stays _ 52) (unhide HB)).at hr
             have c0 : wr.cell? ⟨b, o + k, none⟩ = some u := by simpa using hcs 0 _ rfl
             obtain ⟨ua, uc, rfl⟩ := hru.shape
             have hr6 := unhide HL2 r (List.mem_of_getElem? hr)
             have HRK := hide hr
             have HRU := hide hru
             have HRD := hide hru.dens
             have HGK := hide hgk
             clear hcs hr hru hgk
             go_wp2_with fail
             go_fit (scaled_any (N := 77) _ ((unhide HA).later (unhide HB)) (unhide HRU) hr6 (by omega))
             rintro e8 W8 ⟨⟨va, vr, a, P, D, rfl, hown, hz, hrr, hP, hzl, hze⟩, B8⟩
             replace HB := hide (below_keep B8 (unhide HB))
             have HSZ := hide (And.intro (unhide HW7).2 B8.size)
             have HZS := hide (Zs.make hz (fun g hg => hown g hg : ∀ g, va.ownBlock = some g → wr.heap.size ≤ g))
             replace HC := hide ((unhide HC).later B8)
             replace HO := hide ((unhide HO).later B8)
             have HSC := hide (⟨hP, hrr.posD, hzl, hze⟩ : Scd r a (P, D))
             obtain ⟨r1, r2, r3, r4, r5, r6, r7, r8, rfl⟩ := hrr.shape
             obtain ⟨z1, z2, rfl⟩ := hz.shape
             have HRB := hide (RB.new hrr)
             clear B8 hrr hz hown hP hzl hze HRU c0
             go_upto_region 16 with fail
             have kn := below_new W8 (.cells #[.int .i64 r1, .slice r2 r3 r4, .int .i64 r5, .slice r6 r7 r8] 52)
             replace HB := hide (below_keep kn (unhide HB))
             replace HC := hide ((unhide HC).later kn)
             replace HO := hide ((unhide HO).later kn)
             replace HZS := hide ((unhide HZS).later kn)
             obtain ⟨q, hq⟩ : ∃ q, q = W8.heap.size := ⟨_, rfl⟩
             obtain ⟨Y, hY⟩ : ∃ Y, Y = W8.alloc (.cells #[.int .i64 r1, .slice r2 r3 r4, .int .i64 r5, .slice r6 r7 r8] 52) := ⟨_, rfl⟩
             have HSY := hide (show wr.heap.size ≤ q ∧ q < Y.heap.size by rw [hq, hY]; have := (unhide HSZ).2; simp; omega)
             rw [← hY] at HB HC HO HZS HRB ⊢
             rw [← hq] at HRB HZS ⊢
             clear kn hq hY
             obtain ⟨lo2, hlo2⟩ : ∃ k, k = wr.heap.size := ⟨_, rfl⟩
             rw [← hlo2] at HZS HSY
             have HLO := hide (show g1 < lo2 ∧ g2 < lo2 by have := unhide HGT; have := (unhide HW7).2; omega)
             have HW7' := hide (show W7.heap.size ≤ q by have := (unhide HW7).2; have := (unhide HSY).1; omega)
             clear hlo2 HSZ HW7
             obtain ⟨wi, rfl⟩ : ∃ X, X = wr := ⟨_, rfl⟩
             go_wp2_with fail
             go_loopg [83] i (fun gk iv wr3 => ∃ (j : Nat), j ≤ i ∧ gk = i - j ∧ iv = .int .i64 (j : Int) ∧ Hid (Below w.heap.size w wr3) ∧ Hid (Y.heap.size ≤ wr3.heap.size) ∧ Hid (Cols M 547 1100 ga gb i lo hi7 f zz bs wr3) ∧ Hid (Outs X g1 g2 L.length i k j AA wr3) ∧ Hid (Zs 547 lo2 q wr3 (.slice z1 a.length z2) a) ∧ Hid (RB 1100 wr3 q r1 r2 r3 r4 r5 r6 r7 r8 P D))
             case atStart => exact ⟨0, by omega, by omega, rfl, HB, hide (Nat.le_refl _), HC, HO, HZS, HRB⟩
             case round =>
               clear HB HC HO HZS HRB
               obtain ⟨j, hj, hgj, rfl, HB, HYS, HC, HO, HZS, HRB⟩ := hrel
               by_cases hji : j < i
               · have hji' : (j : Int) < (i : Int) := by omega
                 obtain ⟨fa, fn, fc, hfj⟩ := (unhide HC).sl j hji
                 have e0 := (unhide HC).ta.cell hji
                 rw [hfj] at e0
                 have HFJ := hide hfj
                 have HGJ := hide hgj
                 clear hfj hgj
                 go_upto_region 19 with fail
                 obtain ⟨x', hx'⟩ : ∃ x, bs[j]? = some x := ⟨bs[j]'(by have := unhide HBS; omega), by simp [show j < bs.length by have := unhide HBS; omega]⟩
                 have HXJ := hide hx'
                 clear hx'
                 have hj6 : i ≤ 6 := unhide HWM
                 have hk6 : k < 6 := by omega
                 obtain ⟨x, hx⟩ : ∃ x, x = ent r (colOf j M) := ⟨_, rfl⟩
                 have HENT := hide hx
                 clear hx e0
                 obtain ⟨s1, s2, s3, s4, s5, s6, s7, s8, HZB0⟩ := (unhide HC).at (unhide HXJ)
                 have HZc : ∀ W W' : World, ZB gb j s1 s2 s3 s4 s5 s6 s7 s8 x'.1 x'.2 W → Below W.heap.size W W' → ZB gb j s1 s2 s3 s4 s5 s6 s7 s8 x'.1 x'.2 W' := ZB.later
                 have HS0 : PrS w Y.heap.size M ga gb i lo hi7 f zz bs X g1 g2 L.length k j AA lo2 q (.slice z1 a.length z2) a r1 r2 r3 r4 r5 r6 r7 r8 P D (ZB gb j s1 s2 s3 s4 s5 s6 s7 s8 x'.1 x'.2) j wr.drew := PrS.later ⟨unhide HB, unhide HYS, unhide HC, (unhide HO).room, (unhide HO).tab, unhide HZS, unhide HRB, HZB0⟩ HZc (Below.refl _ _).drew
                 have HSCJ := hide ((unhide HC).zs j x' (unhide HXJ)).2
                 have HZJ : ∀ W, Cols M 547 1100 ga gb i lo hi7 f zz bs W → Rows 2 (ZE 547) W (.slice fa fn fc) (zz j) := fun W h => by rw [← unhide HFJ]; exact (h.zs j x' (unhide HXJ)).1.1
                 have hrl : r.length = M.length := by rw [← (unhide HTAB).2.2]; exact (unhide HTAB).1.2.2 r (List.mem_of_getElem? (unhide HRK))
                 have hal : a.length = r.length := (show Scd r a (P, D) from unhide HSC).2.2.1
                 have HZL : (zz j).length = a.length := by rw [hal, hrl, (unhide HSCJ).2.2.1, colOf, List.length_map]
                 have ha6 : a.length ≤ 6 := by omega
                 have HP3 : ∀ P3 D3, P3 * (D * x'.2) = (P * x'.1) * D3 → 0 < D3 → P3 ≠ 0 := fun P3 D3 h1 h2 h0 => by
                   have h3 : 0 < (P * x'.1) * D3 := Int.mul_pos (Int.mul_pos (unhide HSC).1 (unhide HSCJ).1) h2
                   rw [← h1, h0, Int.zero_mul] at h3
                   omega
                 have HEN : ∀ P3 D3 P4 D4, P3 * (D * x'.2) = (P * x'.1) * D3 → 0 < D3 → P4 * P3 = (dot a (zz j) * D3) * D4 → 0 < D4 → Int.gcd P4 D4 = 1 → x = (P4, D4) := fun P3 D3 P4 D4 h1 h2 h3 h4 h5 => by
                   rw [unhide HENT]
                   exact ent_scd (show Scd r a (P, D) from unhide HSC) (unhide HSCJ) (by rw [colOf, List.length_map]; exact hrl.symm) (cden_pos _ _ (unhide HRD) (unhide HR').colDens) h1 h2 h3 h4 h5
                 have HLQ : ∀ W : World, Y.heap.size ≤ W.heap.size → lo2 ≤ W.heap.size := fun W h => by have := unhide HSY; omega
                 have HXX : X[k * i + j]? = some x := by rw [unhide HX, unhide HENT, unhide HMW]; exact prod_at (unhide HRK) (by rw [← unhide HMW]; exact hji)
                 obtain ⟨hgg1, hgg2, hgg3, hgg4, hgg5⟩ := unhide HGG
                 have hgbl := (unhide HC).lo
                 have hsy := unhide HSY
                 have hlo := unhide HLO
                 have HAP := fun gq t1 t2 t3 t4 t5 t6 t7 t8 W (ht : RB 20000 W gq t1 t2 t3 t4 t5 t6 t7 t8 x.1 x.2) (h : PrS w Y.heap.size M ga gb i lo hi7 f zz bs X g1 g2 L.length k j AA lo2 q (.slice z1 a.length z2) a r1 r2 r3 r4 r5 r6 r7 r8 P D (ZB gb j s1 s2 s3 s4 s5 s6 s7 s8 x'.1 x'.2) j W) => PrS.append h (fun W W' h hb => ZB.beside (by omega) W W' h hb) ht HXX hkl hji (hgg4 k hkl (by omega)) hgg1 hgg3 hlo.1 (by omega) (by omega)
                 have HST := fun W (h : PrS w Y.heap.size M ga gb i lo hi7 f zz bs X g1 g2 L.length k j AA lo2 q (.slice z1 a.length z2) a r1 r2 r3 r4 r5 r6 r7 r8 P D (ZB gb j s1 s2 s3 s4 s5 s6 s7 s8 x'.1 x'.2) (j + 1) W) => PrS.store h (fun W W' h hb => ZB.beside (by omega) W W' h hb) hkl hgg2 hgg3 hlo.2 (by omega) (by omega)
                 have HZL := hide HZL
                 have HP3 := hide HP3
                 have HEN := hide HEN
                 have HAP0 := hide HAP
                 have HST0 := hide HST
                 have HZJ0 := hide HZJ
                 clear HXX HAP HST HZJ hgg1 hgg2 hgg3 hgg4 hgg5 hgbl hsy hlo hrl hal
                 refine wp_region_facts (by kernel_rfl) (by kernel_rfl) (by kernel_rfl) (PW (PrS w Y.heap.size M ga gb i lo hi7 f zz bs X g1 g2 L.length k j AA lo2 q (.slice z1 a.length z2) a r1 r2 r3 r4 r5 r6 r7 r8 P D (ZB gb j s1 s2 s3 s4 s5 s6 s7 s8 x'.1 x'.2)) (fun wr => PrS w Y.heap.size M ga gb i lo hi7 f zz bs X g1 g2 L.length k (j + 1) AA lo2 q (.slice z1 a.length z2) a r1 r2 r3 r4 r5 r6 r7 r8 P D (ZB gb j s1 s2 s3 s4 s5 s6 s7 s8 x'.1 x'.2) (j + 1) wr) j) (PF g1 g2 gb L.length k i j lo2 AA (.slice z1 a.length z2) (.slice fa fn fc) (dot a (zz j)) P D x'.1 x'.2 (.agg #[.int .i64 r1, .slice r2 r3 r4, .int .i64 r5, .slice r6 r7 r8]) (.agg #[.int .i64 s1, .slice s2 s3 s4, .int .i64 s5, .slice s6 s7 s8]) x) (Or.inl ⟨rfl, rfl, HS0⟩) ?_ ?_
                 · intro L' vals w1 i' o' hW hF hL ho hdep
                   have hi' : i' < 20 := (Array.getElem?_eq_some_iff.1 ho).1
                   rcases (by omega : i' = 0 ∨ i' = 1 ∨ i' = 2 ∨ i' = 3 ∨ i' = 4 ∨ i' = 5 ∨ i' = 6 ∨ i' = 7 ∨ i' = 8 ∨ i' = 9 ∨ i' = 10 ∨ i' = 11 ∨ i' = 12 ∨ i' = 13 ∨ i' = 14 ∨ i' = 15 ∨ i' = 16 ∨ i' = 17 ∨ i' = 18 ∨ i' = 19) with rfl | rfl | rfl | rfl | rfl | rfl | rfl | rfl | rfl | rfl | rfl | rfl | rfl | rfl | rfl | rfl | rfl | rfl | rfl | rfl
                   · obtain rfl := Option.some.inj ho
                     obtain ⟨jr, hS, hW'⟩ := hW.open hL (by decide) (by decide) (by decide)
                     refine wpOp_step rfl (fun K hK' => ?_)
                     simp only [frameOf, List.map_cons, List.map_nil, Act.put, List.setIfInBounds_toArray, List.set_cons_zero, List.set_cons_succ]
                     go_simp
                     exact hK' _ _ ⟨.slice (some ⟨g2, 0, none⟩) L.length L.length, (by show _ = Act.put _ (some 88) _; simp only [frameOf, List.map_cons, List.map_nil, Act.put, List.setIfInBounds_toArray, List.set_cons_zero, List.set_cons_succ]), rfl, hW' _ hS, hF⟩
                   · obtain rfl := Option.some.inj ho
                     obtain ⟨jr, hS, hW'⟩ := hW.open hL (by decide) (by decide) (by decide)
                     refine wpOp_step rfl (fun K hK' => ?_)
                     simp only [frameOf, List.map_cons, List.map_nil, Act.put, List.setIfInBounds_toArray, List.set_cons_zero, List.set_cons_succ]
                     go_simp
                     exact hK' _ _ ⟨.int .i64 (k : Int), (by show _ = Act.put _ (some 89) _; simp only [frameOf, List.map_cons, List.map_nil, Act.put, List.setIfInBounds_toArray, List.set_cons_zero, List.set_cons_succ]), rfl, hW' _ hS, hF⟩
                   · obtain rfl := Option.some.inj ho
                     obtain ⟨jr, hS, hW'⟩ := hW.open hL (by decide) (by decide) (by decide)
                     refine wpOp_step rfl (fun K hK' => ?_)
                     simp only [frameOf, List.map_cons, List.map_nil, Act.put, List.setIfInBounds_toArray, List.set_cons_zero, List.set_cons_succ]
                     go_simp
                     exact hK' _ _ ⟨.slice (some ⟨g2, 0, none⟩) L.length L.length, (by show _ = Act.put _ (some 90) _; simp only [frameOf, List.map_cons, List.map_nil, Act.put, List.setIfInBounds_toArray, List.set_cons_zero, List.set_cons_succ]), rfl, hW' _ hS, hF⟩
                   · obtain rfl := Option.some.inj ho
                     obtain ⟨jr, hS, hW'⟩ := hW.open hL (by decide) (by decide) (by decide)
                     refine wpOp_step rfl (fun K hK' => ?_)
                     simp only [frameOf, List.map_cons, List.map_nil, Act.put, List.setIfInBounds_toArray, List.set_cons_zero, List.set_cons_succ]
                     go_simp
                     exact hK' _ _ ⟨.int .i64 (k : Int), (by show _ = Act.put _ (some 91) _; simp only [frameOf, List.map_cons, List.map_nil, Act.put, List.setIfInBounds_toArray, List.set_cons_zero, List.set_cons_succ]), rfl, hW' _ hS, hF⟩
                   · obtain rfl := Option.some.inj ho
                     obtain ⟨jr, hS, hW'⟩ := hW.open hL (by decide) (by decide) (by decide)
                     have f2 := hF 2 (hdep ⟨2, .data⟩ (by simp) rfl)
                     have f3 := hF 3 (hdep ⟨3, .data⟩ (by simp) rfl)
                     have hlt1 : (k : Int) < (L.length : Int) := by omega
                     refine wpOp_step rfl (fun K hK' => ?_)
                     simp only [frameOf, List.map_cons, List.map_nil, Act.put, List.setIfInBounds_toArray, List.set_cons_zero, List.set_cons_succ]
                     rw [show vals 2 = _ from f2]
                     rw [show vals 3 = _ from f3]
                     go_simp
                     exact hK' _ _ ⟨.pointer (some ⟨g2, k, none⟩), (by show _ = Act.put _ (some 92) _; simp only [frameOf, List.map_cons, List.map_nil, Act.put, List.setIfInBounds_toArray, List.set_cons_zero, List.set_cons_succ, show vals 2 = _ from f2, show vals 3 = _ from f3]), rfl, hW' _ hS, hF⟩
                   · obtain rfl := Option.some.inj ho
                     obtain ⟨jr, hS, hW'⟩ := hW.open hL (by decide) (by decide) (by decide)
                     have f4 := hF 4 (hdep ⟨4, .data⟩ (by simp) rfl)
                     have c0 := hS.tab.cell (i := k) (by omega)
                     rw [if_neg (by omega), if_pos rfl] at c0
                     refine wpOp_step rfl (fun K hK' => ?_)
                     simp only [frameOf, List.map_cons, List.map_nil, Act.put, List.setIfInBounds_toArray, List.set_cons_zero, List.set_cons_succ]
                     rw [show vals 4 = _ from f4]
                     go_simp
                     exact hK' _ _ ⟨.slice (AA k) j i, (by show _ = Act.put _ (some 93) _; simp only [frameOf, List.map_cons, List.map_nil, Act.put, List.setIfInBounds_toArray, List.set_cons_zero, List.set_cons_succ, show vals 4 = _ from f4]), rfl, hW' _ hS, hF⟩
                   · obtain rfl := Option.some.inj ho
                     obtain ⟨jr, hS, hW'⟩ := hW.open hL (by decide) (by decide) (by decide)
                     refine wpOp_step rfl (fun K hK' => ?_)
                     simp only [frameOf, List.map_cons, List.map_nil, Act.put, List.setIfInBounds_toArray, List.set_cons_zero, List.set_cons_succ]
                     go_simp
                     exact hK' _ _ ⟨.slice z1 a.length z2, (by show _ = Act.put _ (some 94) _; simp only [frameOf, List.map_cons, List.map_nil, Act.put, List.setIfInBounds_toArray, List.set_cons_zero, List.set_cons_succ]), rfl, hW' _ hS, hF⟩
                   · obtain rfl := Option.some.inj ho
                     obtain ⟨jr, hS, hW'⟩ := hW.open hL (by decide) (by decide) (by decide)
                     refine wpOp_step rfl (fun K hK' => ?_)
                     simp only [frameOf, List.map_cons, List.map_nil, Act.put, List.setIfInBounds_toArray, List.set_cons_zero, List.set_cons_succ]
                     go_simp
                     exact hK' _ _ ⟨.slice fa fn fc, (by show _ = Act.put _ (some 95) _; simp only [frameOf, List.map_cons, List.map_nil, Act.put, List.setIfInBounds_toArray, List.set_cons_zero, List.set_cons_succ]), rfl, hW' _ hS, hF⟩
                   · obtain rfl := Option.some.inj ho
                     obtain ⟨jr, hS, hW'⟩ := hW.open hL (by decide) (by decide) (by decide)
                     have f6 := hF 6 (hdep ⟨6, .data⟩ (by simp) rfl)
                     have f7 := hF 7 (hdep ⟨7, .data⟩ (by simp) rfl)
                     refine wpOp_step rfl (fun K hK' => ?_)
                     simp only [frameOf, List.map_cons, List.map_nil, Act.put, List.setIfInBounds_toArray, List.set_cons_zero, List.set_cons_succ]
                     rw [show vals 6 = _ from f6]
                     rw [show vals 7 = _ from f7]
                     go_simp
                     go_fit (msum_any (N := 546) _ hS.zs.1 (unhide HZJ0 _ hS.cols) (unhide HZL) (by omega) (by omega))
                     rintro e9 Y9 ⟨⟨v, rfl, hV⟩, hb⟩
                     exact hK' _ _ ⟨v, (by show _ = Act.put _ (some 96) _; simp only [frameOf, List.map_cons, List.map_nil, Act.put, List.setIfInBounds_toArray, List.set_cons_zero, List.set_cons_succ, show vals 6 = _ from f6, show vals 7 = _ from f7]), hV, hW' _ (hS.later HZc hb), fun j hj => PF.later (hF j hj) hb⟩
                   · obtain rfl := Option.some.inj ho
                     obtain ⟨jr, hS, hW'⟩ := hW.open hL (by decide) (by decide) (by decide)
                     obtain ⟨q0, q1, q2, q3⟩ := hS.rb.c
                     refine wpOp_step rfl (fun K hK' => ?_)
                     simp only [frameOf, List.map_cons, List.map_nil, Act.put, List.setIfInBounds_toArray, List.set_cons_zero, List.set_cons_succ]
                     go_simp
                     exact hK' _ _ ⟨_, (by show _ = Act.put _ (some 97) _; simp only [frameOf, List.map_cons, List.map_nil, Act.put, List.setIfInBounds_toArray, List.set_cons_zero, List.set_cons_succ]), rfl, hW' _ hS, hF⟩
                   · obtain rfl := Option.some.inj ho
                     obtain ⟨jr, hS, hW'⟩ := hW.open hL (by decide) (by decide) (by decide)
                     refine wpOp_step rfl (fun K hK' => ?_)
                     simp only [frameOf, List.map_cons, List.map_nil, Act.put, List.setIfInBounds_toArray, List.set_cons_zero, List.set_cons_succ]
                     go_simp
                     exact hK' _ _ ⟨.slice (some ⟨gb, 0, none⟩) i i, (by show _ = Act.put _ (some 98) _; simp only [frameOf, List.map_cons, List.map_nil, Act.put, List.setIfInBounds_toArray, List.set_cons_zero, List.set_cons_succ]), rfl, hW' _ hS, hF⟩
                   · obtain rfl := Option.some.inj ho
                     obtain ⟨jr, hS, hW'⟩ := hW.open hL (by decide) (by decide) (by decide)
                     refine wpOp_step rfl (fun K hK' => ?_)
                     simp only [frameOf, List.map_cons, List.map_nil, Act.put, List.setIfInBounds_toArray, List.set_cons_zero, List.set_cons_succ]
                     go_simp
                     exact hK' _ _ ⟨.int .i64 (j : Int), (by show _ = Act.put _ (some 99) _; simp only [frameOf, List.map_cons, List.map_nil, Act.put, List.setIfInBounds_toArray, List.set_cons_zero, List.set_cons_succ]), rfl, hW' _ hS, hF⟩
                   · obtain rfl := Option.some.inj ho
                     obtain ⟨jr, hS, hW'⟩ := hW.open hL (by decide) (by decide) (by decide)
                     have f10 := hF 10 (hdep ⟨10, .data⟩ (by simp) rfl)
                     have f11 := hF 11 (hdep ⟨11, .data⟩ (by simp) rfl)
                     have hlt1 : (k : Int) < (L.length : Int) := by omega
                     refine wpOp_step rfl (fun K hK' => ?_)
                     simp only [frameOf, List.map_cons, List.map_nil, Act.put, List.setIfInBounds_toArray, List.set_cons_zero, List.set_cons_succ]
                     rw [show vals 10 = _ from f10]
                     rw [show vals 11 = _ from f11]
                     go_simp
                     exact hK' _ _ ⟨.pointer (some ⟨gb, j * 4, none⟩), (by show _ = Act.put _ (some 100) _; simp only [frameOf, List.map_cons, List.map_nil, Act.put, List.setIfInBounds_toArray, List.set_cons_zero, List.set_cons_succ, show vals 10 = _ from f10, show vals 11 = _ from f11]), rfl, hW' _ hS, hF⟩
                   · obtain rfl := Option.some.inj ho
                     obtain ⟨jr, hS, hW'⟩ := hW.open hL (by decide) (by decide) (by decide)
                     have f12 := hF 12 (hdep ⟨12, .data⟩ (by simp) rfl)
                     obtain ⟨q0, q1, q2, q3⟩ := hS.z.1
                     refine wpOp_step rfl (fun K hK' => ?_)
                     simp only [frameOf, List.map_cons, List.map_nil, Act.put, List.setIfInBounds_toArray, List.set_cons_zero, List.set_cons_succ]
                     rw [show vals 12 = _ from f12]
                     go_simp
                     exact hK' _ _ ⟨_, (by show _ = Act.put _ (some 101) _; simp only [frameOf, List.map_cons, List.map_nil, Act.put, List.setIfInBounds_toArray, List.set_cons_zero, List.set_cons_succ, show vals 12 = _ from f12]), rfl, hW' _ hS, hF⟩
                   · obtain rfl := Option.some.inj ho
                     obtain ⟨jr, hS, hW'⟩ := hW.open hL (by decide) (by decide) (by decide)
                     have f9 := hF 9 (hdep ⟨9, .data⟩ (by simp) rfl)
                     have f13 := hF 13 (hdep ⟨13, .data⟩ (by simp) rfl)
                     refine wpOp_step rfl (fun K hK' => ?_)
                     simp only [frameOf, List.map_cons, List.map_nil, Act.put, List.setIfInBounds_toArray, List.set_cons_zero, List.set_cons_succ]
                     rw [show vals 9 = _ from f9]
                     rw [show vals 13 = _ from f13]
                     go_simp
                     go_fit (qmul_any (N := 1099) _ hS.rb.r hS.z.2 (by omega) ((unhide HA).later hS.below).t64)
                     rintro e9 Y9 ⟨⟨v, P3, D3, rfl, hV, hE⟩, hb⟩
                     exact hK' _ _ ⟨v, (by show _ = Act.put _ (some 102) _; simp only [frameOf, List.map_cons, List.map_nil, Act.put, List.setIfInBounds_toArray, List.set_cons_zero, List.set_cons_succ, show vals 9 = _ from f9, show vals 13 = _ from f13]), ⟨P3, D3, hV, hE⟩, hW' _ (hS.later HZc hb), fun j hj => PF.later (hF j hj) hb⟩
                   · obtain rfl := Option.some.inj ho
                     obtain ⟨jr, hS, hW'⟩ := hW.open hL (by decide) (by decide) (by decide)
                     have f8 := hF 8 (hdep ⟨8, .data⟩ (by simp) rfl)
                     have f14 := hF 14 (hdep ⟨14, .data⟩ (by simp) rfl)
                     obtain ⟨P3, D3, f14, f14e⟩ := f14
                     refine wpOp_step rfl (fun K hK' => ?_)
                     simp only [frameOf, List.map_cons, List.map_nil, Act.put, List.setIfInBounds_toArray, List.set_cons_zero, List.set_cons_succ]
                     go_simp
                     go_fit (parted_any (N := 4405) _ ((unhide HA).later hS.below) (Zr.mono f8 (by omega)) f14 (unhide HP3 _ _ f14e f14.posD) (by omega))
                     rintro e9 Y9 ⟨⟨v, P4, D4, rfl, hV, hE⟩, hb⟩
                     obtain rfl : x = (P4, D4) := unhide HEN _ _ _ _ f14e f14.posD hE hV.posD hV.lowD
                     exact hK' _ _ ⟨v, (by show _ = Act.put _ (some 103) _; simp only [frameOf, List.map_cons, List.map_nil, Act.put, List.setIfInBounds_toArray, List.set_cons_zero, List.set_cons_succ]), hV.mono (by omega), hW' _ (hS.later HZc hb), fun j hj => PF.later (hF j hj) hb⟩
                   · obtain rfl := Option.some.inj ho
                     obtain ⟨jr, hS, hW'⟩ := hW.open hL (by decide) (by decide) (by decide)
                     have f15 := hF 15 (hdep ⟨15, .data⟩ (by simp) rfl)
                     obtain ⟨t1, t2, t3, t4, t5, t6, t7, t8, hv15⟩ := Rr.shape f15
                     rw [hv15] at f15
                     have kn := below_new w1 (.cells #[.int .i64 t1, .slice t2 t3 t4, .int .i64 t5, .slice t6 t7 t8] 52)
                     refine wpOp_step rfl (fun K hK' => ?_)
                     simp only [frameOf, List.map_cons, List.map_nil, Act.put, List.setIfInBounds_toArray, List.set_cons_zero, List.set_cons_succ]
                     rw [hv15]
                     go_simp
                     exact hK' _ _ ⟨_, (by show _ = Act.put _ (some 104) _; simp only [frameOf, List.map_cons, List.map_nil, Act.put, List.setIfInBounds_toArray, List.set_cons_zero, List.set_cons_succ, hv15]), ⟨_, t1, t2, t3, t4, t5, t6, t7, t8, rfl, HLQ _ hS.ys, RB.new f15⟩, hW' _ (hS.later HZc kn), fun j hj => PF.later (hF j hj) kn⟩
                   · obtain rfl := Option.some.inj ho
                     have f5 := hF 5 (hdep ⟨5, .data⟩ (by simp) rfl)
                     have f16 := hF 16 (hdep ⟨16, .data⟩ (by simp) rfl)
                     rcases hW with ⟨_, h19, hS⟩ | ⟨h17, _, _⟩ | ⟨_, hall, _⟩
                     rotate_left
                     · rw [hL] at h17; cases h17
                     · have := hall 17 (by decide); rw [hL] at this; cases this
                     obtain ⟨gq, t1, t2, t3, t4, t5, t6, t7, t8, hv16, hgq, hq16⟩ := f16
                     obtain ⟨hap, hS2, hbe⟩ := unhide HAP0 gq t1 t2 t3 t4 t5 t6 t7 t8 w1 hq16 hS
                     refine wpOp_append rfl rfl (.tmp 93) (.tmp 104) 118 rfl (v1 := .slice (AA k) j i) (v2 := .slice (some ⟨gq, 0, none⟩) 1 1) (by simp only [frameOf, List.map_cons, List.map_nil, Act.put, List.setIfInBounds_toArray, List.set_cons_zero, List.set_cons_succ]; exact f5) (by simp only [frameOf, List.map_cons, List.map_nil, Act.put, List.setIfInBounds_toArray, List.set_cons_zero, List.set_cons_succ]; exact hv16) hap ⟨.slice (AA k) (j + 1) i, rfl, rfl, Or.inr (Or.inl ⟨rfl, h19, hS2⟩), fun j hj => PF.beside (hF j hj) hbe (unhide HLO).1⟩
                   · obtain rfl := Option.some.inj ho
                     obtain ⟨jr, hS, hW'⟩ := hW.open hL (by decide) (by decide) (by decide)
                     have f0 := hF 0 (hdep ⟨0, .data⟩ (by simp) rfl)
                     have f1 := hF 1 (hdep ⟨1, .data⟩ (by simp) rfl)
                     have hlt1 : (k : Int) < (L.length : Int) := by omega
                     refine wpOp_step rfl (fun K hK' => ?_)
                     simp only [frameOf, List.map_cons, List.map_nil, Act.put, List.setIfInBounds_toArray, List.set_cons_zero, List.set_cons_succ]
                     rw [show vals 0 = _ from f0]
                     rw [show vals 1 = _ from f1]
                     go_simp
                     exact hK' _ _ ⟨.pointer (some ⟨g2, k, none⟩), (by show _ = Act.put _ (some 106) _; simp only [frameOf, List.map_cons, List.map_nil, Act.put, List.setIfInBounds_toArray, List.set_cons_zero, List.set_cons_succ, show vals 0 = _ from f0, show vals 1 = _ from f1]), rfl, hW' _ hS, hF⟩
                   · obtain rfl := Option.some.inj ho
                     have f18 := hF 18 (hdep ⟨18, .data⟩ (by simp) rfl)
                     have f17 := hF 17 (hdep ⟨17, .data⟩ (by simp) rfl)
                     rcases hW with ⟨h17, _, _⟩ | ⟨_, h19, hS⟩ | ⟨_, hall, _⟩
                     · rw [hdep ⟨17, .data⟩ (by simp) rfl] at h17; cases h17
                     rotate_left
                     · have := hall 19 (by decide); rw [hL] at this; cases this
                     have c0 := hS.tab.cell (i := k) (by omega)
                     have gf := hS.tab.free
                     refine wpOp_step rfl (fun K hK' => ?_)
                     simp only [frameOf, List.map_cons, List.map_nil, Act.put, List.setIfInBounds_toArray, List.set_cons_zero, List.set_cons_succ]
                     rw [show vals 17 = _ from f17, show vals 18 = _ from f18]
                     go_simp
                     obtain ⟨hS2, hbe⟩ := unhide HST0 w1 hS
                     refine hK' _ _ ⟨undef, (by show _ = Act.put _ (none) _; simp only [frameOf, List.map_cons, List.map_nil, Act.put, List.setIfInBounds_toArray, List.set_cons_zero, List.set_cons_succ, show vals 17 = _ from f17, show vals 18 = _ from f18]), trivial, Or.inr (Or.inr ⟨rfl, ?_, hS2⟩), fun j hj => PF.beside (hF j hj) hbe (unhide HLO).2⟩
                     intro i hi
                     rcases (by omega : i = 0 ∨ i = 1 ∨ i = 2 ∨ i = 3 ∨ i = 4 ∨ i = 5 ∨ i = 6 ∨ i = 7 ∨ i = 8 ∨ i = 9 ∨ i = 10 ∨ i = 11 ∨ i = 12 ∨ i = 13 ∨ i = 14 ∨ i = 15 ∨ i = 16 ∨ i = 17 ∨ i = 18 ∨ i = 19) with rfl | rfl | rfl | rfl | rfl | rfl | rfl | rfl | rfl | rfl | rfl | rfl | rfl | rfl | rfl | rfl | rfl | rfl | rfl | rfl
                     · exact hdep ⟨0, .phase⟩ (by simp) rfl
                     · exact hdep ⟨1, .phase⟩ (by simp) rfl
                     · exact hdep ⟨2, .phase⟩ (by simp) rfl
                     · exact hdep ⟨3, .phase⟩ (by simp) rfl
                     · exact hdep ⟨4, .phase⟩ (by simp) rfl
                     · exact hdep ⟨5, .phase⟩ (by simp) rfl
                     · exact hdep ⟨6, .phase⟩ (by simp) rfl
                     · exact hdep ⟨7, .phase⟩ (by simp) rfl
                     · exact hdep ⟨8, .phase⟩ (by simp) rfl
                     · exact hdep ⟨9, .phase⟩ (by simp) rfl
                     · exact hdep ⟨10, .phase⟩ (by simp) rfl
                     · exact hdep ⟨11, .phase⟩ (by simp) rfl
                     · exact hdep ⟨12, .phase⟩ (by simp) rfl
                     · exact hdep ⟨13, .phase⟩ (by simp) rfl
                     · exact hdep ⟨14, .phase⟩ (by simp) rfl
                     · exact hdep ⟨15, .phase⟩ (by simp) rfl
                     · exact hdep ⟨16, .phase⟩ (by simp) rfl
                     · exact hdep ⟨17, .data⟩ (by simp) rfl
                     · exact hdep ⟨18, .data⟩ (by simp) rfl
                     · exact rfl
                 · intro L' vals w1 hW hF
                   rcases hW with ⟨_, h19, _⟩ | ⟨_, h19, _⟩ | ⟨_, _, hK⟩
                   · have := (hF 19 (by decide)).1; rw [h19] at this; cases this
                   · have := (hF 19 (by decide)).1; rw [h19] at this; cases this
                   have HB := hide hK.below
                   have HYS := hide hK.ys
                   have HC := hide hK.cols
                   have HO := hide (⟨hK.room, hK.tab⟩ : Outs X g1 g2 L.length i k (j + 1) AA w1)
                   have HZS := hide hK.zs
                   have HRB := hide hK.rb
                   clear hK hF
                   simp only [frameOf, List.map_cons, List.map_nil, Act.put, List.setIfInBounds_toArray, List.set_cons_zero, List.set_cons_succ]
                   go_wp2
                   go_roundg (i - (j + 1))
                   case measure => have := unhide HGJ; omega
                   case rel => exact ⟨j + 1, by omega, rfl, by go_num, HB, HYS, HC, HO, HZS, HRB⟩
               · obtain rfl : j = i := by omega
                 clear hji hj hgj
                 have hgk := unhide HGK
                 go_wp2
                 go_roundg (L.length - (k + 1))
                 case measure => omega
                 case rel => exact ⟨k + 1, by omega, rfl, by go_num, HB, hide ⟨Below.refl _ _, (by have := unhide HYS; have := unhide HSY; have := unhide HW7'; omega)⟩, HC, hide (unhide HO).next⟩
           · obtain rfl : k = L.length := by omega
             clear hkl hk hgk
             go_wp2
             exact bodyPost_ret (v := .tuple #[.slice (some ⟨g2, 0, none⟩) L.length L.length, .nilIface]) (by simp [results, Tryz.results80, go_sem]) rfl ⟨Or.inr ⟨unhide HTAB, _, rfl, (unhide HX ▸ unhide HO : Outs (prodT L M).flatten g1 g2 L.length i L.length 0 AA _).rows prodT_len.1 (fun r hr => by rw [unhide HMW]; exact prodT_len.2 r hr) hl hm6 (unhide HGG).2.2.2.1⟩, unhide HB⟩
 · have hbad : ¬ (isTab L ∧ isTab M ∧ wide L = M.length) := fun ⟨a, b, c⟩ => hall ⟨(unhide hk1).2 a, (unhide hk2).2 b, by rw [unhide hd1 ((unhide hk1).2 a)]; exact c⟩
   have HBAD := hide hbad
   have c3 := cell_keep (unhide HB) (unhide HSE).h3
   clear hbad hmk hmk2
   cases ok1
   · go_wp2_with fail
     go_quiet (fail)
     go_wp2
     exact bodyPost_ret (v := .tuple #[.slice none 0 0, .iface 307 (.pointer (some (A 3)))]) (by simp [results, Tryz.results80, go_sem]) rfl ⟨Or.inl ⟨unhide HBAD, rfl⟩, belowN (unhide HB) _⟩
   cases ok2
   · go_wp2_with fail
     go_quiet (fail)
     go_wp2
     exact bodyPost_ret (v := .tuple #[.slice none 0 0, .iface 307 (.pointer (some (A 3)))]) (by simp [results, Tryz.results80, go_sem]) rfl ⟨Or.inl ⟨unhide HBAD, rfl⟩, belowN (unhide HB) _⟩
   have hne : ((d1 : Int) == (M.length : Int)) = false := by simp; exact fun hh => hall ⟨rfl, rfl, by omega⟩
   go_wp2_with fail
   go_quiet (fail)
   go_wp2
   exact bodyPost_ret (v := .tuple #[.slice none 0 0, .iface 307 (.pointer (some (A 3)))]) (by simp [results, Tryz.results80, go_sem]) rfl ⟨Or.inl ⟨unhide HBAD, rfl⟩, belowN (unhide HB) _⟩
end Go.Proofs.YtkifiolkfdicoaaGreatDoor
