/-
  Jobs: the program's settle.
-/
import Derived.Test.YtgckgkllpkkpeaaDoorZC
namespace Go.Proofs.YtgckgkllpkkpeaaDoor
open Go.RowKit

theorem compl_room {p : Pl} (hR : PlR p) {S : Nat} {x y : Nat → Nat} {b : Nat → Bool} (h : Compl p S x b y) {j : Nat} (hj : j < p.jobs.length) (hb : b j = false) : Room p (useM p x b) j (y j) := by
  intro m k h1 h2 hk
  have h3 := useM_with (x := x) (a := y j) hj hb m k
  rw [if_pos ⟨h1, h2⟩] at h3
  rw [← h3]
  refine Int.le_trans (useM_mono hR (y := y) (b' := allB) (fun i hi hbi => ⟨rfl, ?_⟩) m k) (h.f.use m k hk)
  by_cases e1 : i = j
  · subst e1
    rw [upd_same]
  · rw [upd_other _ _ e1] at hbi ⊢
    exact (h.e i hi hbi).symm
/-- What settle leaves: the job begins as early as it can be, so that all can be done. -/
structure SetP (q : Rq) (S : Nat) (x : Nat → Nat) (b : Nat → Bool) (j : Nat) (w w' : World) : Prop where
  ex : ∃ a x', RoX q w' S (upd x j a) (upd b j true) x' ∧ OkS q.p S q.T (upd x j a) (upd b j true) ∧ (∃ y, Compl q.p S (upd x j a) (upd b j true) y) ∧ ∀ a', a' < a → ∀ y, ¬ Compl q.p S (upd x j a') (upd b j true) y
  o : Only q w w'
theorem upd_at {x : Nat → Nat} {b : Nat → Bool} {p : Pl} {S j a : Nat} {y : Nat → Nat} (hj : j < p.jobs.length) (h : Compl p S (upd x j a) (upd b j true) y) : y j = a := (h.e j hj (upd_same _ _ _)).trans (upd_same _ _ _)
set_option maxHeartbeats 16000000 in
set_option maxRecDepth 8000 in
/-- settle. -/
theorem settle_any {q : Rq} {S : Nat} {x0 x : Nat → Nat} {b : Nat → Bool} (w : World) (hq : q.Ok) (hTl : Tails q) (hX : RoX q w S x0 b x) {j : Nat} (hj : j < q.p.jobs.length) (hS : S ≤ 30) (hok : OkS q.p S q.T x b) (hbj : b j = false) (hf : ∀ a, Aft q.p j a → b a = true) (hex : ∃ y, Compl q.p S x b y) :
    Calls Tryd.prog 22 #[.pointer (some ⟨q.R, 0, none⟩), .int .i64 (j : Int)] w fun e w' => e = .returned (.tuple #[]) ∧ SetP q S x b j w w' := by
  have HTL := hide hTl
  have HOK := hide hok
  have HBJ := hide (And.intro hbj hf)
  have HEX := hide hex
  have h : Ros q w S x b (useM q.p x b) := hX.r
  have hx := hX.m
  have hu : ∀ m k, m < 30 → k < 7 → 0 ≤ useM q.p x b m k ∧ useM q.p x b m k ≤ 1000000000 := fun m k _ _ => useM_bound hq.r x b m k
  clear hTl hok hbj hf hex hX
  obtain ⟨jb, hjb⟩ : ∃ y, q.p.jobs[j]? = some y := at_some hj
  have hT := hq.t j hj
  have HRDB := hide (show rdN q.p x j ≤ 130 from (rdN_le hq.r hj).2 fun a ha => by
    have h1 := ha.lt hq.r
    have h2 := hx a (by omega)
    have h3 := hq.t a (by omega)
    omega)
  have HXM := hide hx
  have HRDY := hide (rdN_eq (x := x) hjb)
  have hM := hq.pl.later h.bel
  have HJ := hide hM.j
  have HT := hide (h.rows hq hx)
  have HBG := hide (begun_xl hq.r hjb hx)
  obtain ⟨jA, jo, a1, d1, a2, d2, hja, ⟨e0, e1, e2⟩, hjm⟩ := hM.j.job hjb
  have HJM := hide hjm
  have c0 := h.c0
  rw [hja] at c0
  have c1 := h.c1
  have c4 := h.c4
  have HR := hide h
  have HQ := hide hq
  have HU := hide hu
  have HH := hide (And.intro hj hT)
  obtain ⟨n, hnn⟩ : ∃ n, n = q.p.jobs.length := ⟨_, rfl⟩
  obtain ⟨nc, hnc⟩ : ∃ n, n = q.p.caps.length := ⟨_, rfl⟩
  obtain ⟨R, hR⟩ : ∃ n, n = q.R := ⟨_, rfl⟩
  obtain ⟨RS, hRS⟩ : ∃ n, n = q.RS := ⟨_, rfl⟩
  obtain ⟨t, htt⟩ : ∃ n, n = q.T j := ⟨_, rfl⟩
  rw [← hR, ← hnn] at c0
  rw [← hR, ← hnc] at c1
  rw [← hR, ← hRS, ← hnn] at c4
  rw [← hRS, ← hnn] at HT
  rw [hja, ← hnn] at HJ
  rw [← hR]
  rw [← htt] at hT
  have HRR := hide (And.intro hR (And.intro hnn htt))
  have hj' : (j : Int) < (n : Int) := by omega
  have n7 := hq.r.nj
  rw [← hnn] at n7
  clear hnn hnc hR hRS htt h hq hx hu hM hja hjm hj
  go_enter Tryd.func22, Tryd.ntmps22
  go_upto_region 0 with fail
  have HJM2 := hide ((unhide HJM).later (Below.refl _ _).drew)
  have HJ2 := hide ((unhide HJ).on (fun _ _ h => h.later (Below.refl _ _).drew) (Below.refl _ _).drew)
  have HT2 := hide ((unhide HT).later (JE.stays IsSl 0) (Below.refl _ _).drew)
  go_region_held3 (fun w' => w'.cell? ⟨R, 0, none⟩ = some (.slice (some ⟨jA, jo, none⟩) n q.jc) ∧ w'.cell? ⟨R, 1, none⟩ = some (.slice q.ca nc q.cc) ∧ w'.cell? ⟨R, 4, none⟩ = some (.slice (some ⟨RS, 0, none⟩) n n) ∧ w'.cell? ⟨jA, jo + j * 3, none⟩ = some (.int .i64 jb.long) ∧ w'.cell? ⟨jA, jo + j * 3 + 1, none⟩ = some (.slice a1 jb.after.length d1) ∧ w'.cell? ⟨jA, jo + j * 3 + 2, none⟩ = some (.slice a2 jb.uses.length d2))
    (first | exact ⟨c0, c1, c4, e0, e1, e2⟩ | exact ⟨cell_keep hb c0, cell_keep hb c1, cell_keep hb c4, cell_keep hb e0, cell_keep hb e1, cell_keep hb e2⟩)
    (first | (go_at_call 37; go_fit (ready_any (st := xl q.p x) (jobs := q.p.jobs) (j := jb) _ (unhide HJM2) (unhide HJ2) (unhide HT2) (unhide HRR).2.1 (by rw [xl_len]; exact (unhide HRR).2.1) (unhide HBG)); rintro e9 Y1 ⟨rfl, hb⟩))
  rw [unhide HRDY]
  have HB := hide (below_keep hb (Below.refl _ _).drew)
  have HR := hide ((unhide HR).later (unhide HB))
  obtain ⟨rd, hrd⟩ : ∃ X, X = rdN q.p x j := ⟨_, rfl⟩
  rw [← hrd]
  rw [← hrd] at HRDB
  have HRD := hide hrd
  have hrb := unhide HRDB
  clear hrd hb c0 c1 c4 e0 e1 e2 HJM HJ HT HJM2 HJ2 HT2 HBG HRDB HRDY
  go_wp2_with fail
  obtain ⟨V, rfl⟩ : ∃ X, X = Y1 := ⟨_, rfl⟩
  have HX := hide (show RoX q V S x b x from ⟨unhide HR, fun _ _ _ => rfl, unhide HXM⟩)
  have HO := hide (Only.of (q := q) (unhide HB))
  clear HR HB
  go_loopg [4] (200 - rd) (fun gk av wr => ∃ m : Nat, rd ≤ m ∧ gk = 200 - m ∧ av = .int .i64 (m : Int) ∧ m ≤ 131 ∧ Hid (Only q w wr) ∧ Hid (∃ x', RoX q wr S x b x') ∧ Hid (∀ a', a' < m → ∀ y, ¬ Compl q.p S (upd x j a') (upd b j true) y))
  case atStart => exact ⟨rd, Nat.le_refl _, rfl, rfl, by omega, HO, hide ⟨x, unhide HX⟩, hide (by
    intro a' h1 y h2
    have h3 := upd_at (unhide HH).1 h2
    have h4 := h2.less (unhide HBJ).1
    have h5 := (rdN_compl (unhide HQ).r h4 (unhide HH).1 (unhide HBJ).2 (y j)).1 ((rdN_le (unhide HQ).r (unhide HH).1).2 fun a ha => h4.f.aft j a ha)
    have := unhide HRD
    omega)⟩
  case round =>
    obtain ⟨a, ha, hgk, rfl, ha1, HO1, HXE, HA⟩ := hrel
    obtain ⟨x', hxx⟩ := unhide HXE
    have HXX := hide hxx
    clear hxx HXE
    have hlat := latest_any wr (unhide HQ) (unhide HXX).r (by omega) (unhide HH).1
    rw [← (unhide HRR).1, ← (unhide HRR).2.2] at hlat
    go_wp2_with fail
    go_fit hlat
    rintro e Y2 ⟨rfl, hb⟩
    have HO1 := hide ((unhide HO1).trans (Only.of hb))
    have HXX := hide ((unhide HXX).later hb)
    clear hb hlat
    by_cases hz : (a : Int) ≤ (S : Int) - (t : Int)
    · have hrm := room_any (a := a) Y2 (unhide HQ) (unhide HXX).r (unhide HH).1 (by have := unhide HH; have := unhide HRR; omega) (fun m k _ _ => useM_bound (unhide HQ).r x' b m k)
      rw [← (unhide HRR).1] at hrm
      have hd : decide ((a : Int) ≤ (S : Int) - (t : Int)) = true := decide_eq_true hz
      go_wp2_with fail
      go_fit hrm
      rintro e Y3 ⟨⟨bb, rfl, hbb⟩, hb⟩
      have HO1 := hide ((unhide HO1).trans (Only.of hb))
      have HXX := hide ((unhide HXX).later hb)
      have HBB := hide hbb
      clear hb hrm hbb
      have ew : wrap64 ((a : Int) + 1) = ((a + 1 : Nat) : Int) := by unfold wrap64; omega
      cases bb
      · go_wp2
        go_roundg (200 - (a + 1))
        case measure => omega
        case rel => exact ⟨a + 1, by omega, rfl, by go_num, by omega, HO1, hide ⟨x', unhide HXX⟩, hide (by
          intro a' h1 y h2
          by_cases e : a' = a
          · subst e
            have h3 := upd_at (unhide HH).1 h2
            have h4 := compl_room (unhide HQ).r ((unhide HXX).compl (h2.less (unhide HBJ).1)) (unhide HH).1 (unhide HBJ).1
            rw [h3] at h4
            have := (unhide HBB).2 h4
            cases this
          · exact unhide HA a' (by omega) y h2)⟩
      have HRM := hide ((unhide HBB).1 (by first | rfl | trivial))
      have HOKX := hide ((unhide HOK).congr (unhide HQ).r (unhide HXX).a)
      have HRX := hide (show rdN q.p x' j ≤ a from (rdN_le (unhide HQ).r (unhide HH).1).2 fun c hc => by
        rw [(unhide HXX).a c (by have := hc.lt (unhide HQ).r; omega) ((unhide HBJ).2 c hc)]
        exact (rdN_le (unhide HQ).r (unhide HH).1).1 (by rw [← unhide HRD]; exact ha) c hc)
      have HNX := hide (show OkS q.p S q.T (upd x' j a) (upd b j true) from (unhide HOKX).begin (unhide HQ).r (unhide HH).1 (unhide HBJ).1 (unhide HBJ).2 (unhide HRX) (unhide HRM) (by rw [← (unhide HRR).2.2]; omega))
      have hbe := begin_any (j := j) (a := a) Y3 (unhide HQ) (unhide HXX).r (unhide HH).1 (by have := unhide HH; have := unhide HRR; omega) (fun m k _ _ => useM_bound (unhide HQ).r x' b m k)
      rw [← (unhide HRR).1, addN_with (unhide HQ).r (unhide HH).1 (unhide HBJ).1] at hbe
      go_wp2_with fail
      go_fit hbe
      rintro e Y4 ⟨rfl, hr4, ho4⟩
      have HO1 := hide ((unhide HO1).trans ho4)
      have HR4 := hide hr4
      clear hr4 ho4 hbe
      have hen := end_all (unhide HQ) (unhide HTL) hS _ Y4 (upd x' j a) (upd b j true) 0 0 (unhide HR4) (fun k hk => by
        by_cases e : k = j
        · subst e
          rw [upd_same]
          omega
        · rw [upd_other _ _ e]
          exact (unhide HXX).m k hk) (unhide HNX) (Nat.le_refl _) (by omega) (by omega)
      rw [← (unhide HRR).1] at hen
      go_wp2_with fail
      go_fit hen
      rintro e Y5 ⟨⟨bb, rfl, hy, hn⟩, ⟨x2, hr5, hag5, hx5⟩, ho5⟩
      have HO1 := hide ((unhide HO1).trans ho5)
      have HYN := hide (And.intro hy hn)
      have HAG := hide (And.intro hag5 hx5)
      have e5 : x2 j = a := (hag5 j (unhide HH).1 (upd_same _ _ _)).trans (upd_same _ _ _)
      rw [useM_congr (x := upd x' j a) (y := x2) (b := upd b j true) (b' := upd b j true) (fun _ _ => rfl) (fun k hk hbk => (hag5 k hk hbk).symm)] at hr5
      have HR5 := hide hr5
      have HXU := hide (show ∀ i, i < q.p.jobs.length → upd b j true i = true → upd x' j a i = upd x j a i from fun i hi hbi => by
        by_cases e : i = j
        · subst e
          rw [upd_same, upd_same]
        · rw [upd_other _ _ e] at hbi ⊢
          rw [upd_other _ _ e]
          exact (unhide HXX).a i hi hbi)
      clear hy hn hag5 hx5 hr5 ho5 hen
      cases bb
      · have hta := back_any (j := j) Y5 (unhide HQ) (unhide HR5) (unhide HH).1 (by rw [e5]; have := unhide HH; have := unhide HRR; omega) (fun m k _ _ => useM_bound (unhide HQ).r x2 (upd b j true) m k)
        rw [← (unhide HRR).1] at hta
        go_wp2_with fail
        go_fit hta
        rintro e Y6 ⟨rfl, hr6, ho6⟩
        have HO1 := hide ((unhide HO1).trans ho6)
        have HX6 := hide (RoX.tried (unhide HQ) (unhide HXX) (unhide HH).1 (unhide HBJ).1 (unhide HAG).2 (unhide HAG).1 hr6)
        clear hr6 ho6 hta e5
        go_wp2
        go_roundg (200 - (a + 1))
        case measure => omega
        case rel => exact ⟨a + 1, by omega, rfl, by go_num, by omega, HO1, hide ⟨x2, unhide HX6⟩, hide (by
          intro a' h1 y h2
          by_cases e : a' = a
          · subst e
            have h3 : Compl q.p S (upd x' j a') (upd b j true) y := ⟨h2.f, fun i hi hbi => (h2.e i hi hbi).trans (unhide HXU i hi hbi).symm⟩
            obtain ⟨y', h4, h5⟩ := tight_ex (unhide HQ).r _ y (Nat.le_refl _) h3
            have := (unhide HYN).2 y' h4 h5 (fun i _ _ => by omega)
            cases this
          · exact unhide HA a' (by omega) y h2)⟩
      · go_wp2
        try simp only [Exit.inBlock, Exit.then]
        refine bodyPost_ret (results_none rfl _ _ _) rfl ?_
        refine ⟨rfl, ⟨⟨a, x2, ⟨unhide HR5, fun i hi hbi => ((unhide HAG).1 i hi hbi).trans (unhide HXU i hi hbi), (unhide HAG).2⟩, (unhide HNX).congr (unhide HQ).r (fun i hi hbi => (unhide HXU i hi hbi).symm), ?_, unhide HA⟩, unhide HO1⟩⟩
        obtain ⟨y, hy⟩ := (unhide HYN).1 (by first | rfl | trivial)
        exact ⟨y, hy.f, fun i hi hbi => (hy.e i hi hbi).trans (unhide HXU i hi hbi)⟩
    · exfalso
      obtain ⟨y, hy⟩ := unhide HEX
      have h1 := unhide HTL S y hy.f j (unhide HH).1
      have h2 := (unhide HRR).2.2
      refine unhide HA (y j) (by omega) y (hy.more rfl)
end Go.Proofs.YtgckgkllpkkpeaaDoor
