/-
  Jobs: the program's canEnd.
-/
import Derived.Test.YtgckgkllpkkpeaaDoorZB
namespace Go.Proofs.YtgckgkllpkkpeaaDoor
open Go.RowKit

/-- No job may begin later than its tail allows. -/
def Tails (q : Rq) : Prop := ∀ S y, Feas q.p S y → ∀ j, j < q.p.jobs.length → y j + q.T j ≤ S
/-- What canEnd answers where few have not begun. -/
def EndC (q : Rq) (S N : Nat) : Prop := ∀ (w : World) (x : Nat → Nat) (b : Nat → Bool) (mo fi : Nat), Ros q w S x b (useM q.p x b) → (∀ i, i < q.p.jobs.length → x i ≤ 100) → OkS q.p S q.T x b → cntB b q.p.jobs.length ≤ N → mo ≤ 200 → fi ≤ 7 →
  Calls Tryd.prog 21 #[.pointer (some ⟨q.R, 0, none⟩), .int .i64 (mo : Int), .int .i64 (fi : Int)] w fun e w' => EndP q S x b mo fi e w w'
/-- A roster whose begun starts are these. -/
structure RoX (q : Rq) (w : World) (S : Nat) (x : Nat → Nat) (b : Nat → Bool) (x' : Nat → Nat) : Prop where
  r : Ros q w S x' b (useM q.p x' b)
  a : ∀ i, i < q.p.jobs.length → b i = true → x' i = x i
  m : ∀ i, i < q.p.jobs.length → x' i ≤ 100
theorem RoX.later {q : Rq} {w w' : World} {S : Nat} {x x' : Nat → Nat} {b : Nat → Bool} (h : RoX q w S x b x') (hb : Below w.heap.size w w') : RoX q w' S x b x' := ⟨h.r.later hb, h.a, h.m⟩
theorem RoX.use {q : Rq} {w : World} {S : Nat} {x x' : Nat → Nat} {b : Nat → Bool} (h : RoX q w S x b x') : useM q.p x' b = useM q.p x b := useM_congr (fun _ _ => rfl) h.a
theorem RoX.compl {q : Rq} {w : World} {S : Nat} {x x' y : Nat → Nat} {b : Nat → Bool} (h : RoX q w S x b x') (k : Compl q.p S x b y) : Compl q.p S x' b y := ⟨k.f, fun i hi hb => (k.e i hi hb).trans (h.a i hi hb).symm⟩
theorem RoX.compl' {q : Rq} {w : World} {S : Nat} {x x' y : Nat → Nat} {b : Nat → Bool} (h : RoX q w S x b x') (k : Compl q.p S x' b y) : Compl q.p S x b y := ⟨k.f, fun i hi hb => (k.e i hi hb).trans (h.a i hi hb)⟩
theorem RoX.st {q : Rq} {w : World} {S : Nat} {x x' : Nat → Nat} {b : Nat → Bool} (h : RoX q w S x b x') : ∃ x', Ros q w S x' b (useM q.p x b) ∧ (∀ i, i < q.p.jobs.length → b i = true → x' i = x i) ∧ ∀ i, i < q.p.jobs.length → x' i ≤ 100 := ⟨x', by rw [← h.use]; exact h.r, h.a, h.m⟩
/-- Behind a try that failed. -/
theorem RoX.tried {q : Rq} {w : World} {S i a : Nat} {x x' x2 : Nat → Nat} {b : Nat → Bool} {v : World} (hq : q.Ok) (h : RoX q v S x b x') (hi : i < q.p.jobs.length) (hb : b i = false) (hm : ∀ k, k < q.p.jobs.length → x2 k ≤ 100)
    (ha : ∀ k, k < q.p.jobs.length → upd b i true k = true → x2 k = upd x' i a k) (hr : Ros q w S x2 (upd (upd b i true) i false) (addN q.p (useM q.p x2 (upd b i true)) i (x2 i) (lgN q.p i) (-1))) : RoX q w S x b x2 := by
  have e1 := addN_less (p := q.p) hq.r (x := x2) (b := upd b i true) hi (upd_same _ _ _)
  rw [e1, upd_back hb] at hr
  refine ⟨hr, fun k hk hbk => ?_, hm⟩
  have e2 : k ≠ i := by rintro rfl; rw [hb] at hbk; cases hbk
  have := ha k hk (by rw [upd_other _ _ e2]; exact hbk)
  rw [upd_other _ _ e2] at this
  rw [this]
  exact h.a k hk hbk
set_option maxHeartbeats 16000000 in
set_option maxRecDepth 8000 in
/-- canEnd. -/
theorem end_step {q : Rq} {S N : Nat} (hq : q.Ok) (hTl : Tails q) (hS : S ≤ 30) (ih : ∀ N', N' < N → EndC q S N') : EndC q S N := by
  intro w x b mo fi h hx hok hcn hmo hfi
  have n7 := hq.r.nj
  have HQ := hide hq
  have HX := hide (show RoX q w S x b x from ⟨h, fun _ _ _ => rfl, hx⟩)
  have HOK := hide hok
  have HIH := hide (And.intro ih hcn)
  have HTL := hide hTl
  have c0 := h.c0
  have c5 := h.c5
  have hcon := conB_any w n7 h.cb
  obtain ⟨n, hnn⟩ : ∃ n, n = q.p.jobs.length := ⟨_, rfl⟩
  obtain ⟨R, hR⟩ : ∃ n, n = q.R := ⟨_, rfl⟩
  obtain ⟨RB, hRB⟩ : ∃ n, n = q.RB := ⟨_, rfl⟩
  rw [← hR, ← hnn] at c0
  rw [← hR, ← hRB, ← hnn] at c5
  rw [← hRB, ← hnn] at hcon
  rw [← hnn] at n7
  rw [← hR]
  have HRR := hide (And.intro hR (And.intro hRB hnn))
  clear h hx hok ih hcn hTl hq hnn hR hRB
  go_enter Tryd.func21, Tryd.ntmps21
  go_wp2_with fail
  go_fit hcon
  rintro e W0 ⟨⟨bb, rfl, hbb⟩, hw0⟩
  subst hw0
  have HBB := hide hbb
  clear hbb hcon c5
  cases bb
  · go_wp2
    go_ret
    have hall : ∀ k, k < q.p.jobs.length → b k = true := fun k hk => by
      cases hb : b k with
      | true => rfl
      | false => exact absurd ((unhide HBB).2 ⟨k, by rw [(unhide HRR).2.2]; exact hk, hb⟩) (by simp)
    exact ⟨⟨true, rfl, fun _ => ⟨x, (unhide HOK).all (unhide HQ).r (fun i hi => ((unhide HQ).t i hi).1) hall⟩, fun _ _ _ _ => rfl⟩, (unhide HX).st, Only.refl _ _⟩
  obtain ⟨jA, jo, hja⟩ : ∃ jA jo, q.ja = some ⟨jA, jo, none⟩ := by
    obtain ⟨k, hk, _⟩ := (unhide HBB).1 rfl
    obtain ⟨jb, hjb⟩ : ∃ y, q.p.jobs[k]? = some y := at_some (by rw [← (unhide HRR).2.2]; exact hk)
    obtain ⟨jA, jo, _, _, _, _, hja, _⟩ := (unhide HQ).pl.j.job hjb
    exact ⟨jA, jo, hja⟩
  rw [hja] at c0
  have HJA := hide hja
  clear hja
  go_wp2_with fail
  go_loopg [7, 8, 9, 10, 23] n (fun gk _ _ _ _ iv wr => ∃ i : Nat, i ≤ n ∧ gk = n - i ∧ iv = .int .i64 (i : Int) ∧ Hid (Only q W0 wr) ∧ Hid (∃ x', RoX q wr S x b x') ∧ Hid (∀ y j, Compl q.p S x b y → Tight q.p b y → Lo q.p y b mo fi → IsMin q.p y b j → i ≤ j))
  case atStart => exact ⟨0, by omega, by omega, rfl, hide (Only.refl _ _), hide ⟨x, unhide HX⟩, hide (fun _ _ _ _ _ _ => Nat.zero_le _)⟩
  case round =>
    obtain ⟨i, hi, hgk, rfl, HO, HXE, HA⟩ := hrel
    by_cases hin : i < n
    · obtain ⟨x', hxx⟩ := unhide HXE
      have hiq : i < q.p.jobs.length := by rw [← (unhide HRR).2.2]; exact hin
      obtain ⟨jb, hjb⟩ : ∃ y, q.p.jobs[i]? = some y := at_some hiq
      obtain ⟨jA', jo', a1, d1, a2, d2, hja, ⟨e0, e1, e2⟩, hjm⟩ := ((unhide HQ).pl.later hxx.r.bel).j.job hjb
      have HOK := hide ((unhide HOK).congr (unhide HQ).r hxx.a)
      rw [unhide HJA] at hja
      obtain ⟨rfl, rfl⟩ : jA = jA' ∧ jo = jo' := by simpa using hja
      have c5 := hxx.r.c5
      have b0 := hxx.r.cb i hiq
      rw [← (unhide HRR).1, ← (unhide HRR).2.1, ← (unhide HRR).2.2] at c5
      rw [← (unhide HRR).2.1] at b0
      have hin' : (i : Int) < (n : Int) := by omega
      have kn := below_new wr (.cells #[.int .i64 jb.long, .slice a1 jb.after.length d1, .slice a2 jb.uses.length d2] 50)
      obtain ⟨k0, k1, k2⟩ := three_cells wr 50 (.int .i64 jb.long) (.slice a1 jb.after.length d1) (.slice a2 jb.uses.length d2)
      have HJM := hide hjm
      have HXX := hide hxx
      have HJB := hide (And.intro hiq hjb)
      have HGI := hide (And.intro hgk (And.intro hi hin))
      clear hxx hjm hja hiq hjb hgk hi hin HXE
      go_upto_region 6 with fail
      have HJM := hide ((unhide HJM).later kn)
      have HXX := hide ((unhide HXX).later kn)
      have HO := hide ((unhide HO).trans (Only.of kn))
      have c5 := cell_keep kn c5
      have b0 := cell_keep kn b0
      obtain ⟨g, hg⟩ : ∃ X, X = wr.heap.size := ⟨_, rfl⟩
      obtain ⟨V, hV⟩ : ∃ X, X = wr.alloc (.cells #[.int .i64 jb.long, .slice a1 jb.after.length d1, .slice a2 jb.uses.length d2] 50) := ⟨_, rfl⟩
      rw [← hV, ← hg]
      rw [← hV, ← hg] at k0 k1 k2
      rw [← hV] at HJM HXX HO c5 b0
      clear hV hg kn e0 e1 e2
      obtain ⟨bi, hbi⟩ : ∃ y, y = b i := ⟨_, rfl⟩
      rw [← hbi] at b0
      have HBI := hide hbi
      clear hbi
      cases bi
      rotate_left
      · go_wp2
        go_roundg (n - (i + 1))
        case measure => have := unhide HGI; omega
        case rel => exact ⟨i + 1, by have := unhide HGI; omega, rfl, by go_num, HO, hide ⟨x', unhide HXX⟩, hide (fun y j h1 h2 h3 h4 => by
          have h5 := unhide HA y j h1 h2 h3 h4
          rcases (by omega : j = i ∨ i + 1 ≤ j) with rfl | h
          · have := h4.nb
            rw [← unhide HBI] at this
            cases this
          · exact h)⟩
      have hfr := free_any V (unhide HQ) (unhide HXX).r (unhide HJB).2 (unhide HJM)
      rw [← (unhide HRR).1] at hfr
      go_wp2_with fail
      go_fit hfr
      rintro e Y1 ⟨rfl, hb⟩
      have HO := hide ((unhide HO).trans (Only.of hb))
      have HXX := hide ((unhide HXX).later hb)
      clear hb hfr k0 k1 k2 c5 b0 HJM
      obtain ⟨fr, hfr⟩ : ∃ y, y = freeB b jb.after := ⟨_, rfl⟩
      rw [← hfr]
      have HFR := hide hfr
      clear hfr
      cases fr
      · go_wp2
        go_roundg (n - (i + 1))
        case measure => have := unhide HGI; omega
        case rel => exact ⟨i + 1, by have := unhide HGI; omega, rfl, by go_num, HO, hide ⟨x', unhide HXX⟩, hide (fun y j h1 h2 h3 h4 => by
          have h5 := unhide HA y j h1 h2 h3 h4
          rcases (by omega : j = i ∨ i + 1 ≤ j) with rfl | h
          · have := (freeB_iff (unhide HQ).r (unhide HJB).2).2 (min_free (unhide HQ).r h1 h4)
            rw [← unhide HFR] at this
            cases this
          · exact h)⟩
      have HF := hide ((freeB_iff (unhide HQ).r (unhide HJB).2).1 (unhide HFR).symm)
      have hea := earliest_any (j := i) Y1 (unhide HQ) (unhide HXX).r (unhide HJB).1 hS (unhide HXX).m (fun m k _ _ => useM_bound (unhide HQ).r x' b m k)
      rw [← (unhide HRR).1] at hea
      go_wp2_with fail
      go_fit hea
      rintro e Y2 ⟨⟨a, rfl, hE⟩, hb⟩
      have HO := hide ((unhide HO).trans (Only.of hb))
      have HXX := hide ((unhide HXX).later hb)
      have HE := hide hE
      have ha2 := hE.b
      clear hb hea hE HFR
      have hla := latest_any (j := i) Y2 (unhide HQ) (unhide HXX).r (by omega) (unhide HJB).1
      rw [← (unhide HRR).1] at hla
      obtain ⟨t, htt⟩ : ∃ t, t = q.T i := ⟨_, rfl⟩
      have ht := (unhide HQ).t i (unhide HJB).1
      rw [← htt] at hla ht
      have HTT := hide htt
      clear htt
      go_wp2_with fail
      go_fit hla
      rintro e Y3 ⟨rfl, hb⟩
      have HO := hide ((unhide HO).trans (Only.of hb))
      have HXX := hide ((unhide HXX).later hb)
      clear hb hla
      have hi7 : i < 7 := by have := unhide HGI; omega
      by_cases hgt : (a : Int) > (S : Int) - (t : Int)
      · go_wp2
        go_ret
        refine ⟨⟨false, rfl, (fun h => by cases h), fun y h1 _ _ => ?_⟩, (unhide HXX).st, unhide HO⟩
        have h5 := earl_le (unhide HQ).r ((unhide HXX).compl h1) (unhide HJB).1 (unhide HBI).symm (unhide HF) (unhide HE)
        have h6 := unhide HTL S y h1.f i (unhide HJB).1
        rw [← unhide HTT] at h6
        omega
      have HMIN := hide (show ∀ y, Compl q.p S x b y → Tight q.p b y → IsMin q.p y b i → a = y i from fun y h1 h2 h4 => min_eq (unhide HQ).r ((unhide HXX).compl h1) h2 h4 (unhide HE) (by rw [← unhide HTT]; omega))
      by_cases hsk : a < mo ∨ (a = mo ∧ i < fi)
      · have HSK := hide hsk
        rcases hsk with hsk | ⟨hsk, hsk2⟩
        · have hd1 : (a : Int) < (mo : Int) := by omega
          go_wp2
          go_roundg (n - (i + 1))
          case measure => have := unhide HGI; omega
          case rel => exact ⟨i + 1, by have := unhide HGI; omega, rfl, by go_num, HO, hide ⟨x', unhide HXX⟩, hide (fun y j h1 h2 h3 h4 => by
            have h5 := unhide HA y j h1 h2 h3 h4
            rcases (by omega : j = i ∨ i + 1 ≤ j) with rfl | h
            · have h6 := unhide HMIN y h1 h2 h4
              have h7 := h3 j h4.n h4.nb
              omega
            · exact h)⟩
        · have hd1 : ¬ (a : Int) < (mo : Int) := by omega
          have hd2 : (a : Int) = (mo : Int) := by omega
          have hd3 : (i : Int) < (fi : Int) := by omega
          go_wp2
          go_roundg (n - (i + 1))
          case measure => have := unhide HGI; omega
          case rel => exact ⟨i + 1, by have := unhide HGI; omega, rfl, by go_num, HO, hide ⟨x', unhide HXX⟩, hide (fun y j h1 h2 h3 h4 => by
            have h5 := unhide HA y j h1 h2 h3 h4
            rcases (by omega : j = i ∨ i + 1 ≤ j) with rfl | h
            · have h6 := unhide HMIN y h1 h2 h4
              have h7 := h3 j h4.n h4.nb
              omega
            · exact h)⟩
      have hbe := begin_any (j := i) (a := a) Y3 (unhide HQ) (unhide HXX).r (unhide HJB).1 (by omega) (fun m k _ _ => useM_bound (unhide HQ).r x' b m k)
      rw [← (unhide HRR).1, addN_with (unhide HQ).r (unhide HJB).1 (unhide HBI).symm] at hbe
      have HNX := hide (show OkS q.p S q.T (upd x' i a) (upd b i true) from (unhide HOK).begin (unhide HQ).r (unhide HJB).1 (unhide HBI).symm (unhide HF) (unhide HE).r ((unhide HE).yes (by rw [← unhide HTT]; omega)) (by rw [← unhide HTT]; omega))
      have HSK := hide hsk
      clear hsk
      by_cases hq0 : a = mo
      case' pos => (obtain rfl : a = mo := hq0; have hd3 : ¬ (i : Int) < (fi : Int) := (by have := unhide HSK; omega); go_upto_region 11 with fail; clear hd3)
      case' neg => (have hd1 : ¬ (a : Int) < (mo : Int) := (by have := unhide HSK; omega); have hd2 : ¬ (a : Int) = (mo : Int) := (by omega); clear hq0; go_upto_region 11 with fail; clear hd1 hd2)
      all_goals
        go_wp2_with fail
        go_fit hbe
        rintro e Y4 ⟨rfl, hr4, ho4⟩
        have HO := hide ((unhide HO).trans ho4)
        have HR4 := hide hr4
        clear hr4 ho4 hbe
        have hen := (unhide HIH).1 (cntB (upd b i true) q.p.jobs.length) (Nat.lt_of_lt_of_le (cntB_lt (unhide HBI).symm (unhide HJB).1) (unhide HIH).2) Y4 (upd x' i a) (upd b i true) a i (unhide HR4) (fun k hk => by
          by_cases e : k = i
          · subst e
            rw [upd_same]
            omega
          · rw [upd_other _ _ e]
            exact (unhide HXX).m k hk) (unhide HNX) (Nat.le_refl _) ha2 (by omega)
        rw [← (unhide HRR).1] at hen
        go_wp2_with fail
        go_fit hen
        rintro e Y5 ⟨⟨bb, rfl, hy, hn⟩, ⟨x2, hr5, hag5, hx5⟩, ho5⟩
        have HO := hide ((unhide HO).trans ho5)
        have HYN := hide (And.intro hy hn)
        have HAG := hide (And.intro hag5 hx5)
        have e5 : x2 i = a := (hag5 i (unhide HJB).1 (upd_same _ _ _)).trans (upd_same _ _ _)
        rw [useM_congr (x := upd x' i a) (y := x2) (b := upd b i true) (b' := upd b i true) (fun _ _ => rfl) (fun k hk hbk => (hag5 k hk hbk).symm)] at hr5
        have hta := back_any (j := i) Y5 (unhide HQ) hr5 (unhide HJB).1 (by rw [e5]; omega) (fun m k _ _ => useM_bound (unhide HQ).r x2 (upd b i true) m k)
        rw [← (unhide HRR).1] at hta
        clear hy hn hag5 hx5 hr5 ho5 hen
        go_wp2_with fail
        go_fit hta
        rintro e Y6 ⟨rfl, hr6, ho6⟩
        have HO := hide ((unhide HO).trans ho6)
        have HX6 := hide (RoX.tried (unhide HQ) (unhide HXX) (unhide HJB).1 (unhide HBI).symm (unhide HAG).2 (unhide HAG).1 hr6)
        clear hr6 ho6 hta e5
        cases bb
        · go_wp2
          go_roundg (n - (i + 1))
          case measure => have := unhide HGI; omega
          case rel => exact ⟨i + 1, by have := unhide HGI; omega, rfl, by go_num, HO, hide ⟨x2, unhide HX6⟩, hide (fun y j h1 h2 h3 h4 => by
            have h5 := unhide HA y j h1 h2 h3 h4
            rcases (by omega : j = i ∨ i + 1 ≤ j) with rfl | h
            · have h6 := unhide HMIN y h1 h2 h4
              have h7 := (unhide HYN).2 y (((unhide HXX).compl h1).more h6) h2.more (Lo.more h4 h6)
              cases h7
            · exact h)⟩
        · go_wp2
          go_ret
          refine ⟨⟨true, rfl, fun _ => ?_, fun _ _ _ _ => rfl⟩, (unhide HX6).st, unhide HO⟩
          obtain ⟨y, hy⟩ := (unhide HYN).1 (by first | rfl | trivial)
          exact ⟨y, (unhide HXX).compl' (hy.less (unhide HBI).symm)⟩
    · obtain rfl : n = i := by omega
      clear hin hi hgk
      go_wp2
      go_ret
      obtain ⟨x', hx'⟩ := unhide HXE
      refine ⟨⟨false, rfl, (fun h => by cases h), fun y h1 h2 h3 => ?_⟩, hx'.st, unhide HO⟩
      obtain ⟨k, hk, hbk⟩ := (unhide HBB).1 trivial
      obtain ⟨j, hj⟩ := min_ex (p := q.p) (y := y) (b := b) _ k (Nat.le_refl _) (by rw [← (unhide HRR).2.2]; exact hk) hbk
      have h4 := unhide HA y j h1 h2 h3 hj
      have h5 := hj.n
      have h6 := (unhide HRR).2.2
      omega
theorem end_all {q : Rq} {S : Nat} (hq : q.Ok) (hTl : Tails q) (hS : S ≤ 30) : ∀ N, EndC q S N := by
  intro N
  induction N using Nat.strongRecOn with
  | _ N ih => exact end_step hq hTl hS ih
end Go.Proofs.YtgckgkllpkkpeaaDoor
