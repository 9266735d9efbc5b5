/-
  Jobs: the program's isFree, earliest; whether all have begun.
-/
import Derived.Test.YtgckgkllpkkpeaaDoorUX
import Derived.Test.YtgckgkllpkkpeaaDoorUI
import Derived.Shelf.Abstract
namespace Go.Proofs.YtgckgkllpkkpeaaDoor
open Go.RowKit

set_option maxHeartbeats 8000000 in
set_option maxRecDepth 8000 in
/-- slices.Index of the first that has not begun. -/
theorem idxB_any {RB n : Nat} {b : Nat → Bool} (w : World) (hn : n ≤ 7) (hb : ∀ i, i < n → w.cell? ⟨RB, i, none⟩ = some (.bool (b i))) :
    Calls Tryd.prog 47 #[.slice (some ⟨RB, 0, none⟩) n n, .bool false] w fun e w' => (∃ i : Int, e = .returned (.int .i64 i) ∧ ((∃ k, k < n ∧ b k = false) ↔ 0 ≤ i)) ∧ w' = w := by
  have HB := hide hb
  clear hb
  go_enter Tryd.func47, Tryd.ntmps47
  go_wp2_with fail
  go_loopg [5, 8] n (fun gk _ iv wr => ∃ i : Nat, i ≤ n ∧ gk = n - i ∧ iv = .int .i64 (i : Int) ∧ wr = w ∧ Hid (∀ k, k < i → b k = true))
  case atStart => exact ⟨0, by omega, by omega, rfl, rfl, hide (by intro k hk; omega)⟩
  case round =>
    obtain ⟨i, hi, hgk, rfl, rfl, HA⟩ := hrel
    by_cases hin : i < n
    · have c0 := unhide HB i hin
      have hin' : (i : Int) < (n : Int) := by omega
      obtain ⟨y, hy⟩ : ∃ y, y = b i := ⟨_, rfl⟩
      rw [← hy] at c0
      have HY := hide hy
      clear hy
      cases y
      · go_wp2
        go_ret
        exact ⟨⟨_, rfl, ⟨fun _ => by omega, fun _ => ⟨i, hin, (unhide HY).symm⟩⟩⟩, rfl⟩
      · go_wp2
        go_roundg (n - (i + 1))
        case measure => omega
        case rel => exact ⟨i + 1, by omega, rfl, by go_num, rfl, hide (by
          intro k hk
          by_cases e : k = i
          · subst e
            exact (unhide HY).symm
          · exact unhide HA k (by omega))⟩
    · obtain rfl : n = i := by omega
      clear hin hi hgk
      go_wp2
      go_ret
      refine ⟨⟨_, rfl, ⟨fun ⟨k, h1, h2⟩ => ?_, fun h => by omega⟩⟩, rfl⟩
      rw [unhide HA k h1] at h2
      cases h2
set_option maxHeartbeats 8000000 in
set_option maxRecDepth 8000 in
/-- slices.Contains of one that has not begun. -/
theorem conB_any {RB n : Nat} {b : Nat → Bool} (w : World) (hn : n ≤ 7) (hb : ∀ i, i < n → w.cell? ⟨RB, i, none⟩ = some (.bool (b i))) :
    Calls Tryd.prog 31 #[.slice (some ⟨RB, 0, none⟩) n n, .bool false] w fun e w' => YesP e (∃ k, k < n ∧ b k = false) ∧ w' = w := by
  have HC := hide (idxB_any w hn hb)
  clear hb
  go_enter Tryd.func31, Tryd.ntmps31
  go_wp2_with fail
  go_fit (unhide HC)
  rintro e W1 ⟨⟨i, rfl, hi⟩, rfl⟩
  have HI := hide hi
  clear hi
  by_cases h0 : (0 : Int) ≤ i
  · go_wp2
    go_ret
    exact ⟨YesP.yes ((unhide HI).2 h0), rfl⟩
  · go_wp2
    go_ret
    have hd : decide ((0 : Int) ≤ i) = false := decide_eq_false (by omega)
    refine ⟨?_, rfl⟩
    show YesP (.returned (.bool (decide ((0 : Int) ≤ i)))) _
    rw [hd]
    exact YesP.no fun h => absurd ((unhide HI).1 h) (by omega)
/-- A number of a kind in its cell. -/
def JEP (P : Int → Prop) (w : World) (cs : List Value) (x : Int) : Prop := JE w cs x ∧ P x
theorem lastP (P : Int → Prop) : Lasts (JEP P) := fun _ _ _ _ h _ => h
theorem Rows.kind {P : Int → Prop} {w : World} {v : Value} {L : List Int} (h : Rows 1 JE w v L) (hP : ∀ a ∈ L, P a) : Rows 1 (JEP P) w v L := by
  obtain ⟨a, cap, h1, h2, h3, h4⟩ := h
  refine ⟨a, cap, h1, h2, h3, h4.imp id fun ⟨b, o, e, hx⟩ => ⟨b, o, e, fun i x hi => ?_⟩⟩
  obtain ⟨cs, k1, k2, k3⟩ := hx i x hi
  exact ⟨cs, k1, k2, k3, hP x (List.mem_of_getElem? hi)⟩
theorem eg_free : ∀ args w, (callFunc 48 args).run Tryd.prog w = .ok (.enter 48 args) w := enters_of Tryd.func48 (by kernel_rfl) rfl
set_option maxHeartbeats 8000000 in
set_option maxRecDepth 8000 in
/-- The question of isFree. -/
theorem free1_any {q : Rq} {S : Nat} {x : Nat → Nat} {b : Nat → Bool} {u : Nat → Nat → Int} {G a : Nat} (w : World) (hq : q.Ok) (h : Ros q w S x b u) (hG : w.cell? ⟨G, 0, none⟩ = some (.pointer (some ⟨q.R, 0, none⟩))) (ha : a < q.p.jobs.length) :
    Calls Tryd.prog 48 #[.int .i64 (a : Int), .pointer (some ⟨G, 0, none⟩)] w fun e w' => e = .returned (.bool (!b a)) ∧ w' = w := by
  have c5 := h.c5
  have b0 := h.cb a ha
  have n7 := hq.r.nj
  obtain ⟨n, hnn⟩ : ∃ n, n = q.p.jobs.length := ⟨_, rfl⟩
  obtain ⟨R, hR⟩ : ∃ n, n = q.R := ⟨_, rfl⟩
  obtain ⟨RB, hRB⟩ : ∃ n, n = q.RB := ⟨_, rfl⟩
  rw [← hR, ← hRB, ← hnn] at c5
  rw [← hRB] at b0
  rw [← hR] at hG
  have ha' : (a : Int) < (n : Int) := by omega
  clear hnn hR hRB h hq ha
  go_enter Tryd.func48, Tryd.ntmps48
  go_wp2
  go_ret
  exact ⟨rfl, rfl⟩
/-- Whether all have begun that a job waits for. -/
def freeB (b : Nat → Bool) (after : List Int) : Bool := !(after.any fun a => !b a.toNat)
set_option maxHeartbeats 8000000 in
set_option maxRecDepth 8000 in
/-- isFree. -/
theorem free_any {q : Rq} {S : Nat} {x : Nat → Nat} {b : Nat → Bool} {u : Nat → Nat → Int} {j : Nat} {jb : Jb} {a1 a2 : Option Addr} {d1 d2 : Nat} (w : World) (hq : q.Ok) (h : Ros q w S x b u) (hjb : q.p.jobs[j]? = some jb) (hjm : JbM w jb a1 d1 a2 d2) :
    Calls Tryd.prog 32 #[.pointer (some ⟨q.R, 0, none⟩), .agg #[.int .i64 jb.long, .slice a1 jb.after.length d1, .slice a2 jb.uses.length d2]] w fun e w' => e = .returned (.bool (freeB b jb.after)) ∧ Below w.heap.size w w' := by
  have kn0 := below_new w (.cells #[.pointer (some ⟨q.R, 0, none⟩)] 41)
  have g0 : (w.alloc (.cells #[.pointer (some ⟨q.R, 0, none⟩)] 41)).cell? ⟨w.heap.size, 0, none⟩ = some (.pointer (some ⟨q.R, 0, none⟩)) := by rw [new_cell rfl]; rfl
  obtain ⟨W0, hW0⟩ : ∃ X, X = w.alloc (.cells #[.pointer (some ⟨q.R, 0, none⟩)] 41) := ⟨_, rfl⟩
  rw [← hW0] at kn0 g0
  have kn1 := below_new W0 (.cells #[.int .i64 jb.long, .slice a1 jb.after.length d1, .slice a2 jb.uses.length d2] 50)
  obtain ⟨k0, k1, k2⟩ := three_cells W0 50 (.int .i64 jb.long) (.slice a1 jb.after.length d1) (.slice a2 jb.uses.length d2)
  have z0 : W0.heap.size = w.heap.size + 1 := by rw [hW0]; simp
  obtain ⟨W, hW⟩ : ∃ X, X = W0.alloc (.cells #[.int .i64 jb.long, .slice a1 jb.after.length d1, .slice a2 jb.uses.length d2] 50) := ⟨_, rfl⟩
  rw [← hW] at kn1 k0 k1 k2
  have g0 := cell_keep kn1 g0
  have kn := below_keep kn1 kn0
  have HJM := hide (hjm.later kn)
  have HR := hide (h.later kn)
  have HQ := hide hq
  have HK := hide kn
  have HAL := hide (show ∀ a ∈ jb.after, ∃ k : Nat, a = (k : Int) ∧ k < q.p.jobs.length from fun a ha => by
    have h1 := (hq.r.j j jb hjb).2.2.2.2 a ha
    have h2 := (List.getElem?_eq_some_iff.1 hjb).1
    exact ⟨a.toNat, by omega, by omega⟩)
  obtain ⟨g, hg⟩ : ∃ X, X = w.heap.size := ⟨_, rfl⟩
  obtain ⟨R, hR⟩ : ∃ X, X = q.R := ⟨_, rfl⟩
  rw [← hR] at hW0 g0
  rw [← hg] at g0
  rw [z0, ← hg] at k0 k1 k2
  rw [← hR]
  have HRR := hide hR
  clear kn0 kn1 kn hjm h hq hjb hR z0
  go_enter Tryd.func32, Tryd.ntmps32
  go_upto_region 1 with fail
  rw [← hW0, ← hW, ← hg]
  clear hW0 hW hg k0 k2
  have HP := hide (show PredE (JEP fun a => ∃ k : Nat, a = (k : Int) ∧ k < q.p.jobs.length) 48 #[.pointer (some ⟨g, 0, none⟩)] (fun a => !b a.toNat) W from fun Y v a hY he => by
    obtain ⟨⟨h1, _⟩, k, rfl, hk⟩ := he
    obtain rfl : v = .int .i64 (k : Int) := by simpa using h1
    simp only [Int.toNat_natCast]
    exact (free1_any (G := g) Y (unhide HQ) ((unhide HR).later hY) (by rw [← unhide HRR]; exact cell_keep hY g0) hk).mono fun e w' h => ⟨h.1, by rw [h.2]; exact Below.refl _ _⟩)
  go_wp2_with fail
  go_fit (hasI_any _ eg_free (lastP _) ((unhide HJM).r1.kind (unhide HAL)) (unhide HP))
  rintro e W1 ⟨rfl, hb⟩
  have HB := hide (below_keep hb (unhide HK))
  clear hb k1 g0
  go_wp2
  go_ret
  exact ⟨rfl, unhide HB⟩
/-- The starts as a list. -/
def xl (p : Pl) (x : Nat → Nat) : List Int := (List.range p.jobs.length).map fun i => (x i : Int)
theorem xl_at {p : Pl} {x : Nat → Nat} {i : Nat} (h : i < p.jobs.length) : (xl p x)[i]? = some (x i : Int) := by simp [xl, h]
theorem xl_len (p : Pl) (x : Nat → Nat) : (xl p x).length = p.jobs.length := by simp [xl]
theorem Ros.rows {q : Rq} {w : World} {S : Nat} {x : Nat → Nat} {b : Nat → Bool} {u : Nat → Nat → Int} (h : Ros q w S x b u) (hq : q.Ok) (hx : ∀ i, i < q.p.jobs.length → x i ≤ 100) : Rows 1 JE w (.slice (some ⟨q.RS, 0, none⟩) q.p.jobs.length q.p.jobs.length) (xl q.p x) := by
  have n7 := hq.r.nj
  refine ⟨_, q.p.jobs.length, by rw [xl_len], by rw [xl_len]; exact Nat.le_refl _, by unfold maxLen; omega, Or.inr ⟨q.RS, 0, rfl, fun i y hy => ?_⟩⟩
  have hi : i < q.p.jobs.length := by have := (List.getElem?_eq_some_iff.1 hy).1; rwa [xl_len] at this
  rw [xl_at hi] at hy
  obtain rfl := Option.some.inj hy
  have := hx i hi
  refine ⟨[.int .i64 (x i : Int)], rfl, fun j v hv => ?_, rfl, by omega, by omega⟩
  rcases j with _ | j
  · obtain rfl : _ = v := by simpa using hv
    rw [show 0 + (i * 1 + 0) = i by omega]
    exact h.cs i hi
  · simp at hv
/-- A job waits for another. -/
def Aft (p : Pl) (j a : Nat) : Prop := ∃ jb, p.jobs[j]? = some jb ∧ (a : Int) ∈ jb.after
theorem Aft.lt {p : Pl} {j a : Nat} (hR : PlR p) (h : Aft p j a) : a < j ∧ j < p.jobs.length := by
  obtain ⟨jb, h1, h2⟩ := h
  have := (hR.j j jb h1).2.2.2.2 _ h2
  have := (List.getElem?_eq_some_iff.1 h1).1
  omega
/-- When all are done that a job waits for. -/
def rdN (p : Pl) (x : Nat → Nat) (j : Nat) : Nat := ((p.jobs[j]?).map fun jb => (rdy (xl p x) p.jobs jb.after).toNat).getD 0
theorem endOf_xl {p : Pl} {x : Nat → Nat} {a : Nat} (hR : PlR p) (h : a < p.jobs.length) : endOf (xl p x) p.jobs (a : Int) = (x a + lgN p a : Nat) := by
  obtain ⟨j, hj⟩ : ∃ y, p.jobs[a]? = some y := at_some h
  rw [endOf_eq (xl_at h) hj, lgN_eq hR hj]
  omega
theorem rdN_le {p : Pl} {x : Nat → Nat} {j s : Nat} (hR : PlR p) (hj : j < p.jobs.length) : rdN p x j ≤ s ↔ ∀ a, Aft p j a → x a + lgN p a ≤ s := by
  obtain ⟨jb, hjb⟩ : ∃ y, p.jobs[j]? = some y := at_some hj
  have h0 := rdy_nonneg (xl p x) p.jobs jb.after
  have h1 := rdy_le_iff (xl p x) p.jobs jb.after (s : Int)
  have h2 : rdN p x j = (rdy (xl p x) p.jobs jb.after).toNat := by simp [rdN, hjb]
  constructor
  · intro h a ha
    obtain ⟨jb', e, hm⟩ := ha
    rw [hjb] at e
    obtain rfl := Option.some.inj e
    have h3 := (h1.1 (by omega)).2 _ hm
    rw [endOf_xl hR (by have := Aft.lt hR ⟨jb, hjb, hm⟩; omega)] at h3
    omega
  · intro h
    have : rdy (xl p x) p.jobs jb.after ≤ (s : Int) := h1.2 ⟨by omega, fun a ha => by
      have h3 := (hR.j j jb hjb).2.2.2.2 a ha
      obtain ⟨k, rfl⟩ : ∃ k : Nat, a = (k : Int) := ⟨a.toNat, by omega⟩
      rw [endOf_xl hR (by omega)]
      have := h k ⟨jb, hjb, ha⟩
      omega⟩
    omega
theorem rdN_eq {p : Pl} {x : Nat → Nat} {j : Nat} {jb : Jb} (h : p.jobs[j]? = some jb) : rdy (xl p x) p.jobs jb.after = (rdN p x j : Int) := by
  have h0 := rdy_nonneg (xl p x) p.jobs jb.after
  simp [rdN, h]
  omega
theorem begun_xl {p : Pl} {x : Nat → Nat} {j : Nat} {jb : Jb} (hR : PlR p) (h : p.jobs[j]? = some jb) (hx : ∀ i, i < p.jobs.length → x i ≤ 100) : ∀ a ∈ jb.after, Begun (xl p x) p.jobs a := by
  intro a ha
  have h3 := (hR.j j jb h).2.2.2.2 a ha
  have h4 := (List.getElem?_eq_some_iff.1 h).1
  obtain ⟨k, rfl⟩ : ∃ k : Nat, a = (k : Int) := ⟨a.toNat, by omega⟩
  obtain ⟨j', hj'⟩ : ∃ y, p.jobs[k]? = some y := at_some (by omega)
  have h5 := (hR.j k j' hj').1
  have := hx k (by omega)
  exact ⟨k, x k, j', rfl, xl_at (by omega), hj', by omega, by omega, h5.1, h5.2⟩
/-- The earliest moment. -/
structure Earl (p : Pl) (x : Nat → Nat) (u : Nat → Nat → Int) (S t j e : Nat) : Prop where
  r : rdN p x j ≤ e
  no : ∀ m, rdN p x j ≤ m → m < e → ¬ Room p u j m
  yes : e + t ≤ S → Room p u j e
  b : e ≤ 200
set_option maxHeartbeats 8000000 in
set_option maxRecDepth 8000 in
/-- earliest. -/
theorem earliest_any {q : Rq} {S : Nat} {x : Nat → Nat} {b : Nat → Bool} {u : Nat → Nat → Int} (w : World) (hq : q.Ok) (h : Ros q w S x b u) {j : Nat} (hj : j < q.p.jobs.length) (hS : S ≤ 30) (hx : ∀ i, i < q.p.jobs.length → x i ≤ 100) (hu : ∀ m k, m < 30 → k < 7 → 0 ≤ u m k ∧ u m k ≤ 1000000000) :
    Calls Tryd.prog 33 #[.pointer (some ⟨q.R, 0, none⟩), .int .i64 (j : Int)] w fun e w' => (∃ a : Nat, e = .returned (.int .i64 (a : Int)) ∧ Earl q.p x u S (q.T j) j a) ∧ Below w.heap.size w w' := by
  obtain ⟨jb, hjb⟩ : ∃ y, q.p.jobs[j]? = some y := at_some hj
  have hT := hq.t j hj
  have HRDB := hide (show rdN q.p x j ≤ 130 from (rdN_le hq.r hj).2 fun a ha => by
    have h1 := ha.lt hq.r
    have h2 := hx a (by omega)
    have h3 := hq.t a (by omega)
    omega)
  have HRDY := hide (rdN_eq (x := x) hjb)
  have hM := hq.pl.later h.bel
  have HJ := hide hM.j
  have HT := hide (h.rows hq hx)
  have HBG := hide (begun_xl hq.r hjb hx)
  obtain ⟨jA, jo, a1, d1, a2, d2, hja, ⟨e0, e1, e2⟩, hjm⟩ := hM.j.job hjb
  have HJM := hide hjm
  have c0 := h.c0
  rw [hja] at c0
  have c1 := h.c1
  have c4 := h.c4
  have HR := hide h
  have HQ := hide hq
  have HU := hide hu
  have HH := hide (And.intro hj hT)
  obtain ⟨n, hnn⟩ : ∃ n, n = q.p.jobs.length := ⟨_, rfl⟩
  obtain ⟨nc, hnc⟩ : ∃ n, n = q.p.caps.length := ⟨_, rfl⟩
  obtain ⟨R, hR⟩ : ∃ n, n = q.R := ⟨_, rfl⟩
  obtain ⟨RS, hRS⟩ : ∃ n, n = q.RS := ⟨_, rfl⟩
  obtain ⟨t, htt⟩ : ∃ n, n = q.T j := ⟨_, rfl⟩
  rw [← hR, ← hnn] at c0
  rw [← hR, ← hnc] at c1
  rw [← hR, ← hRS, ← hnn] at c4
  rw [← hRS, ← hnn] at HT
  rw [hja, ← hnn] at HJ
  rw [← hR, ← htt]
  rw [← htt] at hT
  have HRR := hide (And.intro hR (And.intro hnn htt))
  have hj' : (j : Int) < (n : Int) := by omega
  have n7 := hq.r.nj
  rw [← hnn] at n7
  clear hnn hnc hR hRS htt h hq hx hu hM hja hjm hj
  go_enter Tryd.func33, Tryd.ntmps33
  go_upto_region 1 with fail
  have HJM2 := hide ((unhide HJM).later (Below.refl _ _).drew)
  have HJ2 := hide ((unhide HJ).on (fun _ _ h => h.later (Below.refl _ _).drew) (Below.refl _ _).drew)
  have HT2 := hide ((unhide HT).later (JE.stays IsSl 0) (Below.refl _ _).drew)
  go_region_held3 (fun w' => w'.cell? ⟨R, 0, none⟩ = some (.slice (some ⟨jA, jo, none⟩) n q.jc) ∧ w'.cell? ⟨R, 1, none⟩ = some (.slice q.ca nc q.cc) ∧ w'.cell? ⟨R, 4, none⟩ = some (.slice (some ⟨RS, 0, none⟩) n n) ∧ w'.cell? ⟨jA, jo + j * 3, none⟩ = some (.int .i64 jb.long) ∧ w'.cell? ⟨jA, jo + j * 3 + 1, none⟩ = some (.slice a1 jb.after.length d1) ∧ w'.cell? ⟨jA, jo + j * 3 + 2, none⟩ = some (.slice a2 jb.uses.length d2))
    (first | exact ⟨c0, c1, c4, e0, e1, e2⟩ | exact ⟨cell_keep hb c0, cell_keep hb c1, cell_keep hb c4, cell_keep hb e0, cell_keep hb e1, cell_keep hb e2⟩)
    (first | (go_at_call 37; go_fit (ready_any (st := xl q.p x) (jobs := q.p.jobs) (j := jb) _ (unhide HJM2) (unhide HJ2) (unhide HT2) (unhide HRR).2.1 (by rw [xl_len]; exact (unhide HRR).2.1) (unhide HBG)); rintro e9 Y1 ⟨rfl, hb⟩))
  rw [unhide HRDY]
  have HB := hide (below_keep hb (Below.refl _ _).drew)
  have HR := hide ((unhide HR).later (unhide HB))
  obtain ⟨rd, hrd⟩ : ∃ X, X = rdN q.p x j := ⟨_, rfl⟩
  rw [← hrd]
  rw [← hrd] at HRDB
  have HRD := hide hrd
  have hrb := unhide HRDB
  clear hrd hb c0 c1 c4 e0 e1 e2 HJM HJ HT HJM2 HJ2 HT2 HBG HRDB HRDY
  go_wp2_with fail
  obtain ⟨V, rfl⟩ : ∃ X, X = Y1 := ⟨_, rfl⟩
  go_loopg [5] (200 - rd) (fun gk av wr => ∃ a : Nat, rd ≤ a ∧ gk = 200 - a ∧ av = .int .i64 (a : Int) ∧ a ≤ 131 ∧ Hid (Below V.heap.size V wr) ∧ Hid (∀ m, rd ≤ m → m < a → ¬ Room q.p u j m))
  case atStart => exact ⟨rd, Nat.le_refl _, rfl, rfl, by omega, hide (Below.refl _ _), hide (by intro m h1 h2; omega)⟩
  case round =>
    obtain ⟨a, ha, hgk, rfl, ha1, HB2, HA⟩ := hrel
    have hlat := latest_any wr (unhide HQ) ((unhide HR).later (unhide HB2)) (by omega) (unhide HH).1
    rw [← (unhide HRR).1, ← (unhide HRR).2.2] at hlat
    go_wp2_with fail
    go_fit hlat
    rintro e Y2 ⟨rfl, hb⟩
    have HB2 := hide (below_keep hb (unhide HB2))
    clear hb hlat
    by_cases hz : (a : Int) ≤ (S : Int) - (t : Int)
    · have hrm := room_any (a := a) Y2 (unhide HQ) ((unhide HR).later (unhide HB2)) (unhide HH).1 (by have := unhide HH; have := unhide HRR; omega) (unhide HU)
      rw [← (unhide HRR).1] at hrm
      have hd : decide ((a : Int) ≤ (S : Int) - (t : Int)) = true := decide_eq_true hz
      go_wp2_with fail
      go_fit hrm
      rintro e Y3 ⟨⟨bb, rfl, hbb⟩, hb⟩
      have HB2 := hide (below_keep hb (unhide HB2))
      have HBB := hide hbb
      clear hb hrm hbb
      cases bb
      · have ew : wrap64 ((a : Int) + 1) = ((a + 1 : Nat) : Int) := by unfold wrap64; omega
        go_wp2
        go_roundg (200 - (a + 1))
        case measure => omega
        case rel => exact ⟨a + 1, by omega, rfl, by go_num, by omega, HB2, hide (by
          intro m h1 h2 h3
          by_cases e : m = a
          · subst e
            have := (unhide HBB).2 h3
            cases this
          · exact unhide HA m h1 (by omega) h3)⟩
      · go_wp2
        go_ret
        exact ⟨⟨a, rfl, ⟨by rw [← unhide HRD]; exact ha, by rw [← unhide HRD]; exact unhide HA, fun _ => (unhide HBB).1 (by first | rfl | trivial), by omega⟩⟩, below_keep (unhide HB2) (unhide HB)⟩
    · have hd : decide ((a : Int) ≤ (S : Int) - (t : Int)) = false := decide_eq_false hz
      go_wp2
      go_ret
      exact ⟨⟨a, rfl, ⟨by rw [← unhide HRD]; exact ha, by rw [← unhide HRD]; exact unhide HA, fun h => by omega, by omega⟩⟩, below_keep (unhide HB2) (unhide HB)⟩
end Go.Proofs.YtgckgkllpkkpeaaDoor
