/-
  The law RatioRead, walked: for every text it answers true.
-/
import Derived.Test.YtmhebjeefdanmaaGreatDoorMEB
import Derived.Test.YtmhebjeefdanmaaGreatDoorMWJ
import Derived.Test.YtmhebjeefdanmaaGreatDoorMQC
import Derived.Test.YtmhebjeefdanmaaGreatDoorMT7
import Derived.Test.YtmhebjeefdanmaaGreatDoorMS9
import Derived.Deep.DeepCutAuto
import Derived.Deep.RegionHeld3
namespace Go.Proofs.YtmhebjeefdanmaaGreatDoor
open Go.RowKit

theorem kp9 {w w1 w2 : World} {fb qb rb : Nat} {r0 r1 r2 r3 q0 q1 q2 q3 f0 : Value} (hb : Below w1.heap.size w1 w2) (h : Below w.heap.size w w1 ∧ w1.cell? ⟨rb, 0, none⟩ = some r0 ∧ w1.cell? ⟨rb, 1, none⟩ = some r1 ∧ w1.cell? ⟨rb, 2, none⟩ = some r2 ∧ w1.cell? ⟨rb, 3, none⟩ = some r3 ∧ w1.cell? ⟨qb, 0, none⟩ = some q0 ∧ w1.cell? ⟨qb, 1, none⟩ = some q1 ∧ w1.cell? ⟨qb, 2, none⟩ = some q2 ∧ w1.cell? ⟨qb, 3, none⟩ = some q3 ∧ w1.cell? ⟨fb, 0, none⟩ = some f0) :
    Below w.heap.size w w2 ∧ w2.cell? ⟨rb, 0, none⟩ = some r0 ∧ w2.cell? ⟨rb, 1, none⟩ = some r1 ∧ w2.cell? ⟨rb, 2, none⟩ = some r2 ∧ w2.cell? ⟨rb, 3, none⟩ = some r3 ∧ w2.cell? ⟨qb, 0, none⟩ = some q0 ∧ w2.cell? ⟨qb, 1, none⟩ = some q1 ∧ w2.cell? ⟨qb, 2, none⟩ = some q2 ∧ w2.cell? ⟨qb, 3, none⟩ = some q3 ∧ w2.cell? ⟨fb, 0, none⟩ = some f0 :=
  ⟨below_keep hb h.1, cell_keep hb h.2.1, cell_keep hb h.2.2.1, cell_keep hb h.2.2.2.1, cell_keep hb h.2.2.2.2.1, cell_keep hb h.2.2.2.2.2.1, cell_keep hb h.2.2.2.2.2.2.1, cell_keep hb h.2.2.2.2.2.2.2.1, cell_keep hb h.2.2.2.2.2.2.2.2.1, cell_keep hb h.2.2.2.2.2.2.2.2.2⟩
theorem kp8 {w w1 w2 : World} {db nb qb : Nat} {q0 q1 q2 q3 n0 n1 d0 d1 : Value} (hb : Below w1.heap.size w1 w2) (h : Below w.heap.size w w1 ∧ w1.cell? ⟨qb, 0, none⟩ = some q0 ∧ w1.cell? ⟨qb, 1, none⟩ = some q1 ∧ w1.cell? ⟨qb, 2, none⟩ = some q2 ∧ w1.cell? ⟨qb, 3, none⟩ = some q3 ∧ w1.cell? ⟨nb, 0, none⟩ = some n0 ∧ w1.cell? ⟨nb, 1, none⟩ = some n1 ∧ w1.cell? ⟨db, 0, none⟩ = some d0 ∧ w1.cell? ⟨db, 1, none⟩ = some d1) :
    Below w.heap.size w w2 ∧ w2.cell? ⟨qb, 0, none⟩ = some q0 ∧ w2.cell? ⟨qb, 1, none⟩ = some q1 ∧ w2.cell? ⟨qb, 2, none⟩ = some q2 ∧ w2.cell? ⟨qb, 3, none⟩ = some q3 ∧ w2.cell? ⟨nb, 0, none⟩ = some n0 ∧ w2.cell? ⟨nb, 1, none⟩ = some n1 ∧ w2.cell? ⟨db, 0, none⟩ = some d0 ∧ w2.cell? ⟨db, 1, none⟩ = some d1 :=
  ⟨below_keep hb h.1, cell_keep hb h.2.1, cell_keep hb h.2.2.1, cell_keep hb h.2.2.2.1, cell_keep hb h.2.2.2.2.1, cell_keep hb h.2.2.2.2.2.1, cell_keep hb h.2.2.2.2.2.2.1, cell_keep hb h.2.2.2.2.2.2.2.1, cell_keep hb h.2.2.2.2.2.2.2.2⟩
theorem rr_zero (N : Nat) (w : World) : Rr N w (.agg #[.int .i64 0, .slice none 0 0, .int .i64 0, .slice none 0 0]) 0 1 :=
  ⟨0, none, 0, 0, 0, none, 0, 0, 0, rfl, Zr.near _ (by decide) (by decide), Zr.near _ (by decide) (by decide), by decide, by decide, Or.inl ⟨rfl, rfl⟩⟩
theorem qtext_zero : qtext 0 1 = ⟨#[48]⟩ := by unfold qtext; rw [if_pos rfl, itoa_zero]

set_option maxHeartbeats 16000000 in
set_option maxRecDepth 8000 in
theorem ratioRead_law (A : Nat → Addr) (s : ByteArray) (w : World) (hS : Sents w A) (htab : Lib.TabIs Tryz.prog w "internal/strconv.uint64pow10" .u64 Lib.pow10Tab) (hT : Tab64 w) :
    Calls Tryz.prog 4 #[.string s] w fun e w' => e = .returned (.bool true) ∧ Below w.heap.size w w' := by
  have HSE := hide hS
  have HTAB := hide htab
  have HTT := hide hT
  clear hS htab hT
  go_enter Tryz.func4, Tryz.ntmps4
  by_cases hlong : (400 : Int) < s.size
  · go_wp2
    go_ret
    exact ⟨rfl, Below.refl _ _⟩
  · have hl : s.size ≤ 400 := by omega
    go_wp2_with fail
    go_fit (qread_any s A _ (by omega) (unhide HTT) (unhide HSE).h0 (unhide HSE).h1 (unhide HSE).h2)
    rintro e W1 ⟨hc, B1⟩
    rcases hc with ⟨c, k, pb, hsd, hc3, rfl, p0, p1⟩ | ⟨p, q, v, P, D, hsd, hq, rfl, hR, hE⟩
    · have HSD := hide hsd
      clear hsd
      have kr := below_new W1 (.cells #[.int .i64 0, .slice none 0 0, .int .i64 0, .slice none 0 0] 52)
      have BR := below_keep kr B1
      have p0 := cell_keep kr p0
      have p1 := cell_keep kr p1
      have r0 : (W1.alloc (.cells #[.int .i64 0, .slice none 0 0, .int .i64 0, .slice none 0 0] 52)).cell? ⟨W1.heap.size, 0, none⟩ = some (.int .i64 0) := by rw [new_cell rfl]; rfl
      have r1 : (W1.alloc (.cells #[.int .i64 0, .slice none 0 0, .int .i64 0, .slice none 0 0] 52)).cell? ⟨W1.heap.size, 1, none⟩ = some (.slice none 0 0) := by rw [new_cell rfl]; rfl
      have r2 : (W1.alloc (.cells #[.int .i64 0, .slice none 0 0, .int .i64 0, .slice none 0 0] 52)).cell? ⟨W1.heap.size, 2, none⟩ = some (.int .i64 0) := by rw [new_cell rfl]; rfl
      have r3 : (W1.alloc (.cells #[.int .i64 0, .slice none 0 0, .int .i64 0, .slice none 0 0] 52)).cell? ⟨W1.heap.size, 3, none⟩ = some (.slice none 0 0) := by rw [new_cell rfl]; rfl
      have HRR := hide (And.intro r0 (And.intro r1 (And.intro r2 r3)))
      have HP := hide (And.intro p0 p1)
      clear r0 r1 r2 r3 p0 p1 kr B1
      go_wp2_with fail
      go_fit (rqread_any s _ (by omega))
      rintro e W2 ⟨hc, hb2⟩
      rcases hc with ⟨c', k', hsd', c1, c2, rfl⟩ | ⟨p, q, v, P, D, hsd', _⟩
      · obtain ⟨rfl, rfl⟩ : c' = c + 1 ∧ k' = k := by
          have h9 := (unhide HSD).symm.trans hsd'
          simpa [eq_comm] using h9
        clear hsd'
        have kq := below_new2 W2 (.cells #[.bool false, .slice none 0 0, .bool false, .slice none 0 0] 56) (.cells #[.int .i64 ((c : Int) + 1), .int .i64 (k' : Nat)] 26)
        have BQ := below_keep kq (below_keep hb2 BR)
        have hp := And.intro (cell_keep kq (cell_keep hb2 (unhide HP).1)) (cell_keep kq (cell_keep hb2 (unhide HP).2))
        have hr := And.intro (cell_keep kq (cell_keep hb2 (unhide HRR).1)) (And.intro (cell_keep kq (cell_keep hb2 (unhide HRR).2.1)) (And.intro (cell_keep kq (cell_keep hb2 (unhide HRR).2.2.1)) (cell_keep kq (cell_keep hb2 (unhide HRR).2.2.2))))
        have f0 : ((W2.alloc (.cells #[.bool false, .slice none 0 0, .bool false, .slice none 0 0] 56)).alloc (.cells #[.int .i64 ((c : Int) + 1), .int .i64 (k' : Nat)] 26)).cell? ⟨W2.heap.size + 1, 0, none⟩ = some (.int .i64 ((c : Int) + 1)) := by rw [new_cell (by simp)]; rfl
        have HP2 := hide hp
        have HR2 := hide hr
        have HF := hide f0
        clear hp hr f0 hb2 BR kq
        go_wp2_with fail
        go_fit (told_fault A _ c pb k' (by omega) ((unhide HSE).later BQ) (unhide HP2).1 (unhide HP2).2)
        rintro e W3 ⟨rfl, hb3⟩
        have B3 := below_keep hb3 BQ
        have r0 := cell_keep hb3 (unhide HR2).1
        have r1 := cell_keep hb3 (unhide HR2).2.1
        have r2 := cell_keep hb3 (unhide HR2).2.2.1
        have r3 := cell_keep hb3 (unhide HR2).2.2.2
        have f0 := cell_keep hb3 (unhide HF)
        clear hb3 BQ
        go_wp2_with fail
        go_fit (qtext_any (N := 1) _ (rr_zero 1 _) (by omega) (tab_later (unhide HTAB) B3))
        rintro e W4 ⟨rfl, hb4⟩
        rw [qtext_zero]
        have B4 := below_keep hb4 B3
        have f0 := cell_keep hb4 f0
        have hci : (0 : Int) < (c : Int) + 1 := by omega
        clear r0 r1 r2 r3 hb4
        go_wp2
        go_ret
        exact ⟨rfl, B4⟩
      · exfalso
        have h9 := (unhide HSD).symm.trans hsd'
        exact absurd h9 (by simp)
    · have HSD := hide hsd
      have HE := hide hE
      clear hsd hE
      have hR0 := hR
      obtain ⟨g1, g2, g3, g4, g5, g6, g7, g8, g9, rfl, -, -, -, -, -⟩ := hR
      have kr := below_new W1 (.cells #[.int .i64 g1, .slice g2 g3 g4, .int .i64 g5, .slice g6 g7 g8] 52)
      have BR := below_keep kr B1
      have hR1 := hR0.later kr
      have r0 : (W1.alloc (.cells #[.int .i64 g1, .slice g2 g3 g4, .int .i64 g5, .slice g6 g7 g8] 52)).cell? ⟨W1.heap.size, 0, none⟩ = some (.int .i64 g1) := by rw [new_cell rfl]; rfl
      have r1 : (W1.alloc (.cells #[.int .i64 g1, .slice g2 g3 g4, .int .i64 g5, .slice g6 g7 g8] 52)).cell? ⟨W1.heap.size, 1, none⟩ = some (.slice g2 g3 g4) := by rw [new_cell rfl]; rfl
      have r2 : (W1.alloc (.cells #[.int .i64 g1, .slice g2 g3 g4, .int .i64 g5, .slice g6 g7 g8] 52)).cell? ⟨W1.heap.size, 2, none⟩ = some (.int .i64 g5) := by rw [new_cell rfl]; rfl
      have r3 : (W1.alloc (.cells #[.int .i64 g1, .slice g2 g3 g4, .int .i64 g5, .slice g6 g7 g8] 52)).cell? ⟨W1.heap.size, 3, none⟩ = some (.slice g6 g7 g8) := by rw [new_cell rfl]; rfl
      have HRR := hide (And.intro r0 (And.intro r1 (And.intro r2 r3)))
      clear r0 r1 r2 r3 kr B1
      go_wp2_with fail
      go_fit (rqread_any s _ (by omega))
      rintro e W2 ⟨hc, hb2⟩
      rcases hc with ⟨c', k', hsd', _, _, rfl⟩ | ⟨p', q', v2, P', D', hsd', hq', rfl, hQ, hE'⟩
      · exfalso
        have h9 := (unhide HSD).symm.trans hsd'
        exact absurd h9 (by simp)
      · obtain ⟨rfl, rfl⟩ : p' = p ∧ q' = q := by
          have h9 := (unhide HSD).symm.trans hsd'
          simpa [eq_comm] using h9
        obtain ⟨rfl, rfl⟩ := same_lowest hR0 hQ (Int.ne_of_gt hq) (unhide HE) hE'
        clear hsd' hE'
        have hQ0 := hQ
        obtain ⟨j1, j2, j3, j4, j5, j6, j7, j8, rfl, hQN, hQD, -, -⟩ := hQ
        have kq1 := below_new W2 (.cells #[.bool j1, .slice j2 j3 j4, .bool j5, .slice j6 j7 j8] 56)
        have kq2 := below_new (W2.alloc (.cells #[.bool j1, .slice j2 j3 j4, .bool j5, .slice j6 j7 j8] 56)) (.cells #[.int .i64 0, .int .i64 (-1)] 26)
        have kq := below_keep kq2 kq1
        have q0 : (W2.alloc (.cells #[.bool j1, .slice j2 j3 j4, .bool j5, .slice j6 j7 j8] 56)).cell? ⟨W2.heap.size, 0, none⟩ = some (.bool j1) := by rw [new_cell rfl]; rfl
        have q1 : (W2.alloc (.cells #[.bool j1, .slice j2 j3 j4, .bool j5, .slice j6 j7 j8] 56)).cell? ⟨W2.heap.size, 1, none⟩ = some (.slice j2 j3 j4) := by rw [new_cell rfl]; rfl
        have q2 : (W2.alloc (.cells #[.bool j1, .slice j2 j3 j4, .bool j5, .slice j6 j7 j8] 56)).cell? ⟨W2.heap.size, 2, none⟩ = some (.bool j5) := by rw [new_cell rfl]; rfl
        have q3 : (W2.alloc (.cells #[.bool j1, .slice j2 j3 j4, .bool j5, .slice j6 j7 j8] 56)).cell? ⟨W2.heap.size, 3, none⟩ = some (.slice j6 j7 j8) := by rw [new_cell rfl]; rfl
        have f0 : ((W2.alloc (.cells #[.bool j1, .slice j2 j3 j4, .bool j5, .slice j6 j7 j8] 56)).alloc (.cells #[.int .i64 0, .int .i64 (-1)] 26)).cell? ⟨W2.heap.size + 1, 0, none⟩ = some (.int .i64 0) := by rw [new_cell (by simp)]; rfl
        have KP := hide (And.intro (below_keep kq (below_keep hb2 BR)) (And.intro (cell_keep kq (cell_keep hb2 (unhide HRR).1)) (And.intro (cell_keep kq (cell_keep hb2 (unhide HRR).2.1)) (And.intro (cell_keep kq (cell_keep hb2 (unhide HRR).2.2.1)) (And.intro (cell_keep kq (cell_keep hb2 (unhide HRR).2.2.2)) (And.intro (cell_keep kq2 q0) (And.intro (cell_keep kq2 q1) (And.intro (cell_keep kq2 q2) (And.intro (cell_keep kq2 q3) f0)))))))))
        have hR2 := (hR1.later hb2).later kq
        have hQ2 := hQ0.later kq
        have hN2 := hQN.later kq
        have hD2 := hQD.later kq
        clear q0 q1 q2 q3 f0 kq1 kq2 kq hb2 BR hR1 hQ0 hQN hQD hR0
        go_wp2_with fail
        go_fit (told_nil (-1) _)
        rintro e W3 ⟨rfl, hb3⟩
        have KP3 := kp9 hb3 (unhide KP)
        have hR3 := hR2.later hb3
        have hQ3 := hQ2.later hb3
        have hN3 := hN2.later hb3
        have hD3 := hD2.later hb3
        clear hb3 KP hR2 hQ2 hN2 hD2
        obtain ⟨B3, r0, r1, r2, r3, q0, q1, q2, q3, f0⟩ := KP3
        go_wp2_with fail
        go_fit (qtext_any _ hR3 (by omega) (tab_later (unhide HTAB) B3))
        rintro e W4 ⟨rfl, hb4⟩
        have KP4 := kp9 hb4 ⟨B3, r0, r1, r2, r3, q0, q1, q2, q3, f0⟩
        have hR4 := hR3.later hb4
        have hQ4 := hQ3.later hb4
        have hN4 := hN3.later hb4
        have hD4 := hD3.later hb4
        clear hb4 B3 r0 r1 r2 r3 q0 q1 q2 q3 f0 hR3 hQ3 hN3 hD3
        obtain ⟨B4, r0, r1, r2, r3, q0, q1, q2, q3, f0⟩ := KP4
        obtain ⟨ST, HST⟩ : ∃ S, Hid (qtext P' D' = S) := ⟨_, rfl⟩
        rw [show qtext P' D' = ST from unhide HST]
        go_wp2_with fail
        go_fit (num_any _ hR4)
        rintro e W5 ⟨⟨v5, rfl, hZ5⟩, hb5⟩
        obtain ⟨m1, m2, m3, m4, rfl⟩ := hZ5.shape
        have kn := below_new W5 (.cells #[.int .i64 m1, .slice m2 m3 m4] 31)
        have KP5 := kp9 kn (kp9 hb5 ⟨B4, r0, r1, r2, r3, q0, q1, q2, q3, f0⟩)
        have hR5 := (hR4.later hb5).later kn
        have hQ5 := (hQ4.later hb5).later kn
        have hN5 := (hN4.later hb5).later kn
        have hD5 := (hD4.later hb5).later kn
        have vn := Vr.new hZ5
        clear hb5 B4 r0 r1 r2 r3 q0 q1 q2 q3 f0 hR4 hQ4 hN4 hD4 kn hZ5
        obtain ⟨B5, r0, r1, r2, r3, q0, q1, q2, q3, f0⟩ := KP5
        go_wp2_with fail
        go_fit (den_any _ hR5)
        rintro e W6 ⟨⟨v6, rfl, hZ6⟩, hb6⟩
        obtain ⟨m5, m6, m7, m8, rfl⟩ := hZ6.shape
        have kn := below_new W6 (.cells #[.int .i64 m5, .slice m6 m7 m8] 31)
        have KP6 := kp9 kn (kp9 hb6 ⟨B5, r0, r1, r2, r3, q0, q1, q2, q3, f0⟩)
        have hQ6 := (hQ5.later hb6).later kn
        have hN6 := (hN5.later hb6).later kn
        have hD6 := (hD5.later hb6).later kn
        have vn := (vn.keep hb6).keep kn
        have vd := Vr.new hZ6
        clear hb6 B5 r0 r1 r2 r3 q0 q1 q2 q3 f0 hR5 hQ5 hN5 hD5 kn hZ6
        obtain ⟨B6, -, -, -, -, q0, q1, q2, q3, -⟩ := KP6
        go_upto_region 13 with fail
        obtain ⟨V6, hV6⟩ : ∃ X, X = W6.alloc (.cells #[.int .i64 m5, .slice m6 m7 m8] 31) := ⟨_, rfl⟩
        rw [← hV6] at B6 q0 q1 q2 q3 vn vd hQ6 hN6 hD6 ⊢
        clear hV6
        have n0 := vn.c0
        have n1 := vn.c1
        have d0 := vd.c0
        have d1 := vd.c1
        obtain ⟨SP, HSP⟩ : ∃ S, Hid ((⟨(Lib.itoa P').toArray⟩ : ByteArray) = S) := ⟨_, rfl⟩
        obtain ⟨SD, HSQ⟩ : ∃ S, Hid ((⟨(Lib.itoa D').toArray⟩ : ByteArray) = S) := ⟨_, rfl⟩
        have tok1 : True := trivial
        have tok2 : True := trivial
        go_region_held3 (fun w' => Below w.heap.size w w' ∧ w'.cell? ⟨W2.heap.size, 0, none⟩ = some (.bool j1) ∧ w'.cell? ⟨W2.heap.size, 1, none⟩ = some (.slice j2 j3 j4) ∧ w'.cell? ⟨W2.heap.size, 2, none⟩ = some (.bool j5) ∧ w'.cell? ⟨W2.heap.size, 3, none⟩ = some (.slice j6 j7 j8) ∧ w'.cell? ⟨W5.heap.size, 0, none⟩ = some (.int .i64 m1) ∧ w'.cell? ⟨W5.heap.size, 1, none⟩ = some (.slice m2 m3 m4) ∧ w'.cell? ⟨W6.heap.size, 0, none⟩ = some (.int .i64 m5) ∧ w'.cell? ⟨W6.heap.size, 1, none⟩ = some (.slice m6 m7 m8))
          (first | with_reducible exact unhide S5 | with_reducible exact unhide S4 | with_reducible exact unhide S3 | with_reducible exact unhide S2 | with_reducible exact unhide S1 | exact ⟨B6.drew, q0, q1, q2, q3, n0, n1, d0, d1⟩)
          (first | (go_at_call 36; go_fit (rqtext_any _ (show Qr _ V6.drew _ _ _ from hQ6) (by omega)); rintro e y1 ⟨rfl, hb1⟩; rw [show qtext P' D' = ST from unhide HST]; have S1 := hide (kp8 hb1 ⟨B6.drew, q0, q1, q2, q3, n0, n1, d0, d1⟩)) | (go_at_call 17; have _t := tok1; go_fit (text_any _ ((show Zr _ V6.drew _ _ from vn.zr).later hb1) (by omega) (tab_later (unhide HTAB) (unhide S1).1)); rintro e y2 ⟨rfl, hb2⟩; clear tok1; rw [unhide HSP]; have S2 := hide (kp8 hb2 (unhide S1))) | (go_at_call 18; have _t := tok2; go_fit (rtext_any _ (((show Nr _ V6.drew _ _ from hN6).later hb1).later hb2) (by omega)); rintro e y3 ⟨rfl, hb3⟩; clear tok2; rw [unhide HSP]; have S3 := hide (kp8 hb3 (unhide S2))) | (go_at_call 17; go_fit (text_any _ ((((show Zr _ V6.drew _ _ from vd.zr).later hb1).later hb2).later hb3) (by omega) (tab_later (unhide HTAB) (unhide S3).1)); rintro e y4 ⟨rfl, hb4⟩; rw [unhide HSQ]; have S4 := hide (kp8 hb4 (unhide S3))) | (go_at_call 18; go_fit (rtext_any _ (((((show Nr _ V6.drew _ _ from hD6).later hb1).later hb2).later hb3).later hb4) (by omega)); rintro e y5 ⟨rfl, hb5⟩; rw [unhide HSQ]; have S5 := hide (kp8 hb5 (unhide S4))))
        have hfin := (unhide S5).1
        go_wp2
        go_ret
        exact ⟨rfl, hfin⟩
end Go.Proofs.YtmhebjeefdanmaaGreatDoor
