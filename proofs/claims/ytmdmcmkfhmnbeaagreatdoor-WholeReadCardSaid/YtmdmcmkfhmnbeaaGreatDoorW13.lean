/-
  The walk over whole.divideLong.
-/
import Derived.Test.YtmdmcmkfhmnbeaaGreatDoorW12
namespace Go.Proofs.YtmdmcmkfhmnbeaaGreatDoor
open Go.RowKit

theorem long_end {b a out R ds : List Int} {s : Nat} {V : Int} (hV : V = val b * 2 ^ s) (hR0 : val a * 2 ^ s = val R + val ds * V) (ho : val out * 2 ^ s + nth R 0 % 2 ^ s = val R) (hlow : val R < V) (hRn : 0 ≤ val R) :
    val out = val a - val ds * val b ∧ val out < val b ∧ 0 ≤ val out := by
  have p0 := two_pos s
  have m0 := Int.emod_nonneg (nth R 0) (show (2 : Int) ^ s ≠ 0 by omega)
  have m1 := Int.emod_lt_of_pos (nth R 0) p0
  generalize (2 : Int) ^ s = p at *
  generalize nth R 0 % p = r at *
  have e : p * (val a - val ds * val b - val out) = r := by subst hV; grind
  have e0 : val a - val ds * val b - val out = 0 := by
    by_cases g : val a - val ds * val b - val out = 0
    · exact g
    · by_cases g' : 1 ≤ val a - val ds * val b - val out
      · have : p * 1 ≤ p * (val a - val ds * val b - val out) := Int.mul_le_mul_of_nonneg_left g' (by omega)
        omega
      · have : p * (val a - val ds * val b - val out) ≤ p * (-1) := Int.mul_le_mul_of_nonneg_left (by omega) (by omega)
        omega
  rw [e0] at e
  refine ⟨by omega, ?_, ?_⟩
  · by_cases g : val out < val b
    · exact g
    · have : val b * p ≤ val out * p := Int.mul_le_mul_of_nonneg_right (by omega) (by omega)
      omega
  · by_cases g : 0 ≤ val out
    · exact g
    · have : val out * p ≤ (-1) * p := Int.mul_le_mul_of_nonneg_right (by omega) (by omega)
      omega

set_option maxHeartbeats 4000000 in
theorem divideLong_any (ga oa ca gb ob cb na nb : Nat) (a b : List Int) (w : World) (hra : Row w ga oa a) (hrb : Row w gb ob b) (ha : Ws a) (hb : Ws b) (tb : nth b (nb - 1) ≠ 0) (hna : a.length = na) (hnb : b.length = nb) (h1 : 1 ≤ nb) (hle : nb ≤ na) (hlim : na ≤ 900000) :
    Calls Tryz.prog 106 #[.slice (some ⟨ga, oa, none⟩) na ca, .slice (some ⟨gb, ob, none⟩) nb cb] w fun e w' => ∃ v1 v2 q r, e = .returned (.tuple #[v1, v2]) ∧ Sz (na + 1) w' v1 q ∧ Sz (na + 1) w' v2 r ∧ q * val b + r = val a ∧ 0 ≤ r ∧ r < val b ∧ Below w.heap.size w w' := by
  have hct := hrb (nb - 1) (by omega)
  obtain ⟨t0, t1⟩ := hb.get (nb - 1)
  obtain ⟨s, hs, hs63, hlo, hup⟩ := lead (hb.get (nb - 1)) (by omega)
  obtain ⟨nlo, nup⟩ := norm hb hnb h1 hlo hup hs63
  have HNA := hide hna
  have HNB := hide hnb
  have HS := hide hs
  have HNL := hide nlo
  have HNU := hide nup
  clear hna hnb hs nlo nup hlo hup
  go_enter Tryz.func106, Tryz.ntmps106
  go_wp2_with fail
  refine (Tryz.bits_LeadingZeros64 _ _ t0 (by omega)).mono ?_
  rintro e w ⟨rfl, rfl⟩
  rw [unhide HS]
  go_wp2_with fail
  refine (shiftUp_any gb ob cb nb s b _ (by exact hrb) hb (unhide HNB) hs63 (by omega)).mono ?_
  rintro e w2 ⟨g1, b1, rfl, hg1, lb1, wb1, eb1, _, rb1, fb1, bl1⟩
  go_wp2_with fail
  refine (trim_sz g1 0 (nb + 1) (nb + 1) b1 _ (by exact rb1) wb1 lb1 (Nat.le_refl _) (by omega)).mono ?_
  rintro e w3 ⟨v3, rfl, ⟨gy, oy, cy, y, rfl, wy, ty, ey, ny, ly, lcy, ry⟩, rfl⟩
  have hV : val y = val b * 2 ^ s := ey.trans eb1
  have hpp := pw_pos (nb - 1)
  have hy2 : pw (nb - 1) ≤ val y := by rw [hV]; have := unhide HNL; omega
  have hy3 : val y < pw nb := by rw [hV]; exact unhide HNU
  have hly : y.length = nb := len_of_val wy ty hy2 hy3 h1
  have hytop : 0 < nth y (nb - 1) := by
    have t := (wy.get (nb - 1)).1
    rcases ty with ty | ty
    · subst ty; simp at hly; omega
    · rw [hly] at ty; omega
  rw [hly]
  have hgy : gy < w2.heap.size := ry.lt (by intro e; subst e; simp at hly; omega)
  have HV := hide hV
  have HLY := hide hly
  clear hV hly ey eb1 lb1 hpp
  go_wp2_with fail
  refine (shiftUp_any ga oa ca na s a _ (by exact hra.later bl1) ha (unhide HNA) hs63 (by omega)).mono ?_
  rintro e w4 ⟨gr, R0, rfl, hgr, lr0, wr0, er0, tr0, rr0, fr0, bl2⟩
  have ry4 : Row w4 gy oy y := ry.later bl2
  have hsz := bl2.size
  obtain ⟨P, hP⟩ : ∃ P : Nat, P + nb = na + 1 := ⟨na + 1 - nb, by omega⟩
  have hPi : (na : Int) + 1 - (nb : Int) = (P : Int) := by omega
  have HLR := hide lr0
  have HER := hide er0
  clear lr0 er0
  have HTR := hide tr0
  clear tr0
  have hPle : P ≤ 900001 := by omega
  have hrlt : gr < w4.heap.size := fr0.lt
  go_wp2_with (first | (at_make; refine wpList_make_words rfl _ _ rfl P (by omega) rfl rfl ?_; intro gp w5 hmade))
  have hgp : gr < gp := by have := hmade.at_; omega
  have hgp2 : w4.heap.size ≤ gp := by have := hmade.at_; omega
  have hgy2 : gy < gr := by omega
  have hlow0 : val (R0.drop P) < val y := by
    have e1 := unhide HLR
    have l : (R0.drop P).length = nb := by simp; omega
    have e2 := val_take_succ (R0.drop P) (nb - 1) (by omega)
    rw [show nb - 1 + 1 = nb by omega, List.take_of_length_le (by omega), nth_drop, show P + (nb - 1) = na by omega] at e2
    have l1 := val_lt ((wr0.drop P).take (nb - 1))
    rw [List.length_take, Nat.min_eq_left (by omega)] at l1
    have t2 := unhide HTR
    have t3 := two_le s hs63
    have t4 := pw_pos (nb - 1)
    have t5 : pw (nb - 1) * (nth R0 na + 1) ≤ pw (nb - 1) * 9223372036854775808 := Int.mul_le_mul_of_nonneg_left (by omega) (by omega)
    rw [Int.mul_add] at t5
    have t6 := unhide HNL
    rw [unhide HV]
    omega
  have HL0 := hide hlow0
  clear hlow0
  go_loopw [34] (fun v wr => ∃ (k j : Nat) (R ds : List Int), j + k = P ∧ v = .int .i64 j ∧ Long gr gp P R0 y w5 k wr R ds) (fun v _ => P - (intOf v).toNat)
  case atStart =>
    have e1 := unhide HLR
    refine ⟨P, 0, R0, [], by omega, rfl, ⟨rfl, by simp, wr0, Ws.nil, by simp [val], unhide HL0, rr0.later hmade.below, by simpa using hmade.row, ?_, hmade.free, Below.refl _ _⟩⟩
    obtain ⟨cur, e, hh⟩ := fr0
    exact ⟨cur, e, by rw [hmade.below.block gr hrlt]; exact hh⟩
  case round =>
    obtain ⟨k', j, R, ds, hjk, rfl, hR⟩ := hrel
    have hszr := hR.below.size
    have hs5 : gp < w5.heap.size := hmade.free.lt
    by_cases hlt : j < P
    · obtain ⟨k, rfl⟩ : ∃ k, k' = k + 1 := ⟨k' - 1, by omega⟩
      have hk : (P : Int) - 1 - (j : Int) = (k : Int) := by omega
      have hR0l : R0.length = P + nb := by have := unhide HLR; omega
      obtain ⟨lw, hw1, hz, hw2⟩ := hR.window hy3 hR0l
      have hwin : Row wr gr k ((R.drop k).take (nb + 1)) := by
        have := (hR.rowR.drop k).take (nb + 1)
        rwa [Nat.zero_add] at this
      have hry : Row wr gy oy y := (ry4.later hmade.below).below hR.below (by omega)
      have hcp : wr.cell? ⟨gp, k, none⟩ = some (.int .u64 0) := by
        have := hR.rowD k (by simp; omega)
        rw [Nat.zero_add, nth_app_left (by simp)] at this
        rw [this]; simp [nth]
      have HW := hide (And.intro lw (And.intro hw1 (And.intro hz hw2)))
      clear lw hw1 hz hw2
      have HR0 := hide hR0l
      clear hR0l
      have HJK := hide hjk
      clear hjk
      have j1 : k + j + 1 = P := by have := unhide HJK; omega
      have J1 := hide j1
      clear j1
      have z1 : ¬ na + 1 = k := by have := unhide J1; omega
      have z2 : k + nb + 1 ≤ na + 1 := by have := unhide J1; omega
      have z3 : k < P := by have := unhide J1; omega
      go_wp2_with fail
      rw [show k + nb + 1 - k = nb + 1 by omega]
      refine (nextDigit_any gr k (na + 1 - k) gy oy cy nb _ y _ (by exact hwin) (by exact hry) (by exact hR.freeR) (fun _ => by omega) ((hR.wsR.drop k).take _) wy (unhide HW).1 (unhide HLY) h1 (by omega) (by omega) hytop (unhide HW).2.1).mono ?_
      rintro e w6 ⟨d, out, rfl, hd, lo, wo, eo, ho, ro, ed⟩
      have hcp6 : w6.cell? ⟨gp, k, none⟩ = some (.int .u64 0) := edit_cell ed hcp (by omega)
      have hfp6 : w6.frozen? ⟨gp, k, none⟩ = false := (hR.freeD.edit (by omega) ed).frozen _
      have HO := hide (And.intro lo (And.intro eo ho))
      clear lo eo ho
      go_wp2
      go_roundw
      case rel =>
        obtain ⟨lo, eo, ho⟩ := unhide HO
        refine ⟨k, j + 1, _, _, by have := unhide J1; omega, by go_num, long_step hR hy3 (unhide HR0) (by omega) hd lo wo eo ho ro ed (by omega)⟩
      case measure => simp [intOf]; omega
    · obtain rfl : k' = 0 := by omega
      have hR0l : R0.length = P + nb := by have := unhide HLR; omega
      have hRl : R.length = na + 1 := by have := hR.lenR; omega
      have hDl : ds.length = P := by have := hR.lenD; omega
      have HRL := hide hRl
      have HDL := hide hDl
      clear hR0l hRl hDl
      go_wp2_with fail
      refine (shiftDown_any gr 0 (na + 1) (na + 1) s R _ (by exact hR.rowR) (by exact hR.freeR) hR.wsR (unhide HRL) hs63 (by omega)).mono ?_
      rintro e w6 ⟨out, rfl, lo, wo, eo, ro, ed⟩
      have HO := hide (And.intro lo eo)
      clear lo eo
      have rd6 : Row w6 gp 0 ds := by
        have := hR.rowD.edit ed (by omega)
        simpa using this
      go_wp2_with fail
      refine (trim_sz gp 0 P P ds _ (by exact rd6) hR.wsD (unhide HDL) (Nat.le_refl _) (by omega)).mono ?_
      rintro e w7 ⟨v1, rfl, hsz1, rfl⟩
      go_wp2_with fail
      refine (trim_sz gr 0 (na + 1) (na + 1) out _ (by exact ro) wo (unhide HO).1 (Nat.le_refl _) (by omega)).mono ?_
      rintro e w8 ⟨v2, rfl, hsz2, rfl⟩
      go_wp2
      go_ret2
      have e1 := hR.eq
      have e2 := hR.low
      simp only [pw, List.drop_zero, Int.one_mul] at e1 e2
      rw [unhide HER] at e1
      obtain ⟨f1, f2, f3⟩ := long_end (unhide HV) e1 (unhide HO).2 e2 (val_nonneg hR.wsR)
      refine ⟨_, _, _, _, rfl, hsz1.mono (by omega), hsz2, by rw [f1]; omega, f3, f2, ?_⟩
      have bA : Below w.heap.size w w4 := bl1.trans (bl2.mono bl1.size)
      have bB : Below w.heap.size w w5 := bA.trans (hmade.below.mono bA.size)
      have b1s := bl1.size
      exact (bB.trans (hR.below.mono (by omega))).trans (ed.below (by omega) (by have := bB.size; omega))
end Go.Proofs.YtmdmcmkfhmnbeaaGreatDoor
