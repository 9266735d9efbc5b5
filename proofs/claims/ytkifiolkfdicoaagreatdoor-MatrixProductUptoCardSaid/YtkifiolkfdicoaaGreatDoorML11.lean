/-
 The law MatrixProduct, walked: for every two tables of texts it answers true.
-/
import Derived.Test.YtkifiolkfdicoaaGreatDoorMKV
namespace Go.Proofs.YtkifiolkfdicoaaGreatDoor
open Go.RowKit
theorem allOf_row {l : List (List ByteArray)} {L : List (List (Int × Int))} {n : Nat} (h : numss l = some L) (hl : ∀ r ∈ l, r.length ≤ n) : ∀ r ∈ L, r.length ≤ n := by
 intro r hr
 obtain ⟨i, hi⟩ := List.getElem?_of_mem hr
 have hlen := allOf_len h
 have hil := (List.getElem?_eq_some_iff.1 hi).1
 obtain ⟨s, hs⟩ : ∃ s, l[i]? = some s := ⟨l[i]'(by omega), by simp⟩
 obtain ⟨x, hx, hn⟩ := allOf_at h hs
 rw [hi] at hx
 obtain rfl : r = x := by simpa using hx
 rw [allOf_len hn]
 exact hl s (List.mem_of_getElem? hs)
theorem prodT_size (L M : List (List (Int × Int))) : (prodT L M).length = L.length := by rw [prodT, List.length_map]
theorem prodT_row (L M : List (List (Int × Int))) : ∀ r ∈ prodT L M, r.length = wide M := by
 intro r hr
 obtain ⟨q, _, rfl⟩ := List.mem_map.1 hr
 rw [List.length_map, List.length_range]
set_option maxHeartbeats 16000000 in
set_option maxRecDepth 8000 in
theorem matrixProduct_law {A : Nat → Addr} {v v' : Value} {l k : List (List ByteArray)} (w : World) (hA : Env A w) (hS : Sents w A) (h : Rows 1 (LE 1 TE) w v l) (h' : Rows 1 (LE 1 TE) w v' k) (hl : l.length ≤ 100000000) (hl2 : ∀ r ∈ l, r.length ≤ 100000000) (hk : k.length ≤ 100000000) (hk2 : ∀ r ∈ k, r.length ≤ 100000000) :
   Calls Tryz.prog 11 #[v, v'] w fun e w' => e = .returned (.bool true) ∧ Below w.heap.size w w' := by
 obtain ⟨sa, sc, rfl⟩ := h.shape
 obtain ⟨ta, tc, rfl⟩ := h'.shape
 have HA := hide hA
 have HS := hide hS
 have HR := hide h
 have HR' := hide h'
 have HB := hide (And.intro hl (And.intro hl2 (And.intro hk hk2)))
 clear h h' hA hS hl hl2 hk hk2
 go_enter Tryz.func11, Tryz.ntmps11
 go_wp2_with fail
 go_fit (rrows_any _ (unhide HR) (unhide HB).1 (unhide HB).2.1)
 rintro e W1 ⟨hc1, B1⟩
 obtain ⟨va, ok1, rfl, HC1⟩ : ∃ va ok1, e = .returned (.tuple #[va, .bool ok1]) ∧ Hid ((ok1 = false) ∨ (ok1 = true ∧ ∃ L, numss l = some L ∧ Rows 1 (LE 4 (QE 362)) W1 va L)) := by
   rcases hc1 with ⟨_, rfl⟩ | ⟨L, v, hL, rfl, hr⟩
   · exact ⟨_, _, rfl, hide (Or.inl rfl)⟩
   · exact ⟨_, _, rfl, hide (Or.inr ⟨rfl, L, hL, hr⟩)⟩
 clear hc1
 have BB := hide B1
 clear B1
 go_wp2_with fail
 go_fit (rrows_any _ ((unhide HR').later (tss_stays 0) (unhide BB)) (unhide HB).2.2.1 (unhide HB).2.2.2)
 rintro e W2 ⟨hc2, B2⟩
 obtain ⟨vb, ok2, rfl, HC2⟩ : ∃ va ok1, e = .returned (.tuple #[va, .bool ok1]) ∧ Hid ((ok1 = false) ∨ (ok1 = true ∧ ∃ L, numss k = some L ∧ Rows 1 (LE 4 (QE 362)) W2 va L)) := by
   rcases hc2 with ⟨_, rfl⟩ | ⟨L, v, hL, rfl, hr⟩
   · exact ⟨_, _, rfl, hide (Or.inl rfl)⟩
   · exact ⟨_, _, rfl, hide (Or.inr ⟨rfl, L, hL, hr⟩)⟩
 clear hc2
 have BB := hide (below_keep B2 (unhide BB))
 have B2 := hide B2
 go_wp2_with fail
 go_fit (small_any _ ((unhide HR).later (tss_stays 0) (unhide BB)) (unhide HB).1 (unhide HB).2.1)
 rintro e W3 ⟨⟨f1, rfl, hf1⟩, B3⟩
 have HF1 := hide hf1
 have BB := hide (below_keep B3 (unhide BB))
 have B3 := hide (below_keep B3 (Below.refl _ _))
 clear hf1
 go_wp2_with fail
 go_fit (small_any _ ((unhide HR').later (tss_stays 0) (unhide BB)) (unhide HB).2.2.1 (unhide HB).2.2.2)
 rintro e W4 ⟨⟨f2, rfl, hf2⟩, B4⟩
 have HF2 := hide hf2
 have BB := hide (below_keep B4 (unhide BB))
 have B24 := hide (below_keep B4 (unhide B3))
 clear hf2 B4
 rcases unhide HC1 with rfl | ⟨rfl, L, hL, hRa⟩
 · go_wp2
   go_ret
   exact ⟨rfl, unhide BB⟩
 rcases unhide HC2 with rfl | ⟨rfl, M, hM, hRb⟩
 · go_wp2
   go_ret
   exact ⟨rfl, unhide BB⟩
 rcases f1 with _ | _
 · go_wp2
   go_ret
   exact ⟨rfl, unhide BB⟩
 rcases f2 with _ | _
 · go_wp2
   go_ret
   exact ⟨rfl, unhide BB⟩
 have hl6 := unhide HF1 rfl
 have hk6 := unhide HF2 rfl
 have HLM := hide (show L.length ≤ 6 ∧ (∀ r ∈ L, r.length ≤ 6) ∧ M.length ≤ 6 ∧ (∀ r ∈ M, r.length ≤ 6) from ⟨by rw [allOf_len hL]; exact hl6.1, allOf_row hL hl6.2, by rw [allOf_len hM]; exact hk6.1, allOf_row hM hk6.2⟩)
 have HNL := hide (And.intro hL hM)
 have B14 := below_keep (unhide B24) (unhide B2)
 have HQa := hide (hRa.later (qss_stays 362 (e := 0) (by decide)) B14)
 have HQb := hide (hRb.later (qss_stays 362 (e := 0) (by decide)) (unhide B24))
 obtain ⟨qa, qc, rfl⟩ := hRa.shape
 obtain ⟨ra, rc, rfl⟩ := hRb.shape
 clear HC1 HC2 HF1 HF2 hl6 hk6 hL hM hRa hRb B14 B24 B2 B3
 go_wp2_with fail
 go_fit (prows_any _ ((unhide HA).later (unhide BB)) ((unhide HR).later (tss_stays 0) (unhide BB)) (unhide HB).1 (unhide HB).2.1 (unhide HNL).1)
 rintro e W5 ⟨⟨vx, rfl, hx⟩, B5⟩
 have BB := hide (below_keep B5 (unhide BB))
 have HQa := hide ((unhide HQa).later (qss_stays 362 (e := 0) (by decide)) B5)
 have HQb := hide ((unhide HQb).later (qss_stays 362 (e := 0) (by decide)) B5)
 have HX := hide hx
 clear B5 hx
 go_wp2_with fail
 go_fit (prows_any _ ((unhide HA).later (unhide BB)) ((unhide HR').later (tss_stays 0) (unhide BB)) (unhide HB).2.2.1 (unhide HB).2.2.2 (unhide HNL).2)
 rintro e W6 ⟨⟨vy, rfl, hy⟩, B6⟩
 have BB := hide (below_keep B6 (unhide BB))
 have HQa := hide ((unhide HQa).later (qss_stays 362 (e := 0) (by decide)) B6)
 have HQb := hide ((unhide HQb).later (qss_stays 362 (e := 0) (by decide)) B6)
 have HX := hide ((unhide HX).later (rss_stays 78 0) B6)
 have HY := hide hy
 clear B6 hy
 go_wp2_with fail
 go_fit (mproduct_any _ ((unhide HA).later (unhide BB)) ((unhide HS).later (unhide BB)) (unhide HX) (unhide HY) (unhide HLM).1 (unhide HLM).2.1 (unhide HLM).2.2.1 (unhide HLM).2.2.2)
 rintro e W7 ⟨hc, B7⟩
 have BB := hide (below_keep B7 (unhide BB))
 have HQa := hide ((unhide HQa).later (qss_stays 362 (e := 0) (by decide)) B7)
 have HQb := hide ((unhide HQb).later (qss_stays 362 (e := 0) (by decide)) B7)
 clear B7 HX HY
 obtain ⟨vm, ve, rfl, HC⟩ : ∃ vm ve, e = .returned (.tuple #[vm, ve]) ∧ Hid ((¬ (isTab L ∧ isTab M ∧ wide L = M.length) ∧ vm = .slice none 0 0 ∧ ve = .iface 307 (.pointer (some (A 3)))) ∨ ((isTab L ∧ isTab M ∧ wide L = M.length) ∧ ve = .nilIface ∧ Rows 1 (LE 4 (RE 20000)) W7 vm (prodT L M))) := by
   rcases hc with ⟨h1, rfl⟩ | ⟨h1, v, rfl, h2⟩
   · exact ⟨_, _, rfl, hide (Or.inl ⟨h1, rfl, rfl⟩)⟩
   · exact ⟨_, _, rfl, hide (Or.inr ⟨h1, rfl, h2⟩)⟩
 clear hc
 go_wp2_with fail
 go_fit (ristable_any _ (unhide HQa) (by have := unhide HLM; omega) (fun r hr => by have := (unhide HLM).2.1 r hr; omega))
 rintro e W8 ⟨⟨t1, rfl, ht1⟩, B8⟩
 have HT1 := hide ht1
 have BB := hide (below_keep B8 (unhide BB))
 have HQa := hide ((unhide HQa).later (qss_stays 362 (e := 0) (by decide)) B8)
 have HQb := hide ((unhide HQb).later (qss_stays 362 (e := 0) (by decide)) B8)
 have B7 := hide B8
 clear B8 ht1
 go_wp2_with fail
 go_fit (ristable_any _ (unhide HQb) (by have := unhide HLM; omega) (fun r hr => by have := (unhide HLM).2.2.2 r hr; omega))
 rintro e W9 ⟨⟨t2, rfl, ht2⟩, B9⟩
 have HT2 := hide ht2
 have BB := hide (below_keep B9 (unhide BB))
 have HQa := hide ((unhide HQa).later (qss_stays 362 (e := 0) (by decide)) B9)
 have HQb := hide ((unhide HQb).later (qss_stays 362 (e := 0) (by decide)) B9)
 have B7 := hide (below_keep B9 (unhide B7))
 clear B9 ht2
 rcases unhide HC with ⟨hno, rfl, rfl⟩ | ⟨hyes, rfl, hRm⟩
 · have HNO := hide hno
   clear hno HC
   have fin : ∀ (W : World) (hb : Below w.heap.size w W), Calls Tryz.prog 75 #[.iface 307 (.pointer (some (A 3))), .int .i64 4] W fun e w' => e = .returned (.bool true) ∧ Below W.heap.size W w' := fun W hb => coded_any A W 3 (by decide) ((unhide HS).later hb)
   have FIN := hide fin
   clear fin
   rcases t1 with _ | _
   · go_wp2_with fail
     go_fit (unhide FIN _ (unhide BB))
     rintro e W10 ⟨rfl, B10⟩
     have BB := hide (below_keep B10 (unhide BB))
     clear B10
     go_wp2
     go_ret
     exact ⟨rfl, unhide BB⟩
   rcases t2 with _ | _
   · go_wp2_with fail
     go_fit (unhide FIN _ (unhide BB))
     rintro e W10 ⟨rfl, B10⟩
     have BB := hide (below_keep B10 (unhide BB))
     clear B10
     go_wp2
     go_ret
     exact ⟨rfl, unhide BB⟩
   have hne : ¬ wide L = M.length := fun h => unhide HNO ⟨(unhide HT1).1 rfl, (unhide HT2).1 rfl, h⟩
   have hd : ((wide L : Int) != (M.length : Int)) = true := by simp; omega
   go_wp2_with fail
   go_fit (rwide_any _ (unhide HQa))
   rintro e W10 ⟨rfl, B10⟩
   have BB := hide (below_keep B10 (unhide BB))
   clear B10
   go_wp2_with fail
   go_fit (unhide FIN _ (unhide BB))
   rintro e W11 ⟨rfl, B11⟩
   have BB := hide (below_keep B11 (unhide BB))
   clear B11
   go_wp2
   go_ret
   exact ⟨rfl, unhide BB⟩
 · obtain rfl : t1 = true := (unhide HT1).2 hyes.1
   obtain rfl : t2 = true := (unhide HT2).2 hyes.2.1
   have hd : ((wide L : Int) != (M.length : Int)) = false := by have := hyes.2.2; simp; omega
   have HY := hide hyes
   have HM := hide (hRm.later (rss_stays 20000 0) (unhide B7))
   obtain ⟨ma, mc, rfl⟩ := hRm.shape
   clear HC hyes hRm HT1 HT2 B7
   obtain ⟨pn, hpn⟩ : ∃ n, n = (prodT L M).length := ⟨_, rfl⟩
   rw [← hpn] at HM ⊢
   clear hpn
   go_wp2_with fail
   go_fit (rwide_any _ (unhide HQa))
   rintro e W10 ⟨rfl, B10⟩
   have BB := hide (below_keep B10 (unhide BB))
   have HQa := hide ((unhide HQa).later (qss_stays 362 (e := 0) (by decide)) B10)
   have HQb := hide ((unhide HQb).later (qss_stays 362 (e := 0) (by decide)) B10)
   have HM := hide ((unhide HM).later (rss_stays 20000 0) B10)
   clear B10
   go_wp2_with fail
   go_fit (rowTexts_any _ ((unhide HA).later (unhide BB)) (unhide HM) (by rw [prodT_size]; have := unhide HLM; omega) (fun r hr => by rw [prodT_row L M r hr]; have := (unhide HY).2.1.2.1; omega) (by omega))
   rintro e W11 ⟨⟨vt, rfl, ht⟩, B11⟩
   have BB := hide (below_keep B11 (unhide BB))
   have HQa := hide ((unhide HQa).later (qss_stays 362 (e := 0) (by decide)) B11)
   have HQb := hide ((unhide HQb).later (qss_stays 362 (e := 0) (by decide)) B11)
   have HT := hide ht
   clear B11 ht HM
   have hw6 : wide M ≤ 6 := by
     cases M with
     | nil => simp [wide]
     | cons r M => exact (unhide HLM).2.2.2 r (by simp)
   go_wp2_with fail
   go_fit (rproduct_any _ (unhide HQa) (unhide HQb) (fun r hr => by rw [(unhide HY).1.2.2 r hr]; exact (unhide HY).2.2) (unhide HY).2.1.2.2 (unhide HLM).1 (unhide HLM).2.2.1 hw6 (by omega))
   rintro e W12 ⟨⟨vp, rfl, hp⟩, B12⟩
   have BB := hide (below_keep B12 (unhide BB))
   have HT := hide ((unhide HT).later (tss_stays 0) B12)
   have HP := hide hp
   clear B12 hp
   go_wp2_with fail
   go_fit (sameRows_any _ (unhide HT) (unhide HP) (by rw [prodT_size]; have := unhide HLM; omega) (fun r hr => by rw [prodT_row L M r hr]; omega) (by omega))
   rintro e W13 ⟨rfl, B13⟩
   have BB := hide (below_keep B13 (unhide BB))
   clear B13
   go_wp2
   go_ret
   exact ⟨rfl, unhide BB⟩
end Go.Proofs.YtkifiolkfdicoaaGreatDoor
