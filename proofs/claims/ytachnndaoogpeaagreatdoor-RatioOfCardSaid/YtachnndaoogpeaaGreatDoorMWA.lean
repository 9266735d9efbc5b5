/-
  Walks over package whole: raise, lower: sums and differences in place.
  Walks over package whole: lower: a difference in place.
-/
import Derived.Test.YtachnndaoogpeaaGreatDoorMBits
import Derived.Test.YtachnndaoogpeaaGreatDoorMMem
import Derived.BigRegion
namespace Go.Proofs.YtachnndaoogpeaaGreatDoor
open Go.RowKit

/-- How raise's first loop stands behind i rounds. -/
structure Rise (g o : Nat) (W b : List Int) (w : World) (i : Nat) (c : Int) (wr : World) (out : List Int) : Prop where
  len : out.length = i
  ws : Ws out
  eq : val out + pw i * c = val (W.take i) + val (b.take i)
  c0 : 0 ≤ c
  c1 : c ≤ 1
  row : Row wr g o (out ++ W.drop i)
  edit : Edit g o W.length w wr

theorem rise_step {g o : Nat} {W b : List Int} {w wr : World} {i : Nat} {c : Int} {out : List Int} (h : Rise g o W b w i c wr out) (h1 : i < W.length) (h2 : i < b.length) (hW : Ws W) (hb : Ws b) :
    Rise g o W b w (i + 1) ((nth W i + nth b i + c) / 18446744073709551616) (wr.setCell ⟨g, o + i, none⟩ (.int .u64 ((nth W i + nth b i + c) % 18446744073709551616))).drew (out ++ [(nth W i + nth b i + c) % 18446744073709551616]) := by
  have w1 := hW.get i; have w2 := hb.get i; have c0 := h.c0; have c1 := h.c1; have hl := h.len
  obtain ⟨w10, w11⟩ := w1; obtain ⟨w20, w21⟩ := w2
  refine ⟨by simp [hl], h.ws.append (Ws.mk (w64_mod _) Ws.nil), raise_round hl h1 h2 h.eq, by omega, by omega, ?_, (h.edit.setCell (by omega) (by omega) _).drew⟩
  have := h.row.set (k := i) (by simp; omega) ((nth W i + nth b i + c) % 18446744073709551616)
  rw [set_mid hl h1] at this
  exact this

/-- How raise's second loop stands: S is worth what was added. -/
structure Rise2 (g o : Nat) (W : List Int) (S : Int) (w : World) (i : Nat) (c : Int) (wr : World) (out : List Int) : Prop where
  len : out.length = i
  ws : Ws out
  eq : val out + pw i * c = val (W.take i) + S
  c0 : 0 ≤ c
  c1 : c ≤ 1
  row : Row wr g o (out ++ W.drop i)
  edit : Edit g o W.length w wr
theorem rise2_step {g o : Nat} {W : List Int} {S : Int} {w wr : World} {i : Nat} {c : Int} {out : List Int} (h : Rise2 g o W S w i c wr out) (h1 : i < W.length) (hW : Ws W) :
    Rise2 g o W S w (i + 1) ((nth W i + c) / 18446744073709551616) (wr.setCell ⟨g, o + i, none⟩ (.int .u64 ((nth W i + c) % 18446744073709551616))) (out ++ [(nth W i + c) % 18446744073709551616]) := by
  have w1 := hW.get i; have c0 := h.c0; have c1 := h.c1; have hl := h.len
  obtain ⟨w10, w11⟩ := w1
  refine ⟨by simp [hl], h.ws.append (Ws.mk (w64_mod _) Ws.nil), raise_round' hl h1 h.eq, by omega, by omega, ?_, h.edit.setCell (by omega) (by omega) _⟩
  have := h.row.set (k := i) (by simp; omega) ((nth W i + c) % 18446744073709551616)
  rw [set_mid hl h1] at this
  exact this

set_option maxHeartbeats 1000000 in
theorem raise_any (g o cap gb ob capb n m : Nat) (W b : List Int) (w : World) (hr : Row w g o W) (hrb : Row w gb ob b) (hf : Free w g) (hne : 0 < m → gb ≠ g) (hW : Ws W) (hb : Ws b) (hn : W.length = n) (hm : b.length = m) (hmn : m ≤ n) (hlim : n ≤ 1000000) :
    Calls Tryz.prog 121 #[.slice (some ⟨g, o, none⟩) n cap, .slice (some ⟨gb, ob, none⟩) m capb] w fun e w' => ∃ c out, e = .returned (.int .u64 c) ∧ 0 ≤ c ∧ c ≤ 1 ∧ out.length = n ∧ Ws out ∧ val out + pw n * c = val W + val b ∧ Row w' g o out ∧ Edit g o n w w' := by
  have HN := hide hn
  have HM := hide hm
  clear hn hm
  go_enter Tryz.func121, Tryz.ntmps121
  go_wp2_with fail
  go_loopw [5, 10] (fun c v wr => ∃ (i : Nat) (cc : Int) (out : List Int), i ≤ m ∧ v = .int .i64 i ∧ c = .int .u64 cc ∧ Rise g o W b w i cc wr out) (fun _ v _ => m - (intOf v).toNat)
  case atStart => exact ⟨0, 0, [], Nat.zero_le _, rfl, rfl, ⟨rfl, Ws.nil, by simp [val], by decide, by decide, by simpa using hr, Edit.refl _ _ _ _⟩⟩
  case round =>
    obtain ⟨i, cc, out, hi, rfl, rfl, hR⟩ := hrel
    by_cases hlt : i < m
    · have hc1 : wr.cell? ⟨g, o + i, none⟩ = some (.int .u64 (nth W i)) := by
        have := hR.row i (by have := hR.len; have := unhide HN; simp; omega)
        rwa [nth_mid hR.len] at this
      have hc2 : wr.cell? ⟨gb, ob + i, none⟩ = some (.int .u64 (nth b i)) := (hrb.edit hR.edit (hne (by omega))) i (by have := unhide HM; omega)
      have hfr : wr.frozen? ⟨g, o + i, none⟩ = false := (hR.edit.free hf).frozen _
      have hadd : ∀ w, (callFunc 156 #[.int .u64 (nth W i), .int .u64 (nth b i), .int .u64 cc]).run Tryz.prog w = _ := fun w => add64 (nth W i) (nth b i) cc (hW.get i).1 (hb.get i).1 hR.c0 hR.c1 w
      go_wp2_with fail
      go_region
      go_wp2
      go_roundw
      case rel => exact ⟨i + 1, _, _, by omega, by go_num, rfl, rise_step hR (by have := unhide HN; omega) (by have := unhide HM; omega) hW hb⟩
      case measure => simp [intOf]; omega
    · have him : i = m := by omega
      have HI := hide him
      clear him
      have hR2 : Rise2 g o W (val b) w i cc wr out := ⟨hR.len, hR.ws, by rw [hR.eq, List.take_of_length_le (l := b) (by have := unhide HM; omega)], hR.c0, hR.c1, hR.row, hR.edit⟩
      go_wp2_with fail
      obtain ⟨wo, hwo⟩ : ∃ wo : World, wo = wr := ⟨_, rfl⟩
      subst hwo
      go_loopw [5, 7] (fun c v wx => ∃ (j : Nat) (cc : Int) (out : List Int), j ≤ n ∧ v = .int .i64 j ∧ c = .int .u64 cc ∧ Rise2 g o W (val b) w j cc wx out) (fun _ v _ => n - (intOf v).toNat)
      case atStart => exact ⟨i, cc, out, by omega, by rw [unhide HI], rfl, hR2⟩
      case round =>
        clear hR2 hR HI
        obtain ⟨j, cd, out, hj, rfl, rfl, hS⟩ := hrel
        by_cases hz : cd = 0
        · subst hz
          go_wp2
          go_ret
          refine ⟨0, out ++ W.drop j, rfl, by decide, by decide, ?_, hS.ws.append (hW.drop j), ?_, hS.row, ?_⟩
          · have := hS.len; have := unhide HN; simp; omega
          · have e := hS.eq
            have e2 := val_split W j (by have := unhide HN; omega)
            rw [val_append, hS.len]
            omega
          · have := hS.edit; rwa [unhide HN] at this
        · have hz' : (cd != 0) = true := by simpa using hz
          by_cases hlt2 : j < n
          · have hc1 : wr.cell? ⟨g, o + j, none⟩ = some (.int .u64 (nth W j)) := by
              have := hS.row j (by have := hS.len; have := unhide HN; simp; omega)
              rwa [nth_mid hS.len] at this
            have hfr : wr.frozen? ⟨g, o + j, none⟩ = false := (hS.edit.free hf).frozen _
            have hadd : ∀ w, (callFunc 156 #[.int .u64 (nth W j), .int .u64 0, .int .u64 cd]).run Tryz.prog w = _ := fun w => add64 (nth W j) 0 cd (hW.get j).1 (by decide) hS.c0 hS.c1 w
            simp only [Int.add_zero] at hadd
            go_wp2
            go_roundw
            case rel => exact ⟨j + 1, _, _, by omega, by go_num, rfl, rise2_step hS (by have := unhide HN; omega) hW⟩
            case measure => simp [intOf]; omega
          · go_wp2
            go_ret
            refine ⟨cd, out, rfl, hS.c0, hS.c1, ?_, hS.ws, ?_, ?_, ?_⟩
            · have := hS.len; omega
            · have e := hS.eq
              rw [List.take_of_length_le (by have := unhide HN; omega), show j = n by omega] at e
              exact e
            · have := hS.row
              rw [List.drop_eq_nil_of_le (by have := unhide HN; omega), List.append_nil] at this
              exact this
            · have := hS.edit; rwa [unhide HN] at this

end Go.Proofs.YtachnndaoogpeaaGreatDoor
namespace Go.Proofs.YtachnndaoogpeaaGreatDoor
open Go.RowKit

/-- How lower's loops stand behind i rounds: S is worth what is taken away. -/
structure Fall (g o : Nat) (W : List Int) (S : Int) (w : World) (i : Nat) (c : Int) (wr : World) (out : List Int) : Prop where
  len : out.length = i
  ws : Ws out
  eq : val out - pw i * c = val (W.take i) - S
  c0 : 0 ≤ c
  c1 : c ≤ 1
  row : Row wr g o (out ++ W.drop i)
  edit : Edit g o W.length w wr
theorem fall_step {g o : Nat} {W b : List Int} {w wr : World} {i : Nat} {c : Int} {out : List Int} (h : Fall g o W (val (b.take i)) w i c wr out) (h1 : i < W.length) (h2 : i < b.length) (hW : Ws W) (hb : Ws b) :
    Fall g o W (val (b.take (i + 1))) w (i + 1) (bor (nth W i) (nth b i + c)) (wr.setCell ⟨g, o + i, none⟩ (.int .u64 ((nth W i - nth b i - c) % 18446744073709551616))).drew (out ++ [(nth W i - nth b i - c) % 18446744073709551616]) := by
  have c0 := h.c0; have c1 := h.c1; have hl := h.len
  refine ⟨by simp [hl], h.ws.append (Ws.mk (w64_mod _) Ws.nil), lower_round hl h1 h2 hW hb c0 c1 h.eq, (bor_01 _ _).1, (bor_01 _ _).2, ?_, (h.edit.setCell (by omega) (by omega) _).drew⟩
  have := h.row.set (k := i) (by simp; omega) ((nth W i - nth b i - c) % 18446744073709551616)
  rw [set_mid hl h1] at this
  exact this
theorem fall2_step {g o : Nat} {W : List Int} {S : Int} {w wr : World} {i : Nat} {c : Int} {out : List Int} (h : Fall g o W S w i c wr out) (h1 : i < W.length) (hW : Ws W) :
    Fall g o W S w (i + 1) (bor (nth W i) c) (wr.setCell ⟨g, o + i, none⟩ (.int .u64 ((nth W i - c) % 18446744073709551616))) (out ++ [(nth W i - c) % 18446744073709551616]) := by
  have c0 := h.c0; have c1 := h.c1; have hl := h.len
  refine ⟨by simp [hl], h.ws.append (Ws.mk (w64_mod _) Ws.nil), lower_round' hl h1 hW c0 c1 h.eq, (bor_01 _ _).1, (bor_01 _ _).2, ?_, h.edit.setCell (by omega) (by omega) _⟩
  have := h.row.set (k := i) (by simp; omega) ((nth W i - c) % 18446744073709551616)
  rw [set_mid hl h1] at this
  exact this
theorem no_borrow {W out : List Int} {S c : Int} {n : Nat} (hl : out.length = n) (ho : Ws out) (h : val out - pw n * c = val W - S) (hS : S ≤ val W) (c0 : 0 ≤ c) : c = 0 := by
  by_cases e : c = 0
  · exact e
  · have h1 := val_lt ho
    have h2 := pw_pos n
    have h3 : pw n * 1 ≤ pw n * c := Int.mul_le_mul_of_nonneg_left (by omega) (by omega)
    rw [hl] at h1
    omega

set_option maxHeartbeats 1000000 in
theorem lower_any (g o cap gb ob capb n m : Nat) (W b : List Int) (w : World) (hr : Row w g o W) (hrb : Row w gb ob b) (hf : Free w g) (hne : 0 < m → gb ≠ g) (hW : Ws W) (hb : Ws b) (hn : W.length = n) (hm : b.length = m) (hmn : m ≤ n) (hlim : n ≤ 1000000) (hle : val b ≤ val W) :
    Calls Tryz.prog 123 #[.slice (some ⟨g, o, none⟩) n cap, .slice (some ⟨gb, ob, none⟩) m capb] w fun e w' => ∃ out, e = .returned (.tuple #[]) ∧ out.length = n ∧ Ws out ∧ val out = val W - val b ∧ Row w' g o out ∧ Edit g o n w w' := by
  have HN := hide hn
  have HM := hide hm
  have HLE := hide hle
  clear hn hm hle
  go_enter Tryz.func123, Tryz.ntmps123
  go_wp2_with fail
  go_loopw [4, 9] (fun c v wr => ∃ (i : Nat) (cc : Int) (out : List Int), i ≤ m ∧ v = .int .i64 i ∧ c = .int .u64 cc ∧ Fall g o W (val (b.take i)) w i cc wr out) (fun _ v _ => m - (intOf v).toNat)
  case atStart => exact ⟨0, 0, [], Nat.zero_le _, rfl, rfl, ⟨rfl, Ws.nil, by simp [val], by decide, by decide, by simpa using hr, Edit.refl _ _ _ _⟩⟩
  case round =>
    obtain ⟨i, cc, out, hi, rfl, rfl, hR⟩ := hrel
    by_cases hlt : i < m
    · have hc1 : wr.cell? ⟨g, o + i, none⟩ = some (.int .u64 (nth W i)) := by
        have := hR.row i (by have := hR.len; have := unhide HN; simp; omega)
        rwa [nth_mid hR.len] at this
      have hc2 : wr.cell? ⟨gb, ob + i, none⟩ = some (.int .u64 (nth b i)) := (hrb.edit hR.edit (hne (by omega))) i (by have := unhide HM; omega)
      have hfr : wr.frozen? ⟨g, o + i, none⟩ = false := (hR.edit.free hf).frozen _
      have hadd : ∀ w, (callFunc 158 #[.int .u64 (nth W i), .int .u64 (nth b i), .int .u64 cc]).run Tryz.prog w = _ := fun w => sub64 (nth W i) (nth b i) cc (hW.get i).1 (hb.get i).1 (hb.get i).2 hR.c0 hR.c1 w
      go_wp2_with fail
      go_region
      go_wp2
      go_roundw
      case rel => exact ⟨i + 1, _, _, by omega, by go_num, rfl, fall_step hR (by have := unhide HN; omega) (by have := unhide HM; omega) hW hb⟩
      case measure => simp [intOf]; omega
    · have him : i = m := by omega
      have HI := hide him
      clear him
      have hR2 : Fall g o W (val b) w i cc wr out := by
        have := hR
        rwa [List.take_of_length_le (l := b) (by have := unhide HM; omega)] at this
      go_wp2_with fail
      obtain ⟨wo, hwo⟩ : ∃ wo : World, wo = wr := ⟨_, rfl⟩
      subst hwo
      go_loopw [4, 6] (fun c v wx => ∃ (j : Nat) (cc : Int) (out : List Int), j ≤ n ∧ v = .int .i64 j ∧ c = .int .u64 cc ∧ Fall g o W (val b) w j cc wx out) (fun _ v _ => n - (intOf v).toNat)
      case atStart => exact ⟨i, cc, out, by omega, by rw [unhide HI], rfl, hR2⟩
      case round =>
        clear hR2 hR HI
        obtain ⟨j, cd, out, hj, rfl, rfl, hS⟩ := hrel
        by_cases hz : cd = 0
        · subst hz
          go_wp2
          go_end0
          refine ⟨out ++ W.drop j, rfl, ?_, hS.ws.append (hW.drop j), ?_, hS.row, ?_⟩
          · have := hS.len; have := unhide HN; simp; omega
          · have e := hS.eq
            have e2 := val_split W j (by have := unhide HN; omega)
            rw [val_append, hS.len]
            omega
          · have := hS.edit; rwa [unhide HN] at this
        · have hz' : (cd != 0) = true := by simpa using hz
          by_cases hlt2 : j < n
          · have hc1 : wr.cell? ⟨g, o + j, none⟩ = some (.int .u64 (nth W j)) := by
              have := hS.row j (by have := hS.len; have := unhide HN; simp; omega)
              rwa [nth_mid hS.len] at this
            have hfr : wr.frozen? ⟨g, o + j, none⟩ = false := (hS.edit.free hf).frozen _
            have hadd : ∀ w, (callFunc 158 #[.int .u64 (nth W j), .int .u64 0, .int .u64 cd]).run Tryz.prog w = _ := fun w => sub64 (nth W j) 0 cd (hW.get j).1 (by decide) (by decide) hS.c0 hS.c1 w
            simp only [Int.sub_zero, Int.zero_add] at hadd
            go_wp2
            go_roundw
            case rel => exact ⟨j + 1, _, _, by omega, by go_num, rfl, fall2_step hS (by have := unhide HN; omega) hW⟩
            case measure => simp [intOf]; omega
          · have hd0 : cd = 0 := by
              have e := hS.eq
              rw [List.take_of_length_le (by have := unhide HN; omega)] at e
              exact no_borrow hS.len hS.ws e (unhide HLE) hS.c0
            exact absurd hd0 hz

end Go.Proofs.YtachnndaoogpeaaGreatDoor
