/-
  Walks over package whole: raiseTimes, lowerTimes: a multiple added to a row, or taken from it, in place.
-/
import Derived.Test.YtachnndaoogpeaaGreatDoorMShelf
import Derived.Test.YtachnndaoogpeaaGreatDoorMWA
namespace Go.Proofs.YtachnndaoogpeaaGreatDoor
open Go.RowKit

theorem mul64 (x y : Int) (hx : W64 x) (hy : W64 y) (w : World) :
    Calls Tryz.prog 81 #[.int .u64 x, .int .u64 y] w fun e w' => ∃ hi lo, e = .returned (.tuple #[.int .u64 hi, .int .u64 lo]) ∧ 0 ≤ lo ∧ lo < 18446744073709551616 ∧ 0 ≤ hi ∧ hi ≤ 18446744073709551614 ∧ Hid (lo + 18446744073709551616 * hi = x * y) ∧ w = w' := by
  have hb := prod_bound hx hy
  obtain ⟨x0, x1⟩ := hx
  obtain ⟨y0, y1⟩ := hy
  obtain ⟨a, rfl⟩ := Int.eq_ofNat_of_zero_le x0
  obtain ⟨b, rfl⟩ := Int.eq_ofNat_of_zero_le y0
  refine (Tryz.bits_Mul64 a b (by omega) (by omega) w).mono ?_
  rintro e w' ⟨rfl, rfl⟩
  have e : ((a * b : Nat) : Int) = (a : Int) * b := Int.natCast_mul a b
  rw [← e] at hb
  refine ⟨_, _, rfl, by omega, by omega, by omega, by omega, ?_, rfl⟩
  show _ = _
  rw [← e]
  omega

/-- How raiseTimes stands behind i rounds. -/
structure Load (g o : Nat) (W b : List Int) (y : Int) (w : World) (i : Nat) (c : Int) (wr : World) (out : List Int) : Prop where
  len : out.length = i
  ws : Ws out
  eq : val out + pw i * c = val (W.take i) + val (b.take i) * y
  c0 : 0 ≤ c
  c1 : c < 18446744073709551616
  row : Row wr g o (out ++ W.drop i)
  edit : Edit g o W.length w wr
theorem load_step {g o : Nat} {W b : List Int} {y : Int} {w wr wx : World} {i : Nat} {c u k : Int} {out : List Int} (h : Load g o W b y w i c wr out) (h1 : i < W.length) (h2 : i < b.length) (hu : W64 u) (hk0 : 0 ≤ k) (hk : k < 18446744073709551616)
    (e : u + 18446744073709551616 * k = nth W i + nth b i * y + c) (hw : wx = (wr.setCell ⟨g, o + i, none⟩ (.int .u64 u))) : Load g o W b y w (i + 1) k wx (out ++ [u]) := by
  subst hw
  have hl := h.len
  refine ⟨by simp [hl], h.ws.append (Ws.mk hu Ws.nil), raiseTimes_round hl h1 h2 h.eq e, hk0, hk, ?_, h.edit.setCell (by omega) (by omega) _⟩
  have := h.row.set (k := i) (by simp; omega) u
  rw [set_mid hl h1] at this
  exact this

set_option maxHeartbeats 1000000 in
theorem raiseTimes_any (g o cap gb ob capb n : Nat) (W b : List Int) (y : Int) (w : World) (hr : Row w g o W) (hrb : Row w gb ob b) (hf : Free w g) (hne : 0 < n → gb ≠ g) (hW : Ws W) (hb : Ws b) (hy : W64 y) (hn : W.length = n) (hm : b.length = n) (hlim : n ≤ 1000000) :
    Calls Tryz.prog 124 #[.slice (some ⟨g, o, none⟩) n cap, .slice (some ⟨gb, ob, none⟩) n capb, .int .u64 y] w fun e w' => ∃ c out, e = .returned (.int .u64 c) ∧ W64 c ∧ out.length = n ∧ Ws out ∧ val out + pw n * c = val W + val b * y ∧ Row w' g o out ∧ Edit g o n w w' := by
  have HN := hide hn
  have HM := hide hm
  clear hn hm
  go_enter Tryz.func124, Tryz.ntmps124
  go_wp2_with fail
  go_loopw [7, 14] (fun c v wr => ∃ (i : Nat) (cc : Int) (out : List Int), i ≤ n ∧ v = .int .i64 i ∧ c = .int .u64 cc ∧ Load g o W b y w i cc wr out) (fun _ v _ => n - (intOf v).toNat)
  case atStart => exact ⟨0, 0, [], Nat.zero_le _, rfl, rfl, ⟨rfl, Ws.nil, by simp [val], by decide, by decide, by simpa using hr, Edit.refl _ _ _ _⟩⟩
  case round =>
    obtain ⟨i, cc, out, hi, rfl, rfl, hR⟩ := hrel
    by_cases hlt : i < n
    · have hc1 : wr.cell? ⟨g, o + i, none⟩ = some (.int .u64 (nth W i)) := by
        have := hR.row i (by have := hR.len; have := unhide HN; simp; omega)
        rwa [nth_mid hR.len] at this
      have hc2 : wr.cell? ⟨gb, ob + i, none⟩ = some (.int .u64 (nth b i)) := (hrb.edit hR.edit (hne (by omega))) i (by have := unhide HM; omega)
      have hfr : wr.frozen? ⟨g, o + i, none⟩ = false := (hR.edit.free hf).frozen _
      obtain ⟨a0, a1⟩ := hW.get i
      have k0 := hR.c0
      have k1 := hR.c1
      go_wp2_with fail
      refine (mul64 _ _ (hb.get i) hy _).mono ?_
      rintro e w' ⟨h, l, rfl, l0, l1, h0, h1, HE, rfl⟩
      have hadd : ∀ w, (callFunc 156 #[.int .u64 l, .int .u64 cc, .int .u64 0]).run Tryz.prog w = _ := fun w => add64_0 l cc l0 k0 w
      have hadd2 : ∀ w, (callFunc 156 #[.int .u64 (nth W i), .int .u64 ((l + cc) % 18446744073709551616), .int .u64 0]).run Tryz.prog w = _ := fun w => add64_0 (nth W i) ((l + cc) % 18446744073709551616) a0 (by omega) w
      go_wp2_with fail
      try go_region
      go_wp2
      go_roundw
      case rel =>
        have e := unhide HE
        have pb := (prod_bound (hb.get i) hy).2
        rw [← e] at pb
        rw [IntKind.wrap_u64]
        refine ⟨i + 1, _, _, by omega, by go_num, rfl, load_step hR (by have := unhide HN; omega) (by have := unhide HM; omega) (w64_mod _) ?_ ?_ ?_ rfl⟩
        · omega
        · omega
        · rw [← e]; omega
      case measure => simp [intOf]; omega
    · go_wp2
      go_ret
      refine ⟨cc, out, rfl, ⟨hR.c0, hR.c1⟩, ?_, hR.ws, ?_, ?_, ?_⟩
      · have := hR.len; omega
      · have e := hR.eq
        rw [List.take_of_length_le (l := W) (by have := unhide HN; omega), List.take_of_length_le (l := b) (by have := unhide HM; omega), show i = n by omega] at e
        exact e
      · have := hR.row
        rw [List.drop_eq_nil_of_le (by have := unhide HN; omega), List.append_nil] at this
        exact this
      · have := hR.edit; rwa [unhide HN] at this

/-- How lowerTimes stands behind i rounds. -/
structure Unload (g o : Nat) (W b : List Int) (y : Int) (w : World) (i : Nat) (c : Int) (wr : World) (out : List Int) : Prop where
  len : out.length = i
  ws : Ws out
  eq : val out - pw i * c = val (W.take i) - val (b.take i) * y
  c0 : 0 ≤ c
  c1 : c < 18446744073709551616
  row : Row wr g o (out ++ W.drop i)
  edit : Edit g o W.length w wr
theorem unload_step {g o : Nat} {W b : List Int} {y : Int} {w wr wx : World} {i : Nat} {c u k : Int} {out : List Int} (h : Unload g o W b y w i c wr out) (h1 : i < W.length) (h2 : i < b.length) (hu : W64 u) (hk0 : 0 ≤ k) (hk : k < 18446744073709551616)
    (e : u - 18446744073709551616 * k = nth W i - nth b i * y - c) (hw : wx = (wr.setCell ⟨g, o + i, none⟩ (.int .u64 u))) : Unload g o W b y w (i + 1) k wx (out ++ [u]) := by
  subst hw
  have hl := h.len
  refine ⟨by simp [hl], h.ws.append (Ws.mk hu Ws.nil), lowerTimes_round hl h1 h2 h.eq e, hk0, hk, ?_, h.edit.setCell (by omega) (by omega) _⟩
  have := h.row.set (k := i) (by simp; omega) u
  rw [set_mid hl h1] at this
  exact this
theorem unload_num {h l c x P : Int} (h0 : 0 ≤ h) (l0 : 0 ≤ l) (l1 : l < 18446744073709551616) (c0 : 0 ≤ c) (c1 : c < 18446744073709551616) (x0 : 0 ≤ x) (x1 : x < 18446744073709551616)
    (e : l + 18446744073709551616 * h = P) (pb : P ≤ 340282366920938463426481119284349108225) :
    (h + (l + c) / 18446744073709551616 + bor x ((l + c) % 18446744073709551616)) % 18446744073709551616 = h + (l + c) / 18446744073709551616 + bor x ((l + c) % 18446744073709551616) ∧
    (x - (l + c) % 18446744073709551616) % 18446744073709551616 - 18446744073709551616 * (h + (l + c) / 18446744073709551616 + bor x ((l + c) % 18446744073709551616)) = x - P - c := by
  unfold bor; split <;> omega

set_option maxHeartbeats 1000000 in
theorem lowerTimes_any (g o cap gb ob capb n : Nat) (W b : List Int) (y : Int) (w : World) (hr : Row w g o W) (hrb : Row w gb ob b) (hf : Free w g) (hne : 0 < n → gb ≠ g) (hW : Ws W) (hb : Ws b) (hy : W64 y) (hn : W.length = n) (hm : b.length = n) (hlim : n ≤ 1000000) :
    Calls Tryz.prog 189 #[.slice (some ⟨g, o, none⟩) n cap, .slice (some ⟨gb, ob, none⟩) n capb, .int .u64 y] w fun e w' => ∃ c out, e = .returned (.int .u64 c) ∧ W64 c ∧ out.length = n ∧ Ws out ∧ val out - pw n * c = val W - val b * y ∧ Row w' g o out ∧ Edit g o n w w' := by
  have HN := hide hn
  have HM := hide hm
  clear hn hm
  go_enter Tryz.func189, Tryz.ntmps189
  go_wp2_with fail
  go_loopw [7, 14] (fun c v wr => ∃ (i : Nat) (cc : Int) (out : List Int), i ≤ n ∧ v = .int .i64 i ∧ c = .int .u64 cc ∧ Unload g o W b y w i cc wr out) (fun _ v _ => n - (intOf v).toNat)
  case atStart => exact ⟨0, 0, [], Nat.zero_le _, rfl, rfl, ⟨rfl, Ws.nil, by simp [val], by decide, by decide, by simpa using hr, Edit.refl _ _ _ _⟩⟩
  case round =>
    obtain ⟨i, cc, out, hi, rfl, rfl, hR⟩ := hrel
    by_cases hlt : i < n
    · have hc1 : wr.cell? ⟨g, o + i, none⟩ = some (.int .u64 (nth W i)) := by
        have := hR.row i (by have := hR.len; have := unhide HN; simp; omega)
        rwa [nth_mid hR.len] at this
      have hc2 : wr.cell? ⟨gb, ob + i, none⟩ = some (.int .u64 (nth b i)) := (hrb.edit hR.edit (hne (by omega))) i (by have := unhide HM; omega)
      have hfr : wr.frozen? ⟨g, o + i, none⟩ = false := (hR.edit.free hf).frozen _
      obtain ⟨a0, a1⟩ := hW.get i
      have k0 := hR.c0
      have k1 := hR.c1
      go_wp2_with fail
      refine (mul64 _ _ (hb.get i) hy _).mono ?_
      rintro e w' ⟨h, l, rfl, l0, l1, h0, h1, HE, rfl⟩
      have hadd : ∀ w, (callFunc 156 #[.int .u64 l, .int .u64 cc, .int .u64 0]).run Tryz.prog w = _ := fun w => add64_0 l cc l0 k0 w
      have hadd2 : ∀ w, (callFunc 158 #[.int .u64 (nth W i), .int .u64 ((l + cc) % 18446744073709551616), .int .u64 0]).run Tryz.prog w = _ := fun w => sub64_0 (nth W i) ((l + cc) % 18446744073709551616) a0 (by omega) (by omega) w
      go_wp2_with fail
      try go_region
      go_wp2
      go_roundw
      case rel =>
        have e := unhide HE
        have pb := (prod_bound (hb.get i) hy).2
        have bb := bor_01 (nth W i) ((l + cc) % 18446744073709551616)
        obtain ⟨n1, n2⟩ := unload_num h0 l0 l1 k0 k1 a0 a1 e pb
        have m0 := Int.emod_nonneg (h + (l + cc) / 18446744073709551616 + bor (nth W i) ((l + cc) % 18446744073709551616)) (show (18446744073709551616 : Int) ≠ 0 by decide)
        have m1 := Int.emod_lt_of_pos (h + (l + cc) / 18446744073709551616 + bor (nth W i) ((l + cc) % 18446744073709551616)) (show (0 : Int) < 18446744073709551616 by decide)
        rw [IntKind.wrap_u64, n1]
        rw [n1] at m0 m1
        exact ⟨i + 1, _, _, by omega, by go_num, rfl, unload_step hR (by have := unhide HN; omega) (by have := unhide HM; omega) (w64_mod _) m0 m1 n2 (by rw [show (nth W i - (l + cc) % 18446744073709551616) % 18446744073709551616 = (nth W i - (l + cc)) % 18446744073709551616 by omega])⟩
      case measure => simp [intOf]; omega
    · go_wp2
      go_ret
      refine ⟨cc, out, rfl, ⟨hR.c0, hR.c1⟩, ?_, hR.ws, ?_, ?_, ?_⟩
      · have := hR.len; omega
      · have e := hR.eq
        rw [List.take_of_length_le (l := W) (by have := unhide HN; omega), List.take_of_length_le (l := b) (by have := unhide HM; omega), show i = n by omega] at e
        exact e
      · have := hR.row
        rw [List.drop_eq_nil_of_le (by have := unhide HN; omega), List.append_nil] at this
        exact this
      · have := hR.edit; rwa [unhide HN] at this

end Go.Proofs.YtachnndaoogpeaaGreatDoor
