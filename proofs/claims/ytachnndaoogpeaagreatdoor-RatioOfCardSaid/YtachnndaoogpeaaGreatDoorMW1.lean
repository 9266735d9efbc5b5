/-
  Walks over the smallest functions of package whole: comparisons, signs, sizes of one word.
-/
import Derived.Test.YtachnndaoogpeaaGreatDoorMMathA
import Derived.Test.YtachnndaoogpeaaGreatDoorChecked
import Derived.WalkKit
import Derived.WalkSpells
import Derived.WalkLawsBesides
namespace Go.Proofs.YtachnndaoogpeaaGreatDoor
open Go.RowKit

theorem bcell {W w1 : World} (hb : Below W.heap.size W w1) : (∀ b o, b < W.heap.size → w1.cell? ⟨b, o, none⟩ = W.cell? ⟨b, o, none⟩) ∧ (∀ b o, b < W.heap.size → w1.frozen? ⟨b, o, none⟩ = W.frozen? ⟨b, o, none⟩) :=
  ⟨fun b o h => hb.cell (p := ⟨b, o, none⟩) h, fun b o h => hb.frozen (p := ⟨b, o, none⟩) h⟩
theorem ret_int {k : IntKind} {a b : Int} (h : a = b) : Ending.returned (.int k a) = .returned (.int k b) := by rw [h]
theorem ret_bool {a b : Bool} (h : a = b) : Ending.returned (.bool a) = .returned (.bool b) := by rw [h]

theorem hide {p : Prop} (h : p) : Hid p := h
theorem unhide {p : Prop} (h : Hid p) : p := h
/-- How many elements a slice has: a loop's measure. -/
def lenOf : Value → Nat | .slice _ m _ => m | _ => 0

/-- The sign of a number. -/
def sgn (x : Int) : Int := if x < 0 then -1 else if x = 0 then 0 else 1
theorem sgn_neg {x : Int} (h : x < 0) : sgn x = -1 := by simp [sgn, h]
theorem sgn_zero {x : Int} (h : x = 0) : sgn x = 0 := by simp [sgn, h]
theorem sgn_pos {x : Int} (h : 0 < x) : sgn x = 1 := by simp [sgn, show ¬ x < 0 by omega, show ¬ x = 0 by omega]

set_option maxHeartbeats 400000 in
theorem cmp_i64 (x y : Int) (w : World) :
    Calls Tryz.prog 98 #[.int .i64 x, .int .i64 y] w fun e w' => e = .returned (.int .i64 (sgn (x - y))) ∧ w' = w := by
  go_enter Tryz.func98, Tryz.ntmps98
  go_wp2
  all_goals go_ret
  all_goals first
    | exact ⟨ret_int (sgn_neg (by omega)).symm, rfl⟩
    | exact ⟨ret_int (sgn_pos (by omega)).symm, rfl⟩
    | exact ⟨ret_int (sgn_zero (by omega)).symm, rfl⟩
set_option maxHeartbeats 400000 in
theorem cmp_int (x y : Int) (w : World) :
    Calls Tryz.prog 99 #[.int .i64 x, .int .i64 y] w fun e w' => e = .returned (.int .i64 (sgn (x - y))) ∧ w' = w := by
  go_enter Tryz.func99, Tryz.ntmps99
  go_wp2
  all_goals go_ret
  all_goals first
    | exact ⟨ret_int (sgn_neg (by omega)).symm, rfl⟩
    | exact ⟨ret_int (sgn_pos (by omega)).symm, rfl⟩
    | exact ⟨ret_int (sgn_zero (by omega)).symm, rfl⟩
set_option maxHeartbeats 400000 in
theorem cmp_u64 (x y : Int) (w : World) :
    Calls Tryz.prog 122 #[.int .u64 x, .int .u64 y] w fun e w' => e = .returned (.int .i64 (sgn (x - y))) ∧ w' = w := by
  go_enter Tryz.func122, Tryz.ntmps122
  go_wp2
  all_goals go_ret
  all_goals first
    | exact ⟨ret_int (sgn_neg (by omega)).symm, rfl⟩
    | exact ⟨ret_int (sgn_pos (by omega)).symm, rfl⟩
    | exact ⟨ret_int (sgn_zero (by omega)).symm, rfl⟩

set_option maxHeartbeats 400000 in
theorem sign_any (near : Int) (sl : Value) (w : World) :
    Calls Tryz.prog 26 #[.agg #[.int .i64 near, sl]] w fun e w' => e = .returned (.int .i64 (sgn near)) ∧ Below w.heap.size w w' := by
  go_enter Tryz.func26, Tryz.ntmps26
  go_wp2_with (go_at_call 98; refine (cmp_i64 _ _ _).mono ?_; rintro e w' ⟨rfl, rfl⟩)
  go_ret
  exact ⟨by simp, (Below.refl _ _).alloc (Nat.le_refl _) _⟩

/-- How far a number is from 0. -/
def iabs (x : Int) : Int := if x < 0 then -x else x
set_option maxHeartbeats 400000 in
theorem sizeOf_any (n : Int) (h0 : -9223372036854775808 ≤ n) (h1 : n ≤ 9223372036854775807) (w : World) :
    Calls Tryz.prog 82 #[.int .i64 n] w fun e w' => e = .returned (.int .u64 (iabs n)) ∧ w' = w := by
  have hn : n < 0 → IntKind.u64.wrap (-IntKind.u64.wrap n) = iabs n := by
    intro h; rw [IntKind.wrap_u64, IntKind.wrap_u64]; unfold iabs; rw [if_pos h]; omega
  have hp : 0 ≤ n → n = iabs n := by intro h; unfold iabs; rw [if_neg (by omega)]
  have HN := hide hn
  have HP := hide hp
  clear hn hp
  go_enter Tryz.func82, Tryz.ntmps82
  go_wp2
  · go_ret; exact ⟨ret_int (unhide HN ‹_›), rfl⟩
  · go_ret; exact ⟨ret_int (unhide HP ‹_›), rfl⟩

/-- The cells of a row of words. -/
def Row (w : World) (b off : Nat) (l : List Int) : Prop := ∀ k, k < l.length → w.cell? ⟨b, off + k, none⟩ = some (.int .u64 (nth l k))

set_option maxHeartbeats 400000 in
/-- trim: as many words as it takes. -/
theorem trim_any (b off cap : Nat) (l : List Int) (w : World) (hr : Row w b off l) (hl : l.length ≤ cap) (hcap : cap ≤ 9223372036854775807) :
    Calls Tryz.prog 120 #[.slice (some ⟨b, off, none⟩) l.length cap] w fun e w' => (∃ m, m ≤ l.length ∧ e = .returned (.slice (some ⟨b, off, none⟩) m cap) ∧ (∀ k, m ≤ k → nth l k = 0) ∧ (m = 0 ∨ nth l (m - 1) ≠ 0)) ∧ w' = w := by
  go_enter Tryz.func120, Tryz.ntmps120
  go_wp2
  go_loop [0] (fun v => ∃ m : Nat, m ≤ l.length ∧ v = .slice (some ⟨b, off, none⟩) m cap ∧ ∀ k, m ≤ k → nth l k = 0) lenOf
  case atStart => exact ⟨l.length, Nat.le_refl _, rfl, fun k hk => nth_ge hk⟩
  case round =>
    obtain ⟨m, hm, rfl, hz⟩ := hrel
    have HZ := hide hz
    clear hz
    by_cases hm0 : m = 0
    · subst hm0
      go_wp2
      go_ret
      exact ⟨⟨0, Nat.zero_le _, rfl, unhide HZ, Or.inl rfl⟩, rfl⟩
    · have hc := hr (m - 1) (by omega)
      by_cases hx : nth l (m - 1) = 0
      · have HX := hide hx
        rw [hx] at hc
        clear hx
        go_wp2
        go_round
        case rel =>
          refine ⟨m - 1, by omega, rfl, fun k hk => ?_⟩
          by_cases e : k = m - 1
          · rw [e]; exact unhide HX
          · exact unhide HZ k (by omega)
        case measure => simp [lenOf]; omega
      · go_wp2
        go_ret
        exact ⟨⟨m, hm, rfl, unhide HZ, Or.inr hx⟩, rfl⟩

set_option maxHeartbeats 400000 in
theorem trim_nil (w : World) : Calls Tryz.prog 120 #[.slice none 0 0] w fun e w' => e = .returned (.slice none 0 0) ∧ w' = w := by
  go_enter Tryz.func120, Tryz.ntmps120
  go_wp2
  refine wp_loop_rounds 1 ?_
  rw [rounds_succ]
  go_wp2
  go_ret
  exact ⟨rfl, rfl⟩

end Go.Proofs.YtachnndaoogpeaaGreatDoor
