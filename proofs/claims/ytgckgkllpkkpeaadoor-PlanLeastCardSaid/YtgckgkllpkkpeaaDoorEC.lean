/-
  The errors' numbers, for the laws of the third package.
-/
import Derived.Test.YtgckgkllpkkpeaaDoorYM
import Derived.Test.YtgckgkllpkkpeaaDoorE3
namespace Go.Proofs.YtgckgkllpkkpeaaDoor
open Go.RowKit

theorem coded3 (A : Nat → Addr) (w : World) (k : Nat) (hk : k < 10) (hS : Sents w A) :
    Calls Tryd.prog 9 #[.iface 114 (.pointer (some (A k))), .int .i64 ((k : Int) + 1)] w fun e w' => e = .returned (.bool true) ∧ Below w.heap.size w w' := by
  go_enter Tryd.func9, Tryd.ntmps9
  go_wp2_with fail
  go_fit (code_any A _ k hk hS)
  rintro e w1 ⟨rfl, hb1⟩
  go_wp2
  go_ret
  exact ⟨rfl, hb1⟩
theorem code_nil (w : World) : Calls Tryd.prog 15 #[.nilIface] w fun e w' => e = .returned (.tuple #[.int .i64 0, .int .i64 (-1)]) ∧ Below w.heap.size w w' := by
  go_enter Tryd.func15, Tryd.ntmps15
  go_wp2
  exact bodyPost_ret (v := .tuple #[.int .i64 0, .int .i64 (-1)]) (by simp [results, Tryd.results15, go_sem]) rfl ⟨rfl, Below.refl _ _⟩
theorem coded3_nil (w : World) :
    Calls Tryd.prog 9 #[.nilIface, .int .i64 0] w fun e w' => e = .returned (.bool true) ∧ Below w.heap.size w w' := by
  go_enter Tryd.func9, Tryd.ntmps9
  go_wp2_with fail
  go_fit (code_nil _)
  rintro e w1 ⟨rfl, hb1⟩
  go_wp2
  go_ret
  exact ⟨rfl, hb1⟩
/-- The error of a number. -/
def errV (A : Nat → Addr) (e : Int) : Value := if e = 2 then .iface 114 (.pointer (some (A 1))) else if e = 4 then .iface 114 (.pointer (some (A 3))) else .nilIface
theorem coded_err (A : Nat → Addr) (w : World) {e : Int} (he : e = 0 ∨ e = 2 ∨ e = 4) (hS : Sents w A) :
    Calls Tryd.prog 9 #[errV A e, .int .i64 e] w fun e w' => e = .returned (.bool true) ∧ Below w.heap.size w w' := by
  rcases he with rfl | rfl | rfl
  · exact coded3_nil w
  · exact coded3 A w 1 (by decide) hS
  · exact coded3 A w 3 (by decide) hS
end Go.Proofs.YtgckgkllpkkpeaaDoor
