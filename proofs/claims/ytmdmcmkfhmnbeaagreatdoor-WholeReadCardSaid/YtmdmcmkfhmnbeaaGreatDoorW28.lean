/-
  Walks over package whole: Text of a number that an int64 holds.
-/
import Derived.Test.YtmdmcmkfhmnbeaaGreatDoorW25
import Derived.Lib.AppendIntMem
namespace Go.Proofs.YtmdmcmkfhmnbeaaGreatDoor
open Go.RowKit

theorem below_grow (w : World) (k : Nat) (os : Array Obj) : Below w.heap.size w (Sort.grow (w.drewN k) os) :=
  ⟨rfl, rfl, rfl, by simp [Sort.grow, World.drewN], fun i hi => by simp [Sort.grow, World.drewN, Array.getElem?_append, hi]⟩
theorem tab_later {w w' : World} {name : String} {k : IntKind} {zs : List Int} (h : Lib.TabIs Tryz.prog w name k zs) (hb : Below w.heap.size w w') : Lib.TabIs Tryz.prog w' name k zs := Lib.tabBelow_of_tabIs h w' hb

set_option maxRecDepth 4000 in
set_option maxHeartbeats 1000000 in
theorem text_near (n : Int) (h0 : -9223372036854775808 ≤ n) (h1 : n ≤ 9223372036854775807) (w : World) (htab : Lib.TabIs Tryz.prog w "internal/strconv.uint64pow10" .u64 Lib.pow10Tab) :
    Calls Tryz.prog 8 #[.agg #[.int .i64 n, .slice none 0 0]] w fun e w' => e = .returned (.string ⟨(Lib.itoa n).toArray⟩) ∧ Below w.heap.size w w' := by
  have hal := below_new w (.cells #[.int .i64 n, .slice none 0 0] 24)
  have HT := hide htab
  clear htab
  have hq := eql_none
  go_enter Tryz.func8, Tryz.ntmps8
  go_wp2_with fail
  go_fit (Tryz.strconv_FormatInt_10 n h0 h1 _ (tab_later (unhide HT) hal))
  rintro e W1 ⟨rfl, k, os, hW1⟩
  have hb1 : Below w.heap.size w W1 := by
    rw [hW1]; exact below_keep (below_grow _ k os) hal
  clear hW1 hal
  go_wp2
  go_ret
  exact ⟨rfl, hb1⟩
end Go.Proofs.YtmdmcmkfhmnbeaaGreatDoor
