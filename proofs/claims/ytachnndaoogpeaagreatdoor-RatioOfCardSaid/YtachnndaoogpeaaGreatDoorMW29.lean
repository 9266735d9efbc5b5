/-
  Walks over package whole: DivMod of any two numbers; Read, told in short.
-/
import Derived.Test.YtachnndaoogpeaaGreatDoorMWH
import Derived.Test.YtachnndaoogpeaaGreatDoorMW22p
import Derived.Test.YtachnndaoogpeaaGreatDoorMW22n
namespace Go.Proofs.YtachnndaoogpeaaGreatDoor
open Go.RowKit

theorem divMod_any {N : Nat} {v u : Value} {z o : Int} (w : World) (hz : Zr (N + 1) w v z) (ho : Zr (N + 1) w u o) (hlim : N ≤ 700000) :
    Calls Tryz.prog 28 #[v, u] w fun e w' => ((o = 0 ∧ e = .returned (.tuple #[.agg #[.int .i64 0, .slice none 0 0], .agg #[.int .i64 0, .slice none 0 0], .bool false])) ∨ (o ≠ 0 ∧ ∃ vq vr q r, e = .returned (.tuple #[vq, vr, .bool true]) ∧ Zr (N + 3) w' vq q ∧ Zr (N + 3) w' vr r ∧ q * o + r = z ∧ 0 ≤ r ∧ r < iabs o)) ∧ Below w.heap.size w w' := by
  obtain ⟨x, a1, n1, c1, rfl⟩ := hz.shape
  obtain ⟨y, a2, n2, c2, hu, hsg, _⟩ := ho.sgn
  subst hu
  rcases Int.lt_trichotomy o 0 with h | h | h
  · exact (divMod_neg x y a1 a2 n1 c1 n2 c2 z o w hz ho h hlim).mono fun e w' ⟨h1, h2⟩ => ⟨Or.inr ⟨by omega, h1⟩, h2⟩
  · exact (divMod_zero x y a1 a2 n1 c1 n2 c2 w (by rw [hsg, h]; rfl)).mono fun e w' ⟨h1, h2⟩ => ⟨Or.inl ⟨h, h1⟩, h2⟩
  · exact (divMod_pos x y a1 a2 n1 c1 n2 c2 z o w hz ho h hlim).mono fun e w' ⟨h1, h2⟩ => ⟨Or.inr ⟨by omega, h1⟩, h2⟩
end Go.Proofs.YtachnndaoogpeaaGreatDoor
