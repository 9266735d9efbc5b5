/-
  Rows of integers, and of rows of these; what small walks share.
-/
import Derived.Test.YtgckgkllpkkpeaaDoorYL
namespace Go.Proofs.YtgckgkllpkkpeaaDoor
open Go.RowKit

/-- A number in its cell. -/
def JE (_w : World) (cs : List Value) (x : Int) : Prop := cs = [.int .i64 x] ∧ -9223372036854775808 ≤ x ∧ x ≤ 9223372036854775807
theorem JE.stays (K : Value → Prop) (e : TypeId) : Stays K e JE := fun _ _ _ _ h _ => h
theorem JE.other (w : World) (cs : List Value) (x : Int) (h : JE w cs x) : ∃ u ∈ cs, ¬ IsSl u := by
  obtain ⟨rfl, _⟩ := h
  exact ⟨_, List.mem_singleton.2 rfl, fun ⟨_, _, _, h⟩ => by cases h⟩
theorem jss_stays (e : TypeId) : Stays IsSl e (LE 1 JE) := LE.stays (JE.stays IsSl e) JE.other
/-- The cell of a number of a row. -/
theorem Rows.int {w : World} {a : Option Addr} {n c i : Nat} {L : List Int} {x : Int} (h : Rows 1 JE w (.slice a n c) L) (hx : L[i]? = some x) : ∃ b o, a = some ⟨b, o, none⟩ ∧ w.cell? ⟨b, o + i, none⟩ = some (.int .i64 x) ∧ -9223372036854775808 ≤ x ∧ x ≤ 9223372036854775807 := by
  obtain ⟨b, o, rfl, cs, _, hcs, rfl, hb⟩ := h.at hx
  exact ⟨b, o, rfl, by simpa using hcs 0 _ rfl, hb⟩
/-- The row in a row of rows. -/
theorem Rows.row {w : World} {a : Option Addr} {n c i : Nat} {L : List (List Int)} {r : List Int} (h : Rows 1 (LE 1 JE) w (.slice a n c) L) (hx : L[i]? = some r) : ∃ b o ra rc, a = some ⟨b, o, none⟩ ∧ w.cell? ⟨b, o + i, none⟩ = some (.slice ra r.length rc) ∧ Rows 1 JE w (.slice ra r.length rc) r := by
  obtain ⟨b, o, rfl, cs, _, hcs, u, rfl, hr⟩ := h.at hx
  obtain ⟨ra, rc, rfl⟩ := hr.shape
  exact ⟨b, o, ra, rc, rfl, by simpa using hcs 0 _ rfl, hr⟩
def I64 (x : Int) : Prop := -9223372036854775808 ≤ x ∧ x ≤ 9223372036854775807
theorem ret_bool {a b : Bool} (h : a = b) : Ending.returned (.bool a) = .returned (.bool b) := by rw [h]
theorem natz (n : Nat) : (((n : Int) == 0) : Bool) = decide (n = 0) := by
  rcases n with _ | n
  · rfl
  · simp; omega
theorem nateq (n m : Nat) : (((n : Int) == (m : Int)) : Bool) = decide (n = m) := by
  by_cases h : n = m
  · subst h; simp
  · simp [h]; omega
theorem two_new (w : World) (t : TypeId) (u0 u1 : Value) : (w.alloc (.cells #[u0, u1] t)).cell? ⟨w.heap.size, 0, none⟩ = some u0 ∧ (w.alloc (.cells #[u0, u1] t)).cell? ⟨w.heap.size, 1, none⟩ = some u1 := by
  refine ⟨?_, ?_⟩ <;> rw [new_cell rfl] <;> rfl
theorem Rows.on {α : Type} {k : Nat} {E : World → List Value → α → Prop} {w w' : World} {v : Value} {L : List α} (h : Rows k E w v L) (hE : ∀ cs x, E w cs x → E w' cs x) (hb : Below w.heap.size w w') : Rows k E w' v L := by
  obtain ⟨a, cap, h1, h2, h3, h4⟩ := h
  refine ⟨a, cap, h1, h2, h3, ?_⟩
  rcases h4 with h4 | ⟨b, o, h4, h5⟩
  · exact Or.inl h4
  · refine Or.inr ⟨b, o, h4, fun i x hx => ?_⟩
    obtain ⟨cs, hl, hcs, he⟩ := h5 i x hx
    exact ⟨cs, hl, fun j' u' hu' => cell_keep hb (hcs j' u' hu'), hE _ _ he⟩
/-- A call answers whether something is so. -/
def YesP (e : Ending) (p : Prop) : Prop := ∃ b, e = .returned (.bool b) ∧ (b = true ↔ p)
theorem YesP.yes {p : Prop} (h : p) : YesP (.returned (.bool true)) p := ⟨true, rfl, fun _ => h, fun _ => rfl⟩
theorem YesP.no {p : Prop} (h : ¬ p) : YesP (.returned (.bool false)) p := ⟨false, rfl, (fun e => by cases e), fun h' => absurd h' h⟩
theorem YesP.of {p : Prop} {b : Bool} (h : b = true ↔ p) : YesP (.returned (.bool b)) p := ⟨b, rfl, h⟩
theorem Rows.prefix {α : Type} {k : Nat} {E : World → List Value → α → Prop} {w : World} {a : Option Addr} {n c : Nat} {L : List α} (h : Rows k E w (.slice a n c) L) (i : Nat) (hi : i ≤ n) : Rows k E w (.slice a i c) (L.take i) := by
  obtain ⟨a', cap, h1, h2, h3, h4⟩ := h
  simp at h1
  obtain ⟨rfl, rfl, rfl⟩ := h1
  refine ⟨a, c, by rw [List.length_take, Nat.min_eq_left hi], by rw [List.length_take]; omega, h3, ?_⟩
  rcases h4 with rfl | ⟨b, o, h4, h5⟩
  · exact Or.inl (by simp)
  · refine Or.inr ⟨b, o, h4, fun j x hx => h5 j x ?_⟩
    rw [List.getElem?_take] at hx
    split at hx
    · exact hx
    · cases hx
/-- A number that is not too great. -/
def Ok8 (x : Int) : Prop := -100000000 ≤ x ∧ x ≤ 100000000
theorem mul_ok {x y : Int} (hx : Ok8 x) (hy : Ok8 y) : -10000000000000000 ≤ x * y ∧ x * y ≤ 10000000000000000 := by
  have h : (x * y).natAbs ≤ 100000000 * 100000000 := by
    rw [Int.natAbs_mul]
    exact Nat.mul_le_mul (by unfold Ok8 at hx; omega) (by unfold Ok8 at hy; omega)
  omega
theorem wrapI64 (n : Int) : IntKind.i64.wrap n = wrap64 n := by unfold wrap64; exact IntKind.wrap_i64 n
theorem JE.kinds (x : Int) : ∀ u ∈ [Value.int .i64 x], NoWord u := by intro u hu z e; simp at hu; rw [hu] at e; cases e
theorem info_i : (Tryd.prog.info? 3).map (fun i => (i.zero, i.size, i.bytes)) = some (some (.int .i64 0), 1, 8) := by kernel_rfl
theorem zk_i : ∀ u ∈ (Value.int .i64 0).cells.toList, NoWord u := JE.kinds 0
theorem one_i (x : Int) : ∀ u ∈ [Value.int .i64 x], u.oneCell' = true := by intro u hu; simp at hu; subst hu; rfl
/-- Numbers in a new row. -/
theorem ints_new (w : World) (t : TypeId) (l : List Int) (hl : l.length ≤ 100) (hb : ∀ x ∈ l, -100 ≤ x ∧ x ≤ 100) : Rows 1 JE (w.alloc (.cells (l.map fun x => Value.int .i64 x).toArray t)) (.slice (some ⟨w.heap.size, 0, none⟩) l.length l.length) l := by
  refine ⟨_, _, rfl, Nat.le_refl _, by unfold maxLen; omega, Or.inr ⟨_, _, rfl, fun i x hx => ⟨[.int .i64 x], rfl, fun j u hu => ?_, rfl, ?_⟩⟩⟩
  · rcases j with _ | j
    · obtain rfl : Value.int .i64 x = u := by simpa using hu
      rw [new_cell rfl]
      simp [hx]
    · simp at hu
  · have := hb x (List.mem_of_getElem? hx)
    omega
theorem rows_nil {α : Type} {k : Nat} {E : World → List Value → α → Prop} (w : World) : Rows k E w (.slice none 0 0) [] := ⟨none, 0, rfl, Nat.le_refl _, Nat.zero_le _, Or.inl rfl⟩
end Go.Proofs.YtgckgkllpkkpeaaDoor
