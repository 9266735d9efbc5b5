/-
  Jobs: functions that are handed over; slices.IndexFunc, ContainsFunc, Index, Contains.
-/
import Derived.Test.YtgckgkllpkkpeaaDoorYM
namespace Go.Proofs.YtgckgkllpkkpeaaDoor
open Go.RowKit

/-- What is asked of a function that is handed over: what it answers of an element in each later world, and that it leaves what lies there. -/
def PredE {α : Type} (E : World → List Value → α → Prop) (g : Nat) (lb : Array Value) (p : α → Bool) (w : World) : Prop :=
  ∀ (W : World) (u : Value) (x : α), Below w.heap.size w W → E W [u] x → Calls Tryd.prog g (#[u] ++ lb) W fun e w' => e = .returned (.bool (p x)) ∧ Below W.heap.size W w'
/-- What is read of cells stays where what lies there stays. -/
def Lasts {α : Type} (E : World → List Value → α → Prop) : Prop := ∀ w w' cs x, E w cs x → Below w.heap.size w w' → E w' cs x
theorem lastJ : Lasts JE := fun _ _ _ _ h _ => h
theorem PredE.later {α : Type} {E : World → List Value → α → Prop} {g : Nat} {lb : Array Value} {p : α → Bool} {w w' : World} (h : PredE E g lb p w) (hb : Below w.heap.size w w') : PredE E g lb p w' := fun W u x hW he => h W u x (below_keep hW hb) he
set_option maxHeartbeats 4000000 in
set_option maxRecDepth 8000 in
/-- slices.IndexFunc of a row of numbers. -/
theorem idxI_any {α : Type} {E : World → List Value → α → Prop} {g : Nat} {lb : Array Value} {p : α → Bool} {v : Value} {L : List α} (w : World) (eg : ∀ args w, (callFunc g args).run Tryd.prog w = .ok (.enter g args) w) (hE : Lasts E) (h : Rows 1 E w v L) (hp : PredE E g lb p w) :
    Calls Tryd.prog 46 #[v, .func (.func g) #[] lb] w fun e w' => (∃ i : Int, e = .returned (.int .i64 i) ∧ (L.any p = decide (0 ≤ i))) ∧ Below w.heap.size w w' := by
  obtain ⟨sa, sc, rfl⟩ := h.shape
  have HR := hide h
  have hsm := h.small
  unfold maxLen at hsm
  have HP := hide hp
  clear h hp
  go_enter Tryd.func46, Tryd.ntmps46
  go_wp2_with fail
  go_loopg [5, 8] L.length (fun gk _ iv wr => ∃ i : Nat, i ≤ L.length ∧ gk = L.length - i ∧ iv = .int .i64 (i : Int) ∧ Hid (Below w.heap.size w wr) ∧ Hid ((L.take i).any p = false))
  case atStart => exact ⟨0, by omega, by omega, rfl, hide (Below.refl _ _), hide rfl⟩
  case round =>
    obtain ⟨i, hi, hgk, rfl, HB, HN⟩ := hrel
    by_cases hil : i < L.length
    · obtain ⟨x, hx⟩ : ∃ x, L[i]? = some x := ⟨L[i], by simp [hil]⟩
      obtain ⟨b, o, rfl, cs, hl, hcs, he⟩ := (unhide HR).at hx
      obtain ⟨u, rfl⟩ : ∃ u, cs = [u] := List.length_eq_one_iff.1 hl
      have c0 : wr.cell? ⟨b, o + i, none⟩ = some u := cell_keep (unhide HB) (by simpa using hcs 0 _ rfl)
      have HC := hide (unhide HP wr u x (unhide HB) (hE _ _ _ _ he (unhide HB)))
      have hil' : (i : Int) < (L.length : Int) := by omega
      have HS := hide hx
      clear hx hcs he hl
      go_wp2_with fail
      go_fit (unhide HC)
      rintro e W1 ⟨rfl, hb⟩
      have HB' := hide (below_keep hb (unhide HB))
      clear hb
      cases hq : p x
      · go_wp2
        go_roundg (L.length - (i + 1))
        case measure => omega
        case rel => exact ⟨i + 1, by omega, rfl, by go_num, HB', hide (by rw [take_next (unhide HS)]; simp only [List.any_append, List.any_cons, List.any_nil, hq]; simpa using unhide HN)⟩
      · go_wp2
        go_ret
        refine ⟨⟨_, rfl, ?_⟩, unhide HB'⟩
        rw [show L.any p = true from List.any_eq_true.2 ⟨x, List.mem_of_getElem? (unhide HS), hq⟩]
        simp
    · obtain rfl : i = L.length := by omega
      clear hil hi hgk
      go_wp2
      go_ret
      refine ⟨⟨_, rfl, ?_⟩, unhide HB⟩
      have := unhide HN
      rw [List.take_length] at this
      rw [this]
      rfl
set_option maxHeartbeats 4000000 in
set_option maxRecDepth 8000 in
/-- slices.ContainsFunc of a row of numbers. -/
theorem hasI_any {α : Type} {E : World → List Value → α → Prop} {g : Nat} {lb : Array Value} {p : α → Bool} {v : Value} {L : List α} (w : World) (eg : ∀ args w, (callFunc g args).run Tryd.prog w = .ok (.enter g args) w) (hE : Lasts E) (h : Rows 1 E w v L) (hp : PredE E g lb p w) :
    Calls Tryd.prog 28 #[v, .func (.func g) #[] lb] w fun e w' => e = .returned (.bool (L.any p)) ∧ Below w.heap.size w w' := by
  have HC := hide (idxI_any w eg hE h hp)
  obtain ⟨sa, sc, rfl⟩ := h.shape
  clear h hp
  go_enter Tryd.func28, Tryd.ntmps28
  go_wp2_with fail
  go_fit (unhide HC)
  rintro e W1 ⟨⟨i, rfl, hi⟩, hb⟩
  have HI := hide hi
  clear hi
  go_wp2
  go_ret
  exact ⟨by rw [unhide HI]; rfl, hb⟩
set_option maxHeartbeats 4000000 in
set_option maxRecDepth 8000 in
/-- slices.Index of numbers. -/
theorem at_any {v : Value} {l : List Int} {x : Int} (w : World) (h : Rows 1 JE w v l) : Calls Tryd.prog 52 #[v, .int .i64 x] w fun e w' => (∃ i : Int, e = .returned (.int .i64 i) ∧ (x ∈ l ↔ 0 ≤ i)) ∧ w' = w := by
  obtain ⟨sa, sc, rfl⟩ := h.shape
  have HR := hide h
  have hsm := h.small
  unfold maxLen at hsm
  clear h
  go_enter Tryd.func52, Tryd.ntmps52
  go_wp2_with fail
  go_loopg [5, 8] l.length (fun gk _ iv wr => ∃ (i : Nat), i ≤ l.length ∧ gk = l.length - i ∧ iv = .int .i64 (i : Int) ∧ wr = w ∧ Hid (x ∉ l.take i))
  case atStart => exact ⟨0, by omega, by omega, rfl, rfl, hide (by simp)⟩
  case round =>
    obtain ⟨i, hi, hgk, rfl, rfl, HN⟩ := hrel
    by_cases hil : i < l.length
    · obtain ⟨s, hs⟩ : ∃ s, l[i]? = some s := ⟨l[i], by simp [hil]⟩
      obtain ⟨b, o, rfl, c0, _⟩ := (unhide HR).int hs
      have hil' : (i : Int) < (l.length : Int) := by omega
      have HS := hide hs
      clear hs
      by_cases hx : x = s
      · subst hx
        go_wp2
        go_ret
        exact ⟨⟨_, rfl, (fun _ => by omega), fun _ => List.mem_of_getElem? (unhide HS)⟩, rfl⟩
      · go_wp2
        go_roundg (l.length - (i + 1))
        case measure => omega
        case rel => exact ⟨i + 1, by omega, rfl, by go_num, rfl, hide (by rw [take_next (unhide HS)]; simp only [List.mem_append, List.mem_singleton, not_or]; exact ⟨unhide HN, fun h => hx h⟩)⟩
    · obtain rfl : i = l.length := by omega
      clear hil hi hgk
      go_wp2
      go_ret
      have := unhide HN
      rw [List.take_length] at this
      exact ⟨⟨_, rfl, (fun h => absurd h this), fun h => by omega⟩, rfl⟩
set_option maxHeartbeats 1000000 in
/-- slices.Contains of numbers. -/
theorem con_any {v : Value} {l : List Int} {x : Int} (w : World) (h : Rows 1 JE w v l) : Calls Tryd.prog 45 #[v, .int .i64 x] w fun e w' => e = .returned (.bool (decide (x ∈ l))) ∧ w' = w := by
  have HC := hide (at_any (x := x) w h)
  obtain ⟨sa, sc, rfl⟩ := h.shape
  clear h
  go_enter Tryd.func45, Tryd.ntmps45
  go_wp2_with fail
  go_fit (unhide HC)
  rintro e W1 ⟨⟨i, rfl, hi⟩, rfl⟩
  have HI := hide hi
  clear hi
  go_wp2
  go_ret
  exact ⟨by rw [decide_eq_decide.2 (unhide HI)]; rfl, rfl⟩
end Go.Proofs.YtgckgkllpkkpeaaDoor
