/-
  A region that draws its order, by facts: of each operation's value one that stays, whatever has come up before it.
-/
import Derived.Test.YtgckgkllpkkpeaaDoorRI
namespace Go.Proofs.YtgckgkllpkkpeaaDoor
open Go

/-- A frame with values at the places of a list. -/
def frameOf : List (Option Tmp) → Nat → Act → (Nat → Value) → Act
  | [], _, a, _ => a
  | d :: ds, i, a, vals => frameOf ds (i + 1) (a.put d (vals i)) vals
/-- How a frame's values come to their places. -/
theorem frs : (∀ (i : Nat) (a : Act) (v : Nat → Value), frameOf [] i a v = a) ∧ (∀ (d : Option Tmp) (ds : List (Option Tmp)) (i : Nat) (a : Act) (v : Nat → Value), frameOf (d :: ds) i a v = frameOf ds (i + 1) (a.put d (v i)) v) ∧ (∀ (f : Oper → Option Tmp) (x : Oper) (l : List Oper), List.map f (x :: l) = f x :: List.map f l) ∧ (∀ f : Oper → Option Tmp, List.map f [] = []) ∧ (∀ (a : Act) (d : Tmp) (v : Value), a.put (some d) v = { a with tmps := a.tmps.setIfInBounds d v }) ∧ (∀ (a : Act) (v : Value), a.put none v = a) ∧ (∀ (l : List Value) (i : Nat) (v : Value), l.toArray.setIfInBounds i v = (l.set i v).toArray) ∧ (∀ (x : Value) (l : List Value) (v : Value), (x :: l).set 0 v = v :: l) ∧ ∀ (x : Value) (l : List Value) (i : Nat) (v : Value), (x :: l).set (i + 1) v = x :: l.set i v :=
  ⟨fun _ _ _ => rfl, fun _ _ _ _ _ => rfl, fun _ _ _ => rfl, fun _ => rfl, fun _ _ _ => rfl, fun _ _ => rfl, fun _ _ _ => by simp, fun _ _ _ => rfl, fun _ _ _ _ => rfl⟩
theorem frameOf_congr : ∀ (ds : List (Option Tmp)) (k : Nat) (a : Act) (v v' : Nat → Value), (∀ j, k ≤ j → v j = v' j) → frameOf ds k a v = frameOf ds k a v'
  | [], _, _, _, _, _ => rfl
  | d :: ds, k, a, v, v', h => by
    rw [frameOf, frameOf, h k (Nat.le_refl _)]
    exact frameOf_congr ds (k + 1) _ v v' fun j hj => h j (by omega)
theorem put_put (a : Act) (d : Option Tmp) (u v : Value) : (a.put d u).put d v = a.put d v := by
  cases d with
  | none => rfl
  | some d => simp [Act.put]
theorem frameOf_out : ∀ (ds : List (Option Tmp)) (k : Nat) (a : Act) (vals : Nat → Value) (x : Option Tmp) (v : Value), (∀ d, x = some d → some d ∉ ds) → (frameOf ds k a vals).put x v = frameOf ds k (a.put x v) vals
  | [], _, _, _, _, _, _ => rfl
  | y :: ds, k, a, vals, x, v, h => by
    rw [frameOf, frameOf, frameOf_out ds (k + 1) _ vals x v (fun d hd hm => h d hd (List.mem_cons_of_mem _ hm)), Act.put_comm a v (vals k) (fun d hd hy => h d hd (by rw [hy]; exact List.mem_cons_self ..))]
theorem frameOf_put : ∀ (ds : List (Option Tmp)) (k i : Nat) (a : Act) (vals : Nat → Value) (x : Option Tmp) (v : Value), ds[i]? = some x → (∀ d j, x = some d → ds[j]? = some (some d) → j = i) → (frameOf ds k a vals).put x v = frameOf ds k a (fun j => if j = k + i then v else vals j)
  | [], _, _, _, _, _, _, h, _ => by simp at h
  | y :: ds, k, 0, a, vals, x, v, h, hd => by
    obtain rfl : y = x := by simpa using h
    rw [frameOf, frameOf, if_pos (by omega), frameOf_out ds (k + 1) _ vals y v (fun d hx hm => by
      obtain ⟨j, hj⟩ := List.getElem?_of_mem hm
      have := hd d (j + 1) hx (by simpa using hj)
      omega), put_put]
    exact frameOf_congr ds (k + 1) _ _ _ fun j hj => by rw [if_neg (by omega)]
  | y :: ds, k, i + 1, a, vals, x, v, h, hd => by
    rw [frameOf, frameOf, if_neg (by omega), frameOf_put ds (k + 1) i _ vals x v (by simpa using h) (fun d j hx hj => by have := hd d (j + 1) hx (by simpa using hj); omega)]
    exact frameOf_congr ds (k + 1) _ _ _ fun j hj => by rw [show k + 1 + i = k + (i + 1) by omega]
theorem put_own (a : Act) (d : Option Tmp) : ∃ v, a.put d v = a := by
  cases d with
  | none => exact ⟨undef, rfl⟩
  | some d =>
    refine ⟨a.tmps.getD d undef, ?_⟩
    have : a.tmps.setIfInBounds d (a.tmps.getD d undef) = a.tmps := by
      apply Array.ext_getElem?
      intro i
      rw [Array.getElem?_setIfInBounds]
      split
      · rename_i h
        subst h
        split
        · rename_i hlt; simp [hlt]
        · rename_i hlt; simp; omega
      · rfl
    cases a
    simp only [Act.put] at this ⊢
    rw [this]
theorem frameOf_own : ∀ (ds : List (Option Tmp)) (k : Nat) (a : Act), ∃ vals, frameOf ds k a vals = a
  | [], _, a => ⟨fun _ => undef, rfl⟩
  | d :: ds, k, a => by
    obtain ⟨v, hv⟩ := put_own a d
    obtain ⟨vals, h⟩ := frameOf_own ds (k + 1) a
    refine ⟨fun j => if j = k then v else vals j, ?_⟩
    rw [frameOf, if_pos rfl, hv, frameOf_congr ds (k + 1) a _ vals (fun j hj => by rw [if_neg (by omega)])]
    exact h
/-- No two operations write one place. -/
def apartDst (ops : Array Oper) : Bool := (List.range ops.size).all fun i => (List.range ops.size).all fun j => i == j || ((ops[i]?).bind (·.dst)).isNone || ((ops[i]?).bind (·.dst)) != ((ops[j]?).bind (·.dst))
/-- A REGION BY FACTS: W of the world and of what has come up, F of each value; each operation once. -/
theorem wp_region_facts {P : Program} {ops : Array Oper} {Q : Exit → Act → World → Prop} {id : Nat} {a : Act} {w : World} (hm : P.follows .mixedOrders = true)
    (hord : edgesBack ops = true) (hap : apartDst ops = true) (W : (Nat → Bool) → World → Prop) (F : Nat → Value → World → Prop) (h0 : W (fun _ => false) w.drew)
    (step : ∀ L vals w1 i o, W L w1 → (∀ j, L j = true → F j (vals j) w1) → L i = false → ops[i]? = some o → (∀ e ∈ o.after, Region.binds .any e = true → L e.on = true) →
      wpOp P ops Q i (fun a' w' => ∃ v, a' = (frameOf (ops.toList.map (·.dst)) 0 a vals).put o.dst v ∧ F i v w' ∧ W (fun j => if j = i then true else L j) w' ∧ ∀ j, L j = true → F j (vals j) w') (frameOf (ops.toList.map (·.dst)) 0 a vals) w1)
    (fin : ∀ L vals w1, W L w1 → (∀ i, i < ops.size → L i = true ∧ F i (vals i) w1) → Q .normal (frameOf (ops.toList.map (·.dst)) 0 a vals) w1) : (Code.region id ops true).wp P Q a w := by
  refine wp_region_inv_at hm hord (fun a L a1 w1 => ∃ vals, a1 = frameOf (ops.toList.map (·.dst)) 0 a vals ∧ W L w1 ∧ ∀ j, L j = true → F j (vals j) w1) ?_ ?_ ?_
  · obtain ⟨vals, h⟩ := frameOf_own (ops.toList.map (·.dst)) 0 a
    exact ⟨vals, h.symm, h0, fun j hj => by cases hj⟩
  · rintro L a1 w1 i o ⟨vals, rfl, hW, hF⟩ hL ho hd
    refine wpOp_mono ?_ (step L vals w1 i o hW hF hL ho hd)
    rintro a' w' ⟨v, rfl, hv, hW', hF'⟩
    refine ⟨fun j => if j = i then v else vals j, ?_, hW', fun j hj => ?_⟩
    · have hi := (Array.getElem?_eq_some_iff.1 ho).1
      rw [frameOf_put _ 0 i a vals o.dst v (by simp [ho]) (fun d j hx hj => ?_), Nat.zero_add]
      rcases Nat.decEq i j with hij | hij
      · exfalso
        have hj' : j < ops.size := by have := (List.getElem?_eq_some_iff.1 hj).1; simpa using this
        have h1 := List.all_eq_true.1 (List.all_eq_true.1 hap i (List.mem_range.2 hi)) j (List.mem_range.2 hj')
        have e1 : (ops[i]?).bind (·.dst) = some d := by rw [ho]; exact hx
        have e2 : (ops[j]?).bind (·.dst) = some d := by
          simp [hj'] at hj ⊢
          exact hj
        rw [e1, e2] at h1
        simp [hij] at h1
      · exact hij.symm
    · by_cases hji : j = i
      · subst hji; simp; exact hv
      · simp only [if_neg hji] at hj ⊢; exact hF' j hj
  · rintro L a1 w1 ⟨vals, rfl, hW, hF⟩ hall
    exact fin L vals w1 hW fun i hi => ⟨hall i hi, hF i (hall i hi)⟩
end Go.Proofs.YtgckgkllpkkpeaaDoor
