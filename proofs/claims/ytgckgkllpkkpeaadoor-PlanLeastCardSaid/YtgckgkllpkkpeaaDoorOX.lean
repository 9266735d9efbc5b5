/-
  A region by facts, where what an operation needs is known to be done.
-/
import Derived.Test.YtgckgkllpkkpeaaDoorRF
namespace Go.Proofs.YtgckgkllpkkpeaaDoor
open Go

/-- What is done has done all that it waits for. -/
def Closed (ops : Array Oper) (L : Nat → Bool) : Prop := ∀ i o, L i = true → ops[i]? = some o → ∀ e ∈ o.after, Region.binds .any e = true → L e.on = true
theorem Closed.on {ops : Array Oper} {L : Nat → Bool} (h : Closed ops L) (i j : Nat) {o : Oper} (ho : ops[i]? = some o) (hj : ∃ e ∈ o.after, Region.binds .any e = true ∧ e.on = j) (hi : L i = true) : L j = true := by
  obtain ⟨e, he, hb, rfl⟩ := hj
  exact h i o hi ho e he hb
theorem wp_region_closed {P : Program} {ops : Array Oper} {Q : Exit → Act → World → Prop} {id : Nat} {a : Act} {w : World} (hm : P.follows .mixedOrders = true)
    (hord : edgesBack ops = true) (hap : apartDst ops = true) (W : (Nat → Bool) → World → Prop) (F : Nat → Value → World → Prop) (h0 : W (fun _ => false) w.drew)
    (step : ∀ L vals vals0 w1 i o, frameOf (ops.toList.map (·.dst)) 0 a vals0 = a → (∀ j, L j = false → vals j = vals0 j) → Closed ops L → W L w1 → (∀ j, L j = true → F j (vals j) w1) → L i = false → ops[i]? = some o → (∀ e ∈ o.after, Region.binds .any e = true → L e.on = true) →
      wpOp P ops Q i (fun a' w' => ∃ v, a' = (frameOf (ops.toList.map (·.dst)) 0 a vals).put o.dst v ∧ F i v w' ∧ W (fun j => if j = i then true else L j) w' ∧ ∀ j, L j = true → F j (vals j) w') (frameOf (ops.toList.map (·.dst)) 0 a vals) w1)
    (fin : ∀ L vals w1, W L w1 → (∀ i, i < ops.size → L i = true ∧ F i (vals i) w1) → Q .normal (frameOf (ops.toList.map (·.dst)) 0 a vals) w1) : (Code.region id ops true).wp P Q a w := by
  obtain ⟨vals0, hown⟩ := frameOf_own (ops.toList.map (·.dst)) 0 a
  refine wp_region_inv_at hm hord (fun a L a1 w1 => ∃ vals, a1 = frameOf (ops.toList.map (·.dst)) 0 a vals ∧ W L w1 ∧ (∀ j, L j = true → F j (vals j) w1) ∧ Closed ops L ∧ ∀ j, L j = false → vals j = vals0 j) ?_ ?_ ?_
  · exact ⟨vals0, hown.symm, h0, (fun j hj => by cases hj), (fun i o h => by cases h), fun _ _ => rfl⟩
  · rintro L a1 w1 i o ⟨vals, rfl, hW, hF, hC, hU⟩ hL ho hd
    refine wpOp_mono ?_ (step L vals vals0 w1 i o hown hU hC hW hF hL ho hd)
    rintro a' w' ⟨v, rfl, hv, hW', hF'⟩
    refine ⟨fun j => if j = i then v else vals j, ?_, hW', fun j hj => ?_, fun k o' hk ho' e he hb => ?_, fun j hj => ?_⟩
    · have hi := (Array.getElem?_eq_some_iff.1 ho).1
      rw [frameOf_put _ 0 i a vals o.dst v (by simp [ho]) (fun d j hx hj => ?_), Nat.zero_add]
      rcases Nat.decEq i j with hij | hij
      · exfalso
        have hj' : j < ops.size := by have := (List.getElem?_eq_some_iff.1 hj).1; simpa using this
        have h1 := List.all_eq_true.1 (List.all_eq_true.1 hap i (List.mem_range.2 hi)) j (List.mem_range.2 hj')
        have e1 : (ops[i]?).bind (·.dst) = some d := by rw [ho]; exact hx
        have e2 : (ops[j]?).bind (·.dst) = some d := by
          simp [hj'] at hj ⊢
          exact hj
        rw [e1, e2] at h1
        simp [hij] at h1
      · exact hij.symm
    · by_cases hji : j = i
      · subst hji; simp; exact hv
      · simp only [if_neg hji] at hj ⊢; exact hF' j hj
    · show (if e.on = i then true else L e.on) = true
      by_cases h : e.on = i
      · rw [if_pos h]
      · rw [if_neg h]
        by_cases hk' : k = i
        · subst hk'
          rw [ho] at ho'
          obtain rfl := Option.some.inj ho'
          exact hd e he hb
        · have hk2 : (if k = i then true else L k) = true := hk
          rw [if_neg hk'] at hk2
          exact hC k o' hk2 ho' e he hb
    · have hj2 : (if j = i then true else L j) = false := hj
      by_cases hji : j = i
      · rw [if_pos hji] at hj2; cases hj2
      · rw [if_neg hji] at hj2
        show (if j = i then v else vals j) = vals0 j
        rw [if_neg hji]
        exact hU j hj2
  · rintro L a1 w1 ⟨vals, rfl, hW, hF, _, _⟩ hall
    exact fin L vals w1 hW fun i hi => ⟨hall i hi, hF i (hall i hi)⟩
end Go.Proofs.YtgckgkllpkkpeaaDoor
