/-
  A region that draws its order, by what is known of all values at once.
-/
import Derived.Test.YtgckgkllpkkpeaaDoorOX
namespace Go.Proofs.YtgckgkllpkkpeaaDoor
open Go

/-- A REGION BY WHAT IS KNOWN OF ITS VALUES AND THE WORLD; each operation once. -/
theorem wp_region_vals {P : Program} {ops : Array Oper} {Q : Exit → Act → World → Prop} {id : Nat} {a : Act} {w : World} (hm : P.follows .mixedOrders = true)
    (hord : edgesBack ops = true) (hap : apartDst ops = true) (G : (Nat → Bool) → (Nat → Value) → World → Prop) (h0 : ∀ vals, G (fun _ => false) vals w.drew)
    (step : ∀ L vals w1 i o, G L vals w1 → L i = false → ops[i]? = some o → (∀ e ∈ o.after, Region.binds .any e = true → L e.on = true) →
      wpOp P ops Q i (fun a' w' => ∃ v, a' = (frameOf (ops.toList.map (·.dst)) 0 a vals).put o.dst v ∧ G (fun j => if j = i then true else L j) (fun j => if j = i then v else vals j) w') (frameOf (ops.toList.map (·.dst)) 0 a vals) w1)
    (fin : ∀ L vals w1, G L vals w1 → (∀ i, i < ops.size → L i = true) → Q .normal (frameOf (ops.toList.map (·.dst)) 0 a vals) w1) : (Code.region id ops true).wp P Q a w := by
  refine wp_region_inv_at hm hord (fun a L a1 w1 => ∃ vals, a1 = frameOf (ops.toList.map (·.dst)) 0 a vals ∧ G L vals w1) ?_ ?_ ?_
  · obtain ⟨vals, h⟩ := frameOf_own (ops.toList.map (·.dst)) 0 a
    exact ⟨vals, h.symm, h0 vals⟩
  · rintro L a1 w1 i o ⟨vals, rfl, hG⟩ hL ho hd
    refine wpOp_mono ?_ (step L vals w1 i o hG hL ho hd)
    rintro a' w' ⟨v, rfl, hG'⟩
    refine ⟨fun j => if j = i then v else vals j, ?_, hG'⟩
    have hi := (Array.getElem?_eq_some_iff.1 ho).1
    rw [frameOf_put _ 0 i a vals o.dst v (by simp [ho]) (fun d j hx hj => ?_), Nat.zero_add]
    rcases Nat.decEq i j with hij | hij
    · exfalso
      have hj' : j < ops.size := by have := (List.getElem?_eq_some_iff.1 hj).1; simpa using this
      have h1 := List.all_eq_true.1 (List.all_eq_true.1 hap i (List.mem_range.2 hi)) j (List.mem_range.2 hj')
      have e1 : (ops[i]?).bind (·.dst) = some d := by rw [ho]; exact hx
      have e2 : (ops[j]?).bind (·.dst) = some d := by
        simp [hj'] at hj ⊢
        exact hj
      rw [e1, e2] at h1
      simp [hij] at h1
    · exact hij.symm
  · rintro L a1 w1 ⟨vals, rfl, hG⟩ hall
    exact fin L vals w1 hG hall
end Go.Proofs.YtgckgkllpkkpeaaDoor
