/-
  A region that draws its order, by an invariant: each operation once, whatever has come up before it.
-/
import Derived.Orders
import Derived.RegionTactic
namespace Go.Proofs.YtgckgkllpkkpeaaDoor
open Go

theorem left_less (p p' : Nat → Bool) (i : Nat) (hp : p i = true) (hp' : p' i = false) (hle : ∀ j, p' j = true → p j = true) : ∀ l : List Nat, (l.filter p').length ≤ (l.filter p).length ∧ (i ∈ l → (l.filter p').length < (l.filter p).length)
  | [] => ⟨Nat.le_refl _, fun h => by cases h⟩
  | x :: l => by
    obtain ⟨h1, h2⟩ := left_less p p' i hp hp' hle l
    by_cases hx : p x = true
    · by_cases hx' : p' x = true
      · rw [List.filter_cons_of_pos hx, List.filter_cons_of_pos hx']
        refine ⟨Nat.succ_le_succ h1, fun hm => Nat.succ_lt_succ (h2 ?_)⟩
        rcases List.mem_cons.1 hm with e | e
        · rw [e, hx'] at hp'; cases hp'
        · exact e
      · rw [List.filter_cons_of_pos hx, List.filter_cons_of_neg hx']
        exact ⟨Nat.le_succ_of_le h1, fun _ => Nat.lt_succ_of_le h1⟩
    · have hx' : ¬ p' x = true := fun h => hx (hle x h)
      rw [List.filter_cons_of_neg hx, List.filter_cons_of_neg hx']
      refine ⟨h1, fun hm => h2 ?_⟩
      rcases List.mem_cons.1 hm with e | e
      · rw [e] at hp; exact absurd hp hx
      · exact e
theorem getD_set (listed : Array Bool) (i j : Nat) (hi : i < listed.size) : (listed.setIfInBounds i true).getD j false = if j = i then true else listed.getD j false := by
  by_cases h : j = i
  · subst h
    simp [hi]
  · simp [h, Ne.symm h]
theorem getD_true (listed : Array Bool) (j : Nat) (h : listed.getD j true = false) : j < listed.size ∧ listed.getD j false = false := by
  rcases Nat.lt_or_ge j listed.size with h' | h'
  · refine ⟨h', ?_⟩
    simp [h'] at h ⊢
    exact h
  · simp [h'] at h
theorem getD_same (listed : Array Bool) (j : Nat) (hj : j < listed.size) (h : listed.getD j false = false) : listed.getD j true = false := by
  simp [hj] at h ⊢
  exact h
/-- A REGION BY AN INVARIANT over what has come up so far (L), the frame and the world. -/
theorem wp_region_inv {P : Program} {ops : Array Oper} {Q : Exit → Act → World → Prop} {id : Nat} {a : Act} {w : World} (hm : P.follows .mixedOrders = true)
    (hord : ∀ i o, ops[i]? = some o → ∀ e ∈ o.after, Region.binds .any e = true → e.on < i) (Inv : (Nat → Bool) → Act → World → Prop) (h0 : Inv (fun _ => false) a w.drew)
    (step : ∀ L a w i o, Inv L a w → L i = false → ops[i]? = some o → (∀ e ∈ o.after, Region.binds .any e = true → L e.on = true) → wpOp P ops Q i (fun a' w' => Inv (fun j => if j = i then true else L j) a' w') a w)
    (fin : ∀ L a w, Inv L a w → (∀ i, i < ops.size → L i = true) → Q .normal a w) : (Code.region id ops true).wp P Q a w := by
  have key : ∀ (fuel : Nat) (listed : Array Bool) (a : Act) (w : World), listed.size = ops.size → ((List.range ops.size).filter fun j => !listed.getD j false).length ≤ fuel → Inv (fun j => listed.getD j false) a w → wpAny P .any ops Q fuel listed a w := by
    intro fuel
    induction fuel with
    | zero =>
      intro listed a w hs hc hI
      have hall : ∀ i, i < ops.size → listed.getD i false = true := by
        intro i hi
        have hnil := List.eq_nil_of_length_eq_zero (Nat.le_zero.1 hc)
        cases hb : listed.getD i false with
        | true => rfl
        | false =>
          have hmem : i ∈ (List.range ops.size).filter fun j => !listed.getD j false := List.mem_filter.2 ⟨List.mem_range.2 hi, by rw [hb]; rfl⟩
          rw [hnil] at hmem
          cases hmem
      refine ⟨?_, fin _ _ _ hI hall⟩
      apply List.eq_nil_iff_forall_not_mem.2
      intro i hi
      obtain ⟨h1, h2⟩ := getD_true _ _ (mem_ready.1 hi).1
      rw [hall i (hs ▸ h1)] at h2
      cases h2
    | succ fuel ih =>
      intro listed a w hs hc hI
      refine ⟨fun hr => fin _ _ _ hI ?_, fun i hi => ?_⟩
      · intro i
        induction i using Nat.strongRecOn with
        | _ i ihi =>
          intro hi
          cases hb : listed.getD i false with
          | true => rfl
          | false =>
            have ho : ops[i]? = some ops[i] := Array.getElem?_eq_getElem hi
            have : i ∈ Region.ready .any ops listed := mem_ready.2 ⟨getD_same _ _ (hs ▸ hi) hb, ops[i], ho, fun e he hbd => ihi e.on (hord i _ ho e he hbd) (Nat.lt_trans (hord i _ ho e he hbd) hi)⟩
            rw [hr] at this
            cases this
      · obtain ⟨hl, o, ho, hd⟩ := mem_ready.1 hi
        obtain ⟨h1, h2⟩ := getD_true _ _ hl
        refine wpOp_mono ?_ (step _ _ _ i o hI h2 ho hd)
        intro a' w' hI'
        have hfun : (fun j => if j = i then true else listed.getD j false) = fun j => (listed.setIfInBounds i true).getD j false := funext fun j => (getD_set listed i j h1).symm
        rw [hfun] at hI'
        refine ih _ _ _ (by simp [hs]) ?_ hI'
        have hlt := (left_less (fun j => !listed.getD j false) (fun j => !(listed.setIfInBounds i true).getD j false) i (by simp only [h2]; rfl) (by show (!(listed.setIfInBounds i true).getD i false) = false; rw [getD_set _ _ _ h1, if_pos rfl]; rfl) (fun j hj => by
          simp only [getD_set _ _ _ h1] at hj
          by_cases hji : j = i
          · rw [if_pos hji] at hj; cases hj
          · rw [if_neg hji] at hj; exact hj) (List.range ops.size)).2 (List.mem_range.2 (hs ▸ h1))
        omega
  refine wp_region_any hm (key _ _ _ _ (by simp) ?_ ?_)
  · exact Nat.le_trans (List.length_filter_le _ _) (by simp)
  · have hfun : (fun j => (Array.replicate ops.size false).getD j false) = fun _ => false := funext fun j => by
      rcases Nat.lt_or_ge j ops.size with h | h <;> simp [h]
    rw [hfun]
    exact h0
/-- Every edge that binds goes back. -/
def edgesBack (ops : Array Oper) : Bool := (List.range ops.size).all fun i => ((ops[i]?).map fun o => o.after.all fun e => !Region.binds .any e || decide (e.on < i)).getD true
theorem edgesBack_spec {ops : Array Oper} (h : edgesBack ops = true) : ∀ i o, ops[i]? = some o → ∀ e ∈ o.after, Region.binds .any e = true → e.on < i := by
  intro i o ho e he hb
  have hi := (Array.getElem?_eq_some_iff.1 ho).1
  have h1 := List.all_eq_true.1 h i (List.mem_range.2 hi)
  rw [ho] at h1
  have h2 := Array.all_eq_true_iff_forall_mem.1 (show o.after.all _ = true from h1) e he
  rw [hb] at h2
  simpa using h2
/-- The invariant may name the frame ahead of the region. -/
theorem wp_region_inv_at {P : Program} {ops : Array Oper} {Q : Exit → Act → World → Prop} {id : Nat} {a : Act} {w : World} (hm : P.follows .mixedOrders = true)
    (hord : edgesBack ops = true) (Inv : Act → (Nat → Bool) → Act → World → Prop) (h0 : Inv a (fun _ => false) a w.drew)
    (step : ∀ L a1 w1 i o, Inv a L a1 w1 → L i = false → ops[i]? = some o → (∀ e ∈ o.after, Region.binds .any e = true → L e.on = true) → wpOp P ops Q i (fun a' w' => Inv a (fun j => if j = i then true else L j) a' w') a1 w1)
    (fin : ∀ L a1 w1, Inv a L a1 w1 → (∀ i, i < ops.size → L i = true) → Q .normal a1 w1) : (Code.region id ops true).wp P Q a w :=
  wp_region_inv hm (edgesBack_spec hord) (Inv a) h0 step fin
end Go.Proofs.YtgckgkllpkkpeaaDoor
