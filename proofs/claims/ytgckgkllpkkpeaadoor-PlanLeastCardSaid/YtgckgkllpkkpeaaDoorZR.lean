/-
  In a round of a range over a function: a region that draws its order, reads alone, and stores last: one walk in the order of the text.
-/
import Derived.Test.YtgckgkllpkkpeaaDoorRI
import Derived.Deep.QuietTactic
import Derived.TacticsIn
import Derived.OrdersIn
import Derived.RangeFuncCalls
namespace Go.Proofs.YtgckgkllpkkpeaaDoor
open Go

def depB (ops : Array Oper) (i j : Nat) : Bool := ((ops[i]?).map fun o => o.after.toList.any fun e => Region.binds .any e && decide (e.on = j)).getD false
/-- Each operation ahead of the m-th is waited for by a later one. -/
def covB (ops : Array Oper) (m : Nat) : Bool := (List.range m).all fun j => (List.range (m + 1)).any fun i => decide (j < i) && depB ops i j
def noDef : Op → Bool
  | .defer _ => false
  | _ => true
def plainB (L : List Oper) : Bool := L.all fun o => o.guard.isNone && noDef o.op
/-- The last operation put off. -/
def nopOf (o : Oper) : Oper := { o with op := .move (.const (.bool true)) }
def ClosedL (ops : Array Oper) (listed : Array Bool) : Prop := ∀ i o, listed.getD i false = true → ops[i]? = some o → ∀ e ∈ o.after, Region.binds .any e = true → listed.getD e.on false = true
theorem ready_ex {ops : Array Oper} (hord : edgesBack ops = true) {listed : Array Bool} (hs : listed.size = ops.size) {m : Nat} (hm : m < ops.size) (h : listed.getD m false = false) : Region.ready .any ops listed ≠ [] := by
  intro hr
  have key : ∀ i, i < ops.size → listed.getD i false = true := by
    intro i
    induction i using Nat.strongRecOn with
    | _ i ihi =>
      intro hi
      cases hb : listed.getD i false with
      | true => rfl
      | false =>
        have ho : ops[i]? = some ops[i] := Array.getElem?_eq_getElem hi
        have : i ∈ Region.ready .any ops listed := mem_ready.2 ⟨getD_same _ _ (hs ▸ hi) hb, ops[i], ho, fun e he hbd => ihi e.on (edgesBack_spec hord i _ ho e he hbd) (Nat.lt_trans (edgesBack_spec hord i _ ho e he hbd) hi)⟩
        rw [hr] at this
        cases this
  rw [key m hm] at h
  cases h
theorem dep_ex {ops : Array Oper} {i j : Nat} (h : depB ops i j = true) : ∃ o, ops[i]? = some o ∧ ∃ e ∈ o.after, Region.binds .any e = true ∧ e.on = j := by
  unfold depB at h
  cases ho : ops[i]? with
  | none => rw [ho] at h; cases h
  | some o =>
    rw [ho] at h
    obtain ⟨e, he, hb⟩ := List.any_eq_true.1 (show o.after.toList.any _ = true from h)
    simp only [Bool.and_eq_true, decide_eq_true_eq] at hb
    exact ⟨o, rfl, e, by simpa using he, hb.1, hb.2⟩
/-- Where the last may come up, all others have. -/
theorem all_listed {ops : Array Oper} {listed : Array Bool} {m : Nat} (hcov : covB ops m = true) (hc : ClosedL ops listed) (hm : ∀ o, ops[m]? = some o → ∀ e ∈ o.after, Region.binds .any e = true → listed.getD e.on false = true) : ∀ k j, j + k = m → 0 < k → listed.getD j false = true := by
  intro k
  induction k using Nat.strongRecOn with
  | _ k ih =>
    intro j hj hk
    have h1 := List.all_eq_true.1 hcov j (List.mem_range.2 (by omega))
    obtain ⟨i, hi, h2⟩ := List.any_eq_true.1 h1
    simp only [Bool.and_eq_true, decide_eq_true_eq] at h2
    have him := List.mem_range.1 hi
    obtain ⟨o, ho, e, he, hb, rfl⟩ := dep_ex h2.2
    by_cases e1 : i = m
    · subst e1
      exact hm o ho e he hb
    · exact hc i o (ih (m - i) (by omega) i (by omega) (by omega)) ho e he hb
theorem swap_at {L : List Oper} {m : Nat} {st : Oper} (h : L[m]? = some st) (i : Nat) : (L.set m (nopOf st)).toArray[i]? = if i = m then some (nopOf st) else L.toArray[i]? := by
  have hm := (List.getElem?_eq_some_iff.1 h).1
  simp only [List.getElem?_toArray, List.getElem?_set]
  by_cases e : m = i
  · subst e
    simp [hm]
  · rw [if_neg e, if_neg (Ne.symm e)]
theorem swap_after {L : List Oper} {m : Nat} {st : Oper} (h : L[m]? = some st) {i : Nat} {listed : Array Bool} : i ∈ Region.ready .any (L.set m (nopOf st)).toArray listed ↔ i ∈ Region.ready .any L.toArray listed := by
  rw [mem_ready, mem_ready, swap_at h]
  by_cases e : i = m
  · subst e
    rw [if_pos rfl, List.getElem?_toArray, h]
    constructor
    · rintro ⟨h1, o, h2, h3⟩
      obtain rfl := Option.some.inj h2
      exact ⟨h1, st, rfl, h3⟩
    · rintro ⟨h1, o, h2, h3⟩
      obtain rfl := Option.some.inj h2
      exact ⟨h1, _, rfl, h3⟩
  · rw [if_neg e]
theorem quiet_round {ro n : Nat} {P : Program} {C : World → Prop} {o : Oper} {a : Act} {K : Act → Prop} {K' : Act → World → Prop} {Q : Exit → Act → World → Prop} {w : World} (hnd : noDef o.op = true) (hw : C w) (h : ∀ a w', C w' → K a → K' a w') (hh : o.quiet P a C K) : o.wpIn (Fence.wide.inRound ro) n P a w K' Q := by
  obtain ⟨v, h1, h2⟩ := hh
  have h3 := h1 w hw
  unfold Oper.quietAt at h3
  unfold Oper.wpIn
  refine ⟨fun _ _ => trivial, ?_⟩
  rw [show (Fence.wide.inRound ro).round = some ro from rfl, Oper.semAt_some ro _ _ (fun c e => by rw [e] at hnd; cases hnd)]
  generalize (execOp a.eval o).run P w = r at *
  cases r with
  | ok x w' =>
    cases x <;> simp only [Oper.quietUpon] at h3 <;> simp only [Oper.uponIn]
    case value u =>
      obtain ⟨e1, e2⟩ := h3
      rw [e1, e2]
      exact h _ _ hw h2
    case skip =>
      obtain ⟨e1, e2⟩ := h3
      rw [e1, ← e2]
      exact h _ _ hw h2
    case enter f args =>
      obtain ⟨e1, hc⟩ := h3
      rw [e1]
      exact ⟨(fun h => by cases h), CallsIn.inRound ro ((callsIn_wide.2 hc).mono fun e w'' ⟨he, hw''⟩ => by subst he; exact h _ _ hw'' h2)⟩
  | halt x w' => simp only [Oper.quietUpon] at h3
theorem any_round {ro n m : Nat} {P : Program} {L : List Oper} {st : Oper} {C : World → Prop} {Q : Exit → Act → World → Prop} (hL : L[m]? = some st) (hl : L.length = m + 1) (hord : edgesBack L.toArray = true) (hcov : covB L.toArray m = true) (hp : plainB L = true) (hd : st.dst = none) :
    ∀ (fuel : Nat) (listed : Array Bool) (a : Act) (w : World), listed.size = m + 1 → listed.getD m false = false → ClosedL L.toArray listed → C w →
      wpAnyQ P .any (L.set m (nopOf st)).toArray C (fun a' => ∀ w', C w' → wpListIn (Fence.wide.inRound ro) n P L.toArray Q [st] a' w') fuel listed a → wpAnyIn (Fence.wide.inRound ro) n P .any L.toArray Q fuel listed a w := by
  have hpl : ∀ (i : Nat) (o : Oper), L.toArray[i]? = some o → o.guard = none ∧ noDef o.op = true := fun i o ho => by
    have := List.all_eq_true.1 hp o (List.mem_of_getElem? (by simpa using ho))
    simpa using this
  have hwt : ∀ (i : Nat) (o : Oper), L.toArray[i]? = some o → ∀ ys, Region.wanted o ys = true := fun i o ho ys => by simp [Region.wanted, (hpl i o ho).1]
  have hemp : ∀ listed : Array Bool, Region.ready .any (L.set m (nopOf st)).toArray listed = [] ↔ Region.ready .any L.toArray listed = [] := fun listed => by
    rw [List.eq_nil_iff_forall_not_mem, List.eq_nil_iff_forall_not_mem]
    exact forall_congr' fun i => not_congr (swap_after hL)
  intro fuel
  induction fuel with
  | zero =>
    intro listed a w hs hm hc hw h
    exact absurd ((hemp listed).1 h.1) (ready_ex hord (by simpa [hl] using hs) (by simp [hl]) hm)
  | succ fuel ih =>
    intro listed a w hs hm hc hw h
    refine ⟨fun h0 => absurd h0 (ready_ex hord (by simpa [hl] using hs) (by simp [hl]) hm), fun i hi => ?_⟩
    have h2 := h.2 i (swap_after hL |>.2 hi)
    obtain ⟨hi1, o, ho, hdep⟩ := mem_ready.1 hi
    obtain ⟨hi2, hi3⟩ := getD_true _ _ hi1
    unfold qOp at h2
    rw [swap_at hL] at h2
    unfold wpOpIn
    rw [ho]
    simp only
    rw [if_pos (hwt i o ho _)]
    by_cases e : i = m
    · subst e
      obtain rfl : st = o := by simpa [hL] using ho
      rw [if_pos rfl] at h2
      simp only at h2
      rw [if_pos (by simp [Region.wanted, nopOf, (hpl i st ho).1])] at h2
      obtain ⟨v, _, h3⟩ := h2
      have hall : ∀ j, j < i + 1 → (listed.setIfInBounds i true).getD j false = true := fun j hj => by
        rw [getD_set _ _ _ hi2]
        by_cases e : j = i
        · rw [if_pos e]
        · rw [if_neg e]
          exact all_listed hcov hc (fun o' ho' => by rw [ho] at ho'; obtain rfl := Option.some.inj ho'; exact hdep) (i - j) j (by omega) (by omega)
      have hnil : Region.ready .any L.toArray (listed.setIfInBounds i true) = [] := by
        rw [List.eq_nil_iff_forall_not_mem]
        intro j hj
        obtain ⟨h4, h5⟩ := getD_true _ _ (mem_ready.1 hj).1
        rw [hall j (by simpa [hs] using h4)] at h5
        cases h5
      have hq : ∀ w', C w' → wpListIn (Fence.wide.inRound ro) n P L.toArray Q [st] a w' := by
        have ea : a.put (nopOf st).dst v = a := by rw [show (nopOf st).dst = none from hd]; rfl
        rw [ea] at h3
        cases fuel with
        | zero => exact h3.2
        | succ f => exact h3.1 ((hemp _).2 hnil)
      have h6 := hq w hw
      unfold wpListIn at h6
      rw [if_pos (hwt i st ho _)] at h6
      refine Oper.wpIn_mono (fun a' w' h7 => ?_) h6
      cases fuel with
      | zero => exact ⟨hnil, h7⟩
      | succ f => exact ⟨fun _ => h7, fun j hj => by rw [hnil] at hj; cases hj⟩
    · rw [if_neg e, ho] at h2
      simp only at h2
      rw [if_pos (hwt i o ho _)] at h2
      refine quiet_round (hpl i o ho).2 hw (fun a' w' hw' h3 => ih _ a' w' (by simp [hs]) ?_ ?_ hw' h3) h2
      · rw [getD_set _ _ _ hi2, if_neg (Ne.symm e)]
        exact hm
      · intro j oj hj hoj ed hed hb
        rw [getD_set _ _ _ hi2] at hj ⊢
        by_cases e1 : ed.on = i
        · rw [if_pos e1]
        · rw [if_neg e1]
          by_cases e2 : j = i
          · subst e2
            rw [ho] at hoj
            obtain rfl := Option.some.inj hoj
            exact hdep ed hed hb
          · rw [if_neg e2] at hj
            exact hc j oj hj hoj ed hed hb
/-- A REGION OF READS WITH A STORE AT ITS END, IN A ROUND. -/
theorem region_round {ro n m id : Nat} {P : Program} {L : List Oper} {st : Oper} {Q : Exit → Act → World → Prop} {a : Act} {w : World} (hL : L[m]? = some st) (hm : P.follows .mixedOrders = true) (hl : (L.length == m + 1 && edgesBack L.toArray && covB L.toArray m && plainB L && Region.lexB .any (L.set m (nopOf st)).toArray) = true) (hd : st.dst = none)
    (h : wpQuiet P (L.set m (nopOf st)).toArray (fun w' => ∃ n, w' = w.drewN n) (fun a' => ∀ w', (∃ n, w' = w.drewN n) → wpListIn (Fence.wide.inRound ro) n P L.toArray Q [st] a' w') (L.set m (nopOf st)) a) : (Code.region id L.toArray true).wpIn (Fence.wide.inRound ro) n P Q a w := by
  simp only [Bool.and_eq_true, beq_iff_eq] at hl
  obtain ⟨⟨⟨⟨h1, h2⟩, h3⟩, h4⟩, h5⟩ := hl
  simp only [Region.lexB, Bool.and_eq_true] at h5
  refine wpIn_region_any hm (any_round (m := m) (C := fun w' => ∃ n, w' = w.drewN n) hL h1 h2 h3 h4 hd _ _ _ _ (by simp [h1]) (by simp [h1]) ?_ ⟨1, rfl⟩ ?_)
  · intro i o hi
    have : (Array.replicate L.toArray.size false).getD i false = false := by
      rcases Nat.lt_or_ge i L.length with h' | h' <;> simp [h']
    rw [this] at hi
    cases hi
  · have := wpAnyQ_lex (C := fun w' => ∃ n, w' = w.drewN n) (md := .any) h5.1 (L.set m (nopOf st)) 0 (Array.replicate (L.set m (nopOf st)).toArray.size false) a (by simp) (by simpa using h5.2) h
    simpa using this
end Go.Proofs.YtgckgkllpkkpeaaDoor
