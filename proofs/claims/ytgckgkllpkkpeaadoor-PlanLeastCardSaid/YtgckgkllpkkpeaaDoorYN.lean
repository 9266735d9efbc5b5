/-
  append onto a row of one's own, of so many elements at once; in a region that draws its order too.
-/
import Derived.Test.YtgckgkllpkkpeaaDoorYM
import Derived.Deep.RegionLaw
namespace Go.Proofs.YtgckgkllpkkpeaaDoor
open Go.RowKit

/-- append onto a row of one's own. -/
theorem run_push {P : Program} {w w0 : World} {T ty e : TypeId} {z : Value} {size bytes : Nat} (ht : P.underlying T = some (.slice e)) (hinfo : (P.info? e).map (fun i => (i.zero, i.size, i.bytes)) = some (some z, size, bytes))
    (hzs : z.cells.size = size) (hsz : 0 < size) (hby : bytes ≤ 1000) (base : Nat) (v : Value) {n : Nat} {xs : List Value} (hown : w0.ownsRow base e size v n xs) (m : Nat) (news : List Value) (hl : news.length = m * size) (h1 : ∀ u ∈ news, u.oneCell' = true) (hw : w = w0.alloc (.cells news.toArray e)) (hn : n + m ≤ 100000000) (hbase : base ≤ w0.heap.size) :
    ∃ v' w', (Builtin.append_ #[T, T] ty #[v, .slice (some ⟨w0.heap.size, 0, none⟩) m m]).run P w = .ok v' w' ∧ w'.ownsRow base e size v' (n + m) (xs ++ news) ∧ w.grownBy w' v.ownBlock := by
  obtain ⟨i0, hi, hz0, hz1, hz2⟩ := info_parts hinfo
  subst hw
  have hown' := own_later hown (below_new w0 (.cells news.toArray e))
  obtain ⟨v', w', hr, h2, h3, _⟩ := run_append_own (P := P) (w0.alloc (.cells news.toArray e)) base T ty e i0 z size bytes ht hi hz0 hz1 hz2 hzs hsz v n xs hown' ⟨w0.heap.size, 0, none⟩ m m news hl
    (fun j u hu => by rw [show (⟨w0.heap.size, 0, none⟩ : Addr).add j = ⟨w0.heap.size, j, none⟩ by rcases j with _ | j <;> simp [Addr.add], new_cell rfl]; simpa using hu) h1 (by unfold maxLen; omega) (by have : (n + m) * bytes ≤ (n + m) * 1000 := Nat.mul_le_mul_left _ hby; omega) (by simp; omega)
  exact ⟨v', w', hr, h2, h3⟩
theorem wpList_pushN {P : Program} {ops : Array Oper} {rest : List Oper} {o : Oper} {A : Act} {w w0 : World} {Q : Exit → Act → World → Prop} (hgd : o.guard = none) (s x : Operand) (T : TypeId)
    (ho : o.op = .call { callee := .builtin .append, args := #[s, x], argTypes := #[T, T] }) {e : TypeId} {z : Value} {size bytes : Nat} (ht : P.underlying T = some (.slice e)) (hinfo : (P.info? e).map (fun i => (i.zero, i.size, i.bytes)) = some (some z, size, bytes))
    (hzs : z.cells.size = size) (hsz : 0 < size) (hby : bytes ≤ 1000) (base : Nat) (v : Value) {n : Nat} {xs : List Value} (hs : A.eval s = v) (hown : w0.ownsRow base e size v n xs)
    (m : Nat) (news : List Value) (hl : news.length = m * size) (h1 : ∀ u ∈ news, u.oneCell' = true) (hx : A.eval x = .slice (some ⟨w0.heap.size, 0, none⟩) m m) (hw : w = w0.alloc (.cells news.toArray e)) (hn : n + m ≤ 100000000) (hbase : base ≤ w0.heap.size)
    (h : ∀ v' w', w'.ownsRow base e size v' (n + m) (xs ++ news) → w.grownBy w' v.ownBlock → wpList P ops Q rest (A.put o.dst v') w') : wpList P ops Q (o :: rest) A w := by
  obtain ⟨v', w', hr, h2, h3⟩ := run_push (ty := o.type) ht hinfo hzs hsz hby base v hown m news hl h1 hw hn hbase
  refine wpList_plain hgd fun _ hK => ?_
  unfold Oper.wp execOp
  simp only [ho, resolve, invoke, builtin, Sem.run_bind, Sem.run_pure, Result.andThen_ok, List.map_toArray, List.map_cons, List.map_nil, hs, hx, hr]
  exact hK _ _ (h v' w' h2 h3)
theorem step_push {P : Program} {ops : Array Oper} {o : Oper} {A : Act} {w w0 : World} {K : Act → World → Prop} {Q : Exit → Act → World → Prop} {E : Prop} (hgd : o.guard = none) (s x : Operand) (T : TypeId)
    (ho : o.op = .call { callee := .builtin .append, args := #[s, x], argTypes := #[T, T] }) {e : TypeId} {z : Value} {size bytes : Nat} (ht : P.underlying T = some (.slice e)) (hinfo : (P.info? e).map (fun i => (i.zero, i.size, i.bytes)) = some (some z, size, bytes))
    (hzs : z.cells.size = size) (hsz : 0 < size) (hby : bytes ≤ 1000) (base : Nat) (v : Value) {n : Nat} {xs : List Value} (hs : A.eval s = v) (hown : w0.ownsRow base e size v n xs)
    (m : Nat) (news : List Value) (hl : news.length = m * size) (h1 : ∀ u ∈ news, u.oneCell' = true) (hx : A.eval x = .slice (some ⟨w0.heap.size, 0, none⟩) m m) (hw : w = w0.alloc (.cells news.toArray e)) (hn : n + m ≤ 100000000) (hbase : base ≤ w0.heap.size)
    (h : ∀ v' w', w'.ownsRow base e size v' (n + m) (xs ++ news) → w.grownBy w' v.ownBlock → K (A.put o.dst v') w') : if Region.wanted o (yielded ops A.tmps) = true then Oper.wp P o A w K Q else E := by
  obtain ⟨v', w', hr, h2, h3⟩ := run_push (ty := o.type) ht hinfo hzs hsz hby base v hown m news hl h1 hw hn hbase
  rw [if_pos (by simp [Region.wanted, hgd])]
  unfold Oper.wp execOp
  simp only [ho, resolve, invoke, builtin, Sem.run_bind, Sem.run_pure, Result.andThen_ok, List.map_toArray, List.map_cons, List.map_nil, hs, hx, hr]
  exact h v' w' h2 h3
end Go.Proofs.YtgckgkllpkkpeaaDoor
