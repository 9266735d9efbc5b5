/-
  Rows that come in: what is read of them, as lists, whatever their elements are.
-/
import Derived.Test.YtgckgkllpkkpeaaDoorYM
import Derived.Deep.Slices
import Derived.ChangeSame
import Derived.Deep.Strs
namespace Go.Proofs.YtgckgkllpkkpeaaDoor
open Go.RowKit Go.ChangeShapes Go.WideShapes Go.Deep

theorem add_flat (b o i : Nat) : (⟨b, o, none⟩ : Addr).add i = ⟨b, o + i, none⟩ := by
  unfold Addr.add; split <;> simp_all
theorem wf_int {n : Int} (h : Lit.wf (.int .i64 n) = true) : I64 n := by
  simp only [Lit.wf, Bool.and_eq_true, decide_eq_true_eq] at h
  exact h
section
variable {H : Type} {enc : TypeId × Value → H} {P : Program} {w : World}
/-- A row. -/
theorem open_rowsE {α : Type} [Inhabited α] {E : World → List Value → α → Prop} {t e : TypeId} {k fuel : Nat} {v : Value} {x : DataW H × List MemPlace} (ht : P.underlying t = some (.slice e)) (hk : P.cellsOf e = k) (k0 : 0 < k)
    (hE : ∀ n cs y, cs.length = k → DataW.trod enc P w 0 (fun _ => true) true n e cs = some y → ∃ a, E w cs a)
    (h : DataW.trod enc P w 0 (fun _ => true) true fuel t [v] = some x) : ∃ l : List α, Rows k E w v l := by
  rcases open_slice ht h with ⟨h1, _⟩ | ⟨a, len, cap, m, n, D, Pl, h1, _, hl, hm, hmm, _, hx⟩
  · obtain rfl : v = .slice none 0 0 := by simpa using h1
    exact ⟨[], rows_nil _⟩
  · obtain rfl : v = .slice (some a) len cap := by simpa using h1
    simp only [if_true] at hmm
    subst hmm
    rw [hk] at hx
    obtain ⟨f, hf⟩ := choose_lt (n := m) (p := fun i (q : List Value × α) => w.cells? 0 (a.add (i * k)) k = some q.1 ∧ E w q.1 q.2) (fun i hi => by
      obtain ⟨cs', h2, h3⟩ := hx i hi
      obtain ⟨y, hy⟩ := hE n cs' _ (World.cells?_some h2).2.1 h3
      exact ⟨(cs', y), h2, hy⟩)
    refine ⟨(List.range len).map fun i => (f i).2, some a, m, by simp, by simpa using hl, hm, ?_⟩
    by_cases h0 : len = 0
    · left; subst h0; rfl
    · right
      obtain ⟨b, o, spot⟩ := a
      have hs : spot = none := by
        obtain ⟨_, hlen, hc⟩ := World.cells?_some (hf 0 (by omega)).1
        have h4 := hc 0 k0
        rw [List.getElem?_eq_getElem (by omega)] at h4
        simpa [Addr.add] using World.cell?_spot h4
      subst hs
      refine ⟨b, o, rfl, fun i y hy => ?_⟩
      obtain ⟨hi, rfl⟩ : i < len ∧ (f i).2 = y := by
        rw [List.getElem?_map, Option.map_eq_some_iff] at hy
        obtain ⟨j, hj, rfl⟩ := hy
        obtain ⟨h3, h4⟩ := List.getElem?_eq_some_iff.1 hj
        simp at h3 h4
        subst h4
        exact ⟨h3, rfl⟩
      obtain ⟨g1, g2⟩ := hf i (by omega)
      obtain ⟨_, hlen, hc⟩ := World.cells?_some g1
      refine ⟨(f i).1, hlen, fun j u hu => ?_, g2⟩
      have hj : j < k := by have := (List.getElem?_eq_some_iff.1 hu).1; omega
      have h5 := hc j hj
      rw [add_flat, add_flat, hu] at h5
      rw [← h5, Nat.add_assoc]
/-- A row of ints. -/
theorem open_intsE {t e : TypeId} {fuel : Nat} {v : Value} {x : DataW H × List MemPlace} (ht : P.underlying t = some (.slice e)) (he : P.underlying e = some (.int .i64)) (hk : P.cellsOf e = 1)
    (h : DataW.trod enc P w 0 (fun _ => true) true fuel t [v] = some x) : ∃ l : List Int, Rows 1 JE w v l :=
  open_rowsE ht hk (by decide) (fun n cs y _ h => by
    obtain ⟨z, rfl, _, hz⟩ := DataW.trod_int he h
    exact ⟨z, rfl, wf_int hz⟩) h
/-- A table of ints. -/
theorem open_tabE {t e q : TypeId} {fuel : Nat} {v : Value} {x : DataW H × List MemPlace} (ht : P.underlying t = some (.slice e)) (he : P.underlying e = some (.slice q)) (hq : P.underlying q = some (.int .i64)) (hk : P.cellsOf e = 1) (hk' : P.cellsOf q = 1)
    (h : DataW.trod enc P w 0 (fun _ => true) true fuel t [v] = some x) : ∃ l : List (List Int), Rows 1 (LE 1 JE) w v l :=
  open_rowsE ht hk (by decide) (fun n cs y hl h => by
    match cs, hl with
    | [u], _ =>
      obtain ⟨l, hl⟩ := open_intsE he hq hk' h
      exact ⟨l, u, rfl, hl⟩) h
/-- A row of ints that comes in. -/
theorem open_row_ints {t e : TypeId} {v : Value} {d : DataW H} {p : List MemPlace} {r : Reach} {b0 : Nat} (ht : P.underlying t = some (.slice e)) (he : P.underlying e = some (.int .i64)) (hk : P.cellsOf e = 1) (hval : Value.okWide P w r b0 t v)
    (h : DataW.Trod enc P w 0 (fun _ => true) true t v d p) : ∃ l : List Int, Rows 1 JE w v l := by
  obtain ⟨a0, n0, c0, rfl⟩ := okWide_slice ht hval
  obtain ⟨fuel, h⟩ := h
  rw [show (Value.slice a0 n0 c0).cells.toList = [.slice a0 n0 c0] from rfl] at h
  exact open_intsE ht he hk h
/-- A pair of two cells that comes in. -/
theorem open_pair {t : TypeId} {f0 f1 : Field} {v : Value} {d : DataW H} {p : List MemPlace} {r : Reach} {b0 : Nat} (ht : P.underlying t = some (.struct #[f0, f1])) (ct : P.cellsOf t = 2) (o0 : f0.offset = 0) (o1 : f1.offset = 1) (c0 : P.cellsOf f0.type = 1) (c1 : P.cellsOf f1.type = 1)
    (hval : Value.okWide P w r b0 t v) (h : DataW.Trod enc P w 0 (fun _ => true) true t v d p) : ∃ u0 u1 n y0 y1, v = .agg #[u0, u1] ∧ DataW.trod enc P w 0 (fun _ => true) true n f0.type [u0] = some y0 ∧ DataW.trod enc P w 0 (fun _ => true) true n f1.type [u1] = some y1 := by
  obtain ⟨cs, rfl, hcs⟩ := okWide_struct ht hval
  obtain ⟨fuel, h⟩ := h
  rw [ct] at hcs
  obtain ⟨l⟩ := cs
  match l, hcs with
  | [u0, u1], _ =>
    rw [show (Value.agg ⟨[u0, u1]⟩).cells.toList = [u0, u1] from rfl] at h
    obtain ⟨y0, y1, n, _, _, t0, t1⟩ := trod_struct2 ht h
    simp only [o0, o1, c0, c1, List.drop, List.take] at t0 t1
    exact ⟨u0, u1, n, y0, y1, rfl, t0, t1⟩
end
theorem cells_int : Tryd.prog.cellsOf 3 = 1 := by kernel_rfl
theorem cells_ints : Tryd.prog.cellsOf 23 = 1 := by kernel_rfl
end Go.Proofs.YtgckgkllpkkpeaaDoor
