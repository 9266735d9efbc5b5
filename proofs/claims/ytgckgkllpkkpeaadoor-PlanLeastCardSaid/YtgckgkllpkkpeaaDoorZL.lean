/-
  Jobs: a roster in memory while its tails are made.
-/
import Derived.Test.YtgckgkllpkkpeaaDoorZK
namespace Go.Proofs.YtgckgkllpkkpeaaDoor
open Go.RowKit Go.Shelf

def qT (q : Rq) (T : Nat → Nat) : Rq := { q with T := T }
/-- Where a roster lies. -/
structure QD (q : Rq) (RP : Nat) : Prop where
  zR : q.w0.heap.size ≤ q.R
  zT : q.w0.heap.size ≤ q.RT
  zS : q.w0.heap.size ≤ q.RS
  zB : q.w0.heap.size ≤ q.RB
  ne : q.R ≠ q.RT ∧ q.R ≠ q.RS ∧ q.R ≠ q.RB ∧ q.RT ≠ q.RS ∧ q.RT ≠ q.RB ∧ q.RS ≠ q.RB
  p1 : RP ≠ q.R
  p2 : RP ≠ q.RT
def IsC (W : World) (B : Nat) : Prop := ∃ c t f, W.heap[B]? = some (.cells c t f)
theorem IsC.lt {W : World} {B : Nat} (h : IsC W B) : B < W.heap.size := by obtain ⟨c, t, f, h⟩ := h; exact (Array.getElem?_eq_some_iff.1 h).1
theorem IsC.set {W : World} {B : Nat} (h : IsC W B) (p : Addr) (v : Value) : IsC (W.setCell p v) B := by
  obtain ⟨c, t, f, h⟩ := h
  by_cases e : p.block = B
  · subst e
    exact ⟨_, t, f, by simp [World.setCell, Array.getElem?_modify, h]; rfl⟩
  · exact ⟨c, t, f, by rw [Below.heap_setCell _ _ _ _ (fun e' => e e'.symm)]; exact h⟩
theorem IsC.same {W W' : World} {B : Nat} (h : IsC W B) (e : W'.heap[B]? = W.heap[B]?) : IsC W' B := by obtain ⟨c, t, f, h⟩ := h; exact ⟨c, t, f, e.trans h⟩
theorem IsC.own {W W' : World} {row : Option Nat} {B : Nat} (h : IsC W B) (hg : W.grownBy W' row) (hr : ∀ r, row = some r → ∃ o : Obj, W.heap[r]? = some o ∧ o.isCells = false) : W'.heap[B]? = W.heap[B]? := by
  obtain ⟨c, t, f, h⟩ := h
  refine hg.block B (Array.getElem?_eq_some_iff.1 h).1 (fun e => ?_)
  obtain ⟨o, ho, hc⟩ := hr B e.symm
  rw [h] at ho
  obtain rfl := Option.some.inj ho
  cases hc
structure RoI (q : Rq) (RP : Nat) (T : Nat → Nat) (S : Nat) (W : World) : Prop where
  r : Ros (qT q T) W S (fun _ => 0) noB (fun _ _ => 0)
  ft : ∀ o, W.frozen? ⟨q.RT, o, none⟩ = false
  rp : W.cell? ⟨RP, 0, none⟩ = some (.pointer (some ⟨q.R, 0, none⟩))
  i1 : IsC W q.R
  i2 : IsC W q.RT
  i3 : IsC W q.RS
  i4 : IsC W q.RB
  i5 : IsC W RP
theorem cell_same {W W' : World} {B : Nat} (e : W'.heap[B]? = W.heap[B]?) (o : Nat) : W'.cell? ⟨B, o, none⟩ = W.cell? ⟨B, o, none⟩ := by simp only [World.cell?, e]
theorem frozen_same {W W' : World} {B : Nat} (e : W'.heap[B]? = W.heap[B]?) (o : Nat) : W'.frozen? ⟨B, o, none⟩ = W.frozen? ⟨B, o, none⟩ := by simp only [World.frozen?, e]
theorem RoI.blk {q : Rq} {RP : Nat} {T : Nat → Nat} {S : Nat} {W W' : World} (h : RoI q RP T S W) (hs : W.heap.size ≤ W'.heap.size) (hb : Below q.w0.heap.size q.w0 W') (e1 : W'.heap[q.R]? = W.heap[q.R]?) (e2 : W'.heap[q.RT]? = W.heap[q.RT]?) (e3 : W'.heap[q.RS]? = W.heap[q.RS]?) (e4 : W'.heap[q.RB]? = W.heap[q.RB]?) (e5 : W'.heap[RP]? = W.heap[RP]?) : RoI q RP T S W' where
  r := {
    bel := hb
    c0 := (cell_same e1 _).trans h.r.c0
    c1 := (cell_same e1 _).trans h.r.c1
    c2 := (cell_same e1 _).trans h.r.c2
    c3 := (cell_same e1 _).trans h.r.c3
    c4 := (cell_same e1 _).trans h.r.c4
    c5 := (cell_same e1 _).trans h.r.c5
    cu := fun m k hm hk => (cell_same e1 _).trans (h.r.cu m k hm hk)
    ct := fun i hi => (cell_same e2 _).trans (h.r.ct i hi)
    cs := fun i hi => (cell_same e3 _).trans (h.r.cs i hi)
    cb := fun i hi => (cell_same e4 _).trans (h.r.cb i hi)
    fr := fun o => (frozen_same e1 _).trans (h.r.fr o)
    fs := fun o => (frozen_same e3 _).trans (h.r.fs o)
    fb := fun o => (frozen_same e4 _).trans (h.r.fb o)
    zR := Nat.lt_of_lt_of_le h.r.zR hs
    zS := Nat.lt_of_lt_of_le h.r.zS hs
    zB := Nat.lt_of_lt_of_le h.r.zB hs }
  ft := fun o => (frozen_same e2 _).trans (h.ft o)
  rp := (cell_same e5 _).trans h.rp
  i1 := h.i1.same e1
  i2 := h.i2.same e2
  i3 := h.i3.same e3
  i4 := h.i4.same e4
  i5 := h.i5.same e5
theorem RoI.later {q : Rq} {RP : Nat} {T : Nat → Nat} {S : Nat} {W W' : World} (h : RoI q RP T S W) (hb : Below W.heap.size W W') : RoI q RP T S W' :=
  h.blk hb.size (below_keep hb h.r.bel) (hb.block _ h.i1.lt) (hb.block _ h.i2.lt) (hb.block _ h.i3.lt) (hb.block _ h.i4.lt) (hb.block _ h.i5.lt)
theorem RoI.own {q : Rq} {RP B : Nat} {T : Nat → Nat} {S : Nat} {W W' : World} {row : Option Nat} (hB : q.w0.heap.size ≤ B) (h : RoI q RP T S W) (hg : W.grownBy W' row) (hr : ∀ r, row = some r → B ≤ r ∧ ∃ o : Obj, W.heap[r]? = some o ∧ o.isCells = false) : RoI q RP T S W' :=
  have hr' := fun r e => (hr r e).2
  h.blk hg.size (h.r.bel.grown hg h.r.bel.size (fun k e => Nat.le_trans hB (hr k e).1)) (h.i1.own hg hr') (h.i2.own hg hr') (h.i3.own hg hr') (h.i4.own hg hr') (h.i5.own hg hr')
theorem set_block {W : World} {B o : Nat} {v : Value} {B' : Nat} (h : B ≠ B') : (W.setCell ⟨B, o, none⟩ v).heap[B']? = W.heap[B']? := Below.heap_setCell _ _ _ _ (fun e => h e.symm)
theorem RoI.setT {q : Rq} {RP : Nat} {T : Nat → Nat} {S : Nat} {W : World} (h : RoI q RP T S W) (d : QD q RP) {a : Nat} (ha : a < q.p.jobs.length) (v : Nat) : RoI q RP (upd T a v) S (W.setCell ⟨q.RT, a, none⟩ (.int .i64 (v : Int))) := by
  obtain ⟨n1, n2, n3, n4, n5, n6⟩ := d.ne
  exact {
    r := {
      bel := h.r.bel.setCell (p := ⟨q.RT, a, none⟩) d.zT _
      c0 := (set_other (Or.inl (Ne.symm n1))).trans h.r.c0
      c1 := (set_other (Or.inl (Ne.symm n1))).trans h.r.c1
      c2 := (set_other (Or.inl (Ne.symm n1))).trans h.r.c2
      c3 := (set_other (Or.inl (Ne.symm n1))).trans h.r.c3
      c4 := (set_other (Or.inl (Ne.symm n1))).trans h.r.c4
      c5 := (set_other (Or.inl (Ne.symm n1))).trans h.r.c5
      cu := fun m k hm hk => (set_other (Or.inl (Ne.symm n1))).trans (h.r.cu m k hm hk)
      ct := fun i hi => by
        show (W.setCell ⟨q.RT, a, none⟩ _).cell? ⟨q.RT, i, none⟩ = some (.int .i64 ((upd T a v i : Nat) : Int))
        by_cases e : i = a
        · subst e
          rw [upd_same]
          exact set_same (h.r.ct i hi)
        · rw [upd_other _ _ e]
          exact (set_other (Or.inr (Ne.symm e))).trans (h.r.ct i hi)
      cs := fun i hi => (set_other (Or.inl n4)).trans (h.r.cs i hi)
      cb := fun i hi => (set_other (Or.inl n5)).trans (h.r.cb i hi)
      fr := fun o => set_frozen.trans (h.r.fr o)
      fs := fun o => set_frozen.trans (h.r.fs o)
      fb := fun o => set_frozen.trans (h.r.fb o)
      zR := by rw [set_size]; exact h.r.zR
      zS := by rw [set_size]; exact h.r.zS
      zB := by rw [set_size]; exact h.r.zB }
    ft := fun o => set_frozen.trans (h.ft o)
    rp := (set_other (Or.inl (Ne.symm d.p2))).trans h.rp
    i1 := h.i1.set _ _
    i2 := h.i2.set _ _
    i3 := h.i3.set _ _
    i4 := h.i4.set _ _
    i5 := h.i5.set _ _ }
theorem RoI.setN {q : Rq} {RP : Nat} {T : Nat → Nat} {S : Nat} {W : World} (h : RoI q RP T S W) (d : QD q RP) (v : Nat) : RoI q RP T v (W.setCell ⟨q.R, 3, none⟩ (.int .i64 (v : Int))) := by
  obtain ⟨n1, n2, n3, n4, n5, n6⟩ := d.ne
  exact {
    r := {
      bel := h.r.bel.setCell (p := ⟨q.R, 3, none⟩) d.zR _
      c0 := (set_other (Or.inr (by omega))).trans h.r.c0
      c1 := (set_other (Or.inr (by omega))).trans h.r.c1
      c2 := (set_other (Or.inr (by omega))).trans h.r.c2
      c3 := set_same h.r.c3
      c4 := (set_other (Or.inr (by omega))).trans h.r.c4
      c5 := (set_other (Or.inr (by omega))).trans h.r.c5
      cu := fun m k hm hk => (set_other (Or.inr (by omega))).trans (h.r.cu m k hm hk)
      ct := fun i hi => (set_other (Or.inl n1)).trans (h.r.ct i hi)
      cs := fun i hi => (set_other (Or.inl n2)).trans (h.r.cs i hi)
      cb := fun i hi => (set_other (Or.inl n3)).trans (h.r.cb i hi)
      fr := fun o => set_frozen.trans (h.r.fr o)
      fs := fun o => set_frozen.trans (h.r.fs o)
      fb := fun o => set_frozen.trans (h.r.fb o)
      zR := by rw [set_size]; exact h.r.zR
      zS := by rw [set_size]; exact h.r.zS
      zB := by rw [set_size]; exact h.r.zB }
    ft := fun o => set_frozen.trans (h.ft o)
    rp := (set_other (Or.inl (Ne.symm d.p1))).trans h.rp
    i1 := h.i1.set _ _
    i2 := h.i2.set _ _
    i3 := h.i3.set _ _
    i4 := h.i4.set _ _
    i5 := h.i5.set _ _ }
/-- A round leaves all that it does not own. -/
structure RdK (q : Rq) (n₀ Bn Bx : Nat) (W W' : World) : Prop where
  k : KeepsOthers W W'
  b : KpB n₀ Bn W W'
  x : ∀ o v, W.cell? ⟨Bx, o, none⟩ = some v → W'.cell? ⟨Bx, o, none⟩ = some v
theorem RdK.refl {q : Rq} {n₀ Bn Bx : Nat} (W : World) : RdK q n₀ Bn Bx W W := ⟨KeepsOthers.refl W, fun _ _ _ h => h, fun _ _ h => h⟩
theorem RdK.trans {q : Rq} {n₀ Bn Bx : Nat} {A B C : World} (h : RdK q n₀ Bn Bx A B) (k : RdK q n₀ Bn Bx B C) : RdK q n₀ Bn Bx A C := ⟨h.k.trans k.k, h.b.t k.b, fun o v e => k.x o v (h.x o v e)⟩
theorem RdK.set {q : Rq} {n₀ Bn Bx : Nat} (W : World) {B o : Nat} (v : Value) (h1 : n₀ ≤ B) (h2 : B ≠ Bn) (h3 : B ≠ Bx) : RdK q n₀ Bn Bx W (W.setCell ⟨B, o, none⟩ v) :=
  ⟨KeepsOthers.setCell _ _ _, fun a u ha hu => (World.cell?_setCell_other _ _ _ _ (fun e => by subst e; simp only at ha; omega)).trans hu, fun o' u hu => (set_other (Or.inl h3)).trans hu⟩
theorem RdK.drewN {q : Rq} {n₀ Bn Bx : Nat} (W : World) (k : Nat) : RdK q n₀ Bn Bx W (W.drewN k) :=
  ⟨⟨Nat.le_refl _, fun _ _ h _ => h⟩, fun _ _ _ h => h, fun _ _ h => h⟩
end Go.Proofs.YtgckgkllpkkpeaaDoor
