/-
  Jobs: a roster in memory; the program's latest.
-/
import Derived.Test.YtgckgkllpkkpeaaDoorUP
namespace Go.Proofs.YtgckgkllpkkpeaaDoor
open Go.RowKit

/-- How long a job is. -/
def lgN (p : Pl) (i : Nat) : Nat := ((p.jobs[i]?).map fun j => j.long.toNat).getD 0
/-- What a job uses of a kind. -/
def usN (p : Pl) (i k : Nat) : Int := ((p.jobs[i]?).map fun j => (j.uses[k]?).getD 0).getD 0
theorem lgN_eq {p : Pl} {i : Nat} {j : Jb} (hR : PlR p) (h : p.jobs[i]? = some j) : j.long = (lgN p i : Int) := by
  have := (hR.j i j h).1
  simp [lgN, h]
  omega
theorem usN_eq {p : Pl} {i k : Nat} {j : Jb} {u : Int} (h : p.jobs[i]? = some j) (hu : j.uses[k]? = some u) : usN p i k = u := by simp [usN, h, hu]
/-- What a roster knows for good, and where it lies. -/
structure Rq where
  p : Pl
  w0 : World
  R : Nat
  RT : Nat
  RS : Nat
  RB : Nat
  T : Nat → Nat
  ja : Option Addr
  jc : Nat
  ca : Option Addr
  cc : Nat
structure Rq.Ok (q : Rq) : Prop where
  pl : PlM q.w0 q.p q.ja q.jc q.ca q.cc
  r : PlR q.p
  t : ∀ i, i < q.p.jobs.length → lgN q.p i ≤ q.T i ∧ q.T i ≤ 30
  zR : q.w0.heap.size ≤ q.R
  zT : q.w0.heap.size ≤ q.RT
  zS : q.w0.heap.size ≤ q.RS
  zB : q.w0.heap.size ≤ q.RB
  ne : q.R ≠ q.RT ∧ q.R ≠ q.RS ∧ q.R ≠ q.RB ∧ q.RT ≠ q.RS ∧ q.RT ≠ q.RB ∧ q.RS ≠ q.RB
/-- A roster in memory: its span, its starts, which have begun, what is used. -/
structure Ros (q : Rq) (w : World) (S : Nat) (x : Nat → Nat) (b : Nat → Bool) (u : Nat → Nat → Int) : Prop where
  bel : Below q.w0.heap.size q.w0 w
  c0 : w.cell? ⟨q.R, 0, none⟩ = some (.slice q.ja q.p.jobs.length q.jc)
  c1 : w.cell? ⟨q.R, 1, none⟩ = some (.slice q.ca q.p.caps.length q.cc)
  c2 : w.cell? ⟨q.R, 2, none⟩ = some (.slice (some ⟨q.RT, 0, none⟩) q.p.jobs.length q.p.jobs.length)
  c3 : w.cell? ⟨q.R, 3, none⟩ = some (.int .i64 (S : Int))
  c4 : w.cell? ⟨q.R, 4, none⟩ = some (.slice (some ⟨q.RS, 0, none⟩) q.p.jobs.length q.p.jobs.length)
  c5 : w.cell? ⟨q.R, 5, none⟩ = some (.slice (some ⟨q.RB, 0, none⟩) q.p.jobs.length q.p.jobs.length)
  cu : ∀ m k, m < 30 → k < 7 → w.cell? ⟨q.R, 6 + m * 7 + k, none⟩ = some (.int .i64 (u m k))
  ct : ∀ i, i < q.p.jobs.length → w.cell? ⟨q.RT, i, none⟩ = some (.int .i64 (q.T i : Int))
  cs : ∀ i, i < q.p.jobs.length → w.cell? ⟨q.RS, i, none⟩ = some (.int .i64 (x i : Int))
  cb : ∀ i, i < q.p.jobs.length → w.cell? ⟨q.RB, i, none⟩ = some (.bool (b i))
  fr : ∀ o, w.frozen? ⟨q.R, o, none⟩ = false
  fs : ∀ o, w.frozen? ⟨q.RS, o, none⟩ = false
  fb : ∀ o, w.frozen? ⟨q.RB, o, none⟩ = false
  zR : q.R < w.heap.size
  zS : q.RS < w.heap.size
  zB : q.RB < w.heap.size
theorem frozen_keep {w w' : World} {B o : Nat} (hb : Below w.heap.size w w') (h : w.frozen? ⟨B, o, none⟩ = false) (hB : B < w.heap.size) : w'.frozen? ⟨B, o, none⟩ = false := by
  simp only [World.frozen?] at h ⊢
  rw [hb.block B hB]
  exact h
theorem Ros.later {q : Rq} {w w' : World} {S : Nat} {x : Nat → Nat} {b : Nat → Bool} {u : Nat → Nat → Int} (h : Ros q w S x b u) (hb : Below w.heap.size w w') : Ros q w' S x b u where
  bel := below_keep hb h.bel
  c0 := cell_keep hb h.c0
  c1 := cell_keep hb h.c1
  c2 := cell_keep hb h.c2
  c3 := cell_keep hb h.c3
  c4 := cell_keep hb h.c4
  c5 := cell_keep hb h.c5
  cu := fun m k hm hk => cell_keep hb (h.cu m k hm hk)
  ct := fun i hi => cell_keep hb (h.ct i hi)
  cs := fun i hi => cell_keep hb (h.cs i hi)
  cb := fun i hi => cell_keep hb (h.cb i hi)
  fr := fun o => frozen_keep hb (h.fr o) h.zR
  fs := fun o => frozen_keep hb (h.fs o) h.zS
  fb := fun o => frozen_keep hb (h.fb o) h.zB
  zR := Nat.lt_of_lt_of_le h.zR hb.size
  zS := Nat.lt_of_lt_of_le h.zS hb.size
  zB := Nat.lt_of_lt_of_le h.zB hb.size
/-- Nothing but a roster's own three blocks was written. -/
structure Only (q : Rq) (w w' : World) : Prop where
  os : w'.os = w.os
  tape : w'.tape = w.tape
  output : w'.output = w.output
  size : w.heap.size ≤ w'.heap.size
  block : ∀ k, k < w.heap.size → k ≠ q.R → k ≠ q.RS → k ≠ q.RB → w'.heap[k]? = w.heap[k]?
theorem Only.refl (q : Rq) (w : World) : Only q w w := ⟨rfl, rfl, rfl, Nat.le_refl _, fun _ _ _ _ _ => rfl⟩
theorem Only.trans {q : Rq} {w w1 w2 : World} (h : Only q w w1) (k : Only q w1 w2) : Only q w w2 :=
  ⟨k.os.trans h.os, k.tape.trans h.tape, k.output.trans h.output, Nat.le_trans h.size k.size, fun i hi h1 h2 h3 => (k.block i (Nat.lt_of_lt_of_le hi h.size) h1 h2 h3).trans (h.block i hi h1 h2 h3)⟩
theorem Only.of {q : Rq} {w w' : World} (h : Below w.heap.size w w') : Only q w w' := ⟨h.os, h.tape, h.output, h.size, fun k hk _ _ _ => h.block k hk⟩
theorem Only.set {q : Rq} (w : World) {B o : Nat} (h : B = q.R ∨ B = q.RS ∨ B = q.RB) (v : Value) : Only q w (w.setCell ⟨B, o, none⟩ v) :=
  ⟨rfl, rfl, rfl, by simp [World.setCell], fun k _ h1 h2 h3 => Below.heap_setCell _ _ _ _ (by simp only; rintro rfl; rcases h with h | h | h <;> contradiction)⟩
theorem Only.cell {q : Rq} {w w' : World} {B o : Nat} {v : Value} (h : Only q w w') (hc : w.cell? ⟨B, o, none⟩ = some v) (h1 : B ≠ q.R) (h2 : B ≠ q.RS) (h3 : B ≠ q.RB) : w'.cell? ⟨B, o, none⟩ = some v := by
  have hlt := World.block_lt_of_cell? w _ hc
  have := h.block B hlt h1 h2 h3
  simp only [World.cell?] at hc ⊢
  rw [this]
  exact hc
theorem Only.below {q : Rq} {w w' : World} (h : Only q w w') {n : Nat} (hn : n ≤ w.heap.size) (h1 : n ≤ q.R) (h2 : n ≤ q.RS) (h3 : n ≤ q.RB) : Below n w w' :=
  ⟨h.os, h.tape, h.output, h.size, fun k hk => h.block k (by omega) (by omega) (by omega) (by omega)⟩
theorem set_same {w : World} {B o : Nat} {v u : Value} (h : w.cell? ⟨B, o, none⟩ = some u) : (w.setCell ⟨B, o, none⟩ v).cell? ⟨B, o, none⟩ = some v := World.cell?_setCell_same' _ _ _ (by rw [h]; rfl)
theorem set_other {w : World} {B o B' o' : Nat} {v : Value} (h : B ≠ B' ∨ o ≠ o') : (w.setCell ⟨B, o, none⟩ v).cell? ⟨B', o', none⟩ = w.cell? ⟨B', o', none⟩ :=
  World.cell?_setCell_other _ _ _ _ (by intro e; have h1 := congrArg Addr.block e; have h2 := congrArg Addr.off e; simp only at h1 h2; omega)
theorem set_frozen {w : World} {a : Addr} {v : Value} {B o : Nat} : (w.setCell a v).frozen? ⟨B, o, none⟩ = w.frozen? ⟨B, o, none⟩ := World.frozen?_setCell _ _ _ _
theorem set_size {w : World} {a : Addr} {v : Value} : (w.setCell a v).heap.size = w.heap.size := by simp [World.setCell]
/-- One place of a function turned. -/
def upd {α : Type} (f : Nat → α) (j : Nat) (v : α) : Nat → α := fun i => if i = j then v else f i
theorem upd_same {α : Type} (f : Nat → α) (j : Nat) (v : α) : upd f j v j = v := if_pos rfl
theorem upd_other {α : Type} (f : Nat → α) {i j : Nat} (v : α) (h : i ≠ j) : upd f j v i = f i := if_neg h
theorem Ros.setS {q : Rq} {w : World} {S : Nat} {x : Nat → Nat} {b : Nat → Bool} {u : Nat → Nat → Int} (h : Ros q w S x b u) (hq : q.Ok) {j : Nat} (hj : j < q.p.jobs.length) (v : Nat) : Ros q (w.setCell ⟨q.RS, j, none⟩ (.int .i64 (v : Int))) S (upd x j v) b u := by
  obtain ⟨n1, n2, n3, n4, n5, n6⟩ := hq.ne
  have z := hq.zS
  exact {
    bel := h.bel.setCell z _
    c0 := (set_other (Or.inl (Ne.symm n2))).trans h.c0
    c1 := (set_other (Or.inl (Ne.symm n2))).trans h.c1
    c2 := (set_other (Or.inl (Ne.symm n2))).trans h.c2
    c3 := (set_other (Or.inl (Ne.symm n2))).trans h.c3
    c4 := (set_other (Or.inl (Ne.symm n2))).trans h.c4
    c5 := (set_other (Or.inl (Ne.symm n2))).trans h.c5
    cu := fun m k hm hk => (set_other (Or.inl (Ne.symm n2))).trans (h.cu m k hm hk)
    ct := fun i hi => (set_other (Or.inl (Ne.symm n4))).trans (h.ct i hi)
    cs := fun i hi => by
      by_cases e : i = j
      · subst e
        rw [upd_same]
        exact set_same (h.cs i hi)
      · rw [upd_other _ _ e]
        exact (set_other (Or.inr (Ne.symm e))).trans (h.cs i hi)
    cb := fun i hi => (set_other (Or.inl n6)).trans (h.cb i hi)
    fr := fun o => set_frozen.trans (h.fr o)
    fs := fun o => set_frozen.trans (h.fs o)
    fb := fun o => set_frozen.trans (h.fb o)
    zR := by rw [set_size]; exact h.zR
    zS := by rw [set_size]; exact h.zS
    zB := by rw [set_size]; exact h.zB }
theorem Ros.setB {q : Rq} {w : World} {S : Nat} {x : Nat → Nat} {b : Nat → Bool} {u : Nat → Nat → Int} (h : Ros q w S x b u) (hq : q.Ok) {j : Nat} (hj : j < q.p.jobs.length) (v : Bool) : Ros q (w.setCell ⟨q.RB, j, none⟩ (.bool v)) S x (upd b j v) u := by
  obtain ⟨n1, n2, n3, n4, n5, n6⟩ := hq.ne
  have z := hq.zB
  exact {
    bel := h.bel.setCell z _
    c0 := (set_other (Or.inl (Ne.symm n3))).trans h.c0
    c1 := (set_other (Or.inl (Ne.symm n3))).trans h.c1
    c2 := (set_other (Or.inl (Ne.symm n3))).trans h.c2
    c3 := (set_other (Or.inl (Ne.symm n3))).trans h.c3
    c4 := (set_other (Or.inl (Ne.symm n3))).trans h.c4
    c5 := (set_other (Or.inl (Ne.symm n3))).trans h.c5
    cu := fun m k hm hk => (set_other (Or.inl (Ne.symm n3))).trans (h.cu m k hm hk)
    ct := fun i hi => (set_other (Or.inl (Ne.symm n5))).trans (h.ct i hi)
    cs := fun i hi => (set_other (Or.inl (Ne.symm n6))).trans (h.cs i hi)
    cb := fun i hi => by
      by_cases e : i = j
      · subst e
        rw [upd_same]
        exact set_same (h.cb i hi)
      · rw [upd_other _ _ e]
        exact (set_other (Or.inr (Ne.symm e))).trans (h.cb i hi)
    fr := fun o => set_frozen.trans (h.fr o)
    fs := fun o => set_frozen.trans (h.fs o)
    fb := fun o => set_frozen.trans (h.fb o)
    zR := by rw [set_size]; exact h.zR
    zS := by rw [set_size]; exact h.zS
    zB := by rw [set_size]; exact h.zB }
/-- One place of a table turned. -/
def upd2 {α : Type} (f : Nat → Nat → α) (m k : Nat) (v : α) : Nat → Nat → α := fun i j => if i = m ∧ j = k then v else f i j
theorem Ros.setU {q : Rq} {w : World} {S : Nat} {x : Nat → Nat} {b : Nat → Bool} {u : Nat → Nat → Int} (h : Ros q w S x b u) (hq : q.Ok) {m k : Nat} (hm : m < 30) (hk : k < 7) (v : Int) : Ros q (w.setCell ⟨q.R, 6 + m * 7 + k, none⟩ (.int .i64 v)) S x b (upd2 u m k v) := by
  obtain ⟨n1, n2, n3, n4, n5, n6⟩ := hq.ne
  have z := hq.zR
  exact {
    bel := h.bel.setCell z _
    c0 := (set_other (Or.inr (by omega))).trans h.c0
    c1 := (set_other (Or.inr (by omega))).trans h.c1
    c2 := (set_other (Or.inr (by omega))).trans h.c2
    c3 := (set_other (Or.inr (by omega))).trans h.c3
    c4 := (set_other (Or.inr (by omega))).trans h.c4
    c5 := (set_other (Or.inr (by omega))).trans h.c5
    cu := fun m' k' hm' hk' => by
      by_cases e : m' = m ∧ k' = k
      · obtain ⟨rfl, rfl⟩ := e
        rw [upd2, if_pos ⟨rfl, rfl⟩]
        exact set_same (h.cu m' k' hm' hk')
      · rw [upd2, if_neg e]
        exact (set_other (Or.inr (by omega))).trans (h.cu m' k' hm' hk')
    ct := fun i hi => (set_other (Or.inl n1)).trans (h.ct i hi)
    cs := fun i hi => (set_other (Or.inl n2)).trans (h.cs i hi)
    cb := fun i hi => (set_other (Or.inl n3)).trans (h.cb i hi)
    fr := fun o => set_frozen.trans (h.fr o)
    fs := fun o => set_frozen.trans (h.fs o)
    fb := fun o => set_frozen.trans (h.fb o)
    zR := by rw [set_size]; exact h.zR
    zS := by rw [set_size]; exact h.zS
    zB := by rw [set_size]; exact h.zB }
theorem Ros.setN {q : Rq} {w : World} {S : Nat} {x : Nat → Nat} {b : Nat → Bool} {u : Nat → Nat → Int} (h : Ros q w S x b u) (hq : q.Ok) (v : Nat) : Ros q (w.setCell ⟨q.R, 3, none⟩ (.int .i64 (v : Int))) v x b u := by
  obtain ⟨n1, n2, n3, n4, n5, n6⟩ := hq.ne
  have z := hq.zR
  exact {
    bel := h.bel.setCell z _
    c0 := (set_other (Or.inr (by omega))).trans h.c0
    c1 := (set_other (Or.inr (by omega))).trans h.c1
    c2 := (set_other (Or.inr (by omega))).trans h.c2
    c3 := set_same h.c3
    c4 := (set_other (Or.inr (by omega))).trans h.c4
    c5 := (set_other (Or.inr (by omega))).trans h.c5
    cu := fun m' k' hm' hk' => (set_other (Or.inr (by omega))).trans (h.cu m' k' hm' hk')
    ct := fun i hi => (set_other (Or.inl n1)).trans (h.ct i hi)
    cs := fun i hi => (set_other (Or.inl n2)).trans (h.cs i hi)
    cb := fun i hi => (set_other (Or.inl n3)).trans (h.cb i hi)
    fr := fun o => set_frozen.trans (h.fr o)
    fs := fun o => set_frozen.trans (h.fs o)
    fb := fun o => set_frozen.trans (h.fb o)
    zR := by rw [set_size]; exact h.zR
    zS := by rw [set_size]; exact h.zS
    zB := by rw [set_size]; exact h.zB }
set_option maxHeartbeats 8000000 in
set_option maxRecDepth 8000 in
/-- latest. -/
theorem latest_any {q : Rq} {S : Nat} {x : Nat → Nat} {b : Nat → Bool} {u : Nat → Nat → Int} (w : World) (hq : q.Ok) (h : Ros q w S x b u) (hS : S ≤ 60) {j : Nat} (hj : j < q.p.jobs.length) :
    Calls Tryd.prog 34 #[.pointer (some ⟨q.R, 0, none⟩), .int .i64 (j : Int)] w fun e w' => e = .returned (.int .i64 ((S : Int) - (q.T j : Int))) ∧ Below w.heap.size w w' := by
  have c2 := h.c2
  have c3 := h.c3
  have ct := h.ct j hj
  have ht := (hq.t j hj).2
  have hn := hq.r.nj
  clear h hq
  obtain ⟨n, hnn⟩ : ∃ n, n = q.p.jobs.length := ⟨_, rfl⟩
  obtain ⟨R, hR⟩ : ∃ n, n = q.R := ⟨_, rfl⟩
  obtain ⟨RT, hRT⟩ : ∃ n, n = q.RT := ⟨_, rfl⟩
  obtain ⟨t, htt⟩ : ∃ n, n = q.T j := ⟨_, rfl⟩
  rw [← hR, ← hRT, ← hnn] at c2
  rw [← hR] at c3
  rw [← hRT, ← htt] at ct
  rw [← hR, ← htt]
  rw [← htt] at ht
  have hj' : (j : Int) < (n : Int) := by omega
  have ew : wrap64 ((S : Int) - (t : Int)) = (S : Int) - (t : Int) := by unfold wrap64; omega
  clear hnn hR hRT htt hj
  go_enter Tryd.func34, Tryd.ntmps34
  go_upto_region 1 with fail
  go_quiet (fail)
  go_wp2
  go_ret
  exact ⟨by rw [← ew]; rfl, below_drewN (Below.refl _ _) nq⟩
end Go.Proofs.YtgckgkllpkkpeaaDoor
