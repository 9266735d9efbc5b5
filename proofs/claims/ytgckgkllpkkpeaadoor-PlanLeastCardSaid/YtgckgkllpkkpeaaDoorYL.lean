/-
  Rows that read as lists, and rows of one's own: what does not hang on what their elements are.
-/
import Derived.Test.YtgckgkllpkkpeaaDoorChecked
import Derived.WalkKit
import Derived.WalkSpells
import Derived.WalkLawsBesides
import Derived.Laws.AppendOwn
import Derived.Deep.DeepCutAuto
import Derived.Deep.RegionHeld3
import Derived.BigQuiet
namespace Go.Proofs.YtgckgkllpkkpeaaDoor
open Go.RowKit

theorem hide {p : Prop} (h : p) : Hid p := h
theorem unhide {p : Prop} (h : Hid p) : p := h
theorem below_drewN {B : Nat} {a w : World} (h : Below B a w) (n : Nat) : Below B a (w.drewN n) := ⟨h.os, h.tape, h.output, h.size, h.block⟩
theorem cell_keep {wp w1 : World} {r o : Nat} {v : Value} (hb : Below wp.heap.size wp w1) (h : wp.cell? ⟨r, o, none⟩ = some v) : w1.cell? ⟨r, o, none⟩ = some v := by
  rw [hb.cell (p := ⟨r, o, none⟩) (World.block_lt_of_cell? wp _ h)]; exact h
theorem below_keep {w wp w1 : World} (hb : Below wp.heap.size wp w1) (h : Below w.heap.size w wp) : Below w.heap.size w w1 := h.trans (hb.mono h.size)
theorem new_cell {X : World} {n : Nat} (h : X.heap.size = n) (c : Array Value) (t : TypeId) (k : Nat) : (X.alloc (.cells c t)).cell? ⟨n, k, none⟩ = c[k]? := by
  subst h
  simp only [World.cell?, heap_alloc_new]
  rfl
theorem below_new (w : World) (o : Obj) : Below w.heap.size w (w.alloc o) := (Below.refl _ _).alloc (Nat.le_refl _) _
theorem own_later {w w' : World} {base size n : Nat} {e : TypeId} {v : Value} {xs : List Value} (h : w.ownsRow base e size v n xs) (hb : Below w.heap.size w w') : w'.ownsRow base e size v n xs := by
  obtain ⟨h0, h | ⟨g, cap, cur, h1, h2, h3, h4⟩⟩ := h
  · exact ⟨h0, Or.inl h⟩
  · exact ⟨h0, Or.inr ⟨g, cap, cur, h1, h2, by rw [hb.block g (Array.getElem?_eq_some_iff.1 h3).1]; exact h3, h4⟩⟩
theorem take_next {α : Type} {l : List α} {i : Nat} {x : α} (h : l[i]? = some x) : l.take (i + 1) = l.take i ++ [x] := by rw [List.take_add_one, h]; rfl
/-- A cell that is no word. -/
def NoWord (u : Value) : Prop := ∀ x, u ≠ .int .u64 x
/-- A cell that is no number. -/
def NoInt (u : Value) : Prop := ∀ k x, u ≠ .int k x
/-- A cell that is a slice. -/
def IsSl (u : Value) : Prop := ∃ a n c, u = .slice a n c
theorem IsSl.noInt {u : Value} (h : IsSl u) : NoInt u := by obtain ⟨a, n, c, rfl⟩ := h; intro k x; simp
theorem NoInt.noWord {u : Value} (h : NoInt u) : NoWord u := fun x => h _ x
/-- A world as another one but for blocks of a type all of whose cells are of a kind, and new blocks. -/
def Chg (K : Value → Prop) (e : TypeId) (w w' : World) : Prop := ∀ (b : Nat) (c : Array Value) (t : TypeId) (f : Nat × Nat), w.heap[b]? = some (.cells c t f) → (t ≠ e ∨ ∃ (o : Nat) (u : Value), c[o]? = some u ∧ ¬ K u) → w'.heap[b]? = some (.cells c t f)
theorem Chg.below {K : Value → Prop} {e : TypeId} {w w' : World} (hb : Below w.heap.size w w') : Chg K e w w' := fun b c t f h _ => by
  rw [hb.block b (Array.getElem?_eq_some_iff.1 h).1]; exact h
theorem Chg.trans {K : Value → Prop} {e : TypeId} {w w1 w2 : World} (h : Chg K e w w1) (h' : Chg K e w1 w2) : Chg K e w w2 := fun b c t f hb hc => h' b c t f (h b c t f hb hc) hc
theorem cell_block {w : World} {a : Addr} {v : Value} (h : w.cell? a = some v) : ∃ c t f, w.heap[a.block]? = some (.cells c t f) ∧ a.spot = none ∧ c[a.off]? = some v := by
  unfold World.cell? at h
  split at h
  · rename_i c t f hc
    split at h
    · cases h
    · rename_i hs
      exact ⟨c, t, f, hc, by simpa using hs, h⟩
  · cases h
theorem block_cell {w : World} {b o : Nat} {c : Array Value} {t : TypeId} {f : Nat × Nat} {v : Value} (h : w.heap[b]? = some (.cells c t f)) (hv : c[o]? = some v) : w.cell? ⟨b, o, none⟩ = some v := by simp [World.cell?, h, hv]
theorem Chg.cells {K : Value → Prop} {e : TypeId} {w w' : World} {b o o' : Nat} {v u : Value} (hc : Chg K e w w') (h : w.cell? ⟨b, o, none⟩ = some v) (hu : w.cell? ⟨b, o', none⟩ = some u) (hk : ¬ K u) : w'.cell? ⟨b, o, none⟩ = some v := by
  obtain ⟨c, t, f, h1, _, h3⟩ := cell_block h
  obtain ⟨c', t', f', h1', _, h3'⟩ := cell_block hu
  rw [show (⟨b, o', none⟩ : Addr).block = b from rfl] at h1'
  rw [show (⟨b, o, none⟩ : Addr).block = b from rfl] at h1
  rw [h1] at h1'
  obtain ⟨rfl, rfl, rfl⟩ : c = c' ∧ t = t' ∧ f = f' := by simpa using h1'
  exact block_cell (hc b c t f h1 (Or.inr ⟨o', u, h3', hk⟩)) h3
/-- A row of one's own whose cells are of a kind. -/
structure OwnK (P : Value → Prop) (w : World) (base : Nat) (e : TypeId) (size : Nat) (v : Value) (n : Nat) (xs : List Value) : Prop where
  own : w.ownsRow base e size v n xs
  kinds : ∀ g, v.ownBlock = some g → ∀ o u, w.cell? ⟨g, o, none⟩ = some u → P u
theorem OwnK.nil (P : Value → Prop) (w : World) (base : Nat) (e : TypeId) (size : Nat) : OwnK P w base e size (.slice none 0 0) 0 [] := ⟨World.ownsRow_nil _ _ _ _, fun g hg => by simp [Value.ownBlock] at hg⟩
theorem OwnK.later {P : Value → Prop} {w w' : World} {base size n : Nat} {e : TypeId} {v : Value} {xs : List Value} (h : OwnK P w base e size v n xs) (hb : Below w.heap.size w w') : OwnK P w' base e size v n xs :=
  ⟨own_later h.own hb, fun g hg o u hu => h.kinds g hg o u (by rw [hb.cell (p := ⟨g, o, none⟩) (h.own.lt g hg).2] at hu; exact hu)⟩
theorem OwnK.chg {P : Value → Prop} {w w' : World} {base size n : Nat} {e : TypeId} {v : Value} {xs : List Value} (h : OwnK P w base e size v n xs) (hg : w.grownBy w' v.ownBlock) : Chg P e w w' := by
  intro b c t f hb hc
  rw [hg.block b (Array.getElem?_eq_some_iff.1 hb).1 fun hv => ?_]
  · exact hb
  · rcases hc with ht | ⟨o, u, hu, hp⟩
    · obtain ⟨_, ⟨rfl, _⟩ | ⟨g, cap, cur, rfl, _, hgg, _⟩⟩ := h.own
      · simp [Value.ownBlock] at hv
      · obtain rfl : b = g := by simpa [Value.ownBlock] using hv
        rw [hgg] at hb
        simp at hb
        exact ht hb.2.1.symm
    · exact hp (h.kinds b hv.symm o u (block_cell hb hu))
theorem OwnK.slice {P : Value → Prop} {w : World} {base size n : Nat} {e : TypeId} {v : Value} {xs : List Value} (h : OwnK P w base e size v n xs) : ∃ a c, v = .slice a n c := by
  obtain ⟨_, ⟨rfl, rfl⟩ | ⟨g, cap, cur, rfl, _⟩⟩ := h.own
  · exact ⟨_, _, rfl⟩
  · exact ⟨_, _, rfl⟩
theorem zero_kinds {P : Value → Prop} {z : Array Value} {n : Nat} (hz : ∀ u ∈ z.toList, P u) (hs : 0 < z.size) : ∀ u ∈ (Builtin.zeroCells z n).toList, P u := by
  intro u hu
  simp only [Builtin.zeroCells, Array.toList_map, List.mem_map] at hu
  obtain ⟨i, _, rfl⟩ := hu
  have hi : i % z.size < z.size := Nat.mod_lt _ hs
  rw [getElem!_pos z (i % z.size) hi]
  exact hz _ (by simp)
theorem new_kinds {P : Value → Prop} {w : World} {cs : Array Value} {e : TypeId} (h : ∀ u ∈ cs.toList, P u) : ∀ g, some w.heap.size = some g → ∀ o u, (w.alloc (.cells cs e)).cell? ⟨g, o, none⟩ = some u → P u := by
  intro g hg o u hu
  obtain rfl : w.heap.size = g := by simpa using hg
  have : cs[o]? = some u := by rw [new_cell rfl] at hu; exact hu
  exact h u (by rw [← Array.mem_def]; exact Array.mem_of_getElem? this)
theorem run_append_kinds {P : Program} (w : World) (base : Nat) (t ty e : TypeId) (i : TypeInfo) (z : Value) (size bytes : Nat) (ht : P.underlying t = some (.slice e)) (hi : P.info? e = some i) (hz : i.zero = some z)
    (hsize : i.size = size) (hby : i.bytes = bytes) (hzs : z.cells.size = size) (hsz : 0 < size) {K : Value → Prop} (hzk : ∀ u ∈ z.cells.toList, K u)
    (v : Value) (n : Nat) (xs : List Value) (hown : OwnK K w base e size v n xs)
    (a : Addr) (m c : Nat) (news : List Value) (hm : 0 < m) (hl : news.length = m * size) (hnews : ∀ j u, news[j]? = some u → w.cell? (a.add j) = some u) (h1 : ∀ u ∈ news, u.oneCell' = true) (hk : ∀ u ∈ news, K u)
    (h63 : n + m ≤ maxLen) (hbytes : (n + m) * bytes ≤ 140737488355328) (hbase : base ≤ w.heap.size) :
    ∃ v' w', (Builtin.append_ #[t, t] ty #[v, .slice (some a) m c]).run P w = .ok v' w' ∧ OwnK K w' base e size v' (n + m) (xs ++ news) ∧ w.grownBy w' v.ownBlock := by
  obtain ⟨v', w', hr, ho, hg, _⟩ := run_append_own (P := P) w base t ty e i z size bytes ht hi hz hsize hby hzs hsz v n xs hown.own a m c news hl hnews h1 h63 hbytes hbase
  refine ⟨v', w', hr, ⟨ho, ?_⟩, hg⟩
  subst hsize hby
  have hsmall : n + m ≤ 9223372036854775807 := by simp only [maxLen] at h63; omega
  have hkx := hown.kinds
  rcases hown.own with ⟨hxl, ⟨rfl, rfl⟩ | ⟨g, cap, cur, rfl, hbg, hgg, hnc, hcm, hcs, htake⟩⟩
  · have hr2 := run_append_nil (P := P) w t ty e i z ht hi hz a m c news hl hnews hm (by omega) (by simp only [Nat.zero_add] at hbytes; omega)
    rw [hr] at hr2
    obtain ⟨rfl, rfl⟩ : v' = _ ∧ w' = _ := by simpa using hr2
    refine new_kinds (w := w.drew) fun u hu => ?_
    rcases (by simpa using hu : u ∈ news ∨ u ∈ Builtin.zeroCells z.cells _) with h | h
    · exact hk u h
    · exact zero_kinds hzk (by omega) u (by simpa using h)
  · have hcell : ∀ o u, cur[o]? = some u → K u := fun o u hu => hkx g rfl o u (by simp [World.cell?, hgg, hu])
    by_cases hroom : n + m ≤ cap
    · have hfit : n * i.size + news.length ≤ cur.size := by rw [hl, hcs, ← Nat.add_mul]; exact Nat.mul_le_mul_right _ hroom
      have hr2 := run_append_room (P := P) w t ty e i ht hi g n cap cur hgg a m c news hl hnews h1 hroom hfit
      rw [hr] at hr2
      obtain ⟨rfl, rfl⟩ : v' = _ ∧ w' = _ := by simpa using hr2
      intro g' hg' o u hu
      obtain rfl : g = g' := by simpa [Value.ownBlock] using hg'
      rw [cell_of_row _ g o _ e _ (setRow_heap w g cur _ e _ hgg)] at hu
      have hm : u ∈ cur.toList.take (n * i.size) ++ news ++ cur.toList.drop (n * i.size + news.length) := by
        rw [List.append_assoc]
        exact List.mem_of_getElem? (List.getElem?_toArray ▸ hu)
      have hcl : ∀ u ∈ cur.toList, K u := fun u hu => by
        obtain ⟨o, ho⟩ := List.getElem?_of_mem hu
        exact hcell o u (by simpa using ho)
      simp only [List.mem_append] at hm
      rcases hm with (h | h) | h
      · exact hcl u (List.mem_of_mem_take h)
      · exact hk u h
      · exact hcl u (List.mem_of_mem_drop h)
    · have holds : ∀ j u, xs[j]? = some u → w.cell? ((⟨g, 0, none⟩ : Addr).add j) = some u := hown.own.cells (g := g) rfl
      have hr2 := run_append_grow (P := P) w t ty e i z ht hi hz ⟨g, 0, none⟩ n cap xs hxl holds a m c news hl hnews (by omega) (by omega) (growslice_fits (by omega) hbytes)
      rw [hr] at hr2
      obtain ⟨rfl, rfl⟩ : v' = _ ∧ w' = _ := by simpa using hr2
      refine new_kinds (w := w.drew) fun u hu => ?_
      rcases (by simpa [or_assoc] using hu : u ∈ xs ∨ u ∈ news ∨ u ∈ Builtin.zeroCells z.cells _) with h | h | h
      · rw [← htake] at h
        obtain ⟨o, ho⟩ := List.getElem?_of_mem (List.mem_of_mem_take h)
        exact hcell o u (by simpa using ho)
      · exact hk u h
      · exact zero_kinds hzk (by omega) u (by simpa using h)
theorem wpList_pushK {P : Program} {ops : Array Oper} {rest : List Oper} {o : Oper} {A : Act} {w w0 : World} {Q : Exit → Act → World → Prop} (hgd : o.guard = none) (s x : Operand) (T : TypeId)
    (ho : o.op = .call { callee := .builtin .append, args := #[s, x], argTypes := #[T, T] }) {e : TypeId} {z : Value} {size bytes : Nat} (ht : P.underlying T = some (.slice e)) (hinfo : (P.info? e).map (fun i => (i.zero, i.size, i.bytes)) = some (some z, size, bytes))
    (hzs : z.cells.size = size) (hsz : 0 < size) (hby : bytes ≤ 1000) {K : Value → Prop} (hzk : ∀ u ∈ z.cells.toList, K u) (base : Nat) (v : Value) {n : Nat} {xs : List Value} (hs : A.eval s = v) (hown : OwnK K w0 base e size v n xs)
    (news : List Value) (hl : news.length = size) (h1 : ∀ u ∈ news, u.oneCell' = true) (hk : ∀ u ∈ news, K u) (hx : A.eval x = .slice (some ⟨w0.heap.size, 0, none⟩) 1 1) (hw : w = w0.alloc (.cells news.toArray e)) (hn : n ≤ 100000000) (hbase : base ≤ w0.heap.size)
    (h : ∀ v' w', OwnK K w' base e size v' (n + 1) (xs ++ news) → Chg K e w w' → w.grownBy w' v.ownBlock → wpList P ops Q rest (A.put o.dst v') w') : wpList P ops Q (o :: rest) A w := by
  obtain ⟨i0, hi, hz0, hz1, hz2⟩ := info_parts hinfo
  subst hw
  have hown' := hown.later (below_new w0 (.cells news.toArray e))
  obtain ⟨v', w', hr, h2, h3⟩ := run_append_kinds (P := P) (w0.alloc (.cells news.toArray e)) base T o.type e i0 z size bytes ht hi hz0 hz1 hz2 hzs hsz hzk v n xs hown' ⟨w0.heap.size, 0, none⟩ 1 1 news (by decide) (by omega)
    (fun j u hu => by rw [show (⟨w0.heap.size, 0, none⟩ : Addr).add j = ⟨w0.heap.size, j, none⟩ by rcases j with _ | j <;> simp [Addr.add], new_cell rfl]; simpa using hu) h1 hk (by unfold maxLen; omega) (by have : (n + 1) * bytes ≤ (n + 1) * 1000 := Nat.mul_le_mul_left _ hby; omega) (by simp; omega)
  refine wpList_plain hgd fun _ hK => ?_
  unfold Oper.wp execOp
  simp only [ho, resolve, invoke, builtin, Sem.run_bind, Sem.run_pure, Result.andThen_ok, List.map_toArray, List.map_cons, List.map_nil, hs, hx, hr]
  exact hK _ _ (h v' w' h2 (hown'.chg h3) h3)
/-- A slice whose elements, of k cells each, read as the members of a list. -/
def Rows {α : Type} (k : Nat) (E : World → List Value → α → Prop) (w : World) (v : Value) (L : List α) : Prop :=
  ∃ a cap, v = .slice a L.length cap ∧ L.length ≤ cap ∧ cap ≤ maxLen ∧ (L = [] ∨ ∃ b o, a = some ⟨b, o, none⟩ ∧ ∀ i x, L[i]? = some x → ∃ cs, cs.length = k ∧ (∀ j u, cs[j]? = some u → w.cell? ⟨b, o + (i * k + j), none⟩ = some u) ∧ E w cs x)
/-- What is read of cells stays where other blocks change. -/
def Stays {α : Type} (K : Value → Prop) (e : TypeId) (E : World → List Value → α → Prop) : Prop := ∀ w w' cs x, E w cs x → Chg K e w w' → E w' cs x
theorem Rows.shape {α : Type} {k : Nat} {E : World → List Value → α → Prop} {w : World} {v : Value} {L : List α} (h : Rows k E w v L) : ∃ a c, v = .slice a L.length c := by obtain ⟨a, c, h, _⟩ := h; exact ⟨a, c, h⟩
theorem Rows.small {α : Type} {k : Nat} {E : World → List Value → α → Prop} {w : World} {v : Value} {L : List α} (h : Rows k E w v L) : L.length ≤ maxLen := by obtain ⟨a, c, _, h1, h2, _⟩ := h; omega
theorem Rows.len {α : Type} {k : Nat} {E : World → List Value → α → Prop} {w : World} {a : Option Addr} {n c : Nat} {L : List α} (h : Rows k E w (.slice a n c) L) : n = L.length := by obtain ⟨a', c', h, _⟩ := h; simp at h; exact h.2.1
theorem Rows.chg {α : Type} {k : Nat} {E : World → List Value → α → Prop} {K : Value → Prop} {e : TypeId} {w w' : World} {v : Value} {L : List α} (h : Rows k E w v L) (hE : Stays K e E) (hne : ∀ w cs x, E w cs x → ∃ u ∈ cs, ¬ K u) (hc : Chg K e w w') : Rows k E w' v L := by
  obtain ⟨a, cap, h1, h2, h3, h4⟩ := h
  refine ⟨a, cap, h1, h2, h3, ?_⟩
  rcases h4 with h4 | ⟨b, o, h4, h5⟩
  · exact Or.inl h4
  · refine Or.inr ⟨b, o, h4, fun i x hx => ?_⟩
    obtain ⟨cs, hl, hcs, he⟩ := h5 i x hx
    obtain ⟨u, hu, hK⟩ := hne _ _ _ he
    obtain ⟨j, hj⟩ := List.getElem?_of_mem hu
    exact ⟨cs, hl, fun j' u' hu' => hc.cells (hcs j' u' hu') (hcs j u hj) hK, hE _ _ _ _ he hc⟩
theorem Rows.later {α : Type} {k : Nat} {E : World → List Value → α → Prop} {K : Value → Prop} {e : TypeId} {w w' : World} {v : Value} {L : List α} (h : Rows k E w v L) (hE : Stays K e E) (hb : Below w.heap.size w w') : Rows k E w' v L := by
  obtain ⟨a, cap, h1, h2, h3, h4⟩ := h
  refine ⟨a, cap, h1, h2, h3, ?_⟩
  rcases h4 with h4 | ⟨b, o, h4, h5⟩
  · exact Or.inl h4
  · refine Or.inr ⟨b, o, h4, fun i x hx => ?_⟩
    obtain ⟨cs, hl, hcs, he⟩ := h5 i x hx
    exact ⟨cs, hl, fun j' u' hu' => cell_keep hb (hcs j' u' hu'), hE _ _ _ _ he (Chg.below hb)⟩
theorem Rows.at {α : Type} {k : Nat} {E : World → List Value → α → Prop} {w : World} {a : Option Addr} {n c i : Nat} {L : List α} {x : α} (h : Rows k E w (.slice a n c) L) (hx : L[i]? = some x) : ∃ b o, a = some ⟨b, o, none⟩ ∧ ∃ cs, cs.length = k ∧ (∀ j u, cs[j]? = some u → w.cell? ⟨b, o + (i * k + j), none⟩ = some u) ∧ E w cs x := by
  obtain ⟨a', cap, h1, h2, h3, h4⟩ := h
  simp at h1
  obtain ⟨rfl, rfl, rfl⟩ := h1
  rcases h4 with rfl | ⟨b, o, h4, h5⟩
  · simp at hx
  · exact ⟨b, o, h4, h5 i x hx⟩
/-- A row of one's own that reads as a list. -/
def OwnR {α : Type} (K : Value → Prop) (k : Nat) (E : World → List Value → α → Prop) (t : TypeId) (w : World) (base : Nat) (v : Value) (L : List α) : Prop :=
  ∃ xs, OwnK K w base t k v L.length xs ∧ ∀ i x, L[i]? = some x → ∃ cs, cs.length = k ∧ (∀ j u, cs[j]? = some u → xs[i * k + j]? = some u) ∧ E w cs x
theorem OwnR.nil {α : Type} (K : Value → Prop) (k : Nat) (E : World → List Value → α → Prop) (t : TypeId) (w : World) (base : Nat) : OwnR K k E t w base (.slice none 0 0) [] := ⟨[], OwnK.nil _ _ _ _ _, fun i x hx => by simp at hx⟩
theorem OwnR.later {α : Type} {K : Value → Prop} {k : Nat} {E : World → List Value → α → Prop} {t : TypeId} {w w' : World} {base : Nat} {v : Value} {L : List α} (h : OwnR K k E t w base v L) (hE : Stays K t E) (hb : Below w.heap.size w w') : OwnR K k E t w' base v L := by
  obtain ⟨xs, h1, h2⟩ := h
  refine ⟨xs, h1.later hb, fun i x hx => ?_⟩
  obtain ⟨cs, hl, hcs, he⟩ := h2 i x hx
  exact ⟨cs, hl, hcs, hE _ _ _ _ he (Chg.below hb)⟩
theorem OwnR.rows {α : Type} {K : Value → Prop} {k : Nat} {E : World → List Value → α → Prop} {t : TypeId} {w : World} {base : Nat} {v : Value} {L : List α} (h : OwnR K k E t w base v L) : Rows k E w v L := by
  obtain ⟨xs, h1, h2⟩ := h
  have hc := @World.ownsRow.cells _ _ _ _ _ _ _ h1.own
  obtain ⟨_, ⟨rfl, h3⟩ | ⟨g, cap, cur, rfl, _, _, h6, h7, _⟩⟩ := h1.own
  · exact ⟨none, 0, by rw [h3], by omega, by unfold maxLen; omega, Or.inl (List.eq_nil_of_length_eq_zero h3)⟩
  · refine ⟨_, cap, rfl, h6, h7, Or.inr ⟨g, 0, rfl, fun i x hx => ?_⟩⟩
    obtain ⟨cs, hl, hcs, he⟩ := h2 i x hx
    refine ⟨cs, hl, fun j u hu => ?_, he⟩
    have := hc (g := g) rfl _ _ (hcs j u hu)
    rw [show (⟨g, 0, none⟩ : Addr).add (i * k + j) = ⟨g, 0 + (i * k + j), none⟩ by unfold Addr.add; split <;> simp_all] at this
    exact this
theorem OwnR.slice {α : Type} {K : Value → Prop} {k : Nat} {E : World → List Value → α → Prop} {t : TypeId} {w : World} {base : Nat} {v : Value} {L : List α} (h : OwnR K k E t w base v L) : ∃ a c, v = .slice a L.length c := by obtain ⟨xs, h1, _⟩ := h; exact h1.slice
theorem OwnR.snoc {α : Type} {K : Value → Prop} {k : Nat} {E : World → List Value → α → Prop} {t : TypeId} {w w' : World} {base : Nat} {v v' : Value} {L : List α} {xs cs : List Value} {z : α} (hE : Stays K t E) (h1 : OwnK K w base t k v L.length xs) (h2 : ∀ i x, L[i]? = some x → ∃ cs, cs.length = k ∧ (∀ j u, cs[j]? = some u → xs[i * k + j]? = some u) ∧ E w cs x)
    (hz : E w cs z) (hl : cs.length = k) (hnew : OwnK K w' base t k v' (L.length + 1) (xs ++ cs)) (hc : Chg K t w w') : OwnR K k E t w' base v' (L ++ [z]) := by
  have hxl : xs.length = L.length * k := h1.own.1
  refine ⟨xs ++ cs, by rw [List.length_append, List.length_singleton]; exact hnew, fun i x hx => ?_⟩
  rcases Nat.lt_or_ge i L.length with hlt | hge
  · rw [List.getElem?_append_left hlt] at hx
    obtain ⟨ds, hdl, hds, he⟩ := h2 i x hx
    refine ⟨ds, hdl, fun j u hu => ?_, hE _ _ _ _ he hc⟩
    have h3 := hds j u hu
    rw [List.getElem?_append_left (List.getElem?_eq_some_iff.1 h3).1]
    exact h3
  · rw [List.getElem?_append_right hge] at hx
    have hi : i = L.length := by
      have := (List.getElem?_eq_some_iff.1 hx).1
      simp at this; omega
    subst hi
    simp at hx
    subst hx
    refine ⟨cs, hl, fun j u hu => ?_, hE _ _ _ _ hz hc⟩
    rw [List.getElem?_append_right (by omega), hxl, show L.length * k + j - L.length * k = j by omega]
    exact hu
theorem wpList_pushE {α : Type} {P : Program} {ops : Array Oper} {rest : List Oper} {o : Oper} {A : Act} {w w0 : World} {Q : Exit → Act → World → Prop} (hgd : o.guard = none) (s x : Operand) (T : TypeId)
    (ho : o.op = .call { callee := .builtin .append, args := #[s, x], argTypes := #[T, T] }) {e : TypeId} {z : Value} {k bytes : Nat} (ht : P.underlying T = some (.slice e)) (hinfo : (P.info? e).map (fun i => (i.zero, i.size, i.bytes)) = some (some z, k, bytes))
    (hzs : z.cells.size = k) (hsz : 0 < k) (hby : bytes ≤ 1000) {K : Value → Prop} (hzk : ∀ u ∈ z.cells.toList, K u) {E : World → List Value → α → Prop} (hE : Stays K e E) (base : Nat) (v : Value) {L : List α} (hs : A.eval s = v) (hown : OwnR K k E e w0 base v L)
    {y : α} (news : List Value) (hl : news.length = k) (h1 : ∀ u ∈ news, u.oneCell' = true) (hk : ∀ u ∈ news, K u) (hy : E w0 news y) (hx : A.eval x = .slice (some ⟨w0.heap.size, 0, none⟩) 1 1) (hw : w = w0.alloc (.cells news.toArray e)) (hn : L.length ≤ 100000000) (hbase : base ≤ w0.heap.size)
    (h : ∀ v' w', OwnR K k E e w' base v' (L ++ [y]) → Chg K e w w' → w.grownBy w' v.ownBlock → (∀ g, v.ownBlock = some g → base ≤ g) → wpList P ops Q rest (A.put o.dst v') w') : wpList P ops Q (o :: rest) A w := by
  obtain ⟨xs, hown, h2⟩ := hown
  have kn := below_new w0 (.cells news.toArray e)
  refine wpList_pushK hgd s x T ho ht hinfo hzs hsz hby hzk base v hs hown news hl h1 hk hx hw hn hbase fun v' w' h3 h4 h5 => ?_
  subst hw
  refine h v' w' (OwnR.snoc hE (hown.later kn) (fun i x hx => ?_) (hE _ _ _ _ hy (Chg.below kn)) hl h3 h4) h4 h5 (fun g hg => (hown.own.lt g hg).1)
  obtain ⟨cs, hl, hcs, he⟩ := h2 i x hx
  exact ⟨cs, hl, hcs, hE _ _ _ _ he (Chg.below kn)⟩
/-- A row in its cell. -/
def LE {α : Type} (k : Nat) (E : World → List Value → α → Prop) (w : World) (cs : List Value) (L : List α) : Prop := ∃ u, cs = [u] ∧ Rows k E w u L
theorem LE.stays {α : Type} {k : Nat} {E : World → List Value → α → Prop} {K : Value → Prop} {e : TypeId} (hE : Stays K e E) (hne : ∀ w cs x, E w cs x → ∃ u ∈ cs, ¬ K u) : Stays K e (LE k E) := fun _ _ _ _ ⟨u, h1, h2⟩ hc => ⟨u, h1, h2.chg hE hne hc⟩
/-- A row that lies at or above a place. -/
def Hi (lo : Nat) (v : Value) : Prop := ∀ b o n c, v = .slice (some ⟨b, o, none⟩) n c → lo ≤ b
theorem OwnR.hi {α : Type} {K : Value → Prop} {k : Nat} {E : World → List Value → α → Prop} {t : TypeId} {w : World} {base lo : Nat} {v : Value} {L : List α} (h : OwnR K k E t w base v L) (hlo : lo ≤ base) : Hi lo v := by
  obtain ⟨xs, h1, _⟩ := h
  intro b o n c e
  have := (h1.own.lt b (by rw [e]; rfl)).1
  omega
end Go.Proofs.YtgckgkllpkkpeaaDoor
