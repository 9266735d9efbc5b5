/-
 Walks over package matrix: exact.
 A region that draws its order, by an invariant: each operation once, whatever has come up before it.
 A region that draws its order, by facts: of each operation's value one that stays, whatever has come up before it.
 Walks over package matrix: parted.
-/
import Derived.Test.YtkifiolkfdicoaaGreatDoorMQG
import Derived.Test.YtkifiolkfdicoaaGreatDoorMK4
import Derived.Orders
import Derived.RegionTactic
namespace Go.Proofs.YtkifiolkfdicoaaGreatDoor
open Go.RowKit
theorem exact_is {z o q q' r : Int} (_ho : o ≠ 0) (hq : q * o = z) (h : q' * o + r = z) (r0 : 0 ≤ r) (r1 : r < iabs o) : q' = q := by
 have h1 : (q - q') * o = r := by rw [Int.sub_mul]; omega
 rcases Int.lt_or_le (q - q') 1 with h2 | h2
 · rcases Int.lt_or_le (-1) (q - q') with h3 | h3
   · omega
   · exfalso
     unfold iabs at r1
     split at r1
     · have : (q - q') * o ≥ (-1) * o := Int.mul_le_mul_of_nonpos_right h3 (by omega)
       omega
     · have : (q - q') * o ≤ (-1) * o := Int.mul_le_mul_of_nonneg_right h3 (by omega)
       omega
 · exfalso
   unfold iabs at r1
   split at r1
   · have : (q - q') * o ≤ 1 * o := Int.mul_le_mul_of_nonpos_right h2 (by omega)
     omega
   · have : 1 * o ≤ (q - q') * o := Int.mul_le_mul_of_nonneg_right h2 (by omega)
     omega
structure XK (w : World) (N : Nat) (z o : Int) (x1 : Int) (x2 : Option Addr) (x3 x4 : Nat) (y1 : Int) (y2 : Option Addr) (y3 y4 : Nat) (wr : World) : Prop where
 below : Below w.heap.size w wr
 z : Vr wr w.heap.size x1 x2 x3 x4 N z
 o : Vr wr (w.heap.size + 1) y1 y2 y3 y4 N o
 ret : Box wr (w.heap.size + 1 + 1)
theorem XK.keep {w w1 w2 : World} {N : Nat} {z o x1 y1 : Int} {x2 y2 : Option Addr} {x3 x4 y3 y4 : Nat} (h : XK w N z o x1 x2 x3 x4 y1 y2 y3 y4 w1) (hb : Below w1.heap.size w1 w2) : XK w N z o x1 x2 x3 x4 y1 y2 y3 y4 w2 := ⟨below_keep hb h.below, h.z.keep hb, h.o.keep hb, h.ret.later hb⟩
theorem XK.start {w : World} {N : Nat} {z o x1 y1 : Int} {x2 y2 : Option Addr} {x3 x4 y3 y4 : Nat} (h : Zr N w (.agg #[.int .i64 x1, .slice x2 x3 x4]) z) (h' : Zr N w (.agg #[.int .i64 y1, .slice y2 y3 y4]) o) : XK w N z o x1 x2 x3 x4 y1 y2 y3 y4 (((w.alloc (.cells #[.int .i64 x1, .slice x2 x3 x4] 31)).alloc (.cells #[.int .i64 y1, .slice y2 y3 y4] 31)).alloc (.cells #[.int .i64 0, .slice none 0 0] 31)) := by
 have k1 := below_new w (.cells #[.int .i64 x1, .slice x2 x3 x4] 31)
 have k2 := below_new (w.alloc (.cells #[.int .i64 x1, .slice x2 x3 x4] 31)) (.cells #[.int .i64 y1, .slice y2 y3 y4] 31)
 have k3 := below_new ((w.alloc (.cells #[.int .i64 x1, .slice x2 x3 x4] 31)).alloc (.cells #[.int .i64 y1, .slice y2 y3 y4] 31)) (.cells #[.int .i64 0, .slice none 0 0] 31)
 have q1 := ((Vr.new h).keep k2).keep k3
 have q2 := (Vr.new (h'.later k1)).keep k3
 have q3 := box_new ((w.alloc (.cells #[.int .i64 x1, .slice x2 x3 x4] 31)).alloc (.cells #[.int .i64 y1, .slice y2 y3 y4] 31))
 rw [show (w.alloc (.cells #[.int .i64 x1, .slice x2 x3 x4] 31)).heap.size = w.heap.size + 1 by simp] at q2
 rw [show ((w.alloc (.cells #[.int .i64 x1, .slice x2 x3 x4] 31)).alloc (.cells #[.int .i64 y1, .slice y2 y3 y4] 31)).heap.size = w.heap.size + 1 + 1 by simp] at q3
 exact ⟨below_keep k3 (below_keep k2 k1), q1, q2, q3⟩
set_option maxHeartbeats 4000000 in
set_option maxRecDepth 8000 in
theorem exact_any {N : Nat} {v u : Value} {z o q : Int} (w : World) (hz : Zr (N + 1) w v z) (ho : Zr (N + 1) w u o) (ho0 : o ≠ 0) (hq : q * o = z) (hN : N ≤ 700000) :
   Calls Tryz.prog 208 #[v, u] w fun e w' => (∃ v, e = .returned v ∧ Zr (N + 3) w' v q) ∧ Below w.heap.size w w' := by
 obtain ⟨x1, x2, x3, x4, rfl⟩ := hz.shape
 obtain ⟨y1, y2, y3, y4, rfl⟩ := ho.shape
 have HK := hide (XK.start hz ho)
 have HQ := hide hq
 clear hz ho hq
 go_enter Tryz.func208, Tryz.ntmps208
 go_wp2_with fail
 obtain ⟨W0, hW0⟩ : ∃ W0, W0 = ((w.alloc (.cells #[.int .i64 x1, .slice x2 x3 x4] 31)).alloc (.cells #[.int .i64 y1, .slice y2 y3 y4] 31)).alloc (.cells #[.int .i64 0, .slice none 0 0] 31) := ⟨_, rfl⟩
 rw [← hW0] at HK ⊢
 clear hW0
 have c0 := (unhide HK).z.c0
 have c1 := (unhide HK).z.c1
 have d0 := (unhide HK).o.c0
 have d1 := (unhide HK).o.c1
 go_wp2_with fail
 go_fit (divMod_any (N := N) _ (unhide HK).z.zr (unhide HK).o.zr hN)
 rintro e W1 ⟨hd, hb⟩
 rcases hd with ⟨h, _⟩ | ⟨_, vq, vr, q', r, rfl, hq', hr, e5, r0, r1⟩
 · exact absurd h ho0
 obtain rfl := exact_is ho0 (unhide HQ) e5 r0 r1
 obtain ⟨a1, a2, a3, a4, rfl⟩ := hq'.shape
 obtain ⟨b1, b2, b3, b4, rfl⟩ := hr.shape
 have k1 := below_new W1 (.cells #[.int .i64 a1, .slice a2 a3 a4] 31)
 have k2 := below_new (W1.alloc (.cells #[.int .i64 a1, .slice a2 a3 a4] 31)) (.cells #[.int .i64 b1, .slice b2 b3 b4] 31)
 have HK := hide ((((unhide HK).keep hb).keep k1).keep k2)
 have HV := hide ((Vr.new hq').keep k2)
 clear hb k1 k2 hq' hr e5 r0 r1 c0 c1 d0 d1
 have c0 := (unhide HV).c0
 have c1 := (unhide HV).c1
 obtain ⟨⟨x0, g0⟩, ⟨a0, n0, c0', g1⟩, gf⟩ := (unhide HK).ret.cells
 have hlt := (unhide HK).o.lt
 go_wp2
 obtain ⟨st0, st1⟩ := (unhide HK).ret.stored (.int .i64 a1) (.slice a2 a3 a4)
 exact bodyPost_ret (v := .agg #[.int .i64 a1, .slice a2 a3 a4]) (by simp [results, Tryz.results208, go_sem, st0, st1]) rfl ⟨⟨_, rfl, (unhide HV).zr.stored (unhide HK).ret _ _⟩, below_stored (unhide HK).below (by omega) _ _⟩
theorem RB.lt {N : Nat} {wr : World} {b : Nat} {x1 : Int} {x2 : Option Addr} {x3 x4 : Nat} {x5 : Int} {x6 : Option Addr} {x7 x8 : Nat} {P D : Int} (h : RB N wr b x1 x2 x3 x4 x5 x6 x7 x8 P D) : b < wr.heap.size := World.block_lt_of_cell? wr _ h.c.1
theorem OfP.good {N : Nat} {z o : Int} {e : Ending} {w' : World} (h : OfP N z o e w') (ho : o ≠ 0) : ∃ v p d, e = .returned (.tuple #[v, .bool true]) ∧ Rr N w' v p d ∧ p * o = z * d := by
 rcases h with ⟨h, _⟩ | ⟨_, h⟩
 · exact absurd h ho
 · exact h
open Go
theorem left_less (p p' : Nat → Bool) (i : Nat) (hp : p i = true) (hp' : p' i = false) (hle : ∀ j, p' j = true → p j = true) : ∀ l : List Nat, (l.filter p').length ≤ (l.filter p).length ∧ (i ∈ l → (l.filter p').length < (l.filter p).length)
 | [] => ⟨Nat.le_refl _, fun h => by cases h⟩
 | x :: l => by
   obtain ⟨h1, h2⟩ := left_less p p' i hp hp' hle l
   by_cases hx : p x = true
   · by_cases hx' : p' x = true
     · rw [List.filter_cons_of_pos hx, List.filter_cons_of_pos hx']
       refine ⟨Nat.succ_le_succ h1, fun hm => Nat.succ_lt_succ (h2 ?_)⟩
       rcases List.mem_cons.1 hm with e | e
       · rw [e, hx'] at hp'; cases hp'
       · exact e
     · rw [List.filter_cons_of_pos hx, List.filter_cons_of_neg hx']
       exact ⟨Nat.le_succ_of_le h1, fun _ => Nat.lt_succ_of_le h1⟩
   · have hx' : ¬ p' x = true := fun h => hx (hle x h)
     rw [List.filter_cons_of_neg hx, List.filter_cons_of_neg hx']
     refine ⟨h1, fun hm => h2 ?_⟩
     rcases List.mem_cons.1 hm with e | e
     · rw [e] at hp; exact absurd hp hx
     · exact e
theorem getD_set (listed : Array Bool) (i j : Nat) (hi : i < listed.size) : (listed.setIfInBounds i true).getD j false = if j = i then true else listed.getD j false := by
 by_cases h : j = i
 · subst h
   simp [hi]
 · simp [h, Ne.symm h]
theorem getD_true (listed : Array Bool) (j : Nat) (h : listed.getD j true = false) : j < listed.size ∧ listed.getD j false = false := by
 rcases Nat.lt_or_ge j listed.size with h' | h'
 · refine ⟨h', ?_⟩
   simp [h'] at h ⊢
   exact h
 · simp [h'] at h
theorem getD_same (listed : Array Bool) (j : Nat) (hj : j < listed.size) (h : listed.getD j false = false) : listed.getD j true = false := by
 simp [hj] at h ⊢
 exact h
theorem wp_region_inv {P : Program} {ops : Array Oper} {Q : Exit → Act → World → Prop} {id : Nat} {a : Act} {w : World} (hm : P.follows .mixedOrders = true)
   (hord : ∀ i o, ops[i]? = some o → ∀ e ∈ o.after, Region.binds .any e = true → e.on < i) (Inv : (Nat → Bool) → Act → World → Prop) (h0 : Inv (fun _ => false) a w.drew)
   (step : ∀ L a w i o, Inv L a w → L i = false → ops[i]? = some o → (∀ e ∈ o.after, Region.binds .any e = true → L e.on = true) → wpOp P ops Q i (fun a' w' => Inv (fun j => if j = i then true else L j) a' w') a w)
   (fin : ∀ L a w, Inv L a w → (∀ i, i < ops.size → L i = true) → Q .normal a w) : (Code.region id ops true).wp P Q a w := by
 have key : ∀ (fuel : Nat) (listed : Array Bool) (a : Act) (w : World), listed.size = ops.size → ((List.range ops.size).filter fun j => !listed.getD j false).length ≤ fuel → Inv (fun j => listed.getD j false) a w → wpAny P .any ops Q fuel listed a w := by
   intro fuel
   induction fuel with
   | zero =>
     intro listed a w hs hc hI
     have hall : ∀ i, i < ops.size → listed.getD i false = true := by
       intro i hi
       have hnil := List.eq_nil_of_length_eq_zero (Nat.le_zero.1 hc)
       cases hb : listed.getD i false with
       | true => rfl
       | false =>
         have hmem : i ∈ (List.range ops.size).filter fun j => !listed.getD j false := List.mem_filter.2 ⟨List.mem_range.2 hi, by rw [hb]; rfl⟩
         rw [hnil] at hmem
         cases hmem
     refine ⟨?_, fin _ _ _ hI hall⟩
     apply List.eq_nil_iff_forall_not_mem.2
     intro i hi
     obtain ⟨h1, h2⟩ := getD_true _ _ (mem_ready.1 hi).1
     rw [hall i (hs ▸ h1)] at h2
     cases h2
   | succ fuel ih =>
     intro listed a w hs hc hI
     refine ⟨fun hr => fin _ _ _ hI ?_, fun i hi => ?_⟩
     · intro i
       induction i using Nat.strongRecOn with
       | _ i ihi =>
         intro hi
         cases hb : listed.getD i false with
         | true => rfl
         | false =>
           have ho : ops[i]? = some ops[i] := Array.getElem?_eq_getElem hi
           have : i ∈ Region.ready .any ops listed := mem_ready.2 ⟨getD_same _ _ (hs ▸ hi) hb, ops[i], ho, fun e he hbd => ihi e.on (hord i _ ho e he hbd) (Nat.lt_trans (hord i _ ho e he hbd) hi)⟩
           rw [hr] at this
           cases this
     · obtain ⟨hl, o, ho, hd⟩ := mem_ready.1 hi
       obtain ⟨h1, h2⟩ := getD_true _ _ hl
       refine wpOp_mono ?_ (step _ _ _ i o hI h2 ho hd)
       intro a' w' hI'
       have hfun : (fun j => if j = i then true else listed.getD j false) = fun j => (listed.setIfInBounds i true).getD j false := funext fun j => (getD_set listed i j h1).symm
       rw [hfun] at hI'
       refine ih _ _ _ (by simp [hs]) ?_ hI'
       have hlt := (left_less (fun j => !listed.getD j false) (fun j => !(listed.setIfInBounds i true).getD j false) i (by simp only [h2]; rfl) (by show (!(listed.setIfInBounds i true).getD i false) = false; rw [getD_set _ _ _ h1, if_pos rfl]; rfl) (fun j hj => by
         simp only [getD_set _ _ _ h1] at hj
         by_cases hji : j = i
         · rw [if_pos hji] at hj; cases hj
         · rw [if_neg hji] at hj; exact hj) (List.range ops.size)).2 (List.mem_range.2 (hs ▸ h1))
       omega
 refine wp_region_any hm (key _ _ _ _ (by simp) ?_ ?_)
 · exact Nat.le_trans (List.length_filter_le _ _) (by simp)
 · have hfun : (fun j => (Array.replicate ops.size false).getD j false) = fun _ => false := funext fun j => by
     rcases Nat.lt_or_ge j ops.size with h | h <;> simp [h]
   rw [hfun]
   exact h0
def edgesBack (ops : Array Oper) : Bool := (List.range ops.size).all fun i => ((ops[i]?).map fun o => o.after.all fun e => !Region.binds .any e || decide (e.on < i)).getD true
theorem edgesBack_spec {ops : Array Oper} (h : edgesBack ops = true) : ∀ i o, ops[i]? = some o → ∀ e ∈ o.after, Region.binds .any e = true → e.on < i := by
 intro i o ho e he hb
 have hi := (Array.getElem?_eq_some_iff.1 ho).1
 have h1 := List.all_eq_true.1 h i (List.mem_range.2 hi)
 rw [ho] at h1
 have h2 := Array.all_eq_true_iff_forall_mem.1 (show o.after.all _ = true from h1) e he
 rw [hb] at h2
 simpa using h2
theorem wp_region_inv_at {P : Program} {ops : Array Oper} {Q : Exit → Act → World → Prop} {id : Nat} {a : Act} {w : World} (hm : P.follows .mixedOrders = true)
   (hord : edgesBack ops = true) (Inv : Act → (Nat → Bool) → Act → World → Prop) (h0 : Inv a (fun _ => false) a w.drew)
   (step : ∀ L a1 w1 i o, Inv a L a1 w1 → L i = false → ops[i]? = some o → (∀ e ∈ o.after, Region.binds .any e = true → L e.on = true) → wpOp P ops Q i (fun a' w' => Inv a (fun j => if j = i then true else L j) a' w') a1 w1)
   (fin : ∀ L a1 w1, Inv a L a1 w1 → (∀ i, i < ops.size → L i = true) → Q .normal a1 w1) : (Code.region id ops true).wp P Q a w :=
 wp_region_inv hm (edgesBack_spec hord) (Inv a) h0 step fin
def frameOf : List (Option Tmp) → Nat → Act → (Nat → Value) → Act
 | [], _, a, _ => a
 | d :: ds, i, a, vals => frameOf ds (i + 1) (a.put d (vals i)) vals
theorem frameOf_congr : ∀ (ds : List (Option Tmp)) (k : Nat) (a : Act) (v v' : Nat → Value), (∀ j, k ≤ j → v j = v' j) → frameOf ds k a v = frameOf ds k a v'
 | [], _, _, _, _, _ => rfl
 | d :: ds, k, a, v, v', h => by
   rw [frameOf, frameOf, h k (Nat.le_refl _)]
   exact frameOf_congr ds (k + 1) _ v v' fun j hj => h j (by omega)
theorem put_put (a : Act) (d : Option Tmp) (u v : Value) : (a.put d u).put d v = a.put d v := by
 cases d with
 | none => rfl
 | some d => simp [Act.put]
theorem frameOf_out : ∀ (ds : List (Option Tmp)) (k : Nat) (a : Act) (vals : Nat → Value) (x : Option Tmp) (v : Value), (∀ d, x = some d → some d ∉ ds) → (frameOf ds k a vals).put x v = frameOf ds k (a.put x v) vals
 | [], _, _, _, _, _, _ => rfl
 | y :: ds, k, a, vals, x, v, h => by
   rw [frameOf, frameOf, frameOf_out ds (k + 1) _ vals x v (fun d hd hm => h d hd (List.mem_cons_of_mem _ hm)), Act.put_comm a v (vals k) (fun d hd hy => h d hd (by rw [hy]; exact List.mem_cons_self ..))]
theorem frameOf_put : ∀ (ds : List (Option Tmp)) (k i : Nat) (a : Act) (vals : Nat → Value) (x : Option Tmp) (v : Value), ds[i]? = some x → (∀ d j, x = some d → ds[j]? = some (some d) → j = i) → (frameOf ds k a vals).put x v = frameOf ds k a (fun j => if j = k + i then v else vals j)
 | [], _, _, _, _, _, _, h, _ => by simp at h
 | y :: ds, k, 0, a, vals, x, v, h, hd => by
   obtain rfl : y = x := by simpa using h
   rw [frameOf, frameOf, if_pos (by omega), frameOf_out ds (k + 1) _ vals y v (fun d hx hm => by
     obtain ⟨j, hj⟩ := List.getElem?_of_mem hm
     have := hd d (j + 1) hx (by simpa using hj)
     omega), put_put]
   exact frameOf_congr ds (k + 1) _ _ _ fun j hj => by rw [if_neg (by omega)]
 | y :: ds, k, i + 1, a, vals, x, v, h, hd => by
   rw [frameOf, frameOf, if_neg (by omega), frameOf_put ds (k + 1) i _ vals x v (by simpa using h) (fun d j hx hj => by have := hd d (j + 1) hx (by simpa using hj); omega)]
   exact frameOf_congr ds (k + 1) _ _ _ fun j hj => by rw [show k + 1 + i = k + (i + 1) by omega]
theorem put_own (a : Act) (d : Option Tmp) : ∃ v, a.put d v = a := by
 cases d with
 | none => exact ⟨undef, rfl⟩
 | some d =>
   refine ⟨a.tmps.getD d undef, ?_⟩
   have : a.tmps.setIfInBounds d (a.tmps.getD d undef) = a.tmps := by
     apply Array.ext_getElem?
     intro i
     rw [Array.getElem?_setIfInBounds]
     split
     · rename_i h
       subst h
       split
       · rename_i hlt; simp [hlt]
       · rename_i hlt; simp; omega
     · rfl
   cases a
   simp only [Act.put] at this ⊢
   rw [this]
theorem frameOf_own : ∀ (ds : List (Option Tmp)) (k : Nat) (a : Act), ∃ vals, frameOf ds k a vals = a
 | [], _, a => ⟨fun _ => undef, rfl⟩
 | d :: ds, k, a => by
   obtain ⟨v, hv⟩ := put_own a d
   obtain ⟨vals, h⟩ := frameOf_own ds (k + 1) a
   refine ⟨fun j => if j = k then v else vals j, ?_⟩
   rw [frameOf, if_pos rfl, hv, frameOf_congr ds (k + 1) a _ vals (fun j hj => by rw [if_neg (by omega)])]
   exact h
def apartDst (ops : Array Oper) : Bool := (List.range ops.size).all fun i => (List.range ops.size).all fun j => i == j || ((ops[i]?).bind (·.dst)).isNone || ((ops[i]?).bind (·.dst)) != ((ops[j]?).bind (·.dst))
theorem wp_region_facts {P : Program} {ops : Array Oper} {Q : Exit → Act → World → Prop} {id : Nat} {a : Act} {w : World} (hm : P.follows .mixedOrders = true)
   (hord : edgesBack ops = true) (hap : apartDst ops = true) (W : (Nat → Bool) → World → Prop) (F : Nat → Value → World → Prop) (h0 : W (fun _ => false) w.drew)
   (step : ∀ L vals w1 i o, W L w1 → (∀ j, L j = true → F j (vals j) w1) → L i = false → ops[i]? = some o → (∀ e ∈ o.after, Region.binds .any e = true → L e.on = true) →
     wpOp P ops Q i (fun a' w' => ∃ v, a' = (frameOf (ops.toList.map (·.dst)) 0 a vals).put o.dst v ∧ F i v w' ∧ W (fun j => if j = i then true else L j) w' ∧ ∀ j, L j = true → F j (vals j) w') (frameOf (ops.toList.map (·.dst)) 0 a vals) w1)
   (fin : ∀ L vals w1, W L w1 → (∀ i, i < ops.size → L i = true ∧ F i (vals i) w1) → Q .normal (frameOf (ops.toList.map (·.dst)) 0 a vals) w1) : (Code.region id ops true).wp P Q a w := by
 refine wp_region_inv_at hm hord (fun a L a1 w1 => ∃ vals, a1 = frameOf (ops.toList.map (·.dst)) 0 a vals ∧ W L w1 ∧ ∀ j, L j = true → F j (vals j) w1) ?_ ?_ ?_
 · obtain ⟨vals, h⟩ := frameOf_own (ops.toList.map (·.dst)) 0 a
   exact ⟨vals, h.symm, h0, fun j hj => by cases hj⟩
 · rintro L a1 w1 i o ⟨vals, rfl, hW, hF⟩ hL ho hd
   refine wpOp_mono ?_ (step L vals w1 i o hW hF hL ho hd)
   rintro a' w' ⟨v, rfl, hv, hW', hF'⟩
   refine ⟨fun j => if j = i then v else vals j, ?_, hW', fun j hj => ?_⟩
   · have hi := (Array.getElem?_eq_some_iff.1 ho).1
     rw [frameOf_put _ 0 i a vals o.dst v (by simp [ho]) (fun d j hx hj => ?_), Nat.zero_add]
     rcases Nat.decEq i j with hij | hij
     · exfalso
       have hj' : j < ops.size := by have := (List.getElem?_eq_some_iff.1 hj).1; simpa using this
       have h1 := List.all_eq_true.1 (List.all_eq_true.1 hap i (List.mem_range.2 hi)) j (List.mem_range.2 hj')
       have e1 : (ops[i]?).bind (·.dst) = some d := by rw [ho]; exact hx
       have e2 : (ops[j]?).bind (·.dst) = some d := by
         simp [hj'] at hj ⊢
         exact hj
       rw [e1, e2] at h1
       simp [hij] at h1
     · exact hij.symm
   · by_cases hji : j = i
     · subst hji; simp; exact hv
     · simp only [if_neg hji] at hj ⊢; exact hF' j hj
 · rintro L a1 w1 ⟨vals, rfl, hW, hF⟩ hall
   exact fin L vals w1 hW fun i hi => ⟨hall i hi, hF i (hall i hi)⟩
structure PK (A : Nat → Addr) (w : World) (N : Nat) (z p d : Int) (x1 : Int) (x2 : Option Addr) (x3 x4 : Nat) (y1 : Int) (y2 : Option Addr) (y3 y4 : Nat) (y5 : Int) (y6 : Option Addr) (y7 y8 : Nat) (wr : World) : Prop where
 below : Below w.heap.size w wr
 env : Env A wr
 z : Vr wr w.heap.size x1 x2 x3 x4 N z
 r : RB N wr (w.heap.size + 1) y1 y2 y3 y4 y5 y6 y7 y8 p d
 ret : RBox wr (w.heap.size + 1 + 1)
theorem PK.keep {A : Nat → Addr} {w w1 w2 : World} {N : Nat} {z p d x1 y1 y5 : Int} {x2 y2 y6 : Option Addr} {x3 x4 y3 y4 y7 y8 : Nat} (h : PK A w N z p d x1 x2 x3 x4 y1 y2 y3 y4 y5 y6 y7 y8 w1) (hb : Below w1.heap.size w1 w2) : PK A w N z p d x1 x2 x3 x4 y1 y2 y3 y4 y5 y6 y7 y8 w2 := ⟨below_keep hb h.below, h.env.later hb, h.z.keep hb, h.r.keep hb, h.ret.later hb⟩
theorem PK.drew {A : Nat → Addr} {w w1 : World} {N : Nat} {z p d x1 y1 y5 : Int} {x2 y2 y6 : Option Addr} {x3 x4 y3 y4 y7 y8 : Nat} (h : PK A w N z p d x1 x2 x3 x4 y1 y2 y3 y4 y5 y6 y7 y8 w1) : PK A w N z p d x1 x2 x3 x4 y1 y2 y3 y4 y5 y6 y7 y8 w1.drew := ⟨h.below.drew, h.env.later (Below.refl _ _).drew, h.z.drew, h.r.drew, h.ret⟩
theorem PK.start {A : Nat → Addr} {w : World} {N : Nat} {z p d x1 y1 y5 : Int} {x2 y2 y6 : Option Addr} {x3 x4 y3 y4 y7 y8 : Nat} (hA : Env A w) (h : Zr N w (.agg #[.int .i64 x1, .slice x2 x3 x4]) z) (h' : Rr N w (.agg #[.int .i64 y1, .slice y2 y3 y4, .int .i64 y5, .slice y6 y7 y8]) p d) : PK A w N z p d x1 x2 x3 x4 y1 y2 y3 y4 y5 y6 y7 y8 (((w.alloc (.cells #[.int .i64 x1, .slice x2 x3 x4] 31)).alloc (.cells #[.int .i64 y1, .slice y2 y3 y4, .int .i64 y5, .slice y6 y7 y8] 52)).alloc (.cells #[.int .i64 0, .slice none 0 0, .int .i64 0, .slice none 0 0] 52)) := by
 have k1 := below_new w (.cells #[.int .i64 x1, .slice x2 x3 x4] 31)
 have k2 := below_new (w.alloc (.cells #[.int .i64 x1, .slice x2 x3 x4] 31)) (.cells #[.int .i64 y1, .slice y2 y3 y4, .int .i64 y5, .slice y6 y7 y8] 52)
 have k3 := below_new ((w.alloc (.cells #[.int .i64 x1, .slice x2 x3 x4] 31)).alloc (.cells #[.int .i64 y1, .slice y2 y3 y4, .int .i64 y5, .slice y6 y7 y8] 52)) (.cells #[.int .i64 0, .slice none 0 0, .int .i64 0, .slice none 0 0] 52)
 have q1 := ((Vr.new h).keep k2).keep k3
 have q2 := (RB.new (h'.later k1)).keep k3
 have q3 := rbox_new ((w.alloc (.cells #[.int .i64 x1, .slice x2 x3 x4] 31)).alloc (.cells #[.int .i64 y1, .slice y2 y3 y4, .int .i64 y5, .slice y6 y7 y8] 52)) 0 none 0 0 0 none 0 0
 rw [show (w.alloc (.cells #[.int .i64 x1, .slice x2 x3 x4] 31)).heap.size = w.heap.size + 1 by simp] at q2
 rw [show ((w.alloc (.cells #[.int .i64 x1, .slice x2 x3 x4] 31)).alloc (.cells #[.int .i64 y1, .slice y2 y3 y4, .int .i64 y5, .slice y6 y7 y8] 52)).heap.size = w.heap.size + 1 + 1 by simp] at q3
 exact ⟨below_keep k3 (below_keep k2 k1), ((hA.later k1).later k2).later k3, q1, q2, q3⟩
theorem PK.ps {A : Nat → Addr} {w w1 : World} {N : Nat} {z p d x1 y1 y5 : Int} {x2 y2 y6 : Option Addr} {x3 x4 y3 y4 y7 y8 : Nat} (h : PK A w N z p d x1 x2 x3 x4 y1 y2 y3 y4 y5 y6 y7 y8 w1) : w1.cell? ⟨w.heap.size, 0, none⟩ = some (.int .i64 x1) ∧ w1.cell? ⟨w.heap.size, 1, none⟩ = some (.slice x2 x3 x4) ∧ w1.cell? ⟨w.heap.size + 1, 0, none⟩ = some (.int .i64 y1) ∧ w1.cell? ⟨w.heap.size + 1, 1, none⟩ = some (.slice y2 y3 y4) ∧ w1.cell? ⟨w.heap.size + 1, 2, none⟩ = some (.int .i64 y5) ∧ w1.cell? ⟨w.heap.size + 1, 3, none⟩ = some (.slice y6 y7 y8) := ⟨h.z.c0, h.z.c1, h.r.c.1, h.r.c.2.1, h.r.c.2.2.1, h.r.c.2.2.2⟩
structure FinP (w : World) (M : Nat) (P D : Int) (q : Nat) (o1 : Int) (o2 : Option Addr) (o3 o4 : Nat) (o5 : Int) (o6 : Option Addr) (o7 o8 : Nat) (wr : World) : Prop where
 below : Below w.heap.size w wr
 r : RB M wr q o1 o2 o3 o4 o5 o6 o7 o8 P D
 ret : RBox wr (w.heap.size + 1 + 1)
theorem RBox.aside4 {w : World} {b q : Nat} (h : RBox w b) (hne : b ≠ q) (u0 u1 u2 u3 : Value) : RBox ((((w.setCell ⟨q, 0, none⟩ u0).setCell ⟨q, 1, none⟩ u1).setCell ⟨q, 2, none⟩ u2).setCell ⟨q, 3, none⟩ u3) b := by
 obtain ⟨x, a, n, c, y, b', m, k, h⟩ := h
 exact ⟨x, a, n, c, y, b', m, k, by rw [Below.heap_setCell _ _ _ _ hne, Below.heap_setCell _ _ _ _ hne, Below.heap_setCell _ _ _ _ hne, Below.heap_setCell _ _ _ _ hne]; exact h⟩
theorem PK.fin1 {A : Nat → Addr} {w w1 : World} {N M : Nat} {z p d x1 y1 y5 P D o1 o5 : Int} {x2 y2 y6 o2 o6 : Option Addr} {x3 x4 y3 y4 y7 y8 o3 o4 o7 o8 : Nat} (h : PK A w N z p d x1 x2 x3 x4 y1 y2 y3 y4 y5 y6 y7 y8 w1) (hR : Rr M w1 (.agg #[.int .i64 o1, .slice o2 o3 o4, .int .i64 o5, .slice o6 o7 o8]) P D) : FinP w M P D w1.heap.size o1 o2 o3 o4 o5 o6 o7 o8 (w1.alloc (.cells #[.int .i64 o1, .slice o2 o3 o4, .int .i64 o5, .slice o6 o7 o8] 52)) :=
 ⟨below_keep (below_new _ _) h.below, RB.new hR, h.ret.later (below_new _ _)⟩
theorem PK.fin2 {A : Nat → Addr} {w w1 : World} {N M q : Nat} {z p d x1 y1 y5 P D o1 o5 : Int} {x2 y2 y6 o2 o6 : Option Addr} {x3 x4 y3 y4 y7 y8 o3 o4 o7 o8 : Nat} (h : PK A w N z p d x1 x2 x3 x4 y1 y2 y3 y4 y5 y6 y7 y8 w1) (hb : RBox w1 q) (hq : w.heap.size + 1 + 1 < q) (hR : Rr M w1 (.agg #[.int .i64 o1, .slice o2 o3 o4, .int .i64 o5, .slice o6 o7 o8]) P D) : FinP w M P D q o1 o2 o3 o4 o5 o6 o7 o8 ((((w1.setCell ⟨q, 0, none⟩ (.int .i64 o1)).setCell ⟨q, 1, none⟩ (.slice o2 o3 o4)).setCell ⟨q, 2, none⟩ (.int .i64 o5)).setCell ⟨q, 3, none⟩ (.slice o6 o7 o8)) :=
 ⟨below_rstored h.below (by omega) _ _ _ _, ⟨hb.stored _ _ _ _, hR.rstored hb _ _ _ _⟩, h.ret.aside4 (by omega) _ _ _ _⟩
theorem PK.put {A : Nat → Addr} {w w1 : World} {N : Nat} {z p d x1 y1 y5 : Int} {x2 y2 y6 : Option Addr} {x3 x4 y3 y4 y7 y8 r : Nat} (h : PK A w N z p d x1 x2 x3 x4 y1 y2 y3 y4 y5 y6 y7 y8 w1) (_hr : RBox w1 r) (u0 u1 u2 u3 : Value) (hne : w.heap.size + 1 + 1 < r) :
   let w2 := (((w1.setCell ⟨r, 0, none⟩ u0).setCell ⟨r, 1, none⟩ u1).setCell ⟨r, 2, none⟩ u2).setCell ⟨r, 3, none⟩ u3
   w2.cell? ⟨w.heap.size, 0, none⟩ = some (.int .i64 x1) ∧ w2.cell? ⟨w.heap.size, 1, none⟩ = some (.slice x2 x3 x4) ∧ w2.cell? ⟨w.heap.size + 1, 0, none⟩ = some (.int .i64 y1) ∧ w2.cell? ⟨w.heap.size + 1, 1, none⟩ = some (.slice y2 y3 y4) ∧ w2.cell? ⟨w.heap.size + 1, 2, none⟩ = some (.int .i64 y5) ∧ w2.cell? ⟨w.heap.size + 1, 3, none⟩ = some (.slice y6 y7 y8) := by
 intro w2
 have hc : ∀ b o v, b ≠ r → w1.cell? ⟨b, o, none⟩ = some v → w2.cell? ⟨b, o, none⟩ = some v := fun b o v hb hv => by
   show (World.setCell _ _ _).cell? _ = _
   rw [cell?_setCell_ne _ _ _ _ _ _ (by omega), cell?_setCell_ne _ _ _ _ _ _ (by omega), cell?_setCell_ne _ _ _ _ _ _ (by omega), cell?_setCell_ne _ _ _ _ _ _ (by omega)]
   exact hv
 obtain ⟨k1, k2, k3, k4, k5, k6⟩ := h.ps
 exact ⟨hc _ _ _ (by omega) k1, hc _ _ _ (by omega) k2, hc _ _ _ (by omega) k3, hc _ _ _ (by omega) k4, hc _ _ _ (by omega) k5, hc _ _ _ (by omega) k6⟩
set_option maxHeartbeats 8000000 in
set_option maxRecDepth 8000 in
theorem parted_any {A : Nat → Addr} {N : Nat} {v u : Value} {z p d : Int} (w : World) (hA : Env A w) (hz : Zr (N + 1) w v z) (hr : Rr (N + 1) w u p d) (hp : p ≠ 0) (hN : N ≤ 40000) :
   Calls Tryz.prog 153 #[v, u] w fun e w' => (∃ v P D, e = .returned v ∧ Rr (2 * (N + 1 + N + 1) + 6) w' v P D ∧ P * p = (z * d) * D) ∧ Below w.heap.size w w' := by
 obtain ⟨x1, x2, x3, x4, rfl⟩ := hz.shape
 obtain ⟨y1, y2, y3, y4, y5, y6, y7, y8, rfl⟩ := hr.shape
 have HK := hide (PK.start hA hz hr)
 clear hz hr hA
 go_enter Tryz.func153, Tryz.ntmps153
 go_upto_region 1 with fail
 obtain ⟨W0, hW0⟩ : ∃ W0, W0 = ((w.alloc (.cells #[.int .i64 x1, .slice x2 x3 x4] 31)).alloc (.cells #[.int .i64 y1, .slice y2 y3 y4, .int .i64 y5, .slice y6 y7 y8] 52)).alloc (.cells #[.int .i64 0, .slice none 0 0, .int .i64 0, .slice none 0 0] 52) := ⟨_, rfl⟩
 rw [← hW0] at HK ⊢
 clear hW0
 have k0 := (unhide HK).z.lt
 have k1 := (unhide HK).r.lt
 have k2 := (unhide HK).ret.lt
 have HK0 := HK
 go_cut [5] (fun v5 wx => ∃ q o1 o2 o3 o4 o5 o6 o7 o8 P D, v5 = .pointer (some ⟨q, 0, none⟩) ∧ Hid (P * p = (z * d) * D) ∧ Hid (FinP w (2 * (N + 1 + N + 1) + 6) P D q o1 o2 o3 o4 o5 o6 o7 o8 wx))
 case first =>
   have HK := hide (unhide HK).drew
   go_region_held3 (fun w' => w'.cell? ⟨w.heap.size, 0, none⟩ = some (.int .i64 x1) ∧ w'.cell? ⟨w.heap.size, 1, none⟩ = some (.slice x2 x3 x4) ∧ w'.cell? ⟨w.heap.size + 1, 0, none⟩ = some (.int .i64 y1) ∧ w'.cell? ⟨w.heap.size + 1, 1, none⟩ = some (.slice y2 y3 y4) ∧ w'.cell? ⟨w.heap.size + 1, 2, none⟩ = some (.int .i64 y5) ∧ w'.cell? ⟨w.heap.size + 1, 3, none⟩ = some (.slice y6 y7 y8))
     (first | with_reducible exact (unhide HK).ps | with_reducible exact ((unhide HK).keep (below_new _ _)).ps | with_reducible exact (((unhide HK0).keep (below_new _ _)).drew).ps | with_reducible exact PK.put (unhide HK) hbx _ _ _ _ (by omega))
     (first
       | (go_at_call 38; (first | go_fit (den_any (N := N + 1) _ (unhide HK).r.r) | go_fit (den_any (N := N + 1) _ ((unhide HK).keep (below_new _ _)).r.r) | go_fit (den_any (N := N + 1) _ ((unhide HK0).keep (below_new _ _)).drew.r.r)); rintro e9 Y1 ⟨⟨vd, rfl, hD⟩, hb⟩; obtain ⟨i1, i2, i3, i4, rfl⟩ := hD.shape; (try have hNm : Zr _ Y1 _ _ := (by first | exact hNm.later hb | exact (hNm.later (below_new _ _)).later hb)); (try have hM : Zr _ Y1 _ _ := (by first | exact hM.later hb | exact (hM.later (below_new _ _)).later hb)); (first | (have HK := hide ((unhide HK).keep hb); try have hbx := hbx.later hb) | (have HK := hide (((unhide HK).keep (below_new _ _)).keep hb); have hbx := (rbox_new _ 0 none 0 0 0 none 0 0).later hb) | (have HK := hide ((((unhide HK0).keep (below_new _ _)).drew).keep hb); have hbx := (show RBox (W0.alloc (.cells #[.int .i64 0, .slice none 0 0, .int .i64 0, .slice none 0 0] 52)).drew W0.heap.size from rbox_new W0 0 none 0 0 0 none 0 0).later hb)); have l0 := (unhide HK).z.lt; have l1 := (unhide HK).r.lt; have l2 := (unhide HK).ret.lt; (try (obtain ⟨⟨g0, h0⟩, ⟨g1, g2, g3, h1⟩, ⟨g4, h2⟩, ⟨g5, g6, g7, h3⟩, gf⟩ := hbx.cells; have hxlt := hbx.lt)); clear hb)
       | (go_at_call 17; (first | go_fit (mul_any (N := N) _ (unhide HK).z.zr hD (by omega)) | go_fit (mul_any (N := N) _ ((unhide HK).keep (below_new _ _)).z.zr (hD.later (below_new _ _)) (by omega))); rintro e9 Y2 ⟨⟨vm, rfl, hM⟩, hb⟩; obtain ⟨j1, j2, j3, j4, rfl⟩ := hM.shape; (try have hNm : Zr _ Y2 _ _ := (by first | exact hNm.later hb | exact (hNm.later (below_new _ _)).later hb)); (try have hD : Zr _ Y2 _ _ := (by first | exact hD.later hb | exact (hD.later (below_new _ _)).later hb)); (first | (have HK := hide ((unhide HK).keep hb); try have hbx := hbx.later hb) | (have HK := hide (((unhide HK).keep (below_new _ _)).keep hb); have hbx := (rbox_new _ 0 none 0 0 0 none 0 0).later hb) | (have HK := hide ((((unhide HK0).keep (below_new _ _)).drew).keep hb); have hbx := (show RBox (W0.alloc (.cells #[.int .i64 0, .slice none 0 0, .int .i64 0, .slice none 0 0] 52)).drew W0.heap.size from rbox_new W0 0 none 0 0 0 none 0 0).later hb)); have l0 := (unhide HK).z.lt; have l1 := (unhide HK).r.lt; have l2 := (unhide HK).ret.lt; (try (obtain ⟨⟨g0, h0⟩, ⟨g1, g2, g3, h1⟩, ⟨g4, h2⟩, ⟨g5, g6, g7, h3⟩, gf⟩ := hbx.cells; have hxlt := hbx.lt)); clear hb)
       | (go_at_call 37; (first | go_fit (num_any (N := N + 1) _ (unhide HK).r.r) | go_fit (num_any (N := N + 1) _ ((unhide HK).keep (below_new _ _)).r.r) | go_fit (num_any (N := N + 1) _ ((unhide HK0).keep (below_new _ _)).drew.r.r)); rintro e9 Y3 ⟨⟨vn, rfl, hNm⟩, hb⟩; obtain ⟨k1, k2, k3, k4, rfl⟩ := hNm.shape; (try have hD : Zr _ Y3 _ _ := (by first | exact hD.later hb | exact (hD.later (below_new _ _)).later hb)); (try have hM : Zr _ Y3 _ _ := (by first | exact hM.later hb | exact (hM.later (below_new _ _)).later hb)); (first | (have HK := hide ((unhide HK).keep hb); try have hbx := hbx.later hb) | (have HK := hide (((unhide HK).keep (below_new _ _)).keep hb); have hbx := (rbox_new _ 0 none 0 0 0 none 0 0).later hb) | (have HK := hide ((((unhide HK0).keep (below_new _ _)).drew).keep hb); have hbx := (show RBox (W0.alloc (.cells #[.int .i64 0, .slice none 0 0, .int .i64 0, .slice none 0 0] 52)).drew W0.heap.size from rbox_new W0 0 none 0 0 0 none 0 0).later hb)); have l0 := (unhide HK).z.lt; have l1 := (unhide HK).r.lt; have l2 := (unhide HK).ret.lt; (try (obtain ⟨⟨g0, h0⟩, ⟨g1, g2, g3, h1⟩, ⟨g4, h2⟩, ⟨g5, g6, g7, h3⟩, gf⟩ := hbx.cells; have hxlt := hbx.lt)); clear hb)
       | (go_at_call 62; (first | go_fit (rof_ratio (N := N + 1 + N) _ hM (hNm.mono (by omega)) (by omega) (unhide HK).env.t64) | go_fit (rof_ratio (N := N + 1 + N) _ (hM.later (below_new _ _)) ((hNm.mono (by omega)).later (below_new _ _)) (by omega) ((unhide HK).keep (below_new _ _)).env.t64)); rintro e9 Y4 ⟨ho, hb⟩; obtain ⟨vo, P, D, rfl, hR, hE⟩ := ho.good hp; clear ho; have HE := hide hE; clear hE; obtain ⟨o1, o2, o3, o4, o5, o6, o7, o8, rfl⟩ := hR.shape; (try have hNm : Zr _ Y4 _ _ := (by first | exact hNm.later hb | exact (hNm.later (below_new _ _)).later hb)); (try have hD : Zr _ Y4 _ _ := (by first | exact hD.later hb | exact (hD.later (below_new _ _)).later hb)); (try have hM : Zr _ Y4 _ _ := (by first | exact hM.later hb | exact (hM.later (below_new _ _)).later hb)); (first | (have HK := hide ((unhide HK).keep hb); try have hbx := hbx.later hb) | (have HK := hide (((unhide HK).keep (below_new _ _)).keep hb); have hbx := (rbox_new _ 0 none 0 0 0 none 0 0).later hb) | (have HK := hide ((((unhide HK0).keep (below_new _ _)).drew).keep hb); have hbx := (show RBox (W0.alloc (.cells #[.int .i64 0, .slice none 0 0, .int .i64 0, .slice none 0 0] 52)).drew W0.heap.size from rbox_new W0 0 none 0 0 0 none 0 0).later hb)); have l0 := (unhide HK).z.lt; have l1 := (unhide HK).r.lt; have l2 := (unhide HK).ret.lt; (try (obtain ⟨⟨g0, h0⟩, ⟨g1, g2, g3, h1⟩, ⟨g4, h2⟩, ⟨g5, g6, g7, h3⟩, gf⟩ := hbx.cells; have hxlt := hbx.lt)); clear hb))
   all_goals
     go_wp2
     go_meet
     first
       | exact ⟨_, _, _, _, _, _, _, _, _, _, _, rfl, hide (unhide HE), hide ((unhide HK).fin1 hR)⟩
       | exact ⟨_, _, _, _, _, _, _, _, _, _, _, rfl, hide (unhide HE), hide ((unhide HK).fin2 hbx (by omega) hR)⟩
 case rest =>
   obtain ⟨q, o1, o2, o3, o4, o5, o6, o7, o8, P, D, rfl, HE, HF⟩ := hcut
   obtain ⟨Z, rfl⟩ : ∃ X, X = wc := ⟨_, rfl⟩
   obtain ⟨c0, c1, c2, c3⟩ := (unhide HF).r.c
   obtain ⟨⟨m0, n0⟩, ⟨m1, m2, m3, n1⟩, ⟨m4, n2⟩, ⟨m5, m6, m7, n3⟩, nf⟩ := (unhide HF).ret.cells
   have hlt := (unhide HF).ret.lt
   go_wp2
   obtain ⟨st0, st1, st2, st3⟩ := (unhide HF).ret.stored (.int .i64 o1) (.slice o2 o3 o4) (.int .i64 o5) (.slice o6 o7 o8)
   exact bodyPost_ret (v := .agg #[.int .i64 o1, .slice o2 o3 o4, .int .i64 o5, .slice o6 o7 o8]) (by simp [results, Tryz.results153, go_sem, st0, st1, st2, st3]) rfl ⟨⟨_, P, D, rfl, (unhide HF).r.r.rstored (unhide HF).ret _ _ _ _, unhide HE⟩, below_rstored (unhide HF).below (by omega) _ _ _ _⟩
end Go.Proofs.YtkifiolkfdicoaaGreatDoor
