import Derived.RegionTactic
namespace Go.Proofs.YtkdobjmhammhbaaGreatDoor
open Go
theorem left_less (p p':Nat->Bool) (i:Nat) (hp:p i=true) (hp':p' i=false) (hle:∀ j,p' j=true->p j=true):∀ l:List Nat,(l.filter p').length<=(l.filter p).length/\(i ∈ l->(l.filter p').length<(l.filter p).length)
 | []=>⟨Nat.le_refl _,fun h=>by cases h⟩
 | x :: l=>by
  obtain ⟨h1,h2⟩:=left_less p p' i hp hp' hle l
  by_cases hx:p x=true
  ·by_cases hx':p' x=true
   ·rw [List.filter_cons_of_pos hx,List.filter_cons_of_pos hx']
    refine ⟨Nat.succ_le_succ h1,fun hm=>Nat.succ_lt_succ (h2 ?_)⟩
    rcases List.mem_cons.1 hm with e | e
    ·rw [e,hx'] at hp';cases hp'
    ·exact e
   ·rw [List.filter_cons_of_pos hx,List.filter_cons_of_neg hx']
    exact ⟨Nat.le_succ_of_le h1,fun _=>Nat.lt_succ_of_le h1⟩
  ·have hx':¬ p' x=true:=fun h=>hx (hle x h)
   rw [List.filter_cons_of_neg hx,List.filter_cons_of_neg hx']
   refine ⟨h1,fun hm=>h2 ?_⟩
   rcases List.mem_cons.1 hm with e | e
   ·rw [e] at hp;exact absurd hp hx
   ·exact e
theorem getD_set (listed:Array Bool) (i j:Nat) (hi:i<listed.size):(listed.setIfInBounds i true).getD j false=if j=i then true else listed.getD j false:=by
 by_cases h:j=i
 ·subst h
  simp [hi]
 ·simp [h,Ne.symm h]
theorem getD_true (listed:Array Bool) (j:Nat) (h:listed.getD j true=false):j<listed.size/\listed.getD j false=false:=by
 rcases Nat.lt_or_ge j listed.size with h' | h'
 ·refine ⟨h',?_⟩
  simp [h'] at h ⊢
  exact h
 ·simp [h'] at h
theorem getD_same (listed:Array Bool) (j:Nat) (hj:j<listed.size) (h:listed.getD j false=false):listed.getD j true=false:=by
 simp [hj] at h ⊢
 exact h
theorem wp_region_inv {P:Program}{ops:Array Oper}{Q:Exit->Act->World->Prop}{id:Nat}{a:Act}{w:World} (hm:P.follows .mixedOrders=true)
 (hord:∀ i o,ops[i]? = some o->∀ e ∈ o.after,Region.binds .any e=true->e.on<i) (Inv:(Nat->Bool)->Act->World->Prop) (h0:Inv (fun _=>false) a w.drew)
 (step:∀ L a w i o,Inv L a w->L i=false->ops[i]? = some o->(∀ e ∈ o.after,Region.binds .any e=true->L e.on=true)->wpOp P ops Q i (fun a' w'=>Inv (fun j=>if j=i then true else L j) a' w') a w)
 (fin:∀ L a w,Inv L a w->(∀ i,i<ops.size->L i=true)->Q .normal a w):(Code.region id ops true).wp P Q a w:=by
 have key:∀ (fuel:Nat) (listed:Array Bool) (a:Act) (w:World),listed.size=ops.size->((List.range ops.size).filter fun j => !listed.getD j false).length<=fuel->Inv (fun j=>listed.getD j false) a w->wpAny P .any ops Q fuel listed a w:=by
  intro fuel
  induction fuel with
  | zero =>
   intro listed a w hs hc hI
   have hall:∀ i,i<ops.size->listed.getD i false=true:=by
    intro i hi
    have hnil:=List.eq_nil_of_length_eq_zero (Nat.le_zero.1 hc)
    cases hb:listed.getD i false with
    | true=>rfl
    | false =>
     have hmem:i ∈ (List.range ops.size).filter fun j => !listed.getD j false:=List.mem_filter.2 ⟨List.mem_range.2 hi,by rw [hb];rfl⟩
     rw [hnil] at hmem
     cases hmem
   refine ⟨?_,fin _ _ _ hI hall⟩
   apply List.eq_nil_iff_forall_not_mem.2
   intro i hi
   obtain ⟨h1,h2⟩:=getD_true _ _ (mem_ready.1 hi).1
   rw [hall i (hs ▸ h1)] at h2
   cases h2
  | succ fuel ih =>
   intro listed a w hs hc hI
   refine ⟨fun hr=>fin _ _ _ hI ?_,fun i hi => ?_⟩
   ·intro i
    induction i using Nat.strongRecOn with
    | _ i ihi =>
     intro hi
     cases hb:listed.getD i false with
     | true=>rfl
     | false =>
      have ho:ops[i]? = some ops[i]:=Array.getElem?_eq_getElem hi
      have:i ∈ Region.ready .any ops listed:=mem_ready.2 ⟨getD_same _ _ (hs ▸ hi) hb,ops[i],ho,fun e he hbd=>ihi e.on (hord i _ ho e he hbd) (Nat.lt_trans (hord i _ ho e he hbd) hi)⟩
      rw [hr] at this
      cases this
   ·obtain ⟨hl,o,ho,hd⟩:=mem_ready.1 hi
    obtain ⟨h1,h2⟩:=getD_true _ _ hl
    refine wpOp_mono ?_ (step _ _ _ i o hI h2 ho hd)
    intro a' w' hI'
    have hfun:(fun j=>if j=i then true else listed.getD j false)=fun j=>(listed.setIfInBounds i true).getD j false:=funext fun j=>(getD_set listed i j h1).symm
    rw [hfun] at hI'
    refine ih _ _ _ (by simp [hs]) ?_ hI'
    have hlt:=(left_less (fun j => !listed.getD j false) (fun j => !(listed.setIfInBounds i true).getD j false) i (by simp only [h2];rfl) (by show (!(listed.setIfInBounds i true).getD i false)=false;rw [getD_set _ _ _ h1,if_pos rfl];rfl) (fun j hj=>by
     simp only [getD_set _ _ _ h1] at hj
     by_cases hji:j=i
     ·rw [if_pos hji] at hj;cases hj
     ·rw [if_neg hji] at hj;exact hj) (List.range ops.size)).2 (List.mem_range.2 (hs ▸ h1))
    omega
 refine wp_region_any hm (key _ _ _ _ (by simp) ?_ ?_)
 ·exact Nat.le_trans (List.length_filter_le _ _) (by simp)
 ·have hfun:(fun j=>(Array.replicate ops.size false).getD j false)=fun _=>false:=funext fun j=>by
   rcases Nat.lt_or_ge j ops.size with h | h <;> simp [h]
  rw [hfun]
  exact h0
def edgesBack (ops:Array Oper):Bool:=(List.range ops.size).all fun i=>((ops[i]?).map fun o=>o.after.all fun e => !Region.binds .any e || decide (e.on<i)).getD true
theorem edgesBack_spec {ops:Array Oper} (h:edgesBack ops=true):∀ i o,ops[i]? = some o->∀ e ∈ o.after,Region.binds .any e=true->e.on<i:=by
 intro i o ho e he hb
 have hi:=(Array.getElem?_eq_some_iff.1 ho).1
 have h1:=List.all_eq_true.1 h i (List.mem_range.2 hi)
 rw [ho] at h1
 have h2:=Array.all_eq_true_iff_forall_mem.1 (show o.after.all _=true from h1) e he
 rw [hb] at h2
 simpa using h2
theorem wp_region_inv_at {P:Program}{ops:Array Oper}{Q:Exit->Act->World->Prop}{id:Nat}{a:Act}{w:World} (hm:P.follows .mixedOrders=true)
 (hord:edgesBack ops=true) (Inv:Act->(Nat->Bool)->Act->World->Prop) (h0:Inv a (fun _=>false) a w.drew)
 (step:∀ L a1 w1 i o,Inv a L a1 w1->L i=false->ops[i]? = some o->(∀ e ∈ o.after,Region.binds .any e=true->L e.on=true)->wpOp P ops Q i (fun a' w'=>Inv a (fun j=>if j=i then true else L j) a' w') a1 w1)
 (fin:∀ L a1 w1,Inv a L a1 w1->(∀ i,i<ops.size->L i=true)->Q .normal a1 w1):(Code.region id ops true).wp P Q a w :=
 wp_region_inv hm (edgesBack_spec hord) (Inv a) h0 step fin
def frameOf:List (Option Tmp)->Nat->Act->(Nat->Value)->Act
 | [],_,a,_=>a
 | d :: ds,i,a,vals=>frameOf ds (i+1) (a.put d (vals i)) vals
theorem frs:(∀ (i:Nat) (a:Act) (v:Nat->Value),frameOf [] i a v=a)/\(∀ (d:Option Tmp) (ds:List (Option Tmp)) (i:Nat) (a:Act) (v:Nat->Value),frameOf (d :: ds) i a v=frameOf ds (i+1) (a.put d (v i)) v)/\(∀ (f:Oper->Option Tmp) (x:Oper) (l:List Oper),List.map f (x :: l)=f x :: List.map f l)/\(∀ f:Oper->Option Tmp,List.map f []=[])/\(∀ (a:Act) (d:Tmp) (v:Value),a.put (some d) v={ a with tmps:=a.tmps.setIfInBounds d v })/\(∀ (a:Act) (v:Value),a.put none v=a)/\(∀ (l:List Value) (i:Nat) (v:Value),l.toArray.setIfInBounds i v=(l.set i v).toArray)/\(∀ (x:Value) (l:List Value) (v:Value),(x :: l).set 0 v=v :: l)/\∀ (x:Value) (l:List Value) (i:Nat) (v:Value),(x :: l).set (i+1) v=x :: l.set i v :=
 ⟨fun _ _ _=>rfl,fun _ _ _ _ _=>rfl,fun _ _ _=>rfl,fun _=>rfl,fun _ _ _=>rfl,fun _ _=>rfl,fun _ _ _=>by simp,fun _ _ _=>rfl,fun _ _ _ _=>rfl⟩
theorem zjj:∀ (ds:List (Option Tmp)) (k:Nat) (a:Act) (v v':Nat->Value),(∀ j,k<=j->v j=v' j)->frameOf ds k a v=frameOf ds k a v'
 | [],_,_,_,_,_=>rfl
 | d :: ds,k,a,v,v',h=>by
  rw [frameOf,frameOf,h k (Nat.le_refl _)]
  exact zjj ds (k+1) _ v v' fun j hj=>h j (by omega)
theorem put_put (a:Act) (d:Option Tmp) (u v:Value):(a.put d u).put d v=a.put d v:=by
 cases d with
 | none=>rfl
 | some d=>simp [Act.put]
theorem frameOf_out:∀ (ds:List (Option Tmp)) (k:Nat) (a:Act) (vals:Nat->Value) (x:Option Tmp) (v:Value),(∀ d,x=some d->some d ∉ ds)->(frameOf ds k a vals).put x v=frameOf ds k (a.put x v) vals
 | [],_,_,_,_,_,_=>rfl
 | y :: ds,k,a,vals,x,v,h=>by
  rw [frameOf,frameOf,frameOf_out ds (k+1) _ vals x v (fun d hd hm=>h d hd (List.mem_cons_of_mem _ hm)),Act.put_comm a v (vals k) (fun d hd hy=>h d hd (by rw [hy];exact List.mem_cons_self ..))]
theorem frameOf_put:∀ (ds:List (Option Tmp)) (k i:Nat) (a:Act) (vals:Nat->Value) (x:Option Tmp) (v:Value),ds[i]? = some x->(∀ d j,x=some d->ds[j]? = some (some d)->j=i)->(frameOf ds k a vals).put x v=frameOf ds k a (fun j=>if j=k+i then v else vals j)
 | [],_,_,_,_,_,_,h,_=>by simp at h
 | y :: ds,k,0,a,vals,x,v,h,hd=>by
  obtain rfl:y=x:=by simpa using h
  rw [frameOf,frameOf,if_pos (by omega),frameOf_out ds (k+1) _ vals y v (fun d hx hm=>by
   obtain ⟨j,hj⟩:=List.getElem?_of_mem hm
   have:=hd d (j+1) hx (by simpa using hj)
   omega),put_put]
  exact zjj ds (k+1) _ _ _ fun j hj=>by rw [if_neg (by omega)]
 | y :: ds,k,i+1,a,vals,x,v,h,hd=>by
  rw [frameOf,frameOf,if_neg (by omega),frameOf_put ds (k+1) i _ vals x v (by simpa using h) (fun d j hx hj=>by have:=hd d (j+1) hx (by simpa using hj);omega)]
  exact zjj ds (k+1) _ _ _ fun j hj=>by rw [show k+1+i=k+(i+1) by omega]
theorem put_own (a:Act) (d:Option Tmp):∃ v,a.put d v=a:=by
 cases d with
 | none=>exact ⟨undef,rfl⟩
 | some d =>
  refine ⟨a.tmps.getD d undef,?_⟩
  have:a.tmps.setIfInBounds d (a.tmps.getD d undef)=a.tmps:=by
   apply Array.ext_getElem?
   intro i
   rw [Array.getElem?_setIfInBounds]
   split
   ·rename_i h
    subst h
    split
    ·rename_i hlt;simp [hlt]
    ·rename_i hlt;simp;omega
   ·rfl
  cases a
  simp only [Act.put] at this ⊢
  rw [this]
theorem frameOf_own:∀ (ds:List (Option Tmp)) (k:Nat) (a:Act),∃ vals,frameOf ds k a vals=a
 | [],_,a=>⟨fun _=>undef,rfl⟩
 | d :: ds,k,a=>by
  obtain ⟨v,hv⟩:=put_own a d
  obtain ⟨vals,h⟩:=frameOf_own ds (k+1) a
  refine ⟨fun j=>if j=k then v else vals j,?_⟩
  rw [frameOf,if_pos rfl,hv,zjj ds (k+1) a _ vals (fun j hj=>by rw [if_neg (by omega)])]
  exact h
def apartDst (ops:Array Oper):Bool:=(List.range ops.size).all fun i=>(List.range ops.size).all fun j=>i == j || ((ops[i]?).bind (·.dst)).isNone || ((ops[i]?).bind (·.dst)) != ((ops[j]?).bind (·.dst))
def Closed (ops:Array Oper) (L:Nat->Bool):Prop:=∀ i o,L i=true->ops[i]? = some o->∀ e ∈ o.after,Region.binds .any e=true->L e.on=true
theorem Closed.on {ops:Array Oper}{L:Nat->Bool} (h:Closed ops L) (i j:Nat) {o:Oper} (ho:ops[i]? = some o) (hj:∃ e ∈ o.after,Region.binds .any e=true/\e.on=j) (hi:L i=true):L j=true:=by
 obtain ⟨e,he,hb,rfl⟩:=hj
 exact h i o hi ho e he hb
theorem zkk {P:Program}{ops:Array Oper}{Q:Exit->Act->World->Prop}{id:Nat}{a:Act}{w:World} (hm:P.follows .mixedOrders=true)
 (hord:edgesBack ops=true) (hap:apartDst ops=true) (G:(Nat->Bool)->(Nat->Value)->World->Prop) (h0:∀ vals,G (fun _=>false) vals w.drew)
 (step:∀ L vals w1 i o,G L vals w1->L i=false->ops[i]? = some o->(∀ e ∈ o.after,Region.binds .any e=true->L e.on=true) ->
  wpOp P ops Q i (fun a' w'=>∃ v,a'=(frameOf (ops.toList.map (·.dst)) 0 a vals).put o.dst v/\G (fun j=>if j=i then true else L j) (fun j=>if j=i then v else vals j) w') (frameOf (ops.toList.map (·.dst)) 0 a vals) w1)
 (fin:∀ L vals w1,G L vals w1->(∀ i,i<ops.size->L i=true)->Q .normal (frameOf (ops.toList.map (·.dst)) 0 a vals) w1):(Code.region id ops true).wp P Q a w:=by
 refine wp_region_inv_at hm hord (fun a L a1 w1=>∃ vals,a1=frameOf (ops.toList.map (·.dst)) 0 a vals/\G L vals w1) ?_ ?_ ?_
 ·obtain ⟨vals,h⟩:=frameOf_own (ops.toList.map (·.dst)) 0 a
  exact ⟨vals,h.symm,h0 vals⟩
 ·rintro L a1 w1 i o ⟨vals,rfl,hG⟩ hL ho hd
  refine wpOp_mono ?_ (step L vals w1 i o hG hL ho hd)
  rintro a' w' ⟨v,rfl,hG'⟩
  refine ⟨fun j=>if j=i then v else vals j,?_,hG'⟩
  have hi:=(Array.getElem?_eq_some_iff.1 ho).1
  rw [frameOf_put _ 0 i a vals o.dst v (by simp [ho]) (fun d j hx hj => ?_),Nat.zero_add]
  rcases Nat.decEq i j with hij | hij
  ·exfalso
   have hj':j<ops.size:=by have:=(List.getElem?_eq_some_iff.1 hj).1;simpa using this
   have h1:=List.all_eq_true.1 (List.all_eq_true.1 hap i (List.mem_range.2 hi)) j (List.mem_range.2 hj')
   have e1:(ops[i]?).bind (·.dst)=some d:=by rw [ho];exact hx
   have e2:(ops[j]?).bind (·.dst)=some d:=by
    simp [hj'] at hj ⊢
    exact hj
   rw [e1,e2] at h1
   simp [hij] at h1
  ·exact hij.symm
 ·rintro L a1 w1 ⟨vals,rfl,hG⟩ hall
  exact fin L vals w1 hG hall
end Go.Proofs.YtkdobjmhammhbaaGreatDoor
