import Derived.Test.YtkdobjmhammhbaaGreatDoorMAF
namespace Go.Proofs.YtkdobjmhammhbaaGreatDoor
open Go.RowKit
theorem run_place {P:Program}{w w':World}{base:Nat}{t ty e:TypeId}{i:TypeInfo}{z:Value}{size bytes:Nat} (ht:P.underlying t=some (.slice e)) (hi:P.info? e=some i) (hz:i.zero=some z)
 (hsize:i.size=size) (hby:i.bytes=bytes) {v v':Value}{n:Nat}{xs:List Value} (hown:w.ownsRow base e size v n xs)
 {a:Addr}{m c:Nat}{news:List Value} (hm:0<m) (hl:news.length=m*size) (hnews:∀ j u,news[j]? = some u->w.cell? (a.add j)=some u) (h1:∀ u ∈ news,u.oneCell'=true)
 (h63:n+m<=maxLen) (hbytes:(n+m)*bytes<=140737488355328) (hr:(Builtin.append_ #[t,t] ty #[v,.slice (some a) m c]).run P w=.ok v' w'):v'.ownBlock=v.ownBlock\/v'.ownBlock=some w.heap.size:=by
 subst hsize hby
 have hsmall:n+m<=9223372036854775807:=by simp only [maxLen] at h63;omega
 rcases hown with ⟨hxl,⟨rfl,rfl⟩ | ⟨g,cap,cur,rfl,hbg,hgg,hnc,hcm,hcs,htake⟩⟩
 ·have hr2:=run_append_nil (P:=P) w t ty e i z ht hi hz a m c news hl hnews hm (by omega) (by simp only [Nat.zero_add] at hbytes;omega)
  rw [hr] at hr2
  obtain ⟨rfl,rfl⟩:v'=_/\w'=_:=by simpa using hr2
  exact Or.inr rfl
 ·by_cases hroom:n+m<=cap
  ·have hfit:n*i.size+news.length<=cur.size:=by rw [hl,hcs,<- Nat.add_mul];exact Nat.mul_le_mul_right _ hroom
   have hr2:=run_append_room (P:=P) w t ty e i ht hi g n cap cur hgg a m c news hl hnews h1 hroom hfit
   rw [hr] at hr2
   obtain ⟨rfl,rfl⟩:v'=_/\w'=_:=by simpa using hr2
   exact Or.inl rfl
  ·have holds:∀ j u,xs[j]? = some u->w.cell? ((⟨g,0,none⟩:Addr).add j)=some u:=World.ownsRow.cells (g:=g) ⟨hxl,Or.inr ⟨g,cap,cur,rfl,hbg,hgg,hnc,hcm,hcs,htake⟩⟩ rfl
   have hr2:=run_append_grow (P:=P) w t ty e i z ht hi hz ⟨g,0,none⟩ n cap xs hxl holds a m c news hl hnews (by omega) (by omega) (growslice_fits (by omega) hbytes)
   rw [hr] at hr2
   obtain ⟨rfl,rfl⟩:v'=_/\w'=_:=by simpa using hr2
   exact Or.inr rfl
def News {α:Type} (k:Nat) (E:World->List Value -> α -> Prop) (w:World) (news:List Value) (ys:List α):Prop:=news.length=ys.length*k/\∀ i y,ys[i]? = some y->∃ cs,cs.length=k/\(∀ j u,cs[j]? = some u->news[i*k+j]? = some u)/\E w cs y
theorem News.nil {α:Type} (k:Nat) (E:World->List Value -> α -> Prop) (w:World):News (α := α) k E w [] []:=⟨by simp,fun i y h=>by simp at h⟩
theorem News.cons {α:Type}{k:Nat}{E:World->List Value -> α -> Prop}{w:World}{news cs:List Value}{ys:List α}{y:α} (h:News k E w news ys) (hc:cs.length=k) (hy:E w cs y):News k E w (cs++news) (y :: ys):=by
 refine ⟨by rw [List.length_append,h.1,hc,List.length_cons,Nat.add_mul];omega,fun i z hz => ?_⟩
 rcases i with _ | i
 ·obtain rfl:y=z:=by simpa using hz
  exact ⟨cs,hc,fun j u hu=>by rw [Nat.zero_mul,Nat.zero_add,List.getElem?_append_left (List.getElem?_eq_some_iff.1 hu).1];exact hu,hy⟩
 ·obtain ⟨ds,h1,h2,h3⟩:=h.2 i z (by simpa using hz)
  exact ⟨ds,h1,fun j u hu=>by rw [List.getElem?_append_right (by rw [hc,Nat.add_mul];omega),hc,show (i+1)*k+j - k=i*k+j by rw [Nat.add_mul];omega];exact h2 j u hu,h3⟩
theorem run_app {α:Type}{P:Program}{w:World}{T ty e:TypeId}{z:Value}{k bytes:Nat} (ht:P.underlying T=some (.slice e)) (hinfo:(P.info? e).map (fun i=>(i.zero,i.size,i.bytes))=some (some z,k,bytes))
 (hzs:z.cells.size=k) (hsz:0<k) (hby:bytes<=1000) {K:Value->Prop} (hzk:∀ u ∈ z.cells.toList,K u) {E:World->List Value -> α -> Prop} (hE:Stays K e E) (base:Nat) (v:Value) {L ys:List α} (hown:OwnR K k E e w base v L)
 (q c:Nat) (news:List Value) (hn0:0<ys.length) (hnw:News k E w news ys) (hq:∀ j u,news[j]? = some u->w.cell? ⟨q,j,none⟩=some u) (h1:∀ u ∈ news,u.oneCell'=true) (hk:∀ u ∈ news,K u) (hn:L.length<=100000000) (hy:ys.length<=1000) (hbase:base<=w.heap.size) :
 ∃ v' w',(Builtin.append_ #[T,T] ty #[v,.slice (some ⟨q,0,none⟩) ys.length c]).run P w=.ok v' w'/\OwnR K k E e w' base v' (L++ys)/\w.grownBy w' v.ownBlock/\Chg K e w w'/\(v'.ownBlock=v.ownBlock\/v'.ownBlock=some w.heap.size):=by
 obtain ⟨xs,hown,h2⟩:=hown
 obtain ⟨i0,hi,hz0,hz1,hz2⟩:=info_parts hinfo
 have hnews:∀ j u,news[j]? = some u->w.cell? ((⟨q,0,none⟩:Addr).add j)=some u:=fun j u hu=>by
  rw [show (⟨q,0,none⟩:Addr).add j=⟨q,j,none⟩ by rcases j with _ | j <;> simp [Addr.add]];exact hq j u hu
 have hb2:(L.length+ys.length)*bytes<=140737488355328:=by
  have:(L.length+ys.length)*bytes<=(L.length+ys.length)*1000:=Nat.mul_le_mul_left _ hby
  omega
 obtain ⟨v',w',hr,h3,h5⟩:=zjd (P:=P) w base T ty e i0 z k bytes ht hi hz0 hz1 hz2 hzs hsz hzk v L.length xs hown ⟨q,0,none⟩ ys.length c news hn0 hnw.1 hnews h1 hk (by unfold maxLen;omega) hb2 hbase
 have hpl:=run_place ht hi hz0 hz1 hz2 hown.own hn0 hnw.1 hnews h1 (by unfold maxLen;omega) hb2 hr
 have hc:=hown.chg h5
 refine ⟨v',w',hr,⟨xs++news,by rw [List.length_append];exact h3,fun i x hx => ?_⟩,h5,hc,hpl⟩
 have hxl:=hown.own.1
 rw [List.getElem?_append] at hx
 split at hx
 ·rename_i hlt
  obtain ⟨cs,hl,hcs,he⟩:=h2 i x hx
  exact ⟨cs,hl,fun j u hu=>by rw [List.getElem?_append_left (List.getElem?_eq_some_iff.1 (hcs j u hu)).1];exact hcs j u hu,hE _ _ _ _ he hc⟩
 ·rename_i hge
  obtain ⟨cs,hl,hcs,he⟩:=hnw.2 _ x hx
  have hsub:(i - L.length)*k+L.length*k=i*k:=by rw [<- Nat.add_mul];congr 1;omega
  exact ⟨cs,hl,fun j u hu=>by rw [List.getElem?_append_right (by omega),hxl,show i*k+j - L.length*k=(i - L.length)*k+j by omega];exact hcs j u hu,hE _ _ _ _ he hc⟩
theorem step_app {α:Type}{P:Program}{ops:Array Oper}{o:Oper}{A:Act}{w:World}{KK:Act->World->Prop}{Q:Exit->Act->World->Prop}{EE:Prop} (hgd:o.guard=none) (s x:Operand) (T:TypeId)
 (ho:o.op=.call { callee:=.builtin .append,args:=#[s,x],argTypes:=#[T,T] }) {e:TypeId}{z:Value}{k bytes:Nat} (ht:P.underlying T=some (.slice e)) (hinfo:(P.info? e).map (fun i=>(i.zero,i.size,i.bytes))=some (some z,k,bytes))
 (hzs:z.cells.size=k) (hsz:0<k) (hby:bytes<=1000) {K:Value->Prop} (hzk:∀ u ∈ z.cells.toList,K u) {E:World->List Value -> α -> Prop} (hE:Stays K e E) (base:Nat) (v:Value) {L ys:List α} (hs:A.eval s=v) (hown:OwnR K k E e w base v L)
 (q c:Nat) (news:List Value) (hn0:0<ys.length) (hnw:News k E w news ys) (hq:∀ j u,news[j]? = some u->w.cell? ⟨q,j,none⟩=some u) (h1:∀ u ∈ news,u.oneCell'=true) (hk:∀ u ∈ news,K u) (hx:A.eval x=.slice (some ⟨q,0,none⟩) ys.length c) (hn:L.length<=100000000) (hy:ys.length<=1000) (hbase:base<=w.heap.size)
 (h:∀ v' w',OwnR K k E e w' base v' (L++ys)->w.grownBy w' v.ownBlock->Chg K e w w'->(v'.ownBlock=v.ownBlock\/v'.ownBlock=some w.heap.size)->KK (A.put o.dst v') w'):if Region.wanted o (yielded ops A.tmps)=true then Oper.wp P o A w KK Q else EE:=by
 obtain ⟨v',w',hr,h2,h3,h4,h5⟩:=run_app (ty:=o.type) ht hinfo hzs hsz hby hzk hE base v hown q c news hn0 hnw hq h1 hk hn hy hbase
 rw [if_pos (by simp [Region.wanted,hgd])]
 unfold Oper.wp execOp
 simp only [ho,resolve,invoke,builtin,Sem.run_bind,Sem.run_pure,Result.andThen_ok,List.map_toArray,List.map_cons,List.map_nil,hs,hx,hr]
 exact h v' w' h2 h3 h4 h5
theorem OwnR.move {α:Type}{K:Value->Prop}{k:Nat}{E:World->List Value -> α -> Prop}{t:TypeId}{w w':World}{base:Nat}{v:Value}{L:List α} (h:OwnR K k E t w base v L) (hb:∀ g,v.ownBlock=some g->w'.heap[g]? = w.heap[g]?) (hE:∀ cs x,E w cs x->E w' cs x):OwnR K k E t w' base v L:=by
 obtain ⟨xs,⟨h1,h3⟩,h2⟩:=h
 refine ⟨xs,⟨⟨h1.1,?_⟩,fun g hg o u hu => ?_⟩,fun i x hx => ?_⟩
 ·rcases h1.2 with h | ⟨g,cap,cur,rfl,hbg,hgg,hr⟩
  ·exact Or.inl h
  ·exact Or.inr ⟨g,cap,cur,rfl,hbg,by rw [hb g rfl];exact hgg,hr⟩
 ·exact h3 g hg o u (by simp only [World.cell?,hb g hg] at hu ⊢;exact hu)
 ·obtain ⟨cs,hl,hcs,he⟩:=h2 i x hx
  exact ⟨cs,hl,hcs,hE _ _ he⟩
theorem OwnR.block {α:Type}{K:Value->Prop}{k:Nat}{E:World->List Value -> α -> Prop}{t:TypeId}{w:World}{base:Nat}{v:Value}{L:List α} (h:OwnR K k E t w base v L) {g:Nat} (hg:v.ownBlock=some g):base<=g/\∃ cur,w.heap[g]? = some (.cells cur t (0,0)):=by
 obtain ⟨xs,⟨h1,_⟩,_⟩:=h
 rcases h1.2 with ⟨rfl,_⟩ | ⟨g',cap,cur,rfl,hbg,hgg,_⟩
 ·simp [Value.ownBlock] at hg
 ·obtain rfl:g'=g:=by simpa [Value.ownBlock] using hg
  exact ⟨hbg,cur,hgg⟩
def upd {β:Type} (F:Nat -> β) (k:Nat) (v:β):Nat -> β := fun j=>if j=k then v else F j
theorem zqk {β:Type} (F:Nat -> β) (k:Nat) (v:β):upd F k v k=v:=if_pos rfl
theorem zqi {β:Type} (F:Nat -> β) {k j:Nat} (v:β) (h:j≠k):upd F k v j=F j:=if_neg h
structure Fam (w:World) (b0 N:Nat) (F:Nat->Value) (X:Nat->List Int):Prop where
 own:∀ k,k<N->OwnR NoWord 1 JE 3 w b0 (F k) (X k)
 apart:∀ k k',k<N->k'<N->k≠k'->∀ g,(F k).ownBlock=some g->(F k').ownBlock≠some g
section
variable {w w':World}{b0 N:Nat}{F:Nat->Value}{X:Nat->List Int}
theorem Fam.later (h:Fam w b0 N F X) (hb:Below w.heap.size w w'):Fam w' b0 N F X:=⟨fun k hk=>(h.own k hk).later (JE.stays _ _) hb,h.apart⟩
theorem Fam.lt (h:Fam w b0 N F X) {k g:Nat} (hk:k<N) (hg:(F k).ownBlock=some g):g<w.heap.size:=by
 obtain ⟨_,cur,hc⟩:=(h.own k hk).block hg
 exact (Array.getElem?_eq_some_iff.1 hc).1
theorem Fam.app (h:Fam w b0 N F X) {k:Nat}{v':Value}{L:List Int} (hk:k<N) (ho:OwnR NoWord 1 JE 3 w' b0 v' L) (hg:w.grownBy w' (F k).ownBlock) (hp:v'.ownBlock=(F k).ownBlock\/v'.ownBlock=some w.heap.size):Fam w' b0 N (upd F k v') (upd X k L):=by
 refine ⟨fun j hj => ?_,fun i j hi hj hij g hgi => ?_⟩
 ·by_cases e:j=k
  ·subst e;rw [zqk,zqk];exact ho
  ·rw [zqi _ _ e,zqi _ _ e]
   exact (h.own j hj).move (fun g hgj=>hg.block g (h.lt hj hgj) (fun hh=>h.apart j k hj hk e g hgj hh.symm)) fun _ _ hx=>hx
 ·by_cases e1:i=k
  ·subst e1
   have e2:j≠i:=fun hh=>hij hh.symm
   rw [zqk] at hgi
   rw [zqi _ _ e2]
   rcases hp with hp | hp
   ·rw [hp] at hgi;exact h.apart i j hi hj hij g hgi
   ·rw [hp] at hgi
    obtain rfl:=Option.some.inj hgi
    exact fun hh=>Nat.lt_irrefl _ (h.lt hj hh)
  ·rw [zqi _ _ e1] at hgi
   by_cases e2:j=k
   ·subst e2
    rw [zqk]
    rcases hp with hp | hp
    ·rw [hp];exact h.apart i j hi hj hij g hgi
    ·rw [hp];exact fun hh=>by obtain rfl:=Option.some.inj hh;exact Nat.lt_irrefl _ (h.lt hi hgi)
   ·rw [zqi _ _ e2];exact h.apart i j hi hj hij g hgi
theorem Fam.elsewhere {q:Nat}{c:Array Value}{t:TypeId}{f:Nat×Nat} (h:Fam w b0 N F X) (he:Elsewhere q w w') (hq:w.heap[q]? = some (.cells c t f)) (ht:t≠3):Fam w' b0 N F X :=
 ⟨fun k hk=>(h.own k hk).move (fun g hg=>he g fun hh=>by
  obtain ⟨_,cur,hc⟩:=(h.own k hk).block hg
  rw [hh,hq] at hc
  simp at hc
  exact ht hc.2.1) fun _ _ hx=>hx,h.apart⟩
end
theorem Raw.chg {K K':Value->Prop}{t e:TypeId}{w w':World}{g m:Nat} (h:Raw K t w g m) (hc:Chg K' e w w') (ht:t≠e):Raw K t w' g m:=by
 obtain ⟨cur,h1,h2,h3⟩:=h
 exact ⟨cur,hc g cur t _ h1 (Or.inl ht),h2,h3⟩
theorem Raw.same {K K':Value->Prop}{t e:TypeId}{w w':World}{g m o:Nat}{v:Value} (h:Raw K t w g m) (hc:Chg K' e w w') (ht:t≠e) (hv:w.cell? ⟨g,o,none⟩=some v):w'.cell? ⟨g,o,none⟩=some v:=by
 obtain ⟨cur,h1,_⟩:=h
 have h2:=hc g cur t _ h1 (Or.inl ht)
 simp only [World.cell?,h1,h2] at hv ⊢
 exact hv
theorem Raw.ne {K K':Value->Prop}{t t':TypeId}{w:World}{g g' m m':Nat} (h:Raw K t w g m) (h':Raw K' t' w g' m') (ht:t≠t'):g≠g':=by
 rintro rfl
 obtain ⟨cur,h1,_⟩:=h
 obtain ⟨cur',h1',_⟩:=h'
 rw [h1] at h1'
 simp at h1'
 exact ht h1'.2
structure NjS (w:World) (K gn gl n:Nat) (C F:Nat->Value) (X:Nat->List Int) (rc rv:Value) (rm:List Int) (W:World):Prop where
 below:Below w.heap.size w W
 fam:Fam W w.heap.size (n+4) F X
 room:OwnR NoWord 2 (ZE (K+1)) 37 W w.heap.size rv rm
 c0:W.cell? ⟨gn,0,none⟩=some (C 0)
 c1:W.cell? ⟨gn,1,none⟩=some (C 1)
 c2:W.cell? ⟨gn,2,none⟩=some rc
 c3:W.cell? ⟨gn,3,none⟩=some (.slice (some ⟨gl,0,none⟩) n n)
 cl:∀ k,k<n->W.cell? ⟨gl,k,none⟩=some (C (k+2))
 bn:Raw NoWord 180 W gn 4
 bl:Raw NoWord 55 W gl n
 gw:w.heap.size<=gn/\w.heap.size<=gl
section
variable {w:World}{K gn gl n:Nat}{C F:Nat->Value}{X:Nat->List Int}{rc rv:Value}{rm:List Int}{W W':World}
theorem NjS.later (h:NjS w K gn gl n C F X rc rv rm W) (hb:Below W.heap.size W W'):NjS w K gn gl n C F X rc rv rm W' :=
 ⟨bk hb h.below,h.fam.later hb,h.room.later (zqs _ _) hb,ck hb h.c0,ck hb h.c1,ck hb h.c2,ck hb h.c3,fun k hk=>ck hb (h.cl k hk),h.bn.later hb,h.bl.later hb,h.gw⟩
theorem NjS.app (h:NjS w K gn gl n C F X rc rv rm W) {k:Nat}{v':Value}{L:List Int} (hk:k<n+4) (ho:OwnR NoWord 1 JE 3 W' w.heap.size v' L) (hg:W.grownBy W' (F k).ownBlock) (hc:Chg NoWord 3 W W') (hp:v'.ownBlock=(F k).ownBlock\/v'.ownBlock=some W.heap.size):NjS w K gn gl n C (upd F k v') (upd X k L) rc rv rm W' :=
 ⟨h.below.grown hg h.below.size (fun g hh=>((h.fam.own k hk).block hh).1),h.fam.app hk ho hg hp,h.room.move (fun g hh=>by
  obtain ⟨_,cur,hq⟩:=h.room.block hh
  rw [hq,hc g cur _ _ hq (Or.inl (by decide))]) fun cs x hx=>zqs _ _ _ _ _ _ hx hc,
  h.bn.same hc (by decide) h.c0,h.bn.same hc (by decide) h.c1,h.bn.same hc (by decide) h.c2,h.bn.same hc (by decide) h.c3,fun j hj=>h.bl.same hc (by decide) (h.cl j hj),h.bn.chg hc (by decide),h.bl.chg hc (by decide),h.gw⟩
theorem NjS.appR (h:NjS w K gn gl n C F X rc rv rm W) {v':Value}{L:List Int} (ho:OwnR NoWord 2 (ZE (K+1)) 37 W' w.heap.size v' L) (hg:W.grownBy W' rv.ownBlock) (hc:Chg NoWord 37 W W'):NjS w K gn gl n C F X rc v' L W' :=
 ⟨h.below.grown hg h.below.size (fun g hh=>(h.room.block hh).1),⟨fun k hk=>(h.fam.own k hk).move (fun g hh=>by
  obtain ⟨_,cur,hq⟩:=(h.fam.own k hk).block hh
  rw [hq,hc g cur _ _ hq (Or.inl (by decide))]) fun _ _ hx=>hx,h.fam.apart⟩,ho,
  h.bn.same hc (by decide) h.c0,h.bn.same hc (by decide) h.c1,h.bn.same hc (by decide) h.c2,h.bn.same hc (by decide) h.c3,fun j hj=>h.bl.same hc (by decide) (h.cl j hj),h.bn.chg hc (by decide),h.bl.chg hc (by decide),h.gw⟩
theorem NjS.put (h:NjS w K gn gl n C F X rc rv rm W) {o:Nat}{u:Value} (hu:NoWord u) {C':Nat->Value}{rc':Value} (e0:C' 0=if o=0 then u else C 0) (e1:C' 1=if o=1 then u else C 1) (e2:rc'=if o=2 then u else rc) (e3:o<3) (e4:∀ k,C' (k+2)=C (k+2)):NjS w K gn gl n C' F X rc' rv rm (W.setCell ⟨gn,o,none⟩ u):=by
 have he:=else1 (g:=gn) W o u
 have hst:=h.bn.store (o:=o) (v:=u) hu
 have hc:=hst.2
 have hne:=h.bl.ne h.bn (by decide)
 obtain ⟨cur,hcur,_⟩:=h.bn
 have hcell:∀ j v,W.cell? ⟨gn,j,none⟩=some v->(W.setCell ⟨gn,o,none⟩ u).cell? ⟨gn,j,none⟩=some (if o=j then u else v):=fun j v hv=>by
  by_cases e:o=j
  ·subst e;rw [if_pos rfl];exact zqd hv
  ·rw [if_neg e,zqb _ _ _ _ _ _ (by omega)];exact hv
 refine ⟨h.below.setCell (p:=⟨gn,o,none⟩) h.gw.1 _,h.fam.elsewhere he hcur (by decide),h.room.move (fun g hh=>he g fun e => ?_) fun cs x hx=>zqs _ _ _ _ _ _ hx hc,?_,?_,?_,?_,fun k hk => ?_,hst.1,h.bl.elsewhere he hne,h.gw⟩
 ·obtain ⟨_,cur',hq⟩:=h.room.block hh
  rw [e,hcur] at hq
  simp at hq
 ·rw [hcell 0 _ h.c0,e0]
 ·rw [hcell 1 _ h.c1,e1]
 ·rw [hcell 2 _ h.c2,e2]
 ·rw [hcell 3 _ h.c3,if_neg (by omega)]
 ·rw [e4];exact he.cell hne (h.cl k hk)
theorem NjS.putL (h:NjS w K gn gl n C F X rc rv rm W) {k:Nat}{u:Value} (hu:NoWord u) (hk:k<n):NjS w K gn gl n (upd C (k+2) u) F X rc rv rm (W.setCell ⟨gl,k,none⟩ u):=by
 have he:=else1 (g:=gl) W k u
 have hst:=h.bl.store (o:=k) (v:=u) hu
 have hc:=hst.2
 have hne:=h.bn.ne h.bl (by decide)
 obtain ⟨cur,hcur,_⟩:=h.bl
 refine ⟨h.below.setCell (p:=⟨gl,k,none⟩) h.gw.2 _,h.fam.elsewhere he hcur (by decide),h.room.move (fun g hh=>he g fun e => ?_) fun cs x hx=>zqs _ _ _ _ _ _ hx hc,?_,?_,he.cell hne h.c2,he.cell hne h.c3,fun j hj => ?_,h.bn.elsewhere he hne,hst.1,h.gw⟩
 ·obtain ⟨_,cur',hq⟩:=h.room.block hh
  rw [e,hcur] at hq
  simp at hq
 ·rw [zqi _ _ (by omega)];exact he.cell hne h.c0
 ·rw [zqi _ _ (by omega)];exact he.cell hne h.c1
 ·by_cases e:j=k
  ·subst e;rw [zqk];exact zqd (h.cl j hk)
  ·rw [zqi _ _ (by omega),zqb _ _ _ _ _ _ (by omega)];exact h.cl j hj
end
def xj1 (X:Nat->List Int) (a b:Nat):Nat->List Int:=upd (upd X 0 (X 0++[(a:Int),(b:Int)])) 1 (X 1++[(b:Int),(a:Int)])
def xj2 (X:Nat->List Int) (a l:Nat):Nat->List Int:=upd X (a+2) (X (a+2)++[(l:Int)])
theorem news2 (w:World) (a b:Nat) (ha:a<=1000) (hb:b<=1000):News 1 JE w [.int .i64 (a:Int),.int .i64 (b:Int)] [(a:Int),(b:Int)] :=
 News.cons (cs:=[.int .i64 (a:Int)]) (News.cons (cs:=[.int .i64 (b:Int)]) (News.nil _ _ _) rfl ⟨rfl,by omega,by omega⟩) rfl ⟨rfl,by omega,by omega⟩
theorem ZX.same {K:Nat}{K':Value->Prop}{e:TypeId}{w w':World}{r:Nat}{x:Z4}{z:Int} (h:ZX K w r x z) (hc:Chg K' e w w') (he:37≠e) (hw:∀ z,¬ K' (.int .u64 z)):ZX K w' r x z:=by
 obtain ⟨h0,h1,⟨x1,x2,x3,x4,hb⟩,hz⟩:=h
 have hb':=hc r _ _ _ hb (Or.inl he)
 exact ⟨by simp only [World.cell?,hb,hb'] at h0 ⊢;exact h0,by simp only [World.cell?,hb,hb'] at h1 ⊢;exact h1,⟨x1,x2,x3,x4,hb'⟩,hz.chg hc hw⟩
theorem ZX.aside {K:Nat}{w w':World}{r q:Nat}{x:Z4}{z:Int}{e:TypeId} (h:ZX K w r x z) (he:Elsewhere q w w') (hne:r≠q) (hc:Chg NoWord e w w'):ZX K w' r x z:=by
 obtain ⟨h0,h1,⟨x1,x2,x3,x4,hb⟩,hz⟩:=h
 exact ⟨he.cell hne h0,he.cell hne h1,⟨x1,x2,x3,x4,by rw [he r hne];exact hb⟩,hz.chgW hc⟩
theorem wpOp_app {P:Program}{ops:Array Oper}{Q:Exit->Act->World->Prop}{i:Nat}{K:Act->World->Prop}{a:Act}{w:World}{o:Oper} (ho:ops[i]? = some o) (hgd:o.guard=none) (s x:Operand) (T:TypeId) (hop:o.op=.call { callee:=.builtin .append,args:=#[s,x],argTypes:=#[T,T] }) {v1 v2 v':Value}{w':World} (hs:a.eval s=v1) (hx:a.eval x=v2) (hr:(Builtin.append_ #[T,T] o.type #[v1,v2]).run P w=.ok v' w') (h:K (a.put o.dst v') w'):wpOp P ops Q i K a w:=by
 refine wpOp_step ho fun K' hK => ?_
 rw [if_pos (by simp [Region.wanted,hgd])]
 unfold Oper.wp execOp
 simp only [hop,resolve,invoke,builtin,Sem.run_bind,Sem.run_pure,Result.andThen_ok,List.map_toArray,List.map_cons,List.map_nil,hs,hx,hr]
 exact hK _ _ h
def J2K (gn a b:Nat) (v0 v1:Value):Nat->Option Value
 | 0 | 1 | 2 | 3 | 4 | 10 | 11 | 18 | 19 | 21=>some (.pointer (some ⟨gn,0,none⟩))
 | 12 | 22=>some (.pointer (some ⟨gn,1,none⟩))
 | 6 | 15=>some (.int .i64 (a:Int))
 | 7 | 14=>some (.int .i64 (b:Int))
 | 5=>some v0
 | 13=>some v1
 | _=>none
structure J2 (w:World) (K gn gl n q a b:Nat) (y:Z4) (u:Int) (F:Nat->Value) (X:Nat->List Int) (rv:Value) (rm:List Int) (V:World) (f0 f1:Value) (x0 x1:List Int) (d0 d1:Value) (L:Nat->Bool) (vals:Nat->Value) (W:World):Prop where
 nj:NjS w K gn gl n (upd (upd F 0 d0) 1 d1) (upd (upd F 0 f0) 1 f1) (upd (upd X 0 x0) 1 x1) rv rv rm W
 sz:V.heap.size<=W.heap.size
 zx:ZX (K+1) W q y u
 cf:∀ k v,L k=true->J2K gn a b (F 0) (F 1) k=some v->vals k=v
 a8:L 8=true->∃ g,vals 8=.slice (some ⟨g,0,none⟩) 2 2/\V.heap.size<=g/\W.cell? ⟨g,0,none⟩=some (.int .i64 (a:Int))/\W.cell? ⟨g,1,none⟩=some (.int .i64 (b:Int))
 a16:L 16=true->∃ g,vals 16=.slice (some ⟨g,0,none⟩) 2 2/\V.heap.size<=g/\W.cell? ⟨g,0,none⟩=some (.int .i64 (b:Int))/\W.cell? ⟨g,1,none⟩=some (.int .i64 (a:Int))
 p9f:L 9=false->f0=F 0/\x0=X 0
 p9t:L 9=true->vals 9=f0/\x0=X 0++[(a:Int),(b:Int)]/\∃ sa sn sc,f0=.slice sa sn sc
 p17f:L 17=false->f1=F 1/\x1=X 1
 p17t:L 17=true->vals 17=f1/\x1=X 1++[(b:Int),(a:Int)]/\∃ sa sn sc,f1=.slice sa sn sc
 s20f:L 20=false->d0=F 0
 s20t:L 20=true->d0=f0/\L 9=true/\L 5=true
 s23f:L 23=false->d1=F 1
 s23t:L 23=true->d1=f1/\L 17=true/\L 13=true
section
variable {w:World}{K gn gl n q a b:Nat}{y:Z4}{u:Int}{F:Nat->Value}{X:Nat->List Int}{rv:Value}{rm:List Int}{V:World}{f0 f1:Value}{x0 x1:List Int}{d0 d1:Value}{L:Nat->Bool}{vals:Nat->Value}{W W':World}
theorem J2.const {i:Nat}{v:Value} (h:J2 w K gn gl n q a b y u F X rv rm V f0 f1 x0 x1 d0 d1 L vals W) (hi:i≠8/\i≠9/\i≠16/\i≠17/\i≠20/\i≠23) (hv:J2K gn a b (F 0) (F 1) i=some v):J2 w K gn gl n q a b y u F X rv rm V f0 f1 x0 x1 d0 d1 (fun j=>if j=i then true else L j) (fun j=>if j=i then v else vals j) W:=by
 obtain ⟨h8,h9,h16,h17,h20,h23⟩:=hi
 refine ⟨h.nj,h.sz,h.zx,fun k v' hk hv' => ?_,?_,?_,?_,?_,?_,?_,?_,?_,?_,?_⟩
 ·by_cases e:k=i
  ·subst e
   rw [hv] at hv'
   simpa using hv'
  ·simp only [if_neg e] at hk ⊢
   exact h.cf k v' hk hv'
 ·simp only [if_neg h8.symm];exact h.a8
 ·simp only [if_neg h16.symm];exact h.a16
 ·simp only [if_neg h9.symm];exact h.p9f
 ·simp only [if_neg h9.symm];exact h.p9t
 ·simp only [if_neg h17.symm];exact h.p17f
 ·simp only [if_neg h17.symm];exact h.p17t
 ·simp only [if_neg h20.symm];exact h.s20f
 ·simp only [if_neg h20.symm,if_neg h9.symm];intro hh;exact ⟨(h.s20t hh).1,(h.s20t hh).2.1,by rw [(h.s20t hh).2.2];simp⟩
 ·simp only [if_neg h23.symm];exact h.s23f
 ·simp only [if_neg h23.symm,if_neg h17.symm];intro hh;exact ⟨(h.s23t hh).1,(h.s23t hh).2.1,by rw [(h.s23t hh).2.2];simp⟩
theorem J2.cfn {i:Nat}{v:Value} (h:J2 w K gn gl n q a b y u F X rv rm V f0 f1 x0 x1 d0 d1 L vals W) (hi:J2K gn a b (F 0) (F 1) i=none):∀ k v',(if k=i then true else L k)=true->J2K gn a b (F 0) (F 1) k=some v'->(if k=i then v else vals k)=v':=by
 intro k v' hk hv'
 by_cases e:k=i
 ·subst e;rw [hi] at hv';cases hv'
 ·rw [if_neg e] at hk ⊢;exact h.cf k v' hk hv'
theorem J2.alloc8 (h:J2 w K gn gl n q a b y u F X rv rm V f0 f1 x0 x1 d0 d1 L vals W):J2 w K gn gl n q a b y u F X rv rm V f0 f1 x0 x1 d0 d1 (fun j=>if j=8 then true else L j) (fun j=>if j=8 then .slice (some ⟨W.heap.size,0,none⟩) 2 2 else vals j) (W.alloc (.cells #[.int .i64 (a:Int),.int .i64 (b:Int)] 3)):=by
 have kb:=zqa W (.cells #[.int .i64 (a:Int),.int .i64 (b:Int)] 3)
 exact ⟨h.nj.later kb,Nat.le_trans h.sz kb.size,h.zx.keep kb,h.cfn rfl,fun _=>⟨_,rfl,h.sz,by rw [zqe rfl];rfl,by rw [zqe rfl];rfl⟩,fun e=>by obtain ⟨g,h1,h2,h3,h4⟩:=h.a16 e;exact ⟨g,h1,h2,ck kb h3,ck kb h4⟩,h.p9f,h.p9t,h.p17f,h.p17t,h.s20f,h.s20t,h.s23f,h.s23t⟩
theorem J2.alloc16 (h:J2 w K gn gl n q a b y u F X rv rm V f0 f1 x0 x1 d0 d1 L vals W):J2 w K gn gl n q a b y u F X rv rm V f0 f1 x0 x1 d0 d1 (fun j=>if j=16 then true else L j) (fun j=>if j=16 then .slice (some ⟨W.heap.size,0,none⟩) 2 2 else vals j) (W.alloc (.cells #[.int .i64 (b:Int),.int .i64 (a:Int)] 3)):=by
 have kb:=zqa W (.cells #[.int .i64 (b:Int),.int .i64 (a:Int)] 3)
 exact ⟨h.nj.later kb,Nat.le_trans h.sz kb.size,h.zx.keep kb,h.cfn rfl,fun e=>by obtain ⟨g,h1,h2,h3,h4⟩:=h.a8 e;exact ⟨g,h1,h2,ck kb h3,ck kb h4⟩,fun _=>⟨_,rfl,h.sz,by rw [zqe rfl];rfl,by rw [zqe rfl];rfl⟩,h.p9f,h.p9t,h.p17f,h.p17t,h.s20f,h.s20t,h.s23f,h.s23t⟩
theorem zjs {Z Z':World}{b:Option Nat}{g o:Nat}{v:Value} (hg:Z.grownBy Z' b) (hlo:∀ k,b=some k->k<V.heap.size) (h1:V.heap.size<=g) (hv:Z.cell? ⟨g,o,none⟩=some v):Z'.cell? ⟨g,o,none⟩=some v :=
 hg.cell hv fun e=>by have:=hlo g e.symm;omega
theorem J2.app9 {v':Value} (h:J2 w K gn gl n q a b y u F X rv rm V f0 f1 x0 x1 d0 d1 L vals W) (hlo:∀ k,k<n+4->∀ g,(F k).ownBlock=some g->g<V.heap.size) (h9:L 9=false) (ho:OwnR NoWord 1 JE 3 W' w.heap.size v' (X 0++[(a:Int),(b:Int)])) (hg:W.grownBy W' (F 0).ownBlock) (hc:Chg NoWord 3 W W') (hp:v'.ownBlock=(F 0).ownBlock\/v'.ownBlock=some W.heap.size) :
 J2 w K gn gl n q a b y u F X rv rm V v' f1 (X 0++[(a:Int),(b:Int)]) x1 d0 d1 (fun j=>if j=9 then true else L j) (fun j=>if j=9 then v' else vals j) W':=by
 obtain ⟨rfl,rfl⟩:=h.p9f h9
 have e0:upd (upd F 0 (F 0)) 1 f1 0=F 0:=by rw [zqi _ _ (by decide),zqk]
 have hn:=h.nj.app (k:=0) (v':=v') (by omega) ho (by rw [e0];exact hg) hc (by rw [e0];exact hp)
 have eF:upd (upd (upd F 0 (F 0)) 1 f1) 0 v'=upd (upd F 0 v') 1 f1:=by funext j;unfold upd;split <;> split <;> first | rfl | omega
 have eX:upd (upd (upd X 0 (X 0)) 1 x1) 0 (X 0++[(a:Int),(b:Int)])=upd (upd X 0 (X 0++[(a:Int),(b:Int)])) 1 x1:=by funext j;unfold upd;split <;> split <;> first | rfl | omega
 rw [eF,eX] at hn
 have hl:=hlo 0 (by omega)
 obtain ⟨sa,sc,hs⟩:=ho.slice
 refine ⟨hn,Nat.le_trans h.sz hg.size,h.zx.same hc (by decide) nww,h.cfn rfl,fun e => ?_,fun e => ?_,(fun e=>by cases e),fun _=>⟨rfl,rfl,sa,_,sc,hs⟩,h.p17f,h.p17t,h.s20f,fun e => ?_,h.s23f,h.s23t⟩
 ·obtain ⟨g,h1,h2,h3,h4⟩:=h.a8 e;exact ⟨g,h1,h2,zjs hg hl h2 h3,zjs hg hl h2 h4⟩
 ·obtain ⟨g,h1,h2,h3,h4⟩:=h.a16 e;exact ⟨g,h1,h2,zjs hg hl h2 h3,zjs hg hl h2 h4⟩
 ·have h1:=(h.s20t e).2.1
  rw [h9] at h1
  cases h1
theorem J2.app17 {v':Value} (h:J2 w K gn gl n q a b y u F X rv rm V f0 f1 x0 x1 d0 d1 L vals W) (hlo:∀ k,k<n+4->∀ g,(F k).ownBlock=some g->g<V.heap.size) (h17:L 17=false) (ho:OwnR NoWord 1 JE 3 W' w.heap.size v' (X 1++[(b:Int),(a:Int)])) (hg:W.grownBy W' (F 1).ownBlock) (hc:Chg NoWord 3 W W') (hp:v'.ownBlock=(F 1).ownBlock\/v'.ownBlock=some W.heap.size) :
 J2 w K gn gl n q a b y u F X rv rm V f0 v' x0 (X 1++[(b:Int),(a:Int)]) d0 d1 (fun j=>if j=17 then true else L j) (fun j=>if j=17 then v' else vals j) W':=by
 obtain ⟨rfl,rfl⟩:=h.p17f h17
 have e0:upd (upd F 0 f0) 1 (F 1) 1=F 1:=zqk _ _ _
 have hn:=h.nj.app (k:=1) (v':=v') (by omega) ho (by rw [e0];exact hg) hc (by rw [e0];exact hp)
 have eF:upd (upd (upd F 0 f0) 1 (F 1)) 1 v'=upd (upd F 0 f0) 1 v':=by funext j;unfold upd;split <;> rfl
 have eX:upd (upd (upd X 0 x0) 1 (X 1)) 1 (X 1++[(b:Int),(a:Int)])=upd (upd X 0 x0) 1 (X 1++[(b:Int),(a:Int)]):=by funext j;unfold upd;split <;> rfl
 rw [eF,eX] at hn
 have hl:=hlo 1 (by omega)
 obtain ⟨sa,sc,hs⟩:=ho.slice
 refine ⟨hn,Nat.le_trans h.sz hg.size,h.zx.same hc (by decide) nww,h.cfn rfl,fun e => ?_,fun e => ?_,h.p9f,h.p9t,(fun e=>by cases e),fun _=>⟨rfl,rfl,sa,_,sc,hs⟩,h.s20f,h.s20t,h.s23f,fun e => ?_⟩
 ·obtain ⟨g,h1,h2,h3,h4⟩:=h.a8 e;exact ⟨g,h1,h2,zjs hg hl h2 h3,zjs hg hl h2 h4⟩
 ·obtain ⟨g,h1,h2,h3,h4⟩:=h.a16 e;exact ⟨g,h1,h2,zjs hg hl h2 h3,zjs hg hl h2 h4⟩
 ·have h1:=(h.s23t e).2.1
  rw [h17] at h1
  cases h1
theorem NjS.aside {C:Nat->Value}{rc:Value} (h:NjS w K gn gl n C F X rc rv rm W) (o:Nat) {v:Value} (hv:NoWord v):Elsewhere gn W (W.setCell ⟨gn,o,none⟩ v)/\Chg NoWord 180 W (W.setCell ⟨gn,o,none⟩ v):=⟨else1 W o v,(h.bn.store (o:=o) hv).2⟩
theorem ZX.ne {g m:Nat}{K':Value->Prop}{t:TypeId} (h:ZX K W q y u) (hr:Raw K' t W g m) (ht:37≠t):q≠g:=by
 rintro rfl
 obtain ⟨_,_,⟨x1,x2,x3,x4,hb⟩,_⟩:=h
 obtain ⟨cur,h1,_⟩:=hr
 rw [hb] at h1
 simp at h1
 exact ht h1.2
theorem J2.st20 (h:J2 w K gn gl n q a b y u F X rv rm V f0 f1 x0 x1 d0 d1 L vals W) (h9:L 9=true) (h5:L 5=true) (ha8:∀ g,V.heap.size<=g->gn≠g) :
 J2 w K gn gl n q a b y u F X rv rm V f0 f1 x0 x1 f0 d1 (fun j=>if j=20 then true else L j) (fun j=>if j=20 then undef else vals j) (W.setCell ⟨gn,0,none⟩ f0):=by
 obtain ⟨sa,sn,sc,hs⟩:=(h.p9t h9).2.2
 have hw:NoWord f0:=fun z e=>by rw [hs] at e;cases e
 obtain ⟨he,hc⟩:=h.nj.aside 0 hw
 have hn:=h.nj.put (o:=0) (u:=f0) (C':=upd (upd F 0 f0) 1 d1) (rc':=rv) hw (by rw [zqi _ _ (by decide),zqk];rfl) (by rw [zqk,zqk];rfl) rfl (by decide) (fun k=>by rw [zqi _ _ (by omega),zqi _ _ (by omega),zqi _ _ (by omega),zqi _ _ (by omega)])
 refine ⟨hn,by simpa using h.sz,h.zx.aside he (h.zx.ne h.nj.bn (by decide)) hc,h.cfn rfl,fun e => ?_,fun e => ?_,h.p9f,h.p9t,h.p17f,h.p17t,(fun e=>by cases e),fun _=>⟨rfl,h9,h5⟩,h.s23f,h.s23t⟩
 ·obtain ⟨g,h1,h2,h3,h4⟩:=h.a8 e;exact ⟨g,h1,h2,he.cell (ha8 g h2).symm h3,he.cell (ha8 g h2).symm h4⟩
 ·obtain ⟨g,h1,h2,h3,h4⟩:=h.a16 e;exact ⟨g,h1,h2,he.cell (ha8 g h2).symm h3,he.cell (ha8 g h2).symm h4⟩
theorem J2.st23 (h:J2 w K gn gl n q a b y u F X rv rm V f0 f1 x0 x1 d0 d1 L vals W) (h17:L 17=true) (h13:L 13=true) (ha8:∀ g,V.heap.size<=g->gn≠g) :
 J2 w K gn gl n q a b y u F X rv rm V f0 f1 x0 x1 d0 f1 (fun j=>if j=23 then true else L j) (fun j=>if j=23 then undef else vals j) (W.setCell ⟨gn,1,none⟩ f1):=by
 obtain ⟨sa,sn,sc,hs⟩:=(h.p17t h17).2.2
 have hw:NoWord f1:=fun z e=>by rw [hs] at e;cases e
 obtain ⟨he,hc⟩:=h.nj.aside 1 hw
 have hn:=h.nj.put (o:=1) (u:=f1) (C':=upd (upd F 0 d0) 1 f1) (rc':=rv) hw (by rw [zqi _ _ (by decide),zqk,if_neg (by decide),zqi _ _ (by decide),zqk]) (by rw [zqk];rfl) rfl (by decide) (fun k=>by rw [zqi _ _ (by omega),zqi _ _ (by omega),zqi _ _ (by omega),zqi _ _ (by omega)])
 refine ⟨hn,by simpa using h.sz,h.zx.aside he (h.zx.ne h.nj.bn (by decide)) hc,h.cfn rfl,fun e => ?_,fun e => ?_,h.p9f,h.p9t,h.p17f,h.p17t,h.s20f,h.s20t,(fun e=>by cases e),fun _=>⟨rfl,h17,h13⟩⟩
 ·obtain ⟨g,h1,h2,h3,h4⟩:=h.a8 e;exact ⟨g,h1,h2,he.cell (ha8 g h2).symm h3,he.cell (ha8 g h2).symm h4⟩
 ·obtain ⟨g,h1,h2,h3,h4⟩:=h.a16 e;exact ⟨g,h1,h2,he.cell (ha8 g h2).symm h3,he.cell (ha8 g h2).symm h4⟩
end
end Go.Proofs.YtkdobjmhammhbaaGreatDoor
