import Derived.Test.YtkdobjmhammhbaaGreatDoorMT5
import Derived.Test.YtkdobjmhammhbaaGreatDoorMQE
import Derived.Test.YtkdobjmhammhbaaGreatDoorMT6
import Derived.Test.YtkdobjmhammhbaaGreatDoorMSE
namespace Go.Proofs.YtkdobjmhammhbaaGreatDoor
set_option maxHeartbeats 2000000
open Go.RowKit
def NoWord (u:Value):Prop:=∀ x,u≠.int .u64 x
def NoInt (u:Value):Prop:=∀ k x,u≠.int k x
def IsSl (u:Value):Prop:=∃ a n c,u=.slice a n c
theorem NoInt.noWord {u:Value} (h:NoInt u):NoWord u:=fun x=>h _ x
def Chg (K:Value->Prop) (e:TypeId) (w w':World):Prop:=∀ (b:Nat) (c:Array Value) (t:TypeId) (f:Nat×Nat),w.heap[b]? = some (.cells c t f)->(t≠e\/∃ (o:Nat) (u:Value),c[o]? = some u/\¬ K u)->w'.heap[b]? = some (.cells c t f)
theorem Chg.below {K:Value->Prop}{e:TypeId}{w w':World} (hb:Below w.heap.size w w'):Chg K e w w':=fun b c t f h _=>by
 rw [hb.block b (Array.getElem?_eq_some_iff.1 h).1];exact h
theorem Chg.trans {K:Value->Prop}{e:TypeId}{w w1 w2:World} (h:Chg K e w w1) (h':Chg K e w1 w2):Chg K e w w2:=fun b c t f hb hc=>h' b c t f (h b c t f hb hc) hc
theorem cell_block {w:World}{a:Addr}{v:Value} (h:w.cell? a=some v):∃ c t f,w.heap[a.block]? = some (.cells c t f)/\a.spot=none/\c[a.off]? = some v:=by
 unfold World.cell? at h
 split at h
 ·rename_i c t f hc
  split at h
  ·cases h
  ·rename_i hs
   exact ⟨c,t,f,hc,by simpa using hs,h⟩
 ·cases h
theorem zku {w:World}{b o:Nat}{c:Array Value}{t:TypeId}{f:Nat×Nat}{v:Value} (h:w.heap[b]? = some (.cells c t f)) (hv:c[o]? = some v):w.cell? ⟨b,o,none⟩=some v:=by simp [World.cell?,h,hv]
theorem Chg.cells {K:Value->Prop}{e:TypeId}{w w':World}{b o o':Nat}{v u:Value} (hc:Chg K e w w') (h:w.cell? ⟨b,o,none⟩=some v) (hu:w.cell? ⟨b,o',none⟩=some u) (hk:¬ K u):w'.cell? ⟨b,o,none⟩=some v:=by
 obtain ⟨c,t,f,h1,_,h3⟩:=cell_block h
 obtain ⟨c',t',f',h1',_,h3'⟩:=cell_block hu
 rw [show (⟨b,o',none⟩:Addr).block=b from rfl] at h1'
 rw [show (⟨b,o,none⟩:Addr).block=b from rfl] at h1
 rw [h1] at h1'
 obtain ⟨rfl,rfl,rfl⟩:c=c'/\t=t'/\f=f':=by simpa using h1'
 exact zku (hc b c t f h1 (Or.inr ⟨o',u,h3',hk⟩)) h3
theorem Zr.chg {N:Nat}{w w':World}{v:Value}{z:Int}{e:TypeId}{K:Value->Prop} (h:Zr N w v z) (hc:Chg K e w w') (hK:∀ x,¬ K (.int .u64 x)):Zr N w' v z:=by
 rcases h with h | ⟨s,b,off,cap,l,h1,h2,h3,h4,h5,h6,h7,h8,h9,h10,h11⟩
 ·exact Or.inl h
 ·exact Or.inr ⟨s,b,off,cap,l,h1,h2,h3,h4,h5,h6,h7,h8,h9,fun k hk=>hc.cells (h10 k hk) (h10 k hk) (hK _),h11⟩
theorem Rr.chg {N:Nat}{w w':World}{v:Value}{p d:Int}{e:TypeId}{K:Value->Prop} (h:Rr N w v p d) (hc:Chg K e w w') (hK:∀ x,¬ K (.int .u64 x)):Rr N w' v p d:=by
 obtain ⟨x,a,n,c,y,b,m,k,e,h1,h2,h3,h4⟩:=h
 exact ⟨x,a,n,c,y,b,m,k,e,h1,h2.chg hc hK,h3.chg hc hK,h4⟩
theorem Nr.chg {N:Nat}{w w':World}{v:Value}{z:Int}{e:TypeId}{K:Value->Prop} (h:Nr N w v z) (hc:Chg K e w w') (he:e≠3):Nr N w' v z:=by
 obtain ⟨neg,sl,D,h1,h2,h3⟩:=h
 refine ⟨neg,sl,D,h1,?_,h3⟩
 rcases h2 with h | ⟨b,cap,k1,k2,k3,k4,cur,k5⟩
 ·exact Or.inl h
 ·have hh:=hc b cur _ _ k5 (Or.inl (Ne.symm he))
  refine Or.inr ⟨b,cap,k1,k2,k3,fun k hk => ?_,cur,hh⟩
  obtain ⟨c,t,f,q1,_,q3⟩:=cell_block (k4 k hk)
  rw [show (⟨b,k,none⟩:Addr).block=b from rfl,k5] at q1
  obtain ⟨rfl,rfl,rfl⟩:cur=c/\_=t/\_=f:=by simpa using q1
  exact zku hh q3
theorem Qr.chg {N:Nat}{w w':World}{v:Value}{p d:Int}{e:TypeId}{K:Value->Prop} (h:Qr N w v p d) (hc:Chg K e w w') (he:e≠3):Qr N w' v p d:=by
 obtain ⟨x,a,n,c,y,b,m,k,h1,h2,h3,h4⟩:=h
 exact ⟨x,a,n,c,y,b,m,k,h1,h2.chg hc he,h3.chg hc he,h4⟩
structure OwnK (P:Value->Prop) (w:World) (base:Nat) (e:TypeId) (size:Nat) (v:Value) (n:Nat) (xs:List Value):Prop where
 own:w.ownsRow base e size v n xs
 kinds:∀ g,v.ownBlock=some g->∀ o u,w.cell? ⟨g,o,none⟩=some u->P u
theorem OwnK.nil (P:Value->Prop) (w:World) (base:Nat) (e:TypeId) (size:Nat):OwnK P w base e size (.slice none 0 0) 0 []:=⟨World.ownsRow_nil _ _ _ _,fun g hg=>by simp [Value.ownBlock] at hg⟩
theorem OwnK.later {P:Value->Prop}{w w':World}{base size n:Nat}{e:TypeId}{v:Value}{xs:List Value} (h:OwnK P w base e size v n xs) (hb:Below w.heap.size w w'):OwnK P w' base e size v n xs :=
 ⟨own_later h.own hb,fun g hg o u hu=>h.kinds g hg o u (by rw [hb.cell (p:=⟨g,o,none⟩) (h.own.lt g hg).2] at hu;exact hu)⟩
theorem OwnK.chg {P:Value->Prop}{w w':World}{base size n:Nat}{e:TypeId}{v:Value}{xs:List Value} (h:OwnK P w base e size v n xs) (hg:w.grownBy w' v.ownBlock):Chg P e w w':=by
 intro b c t f hb hc
 rw [hg.block b (Array.getElem?_eq_some_iff.1 hb).1 fun hv => ?_]
 ·exact hb
 ·rcases hc with ht | ⟨o,u,hu,hp⟩
  ·obtain ⟨_,⟨rfl,_⟩ | ⟨g,cap,cur,rfl,_,hgg,_⟩⟩:=h.own
   ·simp [Value.ownBlock] at hv
   ·obtain rfl:b=g:=by simpa [Value.ownBlock] using hv
    rw [hgg] at hb
    simp at hb
    exact ht hb.2.1.symm
  ·exact hp (h.kinds b hv.symm o u (zku hb hu))
theorem OwnK.slice {P:Value->Prop}{w:World}{base size n:Nat}{e:TypeId}{v:Value}{xs:List Value} (h:OwnK P w base e size v n xs):∃ a c,v=.slice a n c:=by
 obtain ⟨_,⟨rfl,rfl⟩ | ⟨g,cap,cur,rfl,_⟩⟩:=h.own
 ·exact ⟨_,_,rfl⟩
 ·exact ⟨_,_,rfl⟩
theorem zero_kinds {P:Value->Prop}{z:Array Value}{n:Nat} (hz:∀ u ∈ z.toList,P u) (hs:0<z.size):∀ u ∈ (Builtin.zeroCells z n).toList,P u:=by
 intro u hu
 simp only [Builtin.zeroCells,Array.toList_map,List.mem_map] at hu
 obtain ⟨i,_,rfl⟩:=hu
 have hi:i % z.size<z.size:=Nat.mod_lt _ hs
 rw [getElem!_pos z (i % z.size) hi]
 exact hz _ (by simp)
theorem new_kinds {P:Value->Prop}{w:World}{cs:Array Value}{e:TypeId} (h:∀ u ∈ cs.toList,P u):∀ g,some w.heap.size=some g->∀ o u,(w.alloc (.cells cs e)).cell? ⟨g,o,none⟩=some u->P u:=by
 intro g hg o u hu
 obtain rfl:w.heap.size=g:=by simpa using hg
 have:cs[o]? = some u:=by rw [zqe rfl] at hu;exact hu
 exact h u (by rw [<- Array.mem_def];exact Array.mem_of_getElem? this)
theorem zjd {P:Program} (w:World) (base:Nat) (t ty e:TypeId) (i:TypeInfo) (z:Value) (size bytes:Nat) (ht:P.underlying t=some (.slice e)) (hi:P.info? e=some i) (hz:i.zero=some z)
 (hsize:i.size=size) (hby:i.bytes=bytes) (hzs:z.cells.size=size) (hsz:0<size) {K:Value->Prop} (hzk:∀ u ∈ z.cells.toList,K u)
 (v:Value) (n:Nat) (xs:List Value) (hown:OwnK K w base e size v n xs)
 (a:Addr) (m c:Nat) (news:List Value) (hm:0<m) (hl:news.length=m*size) (hnews:∀ j u,news[j]? = some u->w.cell? (a.add j)=some u) (h1:∀ u ∈ news,u.oneCell'=true) (hk:∀ u ∈ news,K u)
 (h63:n+m<=maxLen) (hbytes:(n+m)*bytes<=140737488355328) (hbase:base<=w.heap.size) :
 ∃ v' w',(Builtin.append_ #[t,t] ty #[v,.slice (some a) m c]).run P w=.ok v' w'/\OwnK K w' base e size v' (n+m) (xs++news)/\w.grownBy w' v.ownBlock:=by
 obtain ⟨v',w',hr,ho,hg,_⟩:=run_append_own (P:=P) w base t ty e i z size bytes ht hi hz hsize hby hzs hsz v n xs hown.own a m c news hl hnews h1 h63 hbytes hbase
 refine ⟨v',w',hr,⟨ho,?_⟩,hg⟩
 subst hsize hby
 have hsmall:n+m<=9223372036854775807:=by simp only [maxLen] at h63;omega
 have hkx:=hown.kinds
 rcases hown.own with ⟨hxl,⟨rfl,rfl⟩ | ⟨g,cap,cur,rfl,hbg,hgg,hnc,hcm,hcs,htake⟩⟩
 ·have hr2:=run_append_nil (P:=P) w t ty e i z ht hi hz a m c news hl hnews hm (by omega) (by simp only [Nat.zero_add] at hbytes;omega)
  rw [hr] at hr2
  obtain ⟨rfl,rfl⟩:v'=_/\w'=_:=by simpa using hr2
  refine new_kinds (w:=w.drew) fun u hu => ?_
  rcases (by simpa using hu:u ∈ news\/u ∈ Builtin.zeroCells z.cells _) with h | h
  ·exact hk u h
  ·exact zero_kinds hzk (by omega) u (by simpa using h)
 ·have hcell:∀ o u,cur[o]? = some u->K u:=fun o u hu=>hkx g rfl o u (by simp [World.cell?,hgg,hu])
  by_cases hroom:n+m<=cap
  ·have hfit:n*i.size+news.length<=cur.size:=by rw [hl,hcs,<- Nat.add_mul];exact Nat.mul_le_mul_right _ hroom
   have hr2:=run_append_room (P:=P) w t ty e i ht hi g n cap cur hgg a m c news hl hnews h1 hroom hfit
   rw [hr] at hr2
   obtain ⟨rfl,rfl⟩:v'=_/\w'=_:=by simpa using hr2
   intro g' hg' o u hu
   obtain rfl:g=g':=by simpa [Value.ownBlock] using hg'
   rw [cell_of_row _ g o _ e _ (setRow_heap w g cur _ e _ hgg)] at hu
   have hm:u ∈ cur.toList.take (n*i.size)++news++cur.toList.drop (n*i.size+news.length):=by
    rw [List.append_assoc]
    exact List.mem_of_getElem? (List.getElem?_toArray ▸ hu)
   have hcl:∀ u ∈ cur.toList,K u:=fun u hu=>by
    obtain ⟨o,ho⟩:=List.getElem?_of_mem hu
    exact hcell o u (by simpa using ho)
   simp only [List.mem_append] at hm
   rcases hm with (h | h) | h
   ·exact hcl u (List.mem_of_mem_take h)
   ·exact hk u h
   ·exact hcl u (List.mem_of_mem_drop h)
  ·have holds:∀ j u,xs[j]? = some u->w.cell? ((⟨g,0,none⟩:Addr).add j)=some u:=hown.own.cells (g:=g) rfl
   have hr2:=run_append_grow (P:=P) w t ty e i z ht hi hz ⟨g,0,none⟩ n cap xs hxl holds a m c news hl hnews (by omega) (by omega) (growslice_fits (by omega) hbytes)
   rw [hr] at hr2
   obtain ⟨rfl,rfl⟩:v'=_/\w'=_:=by simpa using hr2
   refine new_kinds (w:=w.drew) fun u hu => ?_
   rcases (by simpa [or_assoc] using hu:u ∈ xs\/u ∈ news\/u ∈ Builtin.zeroCells z.cells _) with h | h | h
   ·rw [<- htake] at h
    obtain ⟨o,ho⟩:=List.getElem?_of_mem (List.mem_of_mem_take h)
    exact hcell o u (by simpa using ho)
   ·exact hk u h
   ·exact zero_kinds hzk (by omega) u (by simpa using h)
theorem wpList_pushK {P:Program}{ops:Array Oper}{rest:List Oper}{o:Oper}{A:Act}{w w0:World}{Q:Exit->Act->World->Prop} (hgd:o.guard=none) (s x:Operand) (T:TypeId)
 (ho:o.op=.call { callee:=.builtin .append,args:=#[s,x],argTypes:=#[T,T] }) {e:TypeId}{z:Value}{size bytes:Nat} (ht:P.underlying T=some (.slice e)) (hinfo:(P.info? e).map (fun i=>(i.zero,i.size,i.bytes))=some (some z,size,bytes))
 (hzs:z.cells.size=size) (hsz:0<size) (hby:bytes<=1000) {K:Value->Prop} (hzk:∀ u ∈ z.cells.toList,K u) (base:Nat) (v:Value) {n:Nat}{xs:List Value} (hs:A.eval s=v) (hown:OwnK K w0 base e size v n xs)
 (news:List Value) (hl:news.length=size) (h1:∀ u ∈ news,u.oneCell'=true) (hk:∀ u ∈ news,K u) (hx:A.eval x=.slice (some ⟨w0.heap.size,0,none⟩) 1 1) (hw:w=w0.alloc (.cells news.toArray e)) (hn:n<=100000000) (hbase:base<=w0.heap.size)
 (h:∀ v' w',OwnK K w' base e size v' (n+1) (xs++news)->Chg K e w w'->w.grownBy w' v.ownBlock->wpList P ops Q rest (A.put o.dst v') w'):wpList P ops Q (o :: rest) A w:=by
 obtain ⟨i0,hi,hz0,hz1,hz2⟩:=info_parts hinfo
 subst hw
 have hown':=hown.later (zqa w0 (.cells news.toArray e))
 obtain ⟨v',w',hr,h2,h3⟩:=zjd (P:=P) (w0.alloc (.cells news.toArray e)) base T o.type e i0 z size bytes ht hi hz0 hz1 hz2 hzs hsz hzk v n xs hown' ⟨w0.heap.size,0,none⟩ 1 1 news (by decide) (by omega)
  (fun j u hu=>by rw [show (⟨w0.heap.size,0,none⟩:Addr).add j=⟨w0.heap.size,j,none⟩ by rcases j with _ | j <;> simp [Addr.add],zqe rfl];simpa using hu) h1 hk (by unfold maxLen;omega) (by have:(n+1)*bytes<=(n+1)*1000:=Nat.mul_le_mul_left _ hby;omega) (by simp;omega)
 refine wpList_plain hgd fun _ hK => ?_
 unfold Oper.wp execOp
 simp only [ho,resolve,invoke,builtin,Sem.run_bind,Sem.run_pure,Result.andThen_ok,List.map_toArray,List.map_cons,List.map_nil,hs,hx,hr]
 exact hK _ _ (h v' w' h2 (hown'.chg h3) h3)
theorem rqread_core (s:ByteArray) (w:World) (hs:s.size<=9223372036854775807) :
 Calls Tryz.prog 36 #[.string s,.int .i64 300] w fun e w'=>QRP s e w'/\Below w.heap.size w w':=by
 by_cases h1:runEnd s (atOf s)=atOf s\/atOf s+300<runEnd s (atOf s)
 ·exact rq_early s w hs h1
 ·have h0:=runEnd_ge s _ (atOf s) rfl
  cases h2:bAt s (runEnd s (atOf s)) 47
  ·cases h3:said s with
   | inl x =>
    by_cases h4:bAt s (runEnd s (atOf s)) 46=true/\(runEnd s (runEnd s (atOf s)+1)=runEnd s (atOf s)+1\/runEnd s (atOf s)+1+300<runEnd s (runEnd s (atOf s)+1))
    ·exact rq_point_bad s w hs h4 ⟨by omega,by omega,h2⟩
    ·exact rq_exp_bad s w hs ⟨⟨x,h3⟩,h4⟩ ⟨by omega,by omega,h2⟩
   | inr x=>exact rq_dec_good s w hs ⟨x,h3⟩ ⟨by omega,by omega,h2⟩
  ·exact rq_stroke s w hs ⟨by omega,by omega,h2⟩
theorem rqread_any (s:ByteArray) (w:World) (hs:s.size<=9223372036854775807) :
 Calls Tryz.prog 14 #[.string s] w fun e w'=>QRP s e w'/\Below w.heap.size w w':=by
 have hst:=QK.start w
 go_enter Tryz.func14,Tryz.ntmps14
 go_wp2_with fail
 go_fit (rqread_core s _ hs)
 rintro e W1 ⟨hc,hb1⟩
 have hst1:=hst.keep hb1
 clear hst hb1
 obtain ⟨⟨x0,g0⟩,⟨a0,n0,c0,g1⟩,⟨x1,g2⟩,⟨a1,n1,c1,g3⟩,gf⟩:=hst1.qb.cells
 obtain ⟨⟨y0,k0⟩,⟨y1,k1⟩,kf⟩:=hst1.fb.cells
 have hlt:=hst1.lt
 rcases hc with ⟨c,k,hsd,hc1,hc3,rfl⟩ | ⟨p,q,v,P,D,hsd,hq,rfl,hQ,hE⟩
 ·have HSD:=qh hsd
  clear hsd
  go_wp2
  obtain ⟨t0,t1,t2,t3,t4,t5,hB⟩:=hst1.out (.bool false) (.slice none 0 0) (.bool false) (.slice none 0 0) (.int .i64 c) (.int .i64 k)
  exact bodyPost_ret (v:=.tuple #[.agg #[.bool false,.slice none 0 0,.bool false,.slice none 0 0],.agg #[.int .i64 c,.int .i64 k]]) (by simp [results,Tryz.results14,go_sem,t0,t1,t2,t3,t4,t5]) rfl ⟨Or.inl ⟨c,k,uh HSD,hc1,hc3,rfl⟩,hB⟩
 ·have HSD:=qh hsd
  have HE:=qh hE
  clear hsd hE
  obtain ⟨i5,i6,i7,i8,i9,i10,i11,i12,rfl,hP3,hD3,D0,hG3⟩:=hQ
  have HG3:=qh hG3
  clear hG3
  go_wp2
  obtain ⟨t0,t1,t2,t3,t4,t5,hB⟩:=hst1.out (.bool i5) (.slice i6 i7 i8) (.bool i9) (.slice i10 i11 i12) (.int .i64 0) (.int .i64 (-1))
  exact bodyPost_ret (v:=.tuple #[.agg #[.bool i5,.slice i6 i7 i8,.bool i9,.slice i10 i11 i12],.agg #[.int .i64 0,.int .i64 (-1)]]) (by simp [results,Tryz.results14,go_sem,t0,t1,t2,t3,t4,t5]) rfl ⟨Or.inr ⟨p,q,_,P,D,uh HSD,hq,rfl,⟨_,_,_,_,_,_,_,_,rfl,hst1.nr hP3 _ _ _ _ _ _,hst1.nr hD3 _ _ _ _ _ _,D0,uh HG3⟩,uh HE⟩,hB⟩
theorem c4_keep {w1 w2:World}{b:Nat}{v0 v1 v2 v3:Value} (hb:Below w1.heap.size w1 w2) (h:w1.cell? ⟨b,0,none⟩=some v0/\w1.cell? ⟨b,1,none⟩=some v1/\w1.cell? ⟨b,2,none⟩=some v2/\w1.cell? ⟨b,3,none⟩=some v3):w2.cell? ⟨b,0,none⟩=some v0/\w2.cell? ⟨b,1,none⟩=some v1/\w2.cell? ⟨b,2,none⟩=some v2/\w2.cell? ⟨b,3,none⟩=some v3 :=
 ⟨ck hb h.1,ck hb h.2.1,ck hb h.2.2.1,ck hb h.2.2.2⟩
theorem c4_new {w:World} (v0 v1 v2 v3:Value) (t:TypeId):let w1:=w.alloc (.cells #[v0,v1,v2,v3] t);w1.cell? ⟨w.heap.size,0,none⟩=some v0/\w1.cell? ⟨w.heap.size,1,none⟩=some v1/\w1.cell? ⟨w.heap.size,2,none⟩=some v2/\w1.cell? ⟨w.heap.size,3,none⟩=some v3:=by
 intro w1
 refine ⟨?_,?_,?_,?_⟩ <;> (show (World.alloc _ _).cell? _=_;rw [zqe rfl];rfl)
structure RB (N:Nat) (wr:World) (b:Nat) (x1:Int) (x2:Option Addr) (x3 x4:Nat) (x5:Int) (x6:Option Addr) (x7 x8:Nat) (P D:Int):Prop where
 c:wr.cell? ⟨b,0,none⟩=some (.int .i64 x1)/\wr.cell? ⟨b,1,none⟩=some (.slice x2 x3 x4)/\wr.cell? ⟨b,2,none⟩=some (.int .i64 x5)/\wr.cell? ⟨b,3,none⟩=some (.slice x6 x7 x8)
 r:Rr N wr (.agg #[.int .i64 x1,.slice x2 x3 x4,.int .i64 x5,.slice x6 x7 x8]) P D
theorem RB.keep {N:Nat}{wr w1:World}{b:Nat}{x1:Int}{x2:Option Addr}{x3 x4:Nat}{x5:Int}{x6:Option Addr}{x7 x8:Nat}{P D:Int} (h:RB N wr b x1 x2 x3 x4 x5 x6 x7 x8 P D) (hb:Below wr.heap.size wr w1):RB N w1 b x1 x2 x3 x4 x5 x6 x7 x8 P D:=⟨c4_keep hb h.c,h.r.later hb⟩
theorem RB.drew {N:Nat}{wr:World}{b:Nat}{x1:Int}{x2:Option Addr}{x3 x4:Nat}{x5:Int}{x6:Option Addr}{x7 x8:Nat}{P D:Int} (h:RB N wr b x1 x2 x3 x4 x5 x6 x7 x8 P D):RB N wr.drew b x1 x2 x3 x4 x5 x6 x7 x8 P D:=⟨h.c,h.r⟩
theorem RB.new {N:Nat}{w:World}{x1:Int}{x2:Option Addr}{x3 x4:Nat}{x5:Int}{x6:Option Addr}{x7 x8:Nat}{P D:Int} (h:Rr N w (.agg #[.int .i64 x1,.slice x2 x3 x4,.int .i64 x5,.slice x6 x7 x8]) P D):RB N (w.alloc (.cells #[.int .i64 x1,.slice x2 x3 x4,.int .i64 x5,.slice x6 x7 x8] 39)) w.heap.size x1 x2 x3 x4 x5 x6 x7 x8 P D:=⟨c4_new _ _ _ _ _,h.later (zqa _ _)⟩
def Rows {α:Type} (k:Nat) (E:World->List Value -> α -> Prop) (w:World) (v:Value) (L:List α):Prop :=
 ∃ a cap,v=.slice a L.length cap/\L.length<=cap/\cap<=maxLen/\(L=[]\/∃ b o,a=some ⟨b,o,none⟩/\∀ i x,L[i]? = some x->∃ cs,cs.length=k/\(∀ j u,cs[j]? = some u->w.cell? ⟨b,o+(i*k+j),none⟩=some u)/\E w cs x)
def Stays {α:Type} (K:Value->Prop) (e:TypeId) (E:World->List Value -> α -> Prop):Prop:=∀ w w' cs x,E w cs x->Chg K e w w'->E w' cs x
theorem Rows.shape {α:Type}{k:Nat}{E:World->List Value -> α -> Prop}{w:World}{v:Value}{L:List α} (h:Rows k E w v L):∃ a c,v=.slice a L.length c:=by obtain ⟨a,c,h,_⟩:=h;exact ⟨a,c,h⟩
theorem Rows.small {α:Type}{k:Nat}{E:World->List Value -> α -> Prop}{w:World}{v:Value}{L:List α} (h:Rows k E w v L):L.length<=maxLen:=by obtain ⟨a,c,_,h1,h2,_⟩:=h;omega
theorem Rows.len {α:Type}{k:Nat}{E:World->List Value -> α -> Prop}{w:World}{a:Option Addr}{n c:Nat}{L:List α} (h:Rows k E w (.slice a n c) L):n=L.length:=by obtain ⟨a',c',h,_⟩:=h;simp at h;exact h.2.1
theorem Rows.chg {α:Type}{k:Nat}{E:World->List Value -> α -> Prop}{K:Value->Prop}{e:TypeId}{w w':World}{v:Value}{L:List α} (h:Rows k E w v L) (hE:Stays K e E) (hne:∀ w cs x,E w cs x->∃ u ∈ cs,¬ K u) (hc:Chg K e w w'):Rows k E w' v L:=by
 obtain ⟨a,cap,h1,h2,h3,h4⟩:=h
 refine ⟨a,cap,h1,h2,h3,?_⟩
 rcases h4 with h4 | ⟨b,o,h4,h5⟩
 ·exact Or.inl h4
 ·refine Or.inr ⟨b,o,h4,fun i x hx => ?_⟩
  obtain ⟨cs,hl,hcs,he⟩:=h5 i x hx
  obtain ⟨u,hu,hK⟩:=hne _ _ _ he
  obtain ⟨j,hj⟩:=List.getElem?_of_mem hu
  exact ⟨cs,hl,fun j' u' hu'=>hc.cells (hcs j' u' hu') (hcs j u hj) hK,hE _ _ _ _ he hc⟩
theorem Rows.later {α:Type}{k:Nat}{E:World->List Value -> α -> Prop}{K:Value->Prop}{e:TypeId}{w w':World}{v:Value}{L:List α} (h:Rows k E w v L) (hE:Stays K e E) (hb:Below w.heap.size w w'):Rows k E w' v L:=by
 obtain ⟨a,cap,h1,h2,h3,h4⟩:=h
 refine ⟨a,cap,h1,h2,h3,?_⟩
 rcases h4 with h4 | ⟨b,o,h4,h5⟩
 ·exact Or.inl h4
 ·refine Or.inr ⟨b,o,h4,fun i x hx => ?_⟩
  obtain ⟨cs,hl,hcs,he⟩:=h5 i x hx
  exact ⟨cs,hl,fun j' u' hu'=>ck hb (hcs j' u' hu'),hE _ _ _ _ he (Chg.below hb)⟩
theorem Rows.at {α:Type}{k:Nat}{E:World->List Value -> α -> Prop}{w:World}{a:Option Addr}{n c i:Nat}{L:List α}{x:α} (h:Rows k E w (.slice a n c) L) (hx:L[i]? = some x):∃ b o,a=some ⟨b,o,none⟩/\∃ cs,cs.length=k/\(∀ j u,cs[j]? = some u->w.cell? ⟨b,o+(i*k+j),none⟩=some u)/\E w cs x:=by
 obtain ⟨a',cap,h1,h2,h3,h4⟩:=h
 simp at h1
 obtain ⟨rfl,rfl,rfl⟩:=h1
 rcases h4 with rfl | ⟨b,o,h4,h5⟩
 ·simp at hx
 ·exact ⟨b,o,h4,h5 i x hx⟩
def OwnR {α:Type} (K:Value->Prop) (k:Nat) (E:World->List Value -> α -> Prop) (t:TypeId) (w:World) (base:Nat) (v:Value) (L:List α):Prop :=
 ∃ xs,OwnK K w base t k v L.length xs/\∀ i x,L[i]? = some x->∃ cs,cs.length=k/\(∀ j u,cs[j]? = some u->xs[i*k+j]? = some u)/\E w cs x
theorem OwnR.nil {α:Type} (K:Value->Prop) (k:Nat) (E:World->List Value -> α -> Prop) (t:TypeId) (w:World) (base:Nat):OwnR K k E t w base (.slice none 0 0) []:=⟨[],OwnK.nil _ _ _ _ _,fun i x hx=>by simp at hx⟩
theorem OwnR.later {α:Type}{K:Value->Prop}{k:Nat}{E:World->List Value -> α -> Prop}{t:TypeId}{w w':World}{base:Nat}{v:Value}{L:List α} (h:OwnR K k E t w base v L) (hE:Stays K t E) (hb:Below w.heap.size w w'):OwnR K k E t w' base v L:=by
 obtain ⟨xs,h1,h2⟩:=h
 refine ⟨xs,h1.later hb,fun i x hx => ?_⟩
 obtain ⟨cs,hl,hcs,he⟩:=h2 i x hx
 exact ⟨cs,hl,hcs,hE _ _ _ _ he (Chg.below hb)⟩
theorem OwnR.rows {α:Type}{K:Value->Prop}{k:Nat}{E:World->List Value -> α -> Prop}{t:TypeId}{w:World}{base:Nat}{v:Value}{L:List α} (h:OwnR K k E t w base v L):Rows k E w v L:=by
 obtain ⟨xs,h1,h2⟩:=h
 have hc:=@World.ownsRow.cells _ _ _ _ _ _ _ h1.own
 obtain ⟨_,⟨rfl,h3⟩ | ⟨g,cap,cur,rfl,_,_,h6,h7,_⟩⟩:=h1.own
 ·exact ⟨none,0,by rw [h3],by omega,by unfold maxLen;omega,Or.inl (List.eq_nil_of_length_eq_zero h3)⟩
 ·refine ⟨_,cap,rfl,h6,h7,Or.inr ⟨g,0,rfl,fun i x hx => ?_⟩⟩
  obtain ⟨cs,hl,hcs,he⟩:=h2 i x hx
  refine ⟨cs,hl,fun j u hu => ?_,he⟩
  have:=hc (g:=g) rfl _ _ (hcs j u hu)
  rw [show (⟨g,0,none⟩:Addr).add (i*k+j)=⟨g,0+(i*k+j),none⟩ by unfold Addr.add;split <;> simp_all] at this
  exact this
theorem OwnR.slice {α:Type}{K:Value->Prop}{k:Nat}{E:World->List Value -> α -> Prop}{t:TypeId}{w:World}{base:Nat}{v:Value}{L:List α} (h:OwnR K k E t w base v L):∃ a c,v=.slice a L.length c:=by obtain ⟨xs,h1,_⟩:=h;exact h1.slice
theorem OwnR.snoc {α:Type}{K:Value->Prop}{k:Nat}{E:World->List Value -> α -> Prop}{t:TypeId}{w w':World}{base:Nat}{v v':Value}{L:List α}{xs cs:List Value}{z:α} (hE:Stays K t E) (h1:OwnK K w base t k v L.length xs) (h2:∀ i x,L[i]? = some x->∃ cs,cs.length=k/\(∀ j u,cs[j]? = some u->xs[i*k+j]? = some u)/\E w cs x)
 (hz:E w cs z) (hl:cs.length=k) (hnew:OwnK K w' base t k v' (L.length+1) (xs++cs)) (hc:Chg K t w w'):OwnR K k E t w' base v' (L++[z]):=by
 have hxl:xs.length=L.length*k:=h1.own.1
 refine ⟨xs++cs,by rw [List.length_append,List.length_singleton];exact hnew,fun i x hx => ?_⟩
 rcases Nat.lt_or_ge i L.length with hlt | hge
 ·rw [List.getElem?_append_left hlt] at hx
  obtain ⟨ds,hdl,hds,he⟩:=h2 i x hx
  refine ⟨ds,hdl,fun j u hu => ?_,hE _ _ _ _ he hc⟩
  have h3:=hds j u hu
  rw [List.getElem?_append_left (List.getElem?_eq_some_iff.1 h3).1]
  exact h3
 ·rw [List.getElem?_append_right hge] at hx
  have hi:i=L.length:=by
   have:=(List.getElem?_eq_some_iff.1 hx).1
   simp at this;omega
  subst hi
  simp at hx
  subst hx
  refine ⟨cs,hl,fun j u hu => ?_,hE _ _ _ _ hz hc⟩
  rw [List.getElem?_append_right (by omega),hxl,show L.length*k+j - L.length*k=j by omega]
  exact hu
theorem wpList_pushE {α:Type}{P:Program}{ops:Array Oper}{rest:List Oper}{o:Oper}{A:Act}{w w0:World}{Q:Exit->Act->World->Prop} (hgd:o.guard=none) (s x:Operand) (T:TypeId)
 (ho:o.op=.call { callee:=.builtin .append,args:=#[s,x],argTypes:=#[T,T] }) {e:TypeId}{z:Value}{k bytes:Nat} (ht:P.underlying T=some (.slice e)) (hinfo:(P.info? e).map (fun i=>(i.zero,i.size,i.bytes))=some (some z,k,bytes))
 (hzs:z.cells.size=k) (hsz:0<k) (hby:bytes<=1000) {K:Value->Prop} (hzk:∀ u ∈ z.cells.toList,K u) {E:World->List Value -> α -> Prop} (hE:Stays K e E) (base:Nat) (v:Value) {L:List α} (hs:A.eval s=v) (hown:OwnR K k E e w0 base v L)
 {y:α} (news:List Value) (hl:news.length=k) (h1:∀ u ∈ news,u.oneCell'=true) (hk:∀ u ∈ news,K u) (hy:E w0 news y) (hx:A.eval x=.slice (some ⟨w0.heap.size,0,none⟩) 1 1) (hw:w=w0.alloc (.cells news.toArray e)) (hn:L.length<=100000000) (hbase:base<=w0.heap.size)
 (h:∀ v' w',OwnR K k E e w' base v' (L++[y])->Chg K e w w'->w.grownBy w' v.ownBlock->(∀ g,v.ownBlock=some g->base<=g)->wpList P ops Q rest (A.put o.dst v') w'):wpList P ops Q (o :: rest) A w:=by
 obtain ⟨xs,hown,h2⟩:=hown
 have kn:=zqa w0 (.cells news.toArray e)
 refine wpList_pushK hgd s x T ho ht hinfo hzs hsz hby hzk base v hs hown news hl h1 hk hx hw hn hbase fun v' w' h3 h4 h5 => ?_
 subst hw
 refine h v' w' (OwnR.snoc hE (hown.later kn) (fun i x hx => ?_) (hE _ _ _ _ hy (Chg.below kn)) hl h3 h4) h4 h5 (fun g hg=>(hown.own.lt g hg).1)
 obtain ⟨cs,hl,hcs,he⟩:=h2 i x hx
 exact ⟨cs,hl,hcs,hE _ _ _ _ he (Chg.below kn)⟩
def TE (_w:World) (cs:List Value) (s:ByteArray):Prop:=cs=[.string s]/\s.size<=maxLen
def QE (N:Nat) (w:World) (cs:List Value) (x:Int×Int):Prop:=∃ x1 x2 x3 x4 x5 x6 x7 x8,cs=[.bool x1,.slice x2 x3 x4,.bool x5,.slice x6 x7 x8]/\Qr N w (.agg #[.bool x1,.slice x2 x3 x4,.bool x5,.slice x6 x7 x8]) x.1 x.2
def RE (N:Nat) (w:World) (cs:List Value) (x:Int×Int):Prop:=∃ x1 x2 x3 x4 x5 x6 x7 x8,cs=[.int .i64 x1,.slice x2 x3 x4,.int .i64 x5,.slice x6 x7 x8]/\Rr N w (.agg #[.int .i64 x1,.slice x2 x3 x4,.int .i64 x5,.slice x6 x7 x8]) x.1 x.2
def ZE (N:Nat) (w:World) (cs:List Value) (z:Int):Prop:=∃ x1 x2 x3 x4,cs=[.int .i64 x1,.slice x2 x3 x4]/\Zr N w (.agg #[.int .i64 x1,.slice x2 x3 x4]) z
def LE {α:Type} (k:Nat) (E:World->List Value -> α -> Prop) (w:World) (cs:List Value) (L:List α):Prop:=∃ u,cs=[u]/\Rows k E w u L
theorem TE.stays (K:Value->Prop) (e:TypeId):Stays K e TE:=fun _ _ _ _ h _=>h
theorem QE.stays (N:Nat) (K:Value->Prop) {e:TypeId} (he:e≠3):Stays K e (QE N):=fun _ _ _ _ ⟨x1,x2,x3,x4,x5,x6,x7,x8,h1,h2⟩ hc=>⟨x1,x2,x3,x4,x5,x6,x7,x8,h1,h2.chg hc he⟩
theorem RE.stays (N:Nat) {K:Value->Prop} (e:TypeId) (hK:∀ x,¬ K (.int .u64 x)):Stays K e (RE N):=fun _ _ _ _ ⟨x1,x2,x3,x4,x5,x6,x7,x8,h1,h2⟩ hc=>⟨x1,x2,x3,x4,x5,x6,x7,x8,h1,h2.chg hc hK⟩
theorem ZE.stays (N:Nat) {K:Value->Prop} (e:TypeId) (hK:∀ x,¬ K (.int .u64 x)):Stays K e (ZE N):=fun _ _ _ _ ⟨x1,x2,x3,x4,h1,h2⟩ hc=>⟨x1,x2,x3,x4,h1,h2.chg hc hK⟩
theorem LE.stays {α:Type}{k:Nat}{E:World->List Value -> α -> Prop}{K:Value->Prop}{e:TypeId} (hE:Stays K e E) (hne:∀ w cs x,E w cs x->∃ u ∈ cs,¬ K u):Stays K e (LE k E):=fun _ _ _ _ ⟨u,h1,h2⟩ hc=>⟨u,h1,h2.chg hE hne hc⟩
def Hi (lo:Nat) (v:Value):Prop:=∀ b o n c,v=.slice (some ⟨b,o,none⟩) n c->lo<=b
theorem OwnR.hi {α:Type}{K:Value->Prop}{k:Nat}{E:World->List Value -> α -> Prop}{t:TypeId}{w:World}{base lo:Nat}{v:Value}{L:List α} (h:OwnR K k E t w base v L) (hlo:lo<=base):Hi lo v:=by
 obtain ⟨xs,h1,_⟩:=h
 intro b o n c e
 have:=(h1.own.lt b (by rw [e];rfl)).1
 omega
end Go.Proofs.YtkdobjmhammhbaaGreatDoor
