import Derived.Test.YtkdobjmhammhbaaGreatDoorMK3
namespace Go.Proofs.YtkdobjmhammhbaaGreatDoor
set_option maxHeartbeats 8000000
set_option maxRecDepth 8000
open Go.RowKit
def JE (_w:World) (cs:List Value) (x:Int):Prop:=cs=[.int .i64 x] /\ -9223372036854775808<=x/\x<=9223372036854775807
theorem JE.stays (K:Value->Prop) (e:TypeId):Stays K e JE:=fun _ _ _ _ h _=>h
theorem JE.other (w:World) (cs:List Value) (x:Int) (h:JE w cs x):∃ u ∈ cs,¬ IsSl u:=by
 obtain ⟨rfl,_⟩:=h
 exact ⟨_,List.mem_singleton.2 rfl,fun ⟨_,_,_,h⟩=>by cases h⟩
theorem Rows.int {w:World}{a:Option Addr}{n c i:Nat}{L:List Int}{x:Int} (h:Rows 1 JE w (.slice a n c) L) (hx:L[i]? = some x):∃ b o,a=some ⟨b,o,none⟩/\w.cell? ⟨b,o+i,none⟩=some (.int .i64 x) /\ -9223372036854775808<=x/\x<=9223372036854775807:=by
 obtain ⟨b,o,rfl,cs,_,hcs,rfl,hb⟩:=h.at hx
 exact ⟨b,o,rfl,by simpa using hcs 0 _ rfl,hb⟩
theorem Rows.row {w:World}{a:Option Addr}{n c i:Nat}{L:List (List Int)}{r:List Int} (h:Rows 1 (LE 1 JE) w (.slice a n c) L) (hx:L[i]? = some r):∃ b o ra rc,a=some ⟨b,o,none⟩/\w.cell? ⟨b,o+i,none⟩=some (.slice ra r.length rc)/\Rows 1 JE w (.slice ra r.length rc) r:=by
 obtain ⟨b,o,rfl,cs,_,hcs,u,rfl,hr⟩:=h.at hx
 obtain ⟨ra,rc,rfl⟩:=hr.shape
 exact ⟨b,o,ra,rc,rfl,by simpa using hcs 0 _ rfl,hr⟩
def I64 (x:Int):Prop := -9223372036854775808<=x/\x<=9223372036854775807
theorem Rows.on {α:Type}{k:Nat}{E:World->List Value -> α -> Prop}{w w':World}{v:Value}{L:List α} (h:Rows k E w v L) (hE:∀ cs x,E w cs x->E w' cs x) (hb:Below w.heap.size w w'):Rows k E w' v L:=by
 obtain ⟨a,cap,h1,h2,h3,h4⟩:=h
 refine ⟨a,cap,h1,h2,h3,?_⟩
 rcases h4 with h4 | ⟨b,o,h4,h5⟩
 ·exact Or.inl h4
 ·refine Or.inr ⟨b,o,h4,fun i x hx => ?_⟩
  obtain ⟨cs,hl,hcs,he⟩:=h5 i x hx
  exact ⟨cs,hl,fun j' u' hu'=>ck hb (hcs j' u' hu'),hE _ _ he⟩
def YesP (e:Ending) (p:Prop):Prop:=∃ b,e=.returned (.bool b)/\(b=true↔p)
theorem YesP.yes {p:Prop} (h:p):YesP (.returned (.bool true)) p:=⟨true,rfl,fun _=>h,fun _=>rfl⟩
theorem YesP.no {p:Prop} (h:¬ p):YesP (.returned (.bool false)) p:=⟨false,rfl,(fun e=>by cases e),fun h'=>absurd h' h⟩
theorem YesP.of {p:Prop}{b:Bool} (h:b=true↔p):YesP (.returned (.bool b)) p:=⟨b,rfl,h⟩
theorem wrapI64 (n:Int):IntKind.i64.wrap n=wrap64 n:=by unfold wrap64;exact IntKind.wrap_i64 n
theorem JE.kinds (x:Int):∀ u ∈ [Value.int .i64 x],NoWord u:=by intro u hu z e;simp at hu;rw [hu] at e;cases e
theorem zk_i:∀ u ∈ (Value.int .i64 0).cells.toList,NoWord u:=JE.kinds 0
theorem one_i (x:Int):∀ u ∈ [Value.int .i64 x],u.oneCell'=true:=by intro u hu;simp at hu;subst hu;rfl
theorem rows_nil {α:Type}{k:Nat}{E:World->List Value -> α -> Prop} (w:World):Rows k E w (.slice none 0 0) []:=⟨none,0,rfl,Nat.le_refl _,Nat.zero_le _,Or.inl rfl⟩
theorem info_ji:(Tryz.prog.info? 3).map (fun i=>(i.zero,i.size,i.bytes))=some (some (.int .i64 0),1,8):=by kernel_rfl
def BE (_w:World) (cs:List Value) (x:Bool):Prop:=cs=[.bool x]
theorem BE.stays (K:Value->Prop) (e:TypeId):Stays K e BE:=fun _ _ _ _ h _=>h
theorem Rows.flag {w:World}{a:Option Addr}{n c i:Nat}{L:List Bool}{x:Bool} (h:Rows 1 BE w (.slice a n c) L) (hx:L[i]? = some x):∃ b o,a=some ⟨b,o,none⟩/\w.cell? ⟨b,o+i,none⟩=some (.bool x):=by
 obtain ⟨b,o,rfl,cs,_,hcs,rfl⟩:=h.at hx
 exact ⟨b,o,rfl,by simpa using hcs 0 _ rfl⟩
theorem run_pushE {α:Type}{P:Program}{w w0:World}{T ty e:TypeId}{z:Value}{k bytes:Nat} (ht:P.underlying T=some (.slice e)) (hinfo:(P.info? e).map (fun i=>(i.zero,i.size,i.bytes))=some (some z,k,bytes))
 (hzs:z.cells.size=k) (hsz:0<k) (hby:bytes<=1000) {K:Value->Prop} (hzk:∀ u ∈ z.cells.toList,K u) {E:World->List Value -> α -> Prop} (hE:Stays K e E) (base:Nat) (v:Value) {L:List α} (hown:OwnR K k E e w0 base v L)
 {y:α} (news:List Value) (hl:news.length=k) (h1:∀ u ∈ news,u.oneCell'=true) (hk:∀ u ∈ news,K u) (hy:E w0 news y) (hw:w=w0.alloc (.cells news.toArray e)) (hn:L.length<=100000000) (hbase:base<=w0.heap.size) :
 ∃ v' w',(Builtin.append_ #[T,T] ty #[v,.slice (some ⟨w0.heap.size,0,none⟩) 1 1]).run P w=.ok v' w'/\OwnR K k E e w' base v' (L++[y])/\w.grownBy w' v.ownBlock/\∀ g,v.ownBlock=some g->base<=g:=by
 obtain ⟨xs,hown,h2⟩:=hown
 obtain ⟨i0,hi,hz0,hz1,hz2⟩:=info_parts hinfo
 subst hw
 have kn:=zqa w0 (.cells news.toArray e)
 have hown':=hown.later kn
 obtain ⟨v',w',hr,h3,h5⟩:=zjd (P:=P) (w0.alloc (.cells news.toArray e)) base T ty e i0 z k bytes ht hi hz0 hz1 hz2 hzs hsz hzk v L.length xs hown' ⟨w0.heap.size,0,none⟩ 1 1 news (by decide) (by omega)
  (fun j u hu=>by rw [show (⟨w0.heap.size,0,none⟩:Addr).add j=⟨w0.heap.size,j,none⟩ by rcases j with _ | j <;> simp [Addr.add],zqe rfl];simpa using hu) h1 hk (by unfold maxLen;omega) (by have:(L.length+1)*bytes<=(L.length+1)*1000:=Nat.mul_le_mul_left _ hby;omega) (by simp;omega)
 refine ⟨v',w',hr,OwnR.snoc hE hown' (fun i x hx => ?_) (hE _ _ _ _ hy (Chg.below kn)) hl h3 (hown'.chg h5),h5,fun g hg=>(hown.own.lt g hg).1⟩
 obtain ⟨cs,hl,hcs,he⟩:=h2 i x hx
 exact ⟨cs,hl,hcs,hE _ _ _ _ he (Chg.below kn)⟩
theorem step_pushE {α:Type}{P:Program}{ops:Array Oper}{o:Oper}{A:Act}{w w0:World}{KK:Act->World->Prop}{Q:Exit->Act->World->Prop}{EE:Prop} (hgd:o.guard=none) (s x:Operand) (T:TypeId)
 (ho:o.op=.call { callee:=.builtin .append,args:=#[s,x],argTypes:=#[T,T] }) {e:TypeId}{z:Value}{k bytes:Nat} (ht:P.underlying T=some (.slice e)) (hinfo:(P.info? e).map (fun i=>(i.zero,i.size,i.bytes))=some (some z,k,bytes))
 (hzs:z.cells.size=k) (hsz:0<k) (hby:bytes<=1000) {K:Value->Prop} (hzk:∀ u ∈ z.cells.toList,K u) {E:World->List Value -> α -> Prop} (hE:Stays K e E) (base:Nat) (v:Value) {L:List α} (hs:A.eval s=v) (hown:OwnR K k E e w0 base v L)
 {y:α} (news:List Value) (hl:news.length=k) (h1:∀ u ∈ news,u.oneCell'=true) (hk:∀ u ∈ news,K u) (hy:E w0 news y) (hx:A.eval x=.slice (some ⟨w0.heap.size,0,none⟩) 1 1) (hw:w=w0.alloc (.cells news.toArray e)) (hn:L.length<=100000000) (hbase:base<=w0.heap.size)
 (h:∀ v' w',OwnR K k E e w' base v' (L++[y])->w.grownBy w' v.ownBlock->(∀ g,v.ownBlock=some g->base<=g)->KK (A.put o.dst v') w'):if Region.wanted o (yielded ops A.tmps)=true then Oper.wp P o A w KK Q else EE:=by
 obtain ⟨v',w',hr,h2,h3,h4⟩:=run_pushE (ty:=o.type) ht hinfo hzs hsz hby hzk hE base v hown news hl h1 hk hy hw hn hbase
 rw [if_pos (by simp [Region.wanted,hgd])]
 unfold Oper.wp execOp
 simp only [ho,resolve,invoke,builtin,Sem.run_bind,Sem.run_pure,Result.andThen_ok,List.map_toArray,List.map_cons,List.map_nil,hs,hx,hr]
 exact h v' w' h2 h3 h4
structure Big (K N:Nat) (T:Int):Prop where
 r:T<=pw (K+1)
 q:T<=10000 ^ N
 k:78<=K/\K<=9000
 n:362<=N/\N<=30000
def Dn (T D:Int):Prop:=0<D/\D<T
def Ins (T s:Int):Prop := -T<s/\s<T
def Rs (K:Nat) (D:Int) (w:World) (v:Value) (s:Int):Prop:=∃ p d,Rr (K+1) w v p d/\p*D=s*d
def Qs (N:Nat) (D:Int) (w:World) (v:Value) (s:Int):Prop:=∃ p d,Qr N w v p d/\p*D=s*d
theorem zxc (w:World) (o:Obj):(w.alloc o).heap.size=w.heap.size+1:=by simp
theorem Rs.later {K:Nat}{D s:Int}{w w':World}{v:Value} (h:Rs K D w v s) (hb:Below w.heap.size w w'):Rs K D w' v s:=by
 obtain ⟨p,d,h1,h2⟩:=h
 exact ⟨p,d,h1.later hb,h2⟩
theorem Qs.later {N:Nat}{D s:Int}{w w':World}{v:Value} (h:Qs N D w v s) (hb:Below w.heap.size w w'):Qs N D w' v s:=by
 obtain ⟨p,d,h1,h2⟩:=h
 exact ⟨p,d,h1.later hb,h2⟩
theorem Rs.shape {K:Nat}{D s:Int}{w:World}{v:Value} (h:Rs K D w v s):∃ x a n c y b m k,v=.agg #[.int .i64 x,.slice a n c,.int .i64 y,.slice b m k]:=by
 obtain ⟨p,d,h1,_⟩:=h
 exact h1.shape
theorem Qs.shape {N:Nat}{D s:Int}{w:World}{v:Value} (h:Qs N D w v s):∃ x a n c y b m k,v=.agg #[.bool x,.slice a n c,.bool y,.slice b m k]:=by
 obtain ⟨p,d,h1,_⟩:=h
 exact h1.shape
theorem Rr.low {N:Nat}{w:World}{v:Value}{p d:Int} (h:Rr N w v p d):0<d/\Int.gcd p d=1:=by
 obtain ⟨x,a,n,c,y,b,m,k,e,h1,h2,h3,h4,h5,h6⟩:=h
 exact ⟨h4,h5⟩
theorem Rr.fit {N M:Nat}{w:World}{v:Value}{p d:Int} (h:Rr N w v p d) (hp:-pw M<p/\p<pw M) (hd:d<pw M):Rr M w v p d:=by
 obtain ⟨x,a,n,c,y,b,m,k,e,h1,h2,h3,h4,h5,h6⟩:=h
 have p0:=zkm M
 refine ⟨x,a,n,c,y,b,m,k,e,h1,h2.fit hp.1 hp.2,h3.fit ?_ ?_,h4,h5,h6⟩
 all_goals rcases h6 with ⟨_,e0⟩ | ⟨_,e0⟩ <;> omega
theorem Qr.pos {N:Nat}{w:World}{v:Value}{p d:Int} (h:Qr N w v p d):0<d/\Int.gcd p d=1:=by
 obtain ⟨x,a,n,c,y,b,m,k,e,g1,g2,d0,hg⟩:=h
 exact ⟨d0,hg⟩
theorem parts_fit {D s P E T:Int} (hD:Dn T D) (hs:Ins T s) (h0:0<E/\Int.gcd P E=1) (h:P*D=s*E):Ins T P/\E<T:=by
 obtain ⟨h1,h2⟩:=low_le hD.1 h0.1 h0.2 h
 unfold Ins Dn at *
 omega
theorem Rs.of {K N M:Nat}{T D s P E:Int}{w:World}{v:Value} (hB:Big K N T) (hD:Dn T D) (hs:Ins T s) (h:Rr M w v P E) (e:P*D=s*E):Rs K D w v s:=by
 obtain ⟨h1,h2⟩:=parts_fit hD hs h.low e
 have:=hB.r
 unfold Ins at h1
 exact ⟨P,E,h.fit (by omega) (by omega),e⟩
theorem Qs.of {K N M:Nat}{T D s P E:Int}{w:World}{v:Value} (hB:Big K N T) (hD:Dn T D) (hs:Ins T s) (h:Qr M w v P E) (e:P*D=s*E):Qs N D w v s:=by
 obtain ⟨h1,h2⟩:=parts_fit hD hs h.pos e
 have:=hB.q
 unfold Ins at h1
 exact ⟨P,E,h.fit (by omega) (by omega) (by omega),e⟩
theorem parts_add {D p d p' d' s s' P E:Int} (d0:0<d) (d0':0<d') (h:p*D=s*d) (h':p'*D=s'*d') (e:P*(d*d')=(p*d'+p'*d)*E):P*D=(s+s')*E:=by
 refine Int.eq_of_mul_eq_mul_right (show d*d'≠0 from Int.ne_of_gt (Int.mul_pos d0 d0')) ?_
 grind
theorem sgn_same {x y a b:Int} (ha:0<a) (hb:0<b) (h:x*a=y*b):sgn x=sgn y:=by
 rcases Int.lt_trichotomy x 0 with h1 | h1 | h1
 ·have h2:x*a<0:=Int.mul_neg_of_neg_of_pos h1 ha
  have h3:y<0:=by
   rcases Int.lt_or_le y 0 with h3 | h3
   ·exact h3
   ·have:=Int.mul_nonneg h3 (Int.le_of_lt hb);omega
  rw [zqp h1,zqp h3]
 ·have h3:y=0:=by
   rw [h1,Int.zero_mul] at h
   rcases Int.mul_eq_zero.1 h.symm with h3 | h3 <;> omega
  rw [zxi h1,zxi h3]
 ·have h2:0<x*a:=Int.mul_pos h1 ha
  have h3:0<y:=by
   rcases Int.lt_or_le 0 y with h3 | h3
   ·exact h3
   ·have:=Int.mul_nonneg (show 0 <= -y by omega) (Int.le_of_lt hb);rw [Int.neg_mul] at this;omega
  rw [zqq h1,zqq h3]
theorem parts_cmp {D p d p' d' s s':Int} (D0:0<D) (d0:0<d) (d0':0<d') (h:p*D=s*d) (h':p'*D=s'*d'):sgn (p*d' - p'*d)=sgn (s - s'):=by
 refine sgn_same D0 (Int.mul_pos d0 d0') ?_
 grind
theorem rs_sign {K:Nat}{D s:Int}{v:Value} (w:World) (D0:0<D) (h:Rs K D w v s) :
 Calls Tryz.prog 72 #[v] w fun e w'=>e=.returned (.int .i64 (sgn s))/\Below w.heap.size w w':=by
 obtain ⟨p,d,h1,h2⟩:=h
 rw [<- sgn_same D0 h1.low.1 h2]
 exact qsign_any w h1
theorem qs_add {K N:Nat}{T D s s':Int}{v v':Value} (w:World) (hB:Big K N T) (hD:Dn T D) (h:Qs N D w v s) (h':Qs N D w v' s') (hs:Ins T (s+s')) :
 Calls Tryz.prog 40 #[v,v'] w fun e w'=>(∃ v,e=.returned v/\Qs N D w' v (s+s'))/\Below w.heap.size w w':=by
 obtain ⟨p,d,h1,h2⟩:=h
 obtain ⟨p',d',h1',h2'⟩:=h'
 refine (rqadd_any w h1 h1' (by have:=hB.n;omega)).mono fun e w' ⟨⟨v,P,E,he,hr,h3⟩,hb⟩=>⟨⟨v,he,Qs.of hB hD hs hr (parts_add h1.pos.1 h1'.pos.1 h2 h2' h3)⟩,hb⟩
theorem qs_sub {K N:Nat}{T D s s':Int}{v v':Value} (w:World) (hB:Big K N T) (hD:Dn T D) (h:Qs N D w v s) (h':Qs N D w v' s') (hs:Ins T (s - s')) :
 Calls Tryz.prog 47 #[v,v'] w fun e w'=>(∃ v,e=.returned v/\Qs N D w' v (s - s'))/\Below w.heap.size w w':=by
 obtain ⟨p,d,h1,h2⟩:=h
 obtain ⟨p',d',h1',h2'⟩:=h'
 refine (rqsub_any w h1 h1' (by have:=hB.n;omega)).mono fun e w' ⟨⟨v,P,E,he,hr,h3⟩,hb⟩=>⟨⟨v,he,Qs.of hB hD hs hr (parts_add h1.pos.1 h1'.pos.1 h2 (show -p'*D = -s'*d' by grind) h3)⟩,hb⟩
theorem qs_cmp {K N:Nat}{T D s s':Int}{v v':Value} (w:World) (hB:Big K N T) (D0:0<D) (h:Qs N D w v s) (h':Qs N D w v' s') :
 Calls Tryz.prog 41 #[v,v'] w fun e w'=>e=.returned (.int .i64 (sgn (s - s')))/\Below w.heap.size w w':=by
 obtain ⟨p,d,h1,h2⟩:=h
 obtain ⟨p',d',h1',h2'⟩:=h'
 rw [<- parts_cmp D0 h1.pos.1 h1'.pos.1 h2 h2']
 exact rqcmp_any w h1 h1' (by have:=hB.n;omega)
theorem qs_sign {N:Nat}{D s:Int}{v:Value} (w:World) (D0:0<D) (h:Qs N D w v s) :
 Calls Tryz.prog 37 #[v] w fun e w'=>e=.returned (.int .i64 (sgn s))/\Below w.heap.size w w':=by
 obtain ⟨p,d,h1,h2⟩:=h
 rw [<- sgn_same D0 h1.pos.1 h2]
 exact rqsign_any w h1
theorem qs_zero {K N:Nat}{T D:Int} (w:World) (hB:Big K N T) :
 Calls Tryz.prog 39 #[.int .i64 0] w fun e w'=>(∃ v,e=.returned v/\Qs N D w' v 0)/\Below w.heap.size w w' :=
 (rint_zero w).mono fun e w' ⟨⟨v,he,h⟩,hb⟩=>⟨⟨v,he,0,1,h.mono (by have:=hB.n;omega),by omega⟩,hb⟩
theorem Rs.up {K:Nat}{D s:Int} (C:Int) {w:World}{v:Value} (h:Rs K D w v s):Rs K (D*C) w v (s*C):=by
 obtain ⟨p,d,h1,h2⟩:=h
 exact ⟨p,d,h1,by rw [<- Int.mul_assoc,h2];grind⟩
theorem Qs.up {N:Nat}{D s:Int} (C:Int) {w:World}{v:Value} (h:Qs N D w v s):Qs N (D*C) w v (s*C):=by
 obtain ⟨p,d,h1,h2⟩:=h
 exact ⟨p,d,h1,by rw [<- Int.mul_assoc,h2];grind⟩
def scl (D:Int) (x:Int×Int):Int:=x.1*(D / x.2)
theorem scl_is {D:Int}{x:Int×Int} (h:x.2∣D):x.1*D=scl D x*x.2:=by
 unfold scl
 rw [Int.mul_assoc,Int.ediv_mul_cancel h]
def RsE (K:Nat) (D:Int) (w:World) (cs:List Value) (s:Int):Prop:=∃ x1 x2 x3 x4 x5 x6 x7 x8,cs=[.int .i64 x1,.slice x2 x3 x4,.int .i64 x5,.slice x6 x7 x8]/\Rs K D w (.agg #[.int .i64 x1,.slice x2 x3 x4,.int .i64 x5,.slice x6 x7 x8]) s
def QsE (N:Nat) (D:Int) (w:World) (cs:List Value) (s:Int):Prop:=∃ x1 x2 x3 x4 x5 x6 x7 x8,cs=[.bool x1,.slice x2 x3 x4,.bool x5,.slice x6 x7 x8]/\Qs N D w (.agg #[.bool x1,.slice x2 x3 x4,.bool x5,.slice x6 x7 x8]) s
theorem RsE.stays (N:Nat) (D:Int) {K:Value->Prop} (e:TypeId) (hK:∀ x,¬ K (.int .u64 x)):Stays K e (RsE N D):=fun _ _ _ _ ⟨x1,x2,x3,x4,x5,x6,x7,x8,h1,p,d,h2,h3⟩ hc=>⟨x1,x2,x3,x4,x5,x6,x7,x8,h1,p,d,h2.chg hc hK,h3⟩
theorem QsE.stays (N:Nat) (D:Int) (K:Value->Prop) {e:TypeId} (he:e≠3):Stays K e (QsE N D):=fun _ _ _ _ ⟨x1,x2,x3,x4,x5,x6,x7,x8,h1,p,d,h2,h3⟩ hc=>⟨x1,x2,x3,x4,x5,x6,x7,x8,h1,p,d,h2.chg hc he,h3⟩
theorem Rows.map {α β:Type}{k:Nat}{E:World->List Value -> α -> Prop}{E':World->List Value -> β -> Prop}{w:World}{v:Value}{L:List α} (h:Rows k E w v L) (f:α -> β) (hE:∀ cs x,x ∈ L->E w cs x->E' w cs (f x)):Rows k E' w v (L.map f):=by
 obtain ⟨a,c,h1,h2,h3,h4⟩:=h
 refine ⟨a,c,by rw [List.length_map];exact h1,by rw [List.length_map];exact h2,h3,?_⟩
 rcases h4 with rfl | ⟨b,o,h4,h5⟩
 ·exact Or.inl rfl
 ·refine Or.inr ⟨b,o,h4,fun i y hy => ?_⟩
  rw [List.getElem?_map] at hy
  obtain ⟨x,hx,rfl⟩:=Option.map_eq_some_iff.1 hy
  obtain ⟨cs,hl,hcs,he⟩:=h5 i x hx
  exact ⟨cs,hl,hcs,hE cs x (List.mem_of_getElem? hx) he⟩
theorem RE.parts {K N:Nat}{T D:Int}{w:World}{cs:List Value}{x:Int×Int} (hB:Big K N T) (hx:x.2∣D) (h:RE 78 w cs x):RsE K D w cs (scl D x):=by
 obtain ⟨x1,x2,x3,x4,x5,x6,x7,x8,h1,h2⟩:=h
 exact ⟨x1,x2,x3,x4,x5,x6,x7,x8,h1,x.1,x.2,h2.mono (by have:=hB.k;omega),scl_is hx⟩
theorem QE.parts {K N:Nat}{T D:Int}{w:World}{cs:List Value}{x:Int×Int} (hB:Big K N T) (hx:x.2∣D) (h:QE 362 w cs x):QsE N D w cs (scl D x):=by
 obtain ⟨x1,x2,x3,x4,x5,x6,x7,x8,h1,h2⟩:=h
 exact ⟨x1,x2,x3,x4,x5,x6,x7,x8,h1,x.1,x.2,h2.mono (by have:=hB.n;omega),scl_is hx⟩
def SpE (_w:World) (cs:List Value) (x:Int×Int×ByteArray×ByteArray):Prop:=cs=[.int .i64 x.1,.int .i64 x.2.1,.string x.2.2.1,.string x.2.2.2]/\I64 x.1/\I64 x.2.1/\x.2.2.1.size<=maxLen/\x.2.2.2.size<=maxLen
theorem SpE.stays (K:Value->Prop) (e:TypeId):Stays K e SpE:=fun _ _ _ _ h _=>h
def ArE {β:Type} (E:World->List Value -> β -> Prop) (w:World) (cs:List Value) (x:Int×Int × β × β):Prop:=∃ c1 c2,cs=.int .i64 x.1 :: .int .i64 x.2.1 :: (c1++c2)/\I64 x.1/\I64 x.2.1/\E w c1 x.2.2.1/\E w c2 x.2.2.2
theorem ArE.stays {β:Type}{E:World->List Value -> β -> Prop}{K:Value->Prop}{e:TypeId} (h:Stays K e E):Stays K e (ArE E):=fun _ _ _ _ ⟨c1,c2,h1,h2,h3,h4,h5⟩ hc=>⟨c1,c2,h1,h2,h3,h _ _ _ _ h4 hc,h _ _ _ _ h5 hc⟩
def arc1 (s:Int×Int×ByteArray×ByteArray):Option (Int×Int×(Int×Int)×(Int×Int)):=match num s.2.2.1,num s.2.2.2 with
 | some c,some k=>some (s.1,s.2.1,c,k)
 | _,_=>none
def arcsOf (l:List (Int×Int×ByteArray×ByteArray)):Option (List (Int×Int×(Int×Int)×(Int×Int))):=allOf arc1 l
def ArcsP (l:List (Int×Int×ByteArray×ByteArray)) (e:Ending) (w':World):Prop :=
 (arcsOf l=none/\e=.returned (.tuple #[.slice none 0 0,.bool false]))\/∃ L v,arcsOf l=some L/\e=.returned (.tuple #[v,.bool true])/\Rows 10 (ArE (QE 362)) w' v L
theorem info_arc3:(Tryz.prog.info? 103).map (fun i=>(i.zero,i.size,i.bytes))=some (some (.agg #[.int .i64 0,.int .i64 0,.bool false,.slice none 0 0,.bool false,.slice none 0 0,.bool false,.slice none 0 0,.bool false,.slice none 0 0]),10,144):=by kernel_rfl
theorem cells_ar (f t:Int) {c1 c2:List Value} (h1:∀ u ∈ c1,NoWord u) (h2:∀ u ∈ c2,NoWord u):∀ u ∈ Value.int .i64 f :: .int .i64 t :: (c1++c2),NoWord u:=by
 intro u hu
 simp only [List.mem_cons,List.mem_append] at hu
 rcases hu with rfl | rfl | h | h
 ·intro x;simp
 ·intro x;simp
 ·exact h1 u h
 ·exact h2 u h
theorem one_ar (f t:Int) {c1 c2:List Value} (h1:∀ u ∈ c1,u.oneCell'=true) (h2:∀ u ∈ c2,u.oneCell'=true):∀ u ∈ Value.int .i64 f :: .int .i64 t :: (c1++c2),u.oneCell'=true:=by
 intro u hu
 simp only [List.mem_cons,List.mem_append] at hu
 rcases hu with rfl | rfl | h | h
 ·rfl
 ·rfl
 ·exact h1 u h
 ·exact h2 u h
theorem kd_qw (x1:Bool) (x2:Option Addr) (x3 x4:Nat) (x5:Bool) (x6:Option Addr) (x7 x8:Nat):∀ u ∈ [Value.bool x1,.slice x2 x3 x4,.bool x5,.slice x6 x7 x8],NoWord u:=fun u hu=>(kd_q x1 x2 x3 x4 x5 x6 x7 x8 u hu).noWord
theorem zk_arc3:∀ u ∈ (Value.agg #[.int .i64 0,.int .i64 0,.bool false,.slice none 0 0,.bool false,.slice none 0 0,.bool false,.slice none 0 0,.bool false,.slice none 0 0]).cells.toList,NoWord u:=cells_ar 0 0 (kd_qw false none 0 0 false none 0 0) (kd_qw false none 0 0 false none 0 0)
structure F8 (α:Type) where
 a:α
 b:Option Addr
 c:Nat
 d:Nat
 e:α
 f:Option Addr
 g:Nat
 h:Nat
abbrev vq (x:F8 Bool):Value:=.agg #[.bool x.a,.slice x.b x.c x.d,.bool x.e,.slice x.f x.g x.h]
abbrev vr (x:F8 Int):Value:=.agg #[.int .i64 x.a,.slice x.b x.c x.d,.int .i64 x.e,.slice x.f x.g x.h]
theorem Qs.sh {N:Nat}{D s:Int}{w:World}{v:Value} (h:Qs N D w v s):∃ x:F8 Bool,v=.agg #[.bool x.a,.slice x.b x.c x.d,.bool x.e,.slice x.f x.g x.h]:=by
 obtain ⟨x1,x2,x3,x4,x5,x6,x7,x8,rfl⟩:=h.shape
 exact ⟨⟨x1,x2,x3,x4,x5,x6,x7,x8⟩,rfl⟩
theorem Rs.sh {N:Nat}{D s:Int}{w:World}{v:Value} (h:Rs N D w v s):∃ x:F8 Int,v=.agg #[.int .i64 x.a,.slice x.b x.c x.d,.int .i64 x.e,.slice x.f x.g x.h]:=by
 obtain ⟨x1,x2,x3,x4,x5,x6,x7,x8,rfl⟩:=h.shape
 exact ⟨⟨x1,x2,x3,x4,x5,x6,x7,x8⟩,rfl⟩
theorem QsE.sh {N:Nat}{D s:Int}{w:World}{cs:List Value} (h:QsE N D w cs s):∃ x:F8 Bool,cs=[.bool x.a,.slice x.b x.c x.d,.bool x.e,.slice x.f x.g x.h]/\Qs N D w (vq x) s:=by
 obtain ⟨x1,x2,x3,x4,x5,x6,x7,x8,h1,h2⟩:=h
 exact ⟨⟨x1,x2,x3,x4,x5,x6,x7,x8⟩,h1,h2⟩
theorem RsE.sh {N:Nat}{D s:Int}{w:World}{cs:List Value} (h:RsE N D w cs s):∃ x:F8 Int,cs=[.int .i64 x.a,.slice x.b x.c x.d,.int .i64 x.e,.slice x.f x.g x.h]/\Rs N D w (vr x) s:=by
 obtain ⟨x1,x2,x3,x4,x5,x6,x7,x8,h1,h2⟩:=h
 exact ⟨⟨x1,x2,x3,x4,x5,x6,x7,x8⟩,h1,h2⟩
def Q4 (w:World) (b o:Nat) (x:F8 Bool):Prop:=w.cell? ⟨b,o,none⟩=some (.bool x.a)/\w.cell? ⟨b,o+1,none⟩=some (.slice x.b x.c x.d)/\w.cell? ⟨b,o+2,none⟩=some (.bool x.e)/\w.cell? ⟨b,o+3,none⟩=some (.slice x.f x.g x.h)
def R4 (w:World) (b o:Nat) (x:F8 Int):Prop:=w.cell? ⟨b,o,none⟩=some (.int .i64 x.a)/\w.cell? ⟨b,o+1,none⟩=some (.slice x.b x.c x.d)/\w.cell? ⟨b,o+2,none⟩=some (.int .i64 x.e)/\w.cell? ⟨b,o+3,none⟩=some (.slice x.f x.g x.h)
theorem Q4.keep {w w1:World}{b o:Nat}{x:F8 Bool} (h:Q4 w b o x) (hb:Below w.heap.size w w1):Q4 w1 b o x:=⟨ck hb h.1,ck hb h.2.1,ck hb h.2.2.1,ck hb h.2.2.2⟩
theorem R4.keep {w w1:World}{b o:Nat}{x:F8 Int} (h:R4 w b o x) (hb:Below w.heap.size w w1):R4 w1 b o x:=⟨ck hb h.1,ck hb h.2.1,ck hb h.2.2.1,ck hb h.2.2.2⟩
structure QX (N:Nat) (D:Int) (w:World) (r:Nat) (x:F8 Bool) (s:Int):Prop where
 c0:w.cell? ⟨r,0,none⟩=some (.bool x.a)
 c1:w.cell? ⟨r,1,none⟩=some (.slice x.b x.c x.d)
 c2:w.cell? ⟨r,2,none⟩=some (.bool x.e)
 c3:w.cell? ⟨r,3,none⟩=some (.slice x.f x.g x.h)
 box:QBox w r
 q:Qs N D w (vq x) s
structure RX (N:Nat) (D:Int) (w:World) (r:Nat) (x:F8 Int) (s:Int):Prop where
 c0:w.cell? ⟨r,0,none⟩=some (.int .i64 x.a)
 c1:w.cell? ⟨r,1,none⟩=some (.slice x.b x.c x.d)
 c2:w.cell? ⟨r,2,none⟩=some (.int .i64 x.e)
 c3:w.cell? ⟨r,3,none⟩=some (.slice x.f x.g x.h)
 box:RBox w r
 q:Rs N D w (vr x) s
theorem QX.keep {N:Nat}{D s:Int}{w w1:World}{r:Nat}{x:F8 Bool} (h:QX N D w r x s) (hb:Below w.heap.size w w1):QX N D w1 r x s:=⟨ck hb h.c0,ck hb h.c1,ck hb h.c2,ck hb h.c3,h.box.later hb,h.q.later hb⟩
theorem RX.keep {N:Nat}{D s:Int}{w w1:World}{r:Nat}{x:F8 Int} (h:RX N D w r x s) (hb:Below w.heap.size w w1):RX N D w1 r x s:=⟨ck hb h.c0,ck hb h.c1,ck hb h.c2,ck hb h.c3,h.box.later hb,h.q.later hb⟩
theorem QX.new {N:Nat}{D s:Int}{w:World}{x:F8 Bool} (h:Qs N D w (vq x) s):QX N D (w.alloc (.cells #[.bool x.a,.slice x.b x.c x.d,.bool x.e,.slice x.f x.g x.h] 59)) w.heap.size x s :=
 ⟨by rw [zqe rfl];rfl,by rw [zqe rfl];rfl,by rw [zqe rfl];rfl,by rw [zqe rfl];rfl,zju _ _ _ _ _ _ _ _ _,h.later (zqa w _)⟩
theorem RX.new {N:Nat}{D s:Int}{w:World}{x:F8 Int} (h:Rs N D w (vr x) s):RX N D (w.alloc (.cells #[.int .i64 x.a,.slice x.b x.c x.d,.int .i64 x.e,.slice x.f x.g x.h] 39)) w.heap.size x s :=
 ⟨by rw [zqe rfl];rfl,by rw [zqe rfl];rfl,by rw [zqe rfl];rfl,by rw [zqe rfl];rfl,zkw _ _ _ _ _ _ _ _ _,h.later (zqa w _)⟩
theorem Qs.stored {N:Nat}{D s:Int}{w:World}{v:Value}{r:Nat} (h:Qs N D w v s) (hb:QBox w r) (u0 u1 u2 u3:Value):Qs N D ((((w.setCell ⟨r,0,none⟩ u0).setCell ⟨r,1,none⟩ u1).setCell ⟨r,2,none⟩ u2).setCell ⟨r,3,none⟩ u3) v s:=by
 obtain ⟨p,d,h1,h2⟩:=h
 exact ⟨p,d,h1.qstored hb _ _ _ _,h2⟩
theorem Rs.stored {N:Nat}{D s:Int}{w:World}{v:Value}{r:Nat} (h:Rs N D w v s) (hb:RBox w r) (u0 u1 u2 u3:Value):Rs N D ((((w.setCell ⟨r,0,none⟩ u0).setCell ⟨r,1,none⟩ u1).setCell ⟨r,2,none⟩ u2).setCell ⟨r,3,none⟩ u3) v s:=by
 obtain ⟨p,d,h1,h2⟩:=h
 exact ⟨p,d,h1.rstored hb _ _ _ _,h2⟩
theorem QX.put {N:Nat}{D s:Int}{w:World}{r:Nat}{x:F8 Bool} (hr:QBox w r) (h:Qs N D w (vq x) s):QX N D ((((w.setCell ⟨r,0,none⟩ (.bool x.a)).setCell ⟨r,1,none⟩ (.slice x.b x.c x.d)).setCell ⟨r,2,none⟩ (.bool x.e)).setCell ⟨r,3,none⟩ (.slice x.f x.g x.h)) r x s:=by
 obtain ⟨s0,s1,s2,s3⟩:=hr.stored (.bool x.a) (.slice x.b x.c x.d) (.bool x.e) (.slice x.f x.g x.h)
 exact ⟨s0,s1,s2,s3,hr.after _ _ _ _ _ _ _ _,h.stored hr _ _ _ _⟩
theorem RX.put {N:Nat}{D s:Int}{w:World}{r:Nat}{x:F8 Int} (hr:RBox w r) (h:Rs N D w (vr x) s):RX N D ((((w.setCell ⟨r,0,none⟩ (.int .i64 x.a)).setCell ⟨r,1,none⟩ (.slice x.b x.c x.d)).setCell ⟨r,2,none⟩ (.int .i64 x.e)).setCell ⟨r,3,none⟩ (.slice x.f x.g x.h)) r x s:=by
 obtain ⟨s0,s1,s2,s3⟩:=hr.stored (.int .i64 x.a) (.slice x.b x.c x.d) (.int .i64 x.e) (.slice x.f x.g x.h)
 exact ⟨s0,s1,s2,s3,hr.stored' _ _ _ _ _ _ _ _,h.stored hr _ _ _ _⟩
theorem Rows.qarc {N:Nat}{D:Int}{w:World}{a:Option Addr}{n c i:Nat}{L:List (Int×Int×Int×Int)}{x:Int×Int×Int×Int} (h:Rows 10 (ArE (QsE N D)) w (.slice a n c) L) (hx:L[i]? = some x):∃ b o y z,a=some ⟨b,o,none⟩/\(w.cell? ⟨b,o+i*10,none⟩=some (.int .i64 x.1)/\w.cell? ⟨b,o+i*10+1,none⟩=some (.int .i64 x.2.1)/\Q4 w b (o+i*10+2) y/\Q4 w b (o+i*10+6) z)/\(Qs N D w (vq y) x.2.2.1/\Qs N D w (vq z) x.2.2.2)/\I64 x.1/\I64 x.2.1:=by
 obtain ⟨b,o,rfl,cs,_,hcs,c1,c2,rfl,h1,h2,h3,h4⟩:=h.at hx
 obtain ⟨y,rfl,hy⟩:=h3.sh
 obtain ⟨z,rfl,hz⟩:=h4.sh
 exact ⟨b,o,y,z,rfl,⟨by simpa using hcs 0 _ rfl,hcs 1 _ rfl,⟨hcs 2 _ rfl,hcs 3 _ rfl,hcs 4 _ rfl,hcs 5 _ rfl⟩,⟨hcs 6 _ rfl,hcs 7 _ rfl,hcs 8 _ rfl,hcs 9 _ rfl⟩⟩,⟨hy,hz⟩,h1,h2⟩
theorem Rows.rarc {N:Nat}{D:Int}{w:World}{a:Option Addr}{n c i:Nat}{L:List (Int×Int×Int×Int)}{x:Int×Int×Int×Int} (h:Rows 10 (ArE (RsE N D)) w (.slice a n c) L) (hx:L[i]? = some x):∃ b o y z,a=some ⟨b,o,none⟩/\(w.cell? ⟨b,o+i*10,none⟩=some (.int .i64 x.1)/\w.cell? ⟨b,o+i*10+1,none⟩=some (.int .i64 x.2.1)/\R4 w b (o+i*10+2) y/\R4 w b (o+i*10+6) z)/\(Rs N D w (vr y) x.2.2.1/\Rs N D w (vr z) x.2.2.2)/\I64 x.1/\I64 x.2.1:=by
 obtain ⟨b,o,rfl,cs,_,hcs,c1,c2,rfl,h1,h2,h3,h4⟩:=h.at hx
 obtain ⟨y,rfl,hy⟩:=h3.sh
 obtain ⟨z,rfl,hz⟩:=h4.sh
 exact ⟨b,o,y,z,rfl,⟨by simpa using hcs 0 _ rfl,hcs 1 _ rfl,⟨hcs 2 _ rfl,hcs 3 _ rfl,hcs 4 _ rfl,hcs 5 _ rfl⟩,⟨hcs 6 _ rfl,hcs 7 _ rfl,hcs 8 _ rfl,hcs 9 _ rfl⟩⟩,⟨hy,hz⟩,h1,h2⟩
theorem Rows.qnum {N:Nat}{D:Int}{w:World}{a:Option Addr}{n c i:Nat}{L:List Int}{s:Int} (h:Rows 4 (QsE N D) w (.slice a n c) L) (hx:L[i]? = some s):∃ b o y,a=some ⟨b,o,none⟩/\Q4 w b (o+i*4) y/\Qs N D w (vq y) s:=by
 obtain ⟨b,o,rfl,cs,_,hcs,h1⟩:=h.at hx
 obtain ⟨y,rfl,hy⟩:=h1.sh
 exact ⟨b,o,y,rfl,⟨by simpa using hcs 0 _ rfl,hcs 1 _ rfl,hcs 2 _ rfl,hcs 3 _ rfl⟩,hy⟩
theorem Rows.rnum {N:Nat}{D:Int}{w:World}{a:Option Addr}{n c i:Nat}{L:List Int}{s:Int} (h:Rows 4 (RsE N D) w (.slice a n c) L) (hx:L[i]? = some s):∃ b o y,a=some ⟨b,o,none⟩/\R4 w b (o+i*4) y/\Rs N D w (vr y) s:=by
 obtain ⟨b,o,rfl,cs,_,hcs,h1⟩:=h.at hx
 obtain ⟨y,rfl,hy⟩:=h1.sh
 exact ⟨b,o,y,rfl,⟨by simpa using hcs 0 _ rfl,hcs 1 _ rfl,hcs 2 _ rfl,hcs 3 _ rfl⟩,hy⟩
theorem zxe {w:World}{g o b p:Nat}{v:Value} (h:w.cell? ⟨b,p,none⟩=some v) (hne:b≠g) (u0 u1 u2 u3:Value):((((w.setCell ⟨g,o,none⟩ u0).setCell ⟨g,o+1,none⟩ u1).setCell ⟨g,o+2,none⟩ u2).setCell ⟨g,o+3,none⟩ u3).cell? ⟨b,p,none⟩=some v:=by
 rw [zqb _ _ _ _ _ _ (by omega),zqb _ _ _ _ _ _ (by omega),zqb _ _ _ _ _ _ (by omega),zqb _ _ _ _ _ _ (by omega)]
 exact h
def Abv (V:World):Type:={w':World // Below V.heap.size V w'}
theorem Abv.some (V:World):Nonempty (Abv V):=⟨⟨V,Below.refl _ _⟩⟩
theorem wp_region_quiet_abv {P:Program}{id:Nat}{Q:Exit->Act->World->Prop}{a:Act}{w:World}{l:List Oper} (hm:P.follows .mixedOrders=true) (hB:Region.lexB .any l.toArray=true)
 (h:wpQuiet P l.toArray (fun w'=>∃ x:Abv w,w'=x.val) (fun a'=>∀ w',(∃ x:Abv w,w'=x.val)->Q .normal a' w') l a):(Code.region id l.toArray true).wp P Q a w :=
 wp_region_quiet (C:=fun w'=>∃ x:Abv w,w'=x.val) hm hB ⟨⟨_,(Below.refl _ _).drew⟩,rfl⟩ (by simpa using h)
theorem Calls.abv {P:Program}{f:FuncId}{args:Array Value}{V:World}{x:Abv V}{v:Value} (h:Calls P f args x.val fun e w'=>e=.returned v/\Below x.val.heap.size x.val w'):Calls P f args x.val fun e w''=>e=.returned v/\∃ m:Abv V,w''=m.val :=
 h.mono fun _ w' ⟨he,hb⟩=>⟨he,⟨w',bk hb x.property⟩,rfl⟩
abbrev badArc (n:Int) (x:Int×Int×Int×Int):Prop:=x.1<0\/n<=x.1\/x.2.1<0\/n<=x.2.1\/x.2.2.1<0
def netV (n:Int) (L:List (Int×Int×Int×Int)):Int:=if n<1\/60<n\/300<L.length then 2 else if L.any (fun x=>decide (x.1<0\/n<=x.1\/x.2.1<0\/n<=x.2.1\/x.2.2.1<0)) then 4 else 0
theorem zjm {n:Int}{L:List (Int×Int×Int×Int)} (h:n<1\/60<n\/300<L.length):netV n L=2:=by unfold netV;rw [if_pos h]
theorem netV_bad {n:Int}{L:List (Int×Int×Int×Int)}{x:Int×Int×Int×Int} (h:¬ (n<1\/60<n\/300<L.length)) (hx:x ∈ L) (hb:badArc n x):netV n L=4:=by unfold netV;rw [if_neg h,if_pos (List.any_eq_true.2 ⟨x,hx,decide_eq_true hb⟩)]
theorem netV_good {n:Int}{L:List (Int×Int×Int×Int)} (h:¬ (n<1\/60<n\/300<L.length)) (hx:∀ x ∈ L,¬ badArc n x):netV n L=0:=by
 unfold netV
 rw [if_neg h,if_neg]
 intro h1
 obtain ⟨x,h1,h2⟩:=List.any_eq_true.1 h1
 exact hx x h1 (of_decide_eq_true h2)
theorem all_take {α:Type}{L:List α}{p:α -> Prop}{i:Nat}{x:α} (h:∀ y ∈ L.take i,p y) (hx:L[i]? = some x) (hp:p x):∀ y ∈ L.take (i+1),p y:=by
 intro y hy
 rw [tkn hx,List.mem_append] at hy
 rcases hy with hy | hy
 ·exact h y hy
 ·simp at hy
  rw [hy]
  exact hp
theorem rnetv_any {N:Nat}{D n:Int}{v:Value}{L:List (Int×Int×Int×Int)} (w:World) (D0:0<D) (h:Rows 10 (ArE (QsE N D)) w v L) :
 Calls Tryz.prog 17 #[.int .i64 n,v] w fun e w'=>e=.returned (.int .i64 (netV n L))/\Below w.heap.size w w':=by
 obtain ⟨sa,sc,rfl⟩:=h.shape
 have hsm:=h.small
 unfold maxLen at hsm
 have HR:=qh h
 have HD:=qh D0
 clear h D0
 go_enter Tryz.func17,Tryz.ntmps17
 by_cases h1:n<1
 ·go_wp2
  go_ret
  exact ⟨by rw [zjm (Or.inl h1)];rfl,Below.refl _ _⟩
 by_cases h2:60<n
 ·go_wp2
  go_ret
  exact ⟨by rw [zjm (Or.inr (Or.inl h2))];rfl,Below.refl _ _⟩
 by_cases h3:(300:Int)<(L.length:Int)
 ·go_wp2
  go_ret
  exact ⟨by rw [zjm (Or.inr (Or.inr (by omega)))];rfl,Below.refl _ _⟩
 have HN:=qh (show ¬ (n<1\/60<n\/300<L.length) by omega)
 go_wp2_with fail
 go_loopg [5] L.length (fun gk iv wr=>∃ i:Nat,i<=L.length/\gk=L.length - i/\iv=.int .i64 (i:Int)/\Hid (∀ y ∈ L.take i,¬ badArc n y)/\Hid (Below w.heap.size w wr))
 case atStart=>exact ⟨0,by omega,by omega,rfl,qh (by simp),qh (Below.refl _ _)⟩
 case round =>
  obtain ⟨i,hi,hgk,rfl,HA,HB⟩:=hrel
  by_cases hil:i<L.length
  ·obtain ⟨⟨fr,to',cp,co⟩,hx⟩:∃ x,L[i]? = some x:=⟨L[i],by simp [hil]⟩
   obtain ⟨b,o,y,z,rfl,⟨c0,c1,c2,_⟩,⟨hy,_⟩,_⟩:=(uh HR).qarc hx
   simp only at c0 c1 hy
   have c0:=ck (uh HB) c0
   have c1:=ck (uh HB) c1
   obtain ⟨d0,d1,d2,d3⟩:=c2.keep (uh HB)
   have HY:=qh (hy.later (uh HB))
   have HX:=qh hx
   have hil':(i:Int)<(L.length:Int):=by omega
   have him:(i:Int)+1<=1000:=by omega
   clear hx hy c2
   go_wp2_with fail
   go_fit (qs_sign _ (uh HD) (uh HY))
   rintro e W1 ⟨rfl,B1⟩
   have BB:=qh (bk B1 (uh HB))
   have e0:=ck B1 c0
   have e1:=ck B1 c1
   clear d0 d1 d2 d3 c0 c1 B1
   have HM:=qh (List.mem_of_getElem? (uh HX))
   rcases (show badArc n (fr,to',cp,co)\/¬ badArc n (fr,to',cp,co) from Classical.em _) with hb | hg
   ·have HBA:=qh hb
    have fin:netV n L=4:=netV_bad (uh HN) (uh HM) (uh HBA)
    have FIN:=qh fin
    clear fin
    rcases (show fr<0\/(0<=fr/\n<=fr)\/(0<=fr/\fr<n/\to'<0)\/(0<=fr/\fr<n/\0<=to'/\n<=to')\/(0<=fr/\fr<n/\0<=to'/\to'<n/\cp<0) by unfold badArc at hb;simp only at hb;omega) with q | q | q | q | ⟨q1,q2,q3,q4,q5⟩
    ·go_wp2
     go_ret
     exact ⟨by rw [uh FIN];rfl,uh BB⟩
    ·go_wp2
     go_ret
     exact ⟨by rw [uh FIN];rfl,uh BB⟩
    ·go_wp2
     go_ret
     exact ⟨by rw [uh FIN];rfl,uh BB⟩
    ·go_wp2
     go_ret
     exact ⟨by rw [uh FIN];rfl,uh BB⟩
    ·rw [zqp q5]
     go_wp2
     go_ret
     exact ⟨by rw [uh FIN];rfl,uh BB⟩
   ·obtain ⟨q1,q2,q3,q4,q5⟩:0<=fr/\fr<n/\0<=to'/\to'<n/\0<=cp:=by unfold badArc at hg;simp only at hg;omega
    have HG:=qh hg
    have hsg:0<=sgn cp:=by rcases zqo cp with ⟨h,e,_⟩ | ⟨h,e,_⟩ | ⟨h,e,_⟩ <;> omega
    obtain ⟨sg,hsg'⟩:∃ s,s=sgn cp:=⟨_,rfl⟩
    rw [<- hsg'] at hsg ⊢
    clear hg hsg'
    go_wp2
    go_roundg (L.length - (i+1))
    case measure=>omega
    case rel=>exact ⟨i+1,by omega,rfl,by go_num,qh (all_take (uh HA) (uh HX) (uh HG)),BB⟩
  ·obtain rfl:i=L.length:=by omega
   clear hil hi hgk
   go_wp2
   go_ret
   refine ⟨?_,uh HB⟩
   have:=uh HA
   rw [List.take_length] at this
   rw [netV_good (uh HN) this]
   rfl
def flagAt (s:List Bool) (k:Int):Bool:=s.getD k.toNat false
def thru (side:List Bool) (L:List (Int×Int×Int×Int)):Int:=(L.map fun x=>if flagAt side x.1=true/\flagAt side x.2.1=false then x.2.2.1 else 0).sum
theorem sum_next {α:Type}{L:List α}{f:α -> Int}{i:Nat}{x:α} (hx:L[i]? = some x):((L.take (i+1)).map f).sum=((L.take i).map f).sum+f x:=by
 rw [tkn hx,List.map_append,List.sum_append]
 simp
theorem sum_ins {α:Type}{f:α -> Int}{B:Int} (hB:0<=B):∀ (L:List α),(∀ x ∈ L,-B<=f x/\f x<=B) -> -(L.length*B)<=(L.map f).sum/\(L.map f).sum<=L.length*B
 | [],_=>by simp
 | x :: L,h=>by
  have h1:=h x (by simp)
  have h2:=sum_ins hB L (fun y hy=>h y (by simp [hy]))
  simp only [List.map_cons,List.sum_cons,List.length_cons]
  have e:((L.length+1:Nat):Int)*B=L.length*B+B:=by rw [Int.natCast_add,Int.add_mul];simp
  rw [e]
  omega
theorem sum_take {α:Type}{f:α -> Int}{B T:Int}{L:List α} (i:Nat) (h:∀ x ∈ L,-B<=f x/\f x<=B) (hB:0<=B) (hT:(L.length:Int)*B<T):Ins T ((L.take i).map f).sum:=by
 have h1:=sum_ins hB (L.take i) (fun x hx=>h x (List.mem_of_mem_take hx))
 have h2:((L.take i).length:Int)*B<=(L.length:Int)*B:=Int.mul_le_mul_of_nonneg_right (by rw [List.length_take];omega) hB
 unfold Ins
 omega
theorem rthru_any {K N:Nat}{T D B:Int}{v sv:Value}{L:List (Int×Int×Int×Int)}{side:List Bool} (w:World) (hBg:Big K N T) (hD:Dn T D) (h:Rows 10 (ArE (QsE N D)) w v L) (hs:Rows 1 BE w sv side) (hn:∀ x ∈ L,¬ badArc side.length x) (hl:L.length<=300) (hc:∀ x ∈ L,-B<=x.2.2.1/\x.2.2.1<=B) (hB:0<=B) (hT:(L.length:Int)*B<T) :
 Calls Tryz.prog 42 #[v,sv] w fun e w'=>(∃ v,e=.returned v/\Qs N D w' v (thru side L))/\Below w.heap.size w w':=by
 obtain ⟨sa,sc,rfl⟩:=h.shape
 obtain ⟨ta,tc,rfl⟩:=hs.shape
 have hsm:=hs.small
 unfold maxLen at hsm
 have hins:∀ i,Ins T ((L.take i).map fun x=>if flagAt side x.1=true/\flagAt side x.2.1=false then x.2.2.1 else 0).sum:=fun i=>sum_take i (fun x hx=>by have:=hc x hx;split <;> omega) hB hT
 have HI:=qh hins
 have HG:=qh (And.intro hBg hD)
 have HR:=qh h
 have HS:=qh hs
 have HNB:=qh hn
 clear h hs hn hc hBg hD hT hins
 have kn:=zqa w (.cells #[.bool false,.slice none 0 0,.bool false,.slice none 0 0] 59)
 have HQ0:=qh (zju w false none 0 0 false none 0 0)
 obtain ⟨W0,hW0⟩:∃ W0,W0=w.alloc (.cells #[.bool false,.slice none 0 0,.bool false,.slice none 0 0] 59):=⟨_,rfl⟩
 obtain ⟨g,hg⟩:∃ g,g=w.heap.size:=⟨_,rfl⟩
 have hgw:w.heap.size<=g:=by omega
 rw [<- hW0] at kn HQ0
 rw [<- hg] at HQ0
 obtain ⟨m,hm⟩:∃ m,m=side.length:=⟨_,rfl⟩
 rw [<- hm] at HS HNB hsm ⊢
 have HM:=qh hm
 clear hm
 go_enter Tryz.func42,Tryz.ntmps42
 go_upto_region 1 with fail
 rw [<- hW0,<- hg]
 have HB0:=qh kn
 have HGW:=qh hgw
 clear hW0 hg kn hgw
 go_wp2_with fail
 go_fit (qs_zero (D:=D) _ (uh HG).1)
 rintro e W1 ⟨⟨v0,rfl,hv0⟩,B1⟩
 obtain ⟨x0,rfl⟩:=hv0.sh
 have HX0:=qh (QX.new hv0)
 have kn:=zqa W1 (.cells #[.bool x0.a,.slice x0.b x0.c x0.d,.bool x0.e,.slice x0.f x0.g x0.h] 59)
 have hlt:=((uh HQ0).later B1).lt
 have hsz:=(bk B1 (uh HB0)).size
 have HQ0:=qh (((uh HQ0).later B1).later kn)
 have HB0:=qh (bk kn (bk B1 (uh HB0)))
 obtain ⟨g2,hg2⟩:∃ g,g=W1.heap.size:=⟨_,rfl⟩
 rw [<- hg2] at HX0 hlt hsz
 obtain ⟨V,hV⟩:∃ V,V=W1.alloc (.cells #[.bool x0.a,.slice x0.b x0.c x0.d,.bool x0.e,.slice x0.f x0.g x0.h] 59):=⟨_,rfl⟩
 rw [<- hV] at HX0 HQ0 HB0
 have HG2:=qh (And.intro hlt hsz)
 clear hlt hsz B1 kn hv0
 go_upto_region 3 with fail
 rw [<- hV,<- hg2]
 clear hV hg2
 go_loopg [6] L.length (fun gk iv wr=>∃ (i:Nat) (x:F8 Bool),i<=L.length/\gk=L.length - i/\iv=.int .i64 (i:Int)/\Hid (Below w.heap.size w wr)/\Hid (QBox wr g)/\Hid (QX N D wr g2 x ((L.take i).map fun x=>if flagAt side x.1=true/\flagAt side x.2.1=false then x.2.2.1 else 0).sum))
 case atStart=>exact ⟨0,x0,by omega,by omega,rfl,HB0,HQ0,qh (by simpa using uh HX0)⟩
 case round =>
  clear HX0 HQ0 HB0
  obtain ⟨i,x,hi,hgk,rfl,HB,HQ,HX⟩:=hrel
  by_cases hil:i<L.length
  ·obtain ⟨⟨fr,to',cp,co⟩,hx⟩:∃ x,L[i]? = some x:=⟨L[i],by simp [hil]⟩
   have hg:=uh HNB _ (List.mem_of_getElem? hx)
   obtain ⟨q1,q2,q3,q4,q5⟩:0<=fr/\fr<m/\0<=to'/\to'<m/\0<=cp:=by unfold badArc at hg;simp only at hg;omega
   obtain ⟨f,rfl⟩:∃ f:Nat,fr=(f:Int):=⟨fr.toNat,by omega⟩
   obtain ⟨t,rfl⟩:∃ f:Nat,to'=(f:Int):=⟨to'.toNat,by omega⟩
   obtain ⟨b1,hb1⟩:∃ b,side[f]? = some b:=⟨side[f]'(by have:=uh HM;omega),by simp⟩
   obtain ⟨b2,hb2⟩:∃ b,side[t]? = some b:=⟨side[t]'(by have:=uh HM;omega),by simp⟩
   obtain ⟨b,o,y,z,rfl,⟨c0,c1,c2,_⟩,⟨hy,_⟩,_⟩:=(uh HR).qarc hx
   obtain ⟨tb,tq,rfl,f0⟩:=(uh HS).flag hb1
   obtain ⟨tb',tq',e,f1⟩:=(uh HS).flag hb2
   obtain ⟨rfl,rfl⟩:tb=tb'/\tq=tq':=by simpa using e
   simp only at c0 c1 hy
   have c0:=ck (uh HB) c0
   have c1:=ck (uh HB) c1
   have f0:=ck (uh HB) f0
   have f1:=ck (uh HB) f1
   have HC:=qh (c2.keep (uh HB))
   have HY:=qh (hy.later (uh HB))
   have hF:flagAt side ((f:Int))=b1:=by simp [flagAt,List.getD,hb1]
   have hF2:flagAt side ((t:Int))=b2:=by simp [flagAt,List.getD,hb2]
   have HN:=qh (sum_next (f:=fun x:Int×Int×Int×Int=>if flagAt side x.1=true/\flagAt side x.2.1=false then x.2.2.1 else 0) hx)
   simp only [hF,hF2] at HN
   have hil':(i:Int)<(L.length:Int):=by omega
   have him:(i:Int)+1<=1000:=by omega
   clear hx hy c2 hg hb1 hb2 e hF hF2
   rcases b1 with _ | _
   ·go_wp2
    go_roundg (L.length - (i+1))
    case measure=>omega
    case rel=>exact ⟨i+1,x,by omega,rfl,by go_num,HB,HQ,qh (by rw [uh HN];simpa using uh HX)⟩
   rcases b2 with _ | _
   rotate_left
   ·go_wp2
    go_roundg (L.length - (i+1))
    case measure=>omega
    case rel=>exact ⟨i+1,x,by omega,rfl,by go_num,HB,HQ,qh (by rw [uh HN];simpa using uh HX)⟩
   simp only [and_self,if_true] at HN
   go_upto_region 6 with fail
   obtain ⟨k0,k1,k2,k3⟩:=uh HC
   have x0:=(uh HX).c0
   have x1:=(uh HX).c1
   have x2:=(uh HX).c2
   have x3:=(uh HX).c3
   clear f0 f1 c0 c1
   go_region_with (first
    | (go_at_call 40;go_fit (qs_add _ (uh HG).1 (uh HG).2 ((uh HX).q.later (Below.refl _ _).drew) ((uh HY).later (Below.refl _ _).drew) (by rw [<- uh HN];exact uh HI _));rintro e W2 ⟨⟨v2,rfl,hv2⟩,B2⟩;obtain ⟨z2,rfl⟩:=hv2.sh;have HB:=qh (bk B2 (uh HB).drew);have HQ:=qh (((uh HQ).later (Below.refl _ _).drew).later B2);have HX:=qh (((uh HX).keep (Below.refl _ _).drew).keep B2);obtain ⟨⟨j0,h0⟩,⟨j1,j2,j3,h1⟩,⟨j4,h2⟩,⟨j5,j6,j7,h3⟩,gf⟩:=(uh HX).box.cells;have hlt:=(uh HX).box.lt;clear x0 x1 x2 x3 k0 k1 k2 k3))
   all_goals
    go_wp2
    go_roundg (L.length - (i+1))
    case measure=>omega
    case rel=>exact ⟨i+1,z2,by omega,rfl,by go_num,qh (zqf (uh HB) (uh HG2).2 _ _ _ _),qh ((uh HQ).aside (Nat.ne_of_lt (uh HG2).1) _ _ _ _),qh (by rw [uh HN];exact QX.put (uh HX).box hv2)⟩
  ·obtain rfl:i=L.length:=by omega
   clear hil hi hgk
   rw [List.take_length] at HX
   have x0:=(uh HX).c0
   have x1:=(uh HX).c1
   have x2:=(uh HX).c2
   have x3:=(uh HX).c3
   obtain ⟨⟨j0,h0⟩,⟨j1,j2,j3,h1⟩,⟨j4,h2⟩,⟨j5,j6,j7,h3⟩,gf⟩:=(uh HQ).cells
   have hlt:=(uh HQ).lt
   go_wp2
   obtain ⟨st0,st1,st2,st3⟩:=(uh HQ).stored (.bool x.a) (.slice x.b x.c x.d) (.bool x.e) (.slice x.f x.g x.h)
   exact bodyPost_ret (v:=.agg #[.bool x.a,.slice x.b x.c x.d,.bool x.e,.slice x.f x.g x.h]) (by simp [results,Tryz.results42,go_sem,st0,st1,st2,st3]) rfl ⟨⟨_,rfl,(uh HX).q.stored (uh HQ) _ _ _ _⟩,zqf (uh HB) (uh HGW) _ _ _ _⟩
def wiP (L:List (Int×Int×Int×Int)) (F:List Int):Prop:=F.length=L.length/\∀ (i:Nat) (x:Int×Int×Int×Int) (f:Int),L[i]? = some x->F[i]? = some f->0<=f/\f<=x.2.2.1
theorem two_next {α β:Type}{L:List α}{F:List β}{p:α -> β -> Prop}{i:Nat}{x:α}{f:β} (h:∀ j y g,j<i->L[j]? = some y->F[j]? = some g->p y g) (hx:L[i]? = some x) (hf:F[i]? = some f) (hp:p x f):∀ j y g,j<i+1->L[j]? = some y->F[j]? = some g->p y g:=by
 intro j y g hj hy hg
 rcases Nat.lt_or_ge j i with h1 | h1
 ·exact h j y g h1 hy hg
 ·obtain rfl:j=i:=by omega
  rw [hx] at hy
  rw [hf] at hg
  obtain rfl:=Option.some.inj hy
  obtain rfl:=Option.some.inj hg
  exact hp
theorem sgn_lt {x:Int}:sgn x<0↔x<0:=by rcases zqo x with ⟨h,e,_⟩ | ⟨h,e,_⟩ | ⟨h,e,_⟩ <;> omega
theorem sgn_gt {x:Int}:0<sgn x↔0<x:=by rcases zqo x with ⟨h,e,_⟩ | ⟨h,e,_⟩ | ⟨h,e,_⟩ <;> omega
theorem rwithin_any {K N:Nat}{T D:Int}{v fv:Value}{L:List (Int×Int×Int×Int)}{F:List Int} (w:World) (hBg:Big K N T) (D0:0<D) (h:Rows 10 (ArE (QsE N D)) w v L) (hf:Rows 4 (QsE N D) w fv F) (hl:L.length<=300) :
 Calls Tryz.prog 43 #[v,fv] w fun e w'=>YesP e (wiP L F)/\Below w.heap.size w w':=by
 obtain ⟨sa,sc,rfl⟩:=h.shape
 obtain ⟨ta,tc,rfl⟩:=hf.shape
 have hsm:=hf.small
 unfold maxLen at hsm
 have HG:=qh (And.intro hBg D0)
 have HR:=qh h
 have HF:=qh hf
 clear h hf hBg D0
 obtain ⟨m,hm⟩:∃ m,m=F.length:=⟨_,rfl⟩
 obtain ⟨n,hn⟩:∃ m,m=L.length:=⟨_,rfl⟩
 rw [<- hm] at HF hsm ⊢
 rw [<- hn] at HR hl ⊢
 have HM:=qh (And.intro hm hn)
 clear hm hn
 go_enter Tryz.func43,Tryz.ntmps43
 by_cases hmn:m=n
 rotate_left
 ·have hd:((m:Int) != (n:Int))=true:=by simp;omega
  go_wp2
  go_ret
  exact ⟨YesP.no fun h=>hmn (by have:=h.1;have:=uh HM;omega),Below.refl _ _⟩
 subst hmn
 have hd:((m:Int) != (m:Int))=false:=by simp
 go_wp2_with fail
 go_loopg [5] m (fun gk iv wr=>∃ i:Nat,i<=m/\gk=m - i/\iv=.int .i64 (i:Int)/\Hid (∀ (j:Nat) (y:Int×Int×Int×Int) (g:Int),j<i->L[j]? = some y->F[j]? = some g->0<=g/\g<=y.2.2.1)/\Hid (Below w.heap.size w wr))
 case atStart=>exact ⟨0,by omega,by omega,rfl,qh (fun j _ _ h=>by omega),qh (Below.refl _ _)⟩
 case round =>
  obtain ⟨i,hi,hgk,rfl,HA,HB⟩:=hrel
  by_cases hil:i<m
  ·obtain ⟨⟨fr,to',cp,co⟩,hx⟩:∃ x,L[i]? = some x:=⟨L[i]'(by have:=uh HM;omega),by simp⟩
   obtain ⟨f,hf⟩:∃ x,F[i]? = some x:=⟨F[i]'(by have:=uh HM;omega),by simp⟩
   obtain ⟨b,o,y,z,rfl,⟨_,_,c2,_⟩,⟨hy,_⟩,_⟩:=(uh HR).qarc hx
   obtain ⟨b',o',u,rfl,d,hu⟩:=(uh HF).qnum hf
   simp only at hy
   obtain ⟨d0,d1,d2,d3⟩:=d.keep (uh HB)
   have HC:=qh c2
   have HD4:=qh d
   have HY:=qh (And.intro hy hu)
   have HX:=qh (And.intro hx hf)
   have hil':(i:Int)<(m:Int):=by omega
   have him:(i:Int)+1<=1000:=by omega
   clear hx hy hf hu c2 d
   go_wp2_with fail
   go_fit (qs_sign _ (uh HG).2 ((uh HY).2.later (uh HB)))
   rintro e W1 ⟨rfl,B1⟩
   have HB:=qh (bk B1 (uh HB))
   clear d0 d1 d2 d3 B1
   obtain ⟨sf,hsf⟩:∃ s,s=sgn f:=⟨_,rfl⟩
   rw [<- hsf]
   have HSF:=qh hsf
   clear hsf
   obtain ⟨d0,d1,d2,d3⟩:=(uh HD4).keep (uh HB)
   obtain ⟨e0,e1,e2,e3⟩:=(uh HC).keep (uh HB)
   go_upto_region 7 with fail
   go_region_with (first
    | (go_at_call 41;go_fit (qs_cmp _ (uh HG).1 (uh HG).2 (((uh HY).2.later (uh HB)).later (Below.refl _ _).drew) (((uh HY).1.later (uh HB)).later (Below.refl _ _).drew));rintro e W2 ⟨rfl,B2⟩;have HB:=qh (bk B2 (uh HB).drew);clear B2 d0 d1 d2 d3 e0 e1 e2 e3))
   all_goals
    obtain ⟨sc',hsc⟩:∃ s,s=sgn (f - cp):=⟨_,rfl⟩
    rw [<- hsc]
    by_cases q1:sf<0
    ·go_wp2
     go_ret
     exact ⟨YesP.no fun h=>by have:=h.2 i _ _ (uh HX).1 (uh HX).2;have:=uh HSF;rw [this,sgn_lt] at q1;omega,uh HB⟩
    by_cases q2:0<sc'
    ·go_wp2
     go_ret
     exact ⟨YesP.no fun h=>by have:=h.2 i _ _ (uh HX).1 (uh HX).2;rw [hsc,sgn_gt] at q2;simp only at this;omega,uh HB⟩
    have HQ:=qh (show 0<=f/\f<=cp by rw [uh HSF,sgn_lt] at q1;rw [hsc,sgn_gt] at q2;omega)
    clear hsc
    go_wp2
    go_roundg (m - (i+1))
    case measure=>omega
    case rel=>exact ⟨i+1,by omega,rfl,by go_num,qh (two_next (p:=fun y g=>0<=g/\g<=y.2.2.1) (uh HA) (uh HX).1 (uh HX).2 (uh HQ)),HB⟩
  ·obtain rfl:i=m:=by omega
   clear hil hi hgk
   go_wp2
   go_ret
   exact ⟨YesP.yes ⟨by have:=uh HM;omega,fun j x f hx hf=>uh HA j x f (by have:=(List.getElem?_eq_some_iff.1 hx).1;have:=uh HM;omega) hx hf⟩,uh HB⟩
end Go.Proofs.YtkdobjmhammhbaaGreatDoor
