import Derived.Test.YtkdobjmhammhbaaGreatDoorMK2
namespace Go.Proofs.YtkdobjmhammhbaaGreatDoor
open Go.RowKit
def JE (_w:World) (cs:List Value) (x:Int):Prop:=cs=[.int .i64 x] ∧ -9223372036854775808≤x∧x≤9223372036854775807
theorem JE.stays (K:Value→Prop) (e:TypeId):Stays K e JE:=fun _ _ _ _ h _=>h
theorem JE.other (w:World) (cs:List Value) (x:Int) (h:JE w cs x):∃ u ∈ cs,¬ IsSl u:=by
 obtain ⟨rfl,_⟩:=h
 exact ⟨_,List.mem_singleton.2 rfl,fun ⟨_,_,_,h⟩=>by cases h⟩
theorem Rows.int {w:World}{a:Option Addr}{n c i:Nat}{L:List Int}{x:Int} (h:Rows 1 JE w (.slice a n c) L) (hx:L[i]? = some x):∃ b o,a=some ⟨b,o,none⟩∧w.cell? ⟨b,o+i,none⟩=some (.int .i64 x) ∧ -9223372036854775808≤x∧x≤9223372036854775807:=by
 obtain ⟨b,o,rfl,cs,_,hcs,rfl,hb⟩:=h.at hx
 exact ⟨b,o,rfl,by simpa using hcs 0 _ rfl,hb⟩
theorem Rows.row {w:World}{a:Option Addr}{n c i:Nat}{L:List (List Int)}{r:List Int} (h:Rows 1 (LE 1 JE) w (.slice a n c) L) (hx:L[i]? = some r):∃ b o ra rc,a=some ⟨b,o,none⟩∧w.cell? ⟨b,o+i,none⟩=some (.slice ra r.length rc)∧Rows 1 JE w (.slice ra r.length rc) r:=by
 obtain ⟨b,o,rfl,cs,_,hcs,u,rfl,hr⟩:=h.at hx
 obtain ⟨ra,rc,rfl⟩:=hr.shape
 exact ⟨b,o,ra,rc,rfl,by simpa using hcs 0 _ rfl,hr⟩
def I64 (x:Int):Prop := -9223372036854775808≤x∧x≤9223372036854775807
theorem Rows.on {α:Type}{k:Nat}{E:World→List Value → α → Prop}{w w':World}{v:Value}{L:List α} (h:Rows k E w v L) (hE:∀ cs x,E w cs x→E w' cs x) (hb:Below w.heap.size w w'):Rows k E w' v L:=by
 obtain ⟨a,cap,h1,h2,h3,h4⟩:=h
 refine ⟨a,cap,h1,h2,h3,?_⟩
 rcases h4 with h4 | ⟨b,o,h4,h5⟩
 · exact Or.inl h4
 · refine Or.inr ⟨b,o,h4,fun i x hx => ?_⟩
   obtain ⟨cs,hl,hcs,he⟩:=h5 i x hx
   exact ⟨cs,hl,fun j' u' hu'=>ck hb (hcs j' u' hu'),hE _ _ he⟩
def YesP (e:Ending) (p:Prop):Prop:=∃ b,e=.returned (.bool b)∧(b=true↔p)
theorem YesP.yes {p:Prop} (h:p):YesP (.returned (.bool true)) p:=⟨true,rfl,fun _=>h,fun _=>rfl⟩
theorem YesP.no {p:Prop} (h:¬ p):YesP (.returned (.bool false)) p:=⟨false,rfl,(fun e=>by cases e),fun h'=>absurd h' h⟩
theorem YesP.of {p:Prop}{b:Bool} (h:b=true↔p):YesP (.returned (.bool b)) p:=⟨b,rfl,h⟩
theorem JE.kinds (x:Int):∀ u ∈ [Value.int .i64 x],NoWord u:=by intro u hu z e;simp at hu;rw [hu] at e;cases e
theorem rows_nil {α:Type}{k:Nat}{E:World→List Value → α → Prop} (w:World):Rows k E w (.slice none 0 0) []:=⟨none,0,rfl,Nat.le_refl _,Nat.zero_le _,Or.inl rfl⟩
def BE (_w:World) (cs:List Value) (x:Bool):Prop:=cs=[.bool x]
theorem BE.stays (K:Value→Prop) (e:TypeId):Stays K e BE:=fun _ _ _ _ h _=>h
theorem Rows.flag {w:World}{a:Option Addr}{n c i:Nat}{L:List Bool}{x:Bool} (h:Rows 1 BE w (.slice a n c) L) (hx:L[i]? = some x):∃ b o,a=some ⟨b,o,none⟩∧w.cell? ⟨b,o+i,none⟩=some (.bool x):=by
 obtain ⟨b,o,rfl,cs,_,hcs,rfl⟩:=h.at hx
 exact ⟨b,o,rfl,by simpa using hcs 0 _ rfl⟩
theorem run_pushE {α:Type}{P:Program}{w w0:World}{T ty e:TypeId}{z:Value}{k bytes:Nat} (ht:P.underlying T=some (.slice e)) (hinfo:(P.info? e).map (fun i=>(i.zero,i.size,i.bytes))=some (some z,k,bytes))
   (hzs:z.cells.size=k) (hsz:0<k) (hby:bytes≤1000) {K:Value→Prop} (hzk:∀ u ∈ z.cells.toList,K u) {E:World→List Value → α → Prop} (hE:Stays K e E) (base:Nat) (v:Value) {L:List α} (hown:OwnR K k E e w0 base v L)
   {y:α} (news:List Value) (hl:news.length=k) (h1:∀ u ∈ news,u.oneCell'=true) (hk:∀ u ∈ news,K u) (hy:E w0 news y) (hw:w=w0.alloc (.cells news.toArray e)) (hn:L.length≤100000000) (hbase:base≤w0.heap.size) :
   ∃ v' w',(Builtin.append_ #[T,T] ty #[v,.slice (some ⟨w0.heap.size,0,none⟩) 1 1]).run P w=.ok v' w'∧OwnR K k E e w' base v' (L++[y])∧w.grownBy w' v.ownBlock∧∀ g,v.ownBlock=some g→base≤g:=by
 obtain ⟨xs,hown,h2⟩:=hown
 obtain ⟨i0,hi,hz0,hz1,hz2⟩:=info_parts hinfo
 subst hw
 have kn:=zqa w0 (.cells news.toArray e)
 have hown':=hown.later kn
 obtain ⟨v',w',hr,h3,h5⟩:=run_append_kinds (P:=P) (w0.alloc (.cells news.toArray e)) base T ty e i0 z k bytes ht hi hz0 hz1 hz2 hzs hsz hzk v L.length xs hown' ⟨w0.heap.size,0,none⟩ 1 1 news (by decide) (by omega)
   (fun j u hu=>by rw [show (⟨w0.heap.size,0,none⟩:Addr).add j=⟨w0.heap.size,j,none⟩ by rcases j with _ | j <;> simp [Addr.add],nc rfl];simpa using hu) h1 hk (by unfold maxLen;omega) (by have:(L.length+1)*bytes≤(L.length+1)*1000:=Nat.mul_le_mul_left _ hby;omega) (by simp;omega)
 refine ⟨v',w',hr,OwnR.snoc hE hown' (fun i x hx => ?_) (hE _ _ _ _ hy (Chg.below kn)) hl h3 (hown'.chg h5),h5,fun g hg=>(hown.own.lt g hg).1⟩
 obtain ⟨cs,hl,hcs,he⟩:=h2 i x hx
 exact ⟨cs,hl,hcs,hE _ _ _ _ he (Chg.below kn)⟩
theorem step_pushE {α:Type}{P:Program}{ops:Array Oper}{o:Oper}{A:Act}{w w0:World}{KK:Act→World→Prop}{Q:Exit→Act→World→Prop}{EE:Prop} (hgd:o.guard=none) (s x:Operand) (T:TypeId)
   (ho:o.op=.call { callee:=.builtin .append,args:=#[s,x],argTypes:=#[T,T] }) {e:TypeId}{z:Value}{k bytes:Nat} (ht:P.underlying T=some (.slice e)) (hinfo:(P.info? e).map (fun i=>(i.zero,i.size,i.bytes))=some (some z,k,bytes))
   (hzs:z.cells.size=k) (hsz:0<k) (hby:bytes≤1000) {K:Value→Prop} (hzk:∀ u ∈ z.cells.toList,K u) {E:World→List Value → α → Prop} (hE:Stays K e E) (base:Nat) (v:Value) {L:List α} (hs:A.eval s=v) (hown:OwnR K k E e w0 base v L)
   {y:α} (news:List Value) (hl:news.length=k) (h1:∀ u ∈ news,u.oneCell'=true) (hk:∀ u ∈ news,K u) (hy:E w0 news y) (hx:A.eval x=.slice (some ⟨w0.heap.size,0,none⟩) 1 1) (hw:w=w0.alloc (.cells news.toArray e)) (hn:L.length≤100000000) (hbase:base≤w0.heap.size)
   (h:∀ v' w',OwnR K k E e w' base v' (L++[y])→w.grownBy w' v.ownBlock→(∀ g,v.ownBlock=some g→base≤g)→KK (A.put o.dst v') w'):if Region.wanted o (yielded ops A.tmps)=true then Oper.wp P o A w KK Q else EE:=by
 obtain ⟨v',w',hr,h2,h3,h4⟩:=run_pushE (ty:=o.type) ht hinfo hzs hsz hby hzk hE base v hown news hl h1 hk hy hw hn hbase
 rw [if_pos (by simp [Region.wanted,hgd])]
 unfold Oper.wp execOp
 simp only [ho,resolve,invoke,builtin,Sem.run_bind,Sem.run_pure,Result.andThen_ok,List.map_toArray,List.map_cons,List.map_nil,hs,hx,hr]
 exact h v' w' h2 h3 h4
structure Big (K N:Nat) (T:Int):Prop where
 r:T≤pw (K+1)
 q:T≤10000 ^ N
 k:78≤K∧K≤9000
 n:362≤N∧N≤30000
def Dn (T D:Int):Prop:=0<D∧D<T
def Ins (T s:Int):Prop := -T<s∧s<T
def Rs (K:Nat) (D:Int) (w:World) (v:Value) (s:Int):Prop:=∃ p d,Rr (K+1) w v p d∧p*D=s*d
def Qs (N:Nat) (D:Int) (w:World) (v:Value) (s:Int):Prop:=∃ p d,Qr N w v p d∧p*D=s*d
theorem Rs.later {K:Nat}{D s:Int}{w w':World}{v:Value} (h:Rs K D w v s) (hb:Below w.heap.size w w'):Rs K D w' v s:=by
 obtain ⟨p,d,h1,h2⟩:=h
 exact ⟨p,d,h1.later hb,h2⟩
theorem Qs.later {N:Nat}{D s:Int}{w w':World}{v:Value} (h:Qs N D w v s) (hb:Below w.heap.size w w'):Qs N D w' v s:=by
 obtain ⟨p,d,h1,h2⟩:=h
 exact ⟨p,d,h1.later hb,h2⟩
theorem Rs.shape {K:Nat}{D s:Int}{w:World}{v:Value} (h:Rs K D w v s):∃ x a n c y b m k,v=.agg #[.int .i64 x,.slice a n c,.int .i64 y,.slice b m k]:=by
 obtain ⟨p,d,h1,_⟩:=h
 exact h1.shape
theorem Qs.shape {N:Nat}{D s:Int}{w:World}{v:Value} (h:Qs N D w v s):∃ x a n c y b m k,v=.agg #[.bool x,.slice a n c,.bool y,.slice b m k]:=by
 obtain ⟨p,d,h1,_⟩:=h
 exact h1.shape
theorem Rr.low {N:Nat}{w:World}{v:Value}{p d:Int} (h:Rr N w v p d):0<d∧Int.gcd p d=1:=by
 obtain ⟨x,a,n,c,y,b,m,k,e,h1,h2,h3,h4,h5,h6⟩:=h
 exact ⟨h4,h5⟩
theorem Rr.fit {N M:Nat}{w:World}{v:Value}{p d:Int} (h:Rr N w v p d) (hp:-pw M<p∧p<pw M) (hd:d<pw M):Rr M w v p d:=by
 obtain ⟨x,a,n,c,y,b,m,k,e,h1,h2,h3,h4,h5,h6⟩:=h
 have p0:=zxy M
 refine ⟨x,a,n,c,y,b,m,k,e,h1,h2.fit hp.1 hp.2,h3.fit ?_ ?_,h4,h5,h6⟩
 all_goals rcases h6 with ⟨_,e0⟩ | ⟨_,e0⟩ <;> omega
theorem Qr.pos {N:Nat}{w:World}{v:Value}{p d:Int} (h:Qr N w v p d):0<d∧Int.gcd p d=1:=by
 obtain ⟨x,a,n,c,y,b,m,k,e,g1,g2,d0,hg⟩:=h
 exact ⟨d0,hg⟩
theorem parts_fit {D s P E T:Int} (hD:Dn T D) (hs:Ins T s) (h0:0<E∧Int.gcd P E=1) (h:P*D=s*E):Ins T P∧E<T:=by
 obtain ⟨h1,h2⟩:=low_le hD.1 h0.1 h0.2 h
 unfold Ins Dn at *
 omega
theorem Rs.of {K N M:Nat}{T D s P E:Int}{w:World}{v:Value} (hB:Big K N T) (hD:Dn T D) (hs:Ins T s) (h:Rr M w v P E) (e:P*D=s*E):Rs K D w v s:=by
 obtain ⟨h1,h2⟩:=parts_fit hD hs h.low e
 have:=hB.r
 unfold Ins at h1
 exact ⟨P,E,h.fit (by omega) (by omega),e⟩
theorem Qs.of {K N M:Nat}{T D s P E:Int}{w:World}{v:Value} (hB:Big K N T) (hD:Dn T D) (hs:Ins T s) (h:Qr M w v P E) (e:P*D=s*E):Qs N D w v s:=by
 obtain ⟨h1,h2⟩:=parts_fit hD hs h.pos e
 have:=hB.q
 unfold Ins at h1
 exact ⟨P,E,h.fit (by omega) (by omega) (by omega),e⟩
theorem parts_add {D p d p' d' s s' P E:Int} (d0:0<d) (d0':0<d') (h:p*D=s*d) (h':p'*D=s'*d') (e:P*(d*d')=(p*d'+p'*d)*E):P*D=(s+s')*E:=by
 refine Int.eq_of_mul_eq_mul_right (show d*d'≠0 from Int.ne_of_gt (Int.mul_pos d0 d0')) ?_
 grind
theorem parts_mul {D D' p d p' d' s s' P E:Int} (d0:0<d) (d0':0<d') (h:p*D=s*d) (h':p'*D'=s'*d') (e:P*(d*d')=p*p'*E):P*(D*D')=s*s'*E:=by
 refine Int.eq_of_mul_eq_mul_right (show d*d'≠0 from Int.ne_of_gt (Int.mul_pos d0 d0')) ?_
 grind
theorem sgn_same {x y a b:Int} (ha:0<a) (hb:0<b) (h:x*a=y*b):sgn x=sgn y:=by
 rcases Int.lt_trichotomy x 0 with h1 | h1 | h1
 · have h2:x*a<0:=Int.mul_neg_of_neg_of_pos h1 ha
   have h3:y<0:=by
     rcases Int.lt_or_le y 0 with h3 | h3
     · exact h3
     · have:=Int.mul_nonneg h3 (Int.le_of_lt hb);omega
   rw [zqk h1,zqk h3]
 · have h3:y=0:=by
     rw [h1,Int.zero_mul] at h
     rcases Int.mul_eq_zero.1 h.symm with h3 | h3 <;> omega
   rw [zxa h1,zxa h3]
 · have h2:0<x*a:=Int.mul_pos h1 ha
   have h3:0<y:=by
     rcases Int.lt_or_le 0 y with h3 | h3
     · exact h3
     · have:=Int.mul_nonneg (show 0 ≤ -y by omega) (Int.le_of_lt hb);rw [Int.neg_mul] at this;omega
   rw [zqi h1,zqi h3]
theorem parts_cmp {D p d p' d' s s':Int} (D0:0<D) (d0:0<d) (d0':0<d') (h:p*D=s*d) (h':p'*D=s'*d'):sgn (p*d' - p'*d)=sgn (s - s'):=by
 refine sgn_same D0 (Int.mul_pos d0 d0') ?_
 grind
theorem rs_add {K N:Nat}{T D s s':Int}{v v':Value} (w:World) (hB:Big K N T) (hD:Dn T D) (h:Rs K D w v s) (h':Rs K D w v' s') (hs:Ins T (s+s')) (hT:Tab64 w) :
   Calls Tryz.prog 70 #[v,v'] w fun e w'=>(∃ v,e=.returned v∧Rs K D w' v (s+s'))∧Below w.heap.size w w':=by
 obtain ⟨p,d,h1,h2⟩:=h
 obtain ⟨p',d',h1',h2'⟩:=h'
 refine (qadd_any w h1 h1' (by have:=hB.k;omega) hT).mono fun e w' ⟨⟨v,P,E,he,hr,h3⟩,hb⟩=>⟨⟨v,he,Rs.of hB hD hs hr (parts_add h1.low.1 h1'.low.1 h2 h2' h3)⟩,hb⟩
theorem rs_sub {K N:Nat}{T D s s':Int}{v v':Value} (w:World) (hB:Big K N T) (hD:Dn T D) (h:Rs K D w v s) (h':Rs K D w v' s') (hs:Ins T (s - s')) (hT:Tab64 w) :
   Calls Tryz.prog 71 #[v,v'] w fun e w'=>(∃ v,e=.returned v∧Rs K D w' v (s - s'))∧Below w.heap.size w w':=by
 obtain ⟨p,d,h1,h2⟩:=h
 obtain ⟨p',d',h1',h2'⟩:=h'
 refine (qsub_any w h1 h1' (by have:=hB.k;omega) hT).mono fun e w' ⟨⟨v,P,E,he,hr,h3⟩,hb⟩=>⟨⟨v,he,Rs.of hB hD hs hr (parts_add h1.low.1 h1'.low.1 h2 (show -p'*D = -s'*d' by grind) h3)⟩,hb⟩
theorem rs_mul {K N:Nat}{T D D' s s':Int}{v v':Value} (w:World) (hB:Big K N T) (hD:Dn T (D*D')) (h:Rs K D w v s) (h':Rs K D' w v' s') (hs:Ins T (s*s')) (hT:Tab64 w) :
   Calls Tryz.prog 76 #[v,v'] w fun e w'=>(∃ v,e=.returned v∧Rs K (D*D') w' v (s*s'))∧Below w.heap.size w w':=by
 obtain ⟨p,d,h1,h2⟩:=h
 obtain ⟨p',d',h1',h2'⟩:=h'
 refine (qmul_any w h1 h1' (by have:=hB.k;omega) hT).mono fun e w' ⟨⟨v,P,E,he,hr,h3⟩,hb⟩=>⟨⟨v,he,Rs.of hB hD hs hr (parts_mul h1.low.1 h1'.low.1 h2 h2' h3)⟩,hb⟩
theorem rs_cmp {K N:Nat}{T D s s':Int}{v v':Value} (w:World) (hB:Big K N T) (D0:0<D) (h:Rs K D w v s) (h':Rs K D w v' s') :
   Calls Tryz.prog 34 #[v,v'] w fun e w'=>e=.returned (.int .i64 (sgn (s - s')))∧Below w.heap.size w w':=by
 obtain ⟨p,d,h1,h2⟩:=h
 obtain ⟨p',d',h1',h2'⟩:=h'
 rw [← parts_cmp D0 h1.low.1 h1'.low.1 h2 h2']
 exact qcmp_any w h1 h1' (by have:=hB.k;omega)
theorem rs_sign {K:Nat}{D s:Int}{v:Value} (w:World) (D0:0<D) (h:Rs K D w v s) :
   Calls Tryz.prog 72 #[v] w fun e w'=>e=.returned (.int .i64 (sgn s))∧Below w.heap.size w w':=by
 obtain ⟨p,d,h1,h2⟩:=h
 rw [← sgn_same D0 h1.low.1 h2]
 exact qsign_any w h1
theorem qs_add {K N:Nat}{T D s s':Int}{v v':Value} (w:World) (hB:Big K N T) (hD:Dn T D) (h:Qs N D w v s) (h':Qs N D w v' s') (hs:Ins T (s+s')) :
   Calls Tryz.prog 40 #[v,v'] w fun e w'=>(∃ v,e=.returned v∧Qs N D w' v (s+s'))∧Below w.heap.size w w':=by
 obtain ⟨p,d,h1,h2⟩:=h
 obtain ⟨p',d',h1',h2'⟩:=h'
 refine (rqadd_any w h1 h1' (by have:=hB.n;omega)).mono fun e w' ⟨⟨v,P,E,he,hr,h3⟩,hb⟩=>⟨⟨v,he,Qs.of hB hD hs hr (parts_add h1.pos.1 h1'.pos.1 h2 h2' h3)⟩,hb⟩
theorem qs_sub {K N:Nat}{T D s s':Int}{v v':Value} (w:World) (hB:Big K N T) (hD:Dn T D) (h:Qs N D w v s) (h':Qs N D w v' s') (hs:Ins T (s - s')) :
   Calls Tryz.prog 47 #[v,v'] w fun e w'=>(∃ v,e=.returned v∧Qs N D w' v (s - s'))∧Below w.heap.size w w':=by
 obtain ⟨p,d,h1,h2⟩:=h
 obtain ⟨p',d',h1',h2'⟩:=h'
 refine (rqsub_any w h1 h1' (by have:=hB.n;omega)).mono fun e w' ⟨⟨v,P,E,he,hr,h3⟩,hb⟩=>⟨⟨v,he,Qs.of hB hD hs hr (parts_add h1.pos.1 h1'.pos.1 h2 (show -p'*D = -s'*d' by grind) h3)⟩,hb⟩
theorem qs_mul {K N:Nat}{T D D' s s':Int}{v v':Value} (w:World) (hB:Big K N T) (hD:Dn T (D*D')) (h:Qs N D w v s) (h':Qs N D' w v' s') (hs:Ins T (s*s')) :
   Calls Tryz.prog 46 #[v,v'] w fun e w'=>(∃ v,e=.returned v∧Qs N (D*D') w' v (s*s'))∧Below w.heap.size w w':=by
 obtain ⟨p,d,h1,h2⟩:=h
 obtain ⟨p',d',h1',h2'⟩:=h'
 refine (rqmul_any w h1 h1' (by have:=hB.n;omega)).mono fun e w' ⟨⟨v,P,E,he,hr,h3⟩,hb⟩=>⟨⟨v,he,Qs.of hB hD hs hr (parts_mul h1.pos.1 h1'.pos.1 h2 h2' h3)⟩,hb⟩
theorem qs_cmp {K N:Nat}{T D s s':Int}{v v':Value} (w:World) (hB:Big K N T) (D0:0<D) (h:Qs N D w v s) (h':Qs N D w v' s') :
   Calls Tryz.prog 41 #[v,v'] w fun e w'=>e=.returned (.int .i64 (sgn (s - s')))∧Below w.heap.size w w':=by
 obtain ⟨p,d,h1,h2⟩:=h
 obtain ⟨p',d',h1',h2'⟩:=h'
 rw [← parts_cmp D0 h1.pos.1 h1'.pos.1 h2 h2']
 exact rqcmp_any w h1 h1' (by have:=hB.n;omega)
theorem qs_sign {N:Nat}{D s:Int}{v:Value} (w:World) (D0:0<D) (h:Qs N D w v s) :
   Calls Tryz.prog 37 #[v] w fun e w'=>e=.returned (.int .i64 (sgn s))∧Below w.heap.size w w':=by
 obtain ⟨p,d,h1,h2⟩:=h
 rw [← sgn_same D0 h1.pos.1 h2]
 exact rqsign_any w h1
theorem qs_zero {K N:Nat}{T D:Int} (w:World) (hB:Big K N T) :
   Calls Tryz.prog 39 #[.int .i64 0] w fun e w'=>(∃ v,e=.returned v∧Qs N D w' v 0)∧Below w.heap.size w w' :=
 (rint_zero w).mono fun e w' ⟨⟨v,he,h⟩,hb⟩=>⟨⟨v,he,0,1,h.mono (by have:=hB.n;omega),by omega⟩,hb⟩
theorem rs_nought (K:Nat) (D:Int) (w:World):Rs K D w (.agg #[.int .i64 0,.slice none 0 0,.int .i64 0,.slice none 0 0]) 0:=⟨0,1,rsum_zero _ _,by omega⟩
theorem Rs.up {K:Nat}{D s:Int} (C:Int) {w:World}{v:Value} (h:Rs K D w v s):Rs K (D*C) w v (s*C):=by
 obtain ⟨p,d,h1,h2⟩:=h
 exact ⟨p,d,h1,by rw [← Int.mul_assoc,h2];grind⟩
theorem Qs.up {N:Nat}{D s:Int} (C:Int) {w:World}{v:Value} (h:Qs N D w v s):Qs N (D*C) w v (s*C):=by
 obtain ⟨p,d,h1,h2⟩:=h
 exact ⟨p,d,h1,by rw [← Int.mul_assoc,h2];grind⟩
def scl (D:Int) (x:Int×Int):Int:=x.1*(D / x.2)
theorem scl_is {D:Int}{x:Int×Int} (h:x.2∣D):x.1*D=scl D x*x.2:=by
 unfold scl
 rw [Int.mul_assoc,Int.ediv_mul_cancel h]
def RsE (K:Nat) (D:Int) (w:World) (cs:List Value) (s:Int):Prop:=∃ x1 x2 x3 x4 x5 x6 x7 x8,cs=[.int .i64 x1,.slice x2 x3 x4,.int .i64 x5,.slice x6 x7 x8]∧Rs K D w (.agg #[.int .i64 x1,.slice x2 x3 x4,.int .i64 x5,.slice x6 x7 x8]) s
def QsE (N:Nat) (D:Int) (w:World) (cs:List Value) (s:Int):Prop:=∃ x1 x2 x3 x4 x5 x6 x7 x8,cs=[.bool x1,.slice x2 x3 x4,.bool x5,.slice x6 x7 x8]∧Qs N D w (.agg #[.bool x1,.slice x2 x3 x4,.bool x5,.slice x6 x7 x8]) s
theorem RsE.stays (N:Nat) (D:Int) {K:Value→Prop} (e:TypeId) (hK:∀ x,¬ K (.int .u64 x)):Stays K e (RsE N D):=fun _ _ _ _ ⟨x1,x2,x3,x4,x5,x6,x7,x8,h1,p,d,h2,h3⟩ hc=>⟨x1,x2,x3,x4,x5,x6,x7,x8,h1,p,d,h2.chg hc hK,h3⟩
theorem QsE.stays (N:Nat) (D:Int) (K:Value→Prop) {e:TypeId} (he:e≠3):Stays K e (QsE N D):=fun _ _ _ _ ⟨x1,x2,x3,x4,x5,x6,x7,x8,h1,p,d,h2,h3⟩ hc=>⟨x1,x2,x3,x4,x5,x6,x7,x8,h1,p,d,h2.chg hc he,h3⟩
theorem Rows.map {α β:Type}{k:Nat}{E:World→List Value → α → Prop}{E':World→List Value → β → Prop}{w:World}{v:Value}{L:List α} (h:Rows k E w v L) (f:α → β) (hE:∀ cs x,x ∈ L→E w cs x→E' w cs (f x)):Rows k E' w v (L.map f):=by
 obtain ⟨a,c,h1,h2,h3,h4⟩:=h
 refine ⟨a,c,by rw [List.length_map];exact h1,by rw [List.length_map];exact h2,h3,?_⟩
 rcases h4 with rfl | ⟨b,o,h4,h5⟩
 · exact Or.inl rfl
 · refine Or.inr ⟨b,o,h4,fun i y hy => ?_⟩
   rw [List.getElem?_map] at hy
   obtain ⟨x,hx,rfl⟩:=Option.map_eq_some_iff.1 hy
   obtain ⟨cs,hl,hcs,he⟩:=h5 i x hx
   exact ⟨cs,hl,hcs,hE cs x (List.mem_of_getElem? hx) he⟩
theorem RE.parts {K N:Nat}{T D:Int}{w:World}{cs:List Value}{x:Int×Int} (hB:Big K N T) (hx:x.2∣D) (h:RE 78 w cs x):RsE K D w cs (scl D x):=by
 obtain ⟨x1,x2,x3,x4,x5,x6,x7,x8,h1,h2⟩:=h
 exact ⟨x1,x2,x3,x4,x5,x6,x7,x8,h1,x.1,x.2,h2.mono (by have:=hB.k;omega),scl_is hx⟩
theorem QE.parts {K N:Nat}{T D:Int}{w:World}{cs:List Value}{x:Int×Int} (hB:Big K N T) (hx:x.2∣D) (h:QE 362 w cs x):QsE N D w cs (scl D x):=by
 obtain ⟨x1,x2,x3,x4,x5,x6,x7,x8,h1,h2⟩:=h
 exact ⟨x1,x2,x3,x4,x5,x6,x7,x8,h1,x.1,x.2,h2.mono (by have:=hB.n;omega),scl_is hx⟩
def SpE (_w:World) (cs:List Value) (x:Int×Int×ByteArray×ByteArray):Prop:=cs=[.int .i64 x.1,.int .i64 x.2.1,.string x.2.2.1,.string x.2.2.2]∧I64 x.1∧I64 x.2.1∧x.2.2.1.size≤maxLen∧x.2.2.2.size≤maxLen
theorem SpE.stays (K:Value→Prop) (e:TypeId):Stays K e SpE:=fun _ _ _ _ h _=>h
def ArE {β:Type} (E:World→List Value → β → Prop) (w:World) (cs:List Value) (x:Int×Int × β × β):Prop:=∃ c1 c2,cs=.int .i64 x.1 :: .int .i64 x.2.1 :: (c1++c2)∧I64 x.1∧I64 x.2.1∧E w c1 x.2.2.1∧E w c2 x.2.2.2
theorem ArE.stays {β:Type}{E:World→List Value → β → Prop}{K:Value→Prop}{e:TypeId} (h:Stays K e E):Stays K e (ArE E):=fun _ _ _ _ ⟨c1,c2,h1,h2,h3,h4,h5⟩ hc=>⟨c1,c2,h1,h2,h3,h _ _ _ _ h4 hc,h _ _ _ _ h5 hc⟩
def arc1 (s:Int×Int×ByteArray×ByteArray):Option (Int×Int×(Int×Int)×(Int×Int)):=match num s.2.2.1,num s.2.2.2 with
 | some c,some k=>some (s.1,s.2.1,c,k)
 | _,_=>none
def arcsOf (l:List (Int×Int×ByteArray×ByteArray)):Option (List (Int×Int×(Int×Int)×(Int×Int))):=allOf arc1 l
def ArcsP (l:List (Int×Int×ByteArray×ByteArray)) (e:Ending) (w':World):Prop :=
 (arcsOf l=none∧e=.returned (.tuple #[.slice none 0 0,.bool false]))∨∃ L v,arcsOf l=some L∧e=.returned (.tuple #[v,.bool true])∧Rows 10 (ArE (QE 362)) w' v L
theorem info_arc3:(Tryz.prog.info? 103).map (fun i=>(i.zero,i.size,i.bytes))=some (some (.agg #[.int .i64 0,.int .i64 0,.bool false,.slice none 0 0,.bool false,.slice none 0 0,.bool false,.slice none 0 0,.bool false,.slice none 0 0]),10,144):=by kernel_rfl
theorem cells_ar (f t:Int) {c1 c2:List Value} (h1:∀ u ∈ c1,NoWord u) (h2:∀ u ∈ c2,NoWord u):∀ u ∈ Value.int .i64 f :: .int .i64 t :: (c1++c2),NoWord u:=by
 intro u hu
 simp only [List.mem_cons,List.mem_append] at hu
 rcases hu with rfl | rfl | h | h
 · intro x;simp
 · intro x;simp
 · exact h1 u h
 · exact h2 u h
theorem one_ar (f t:Int) {c1 c2:List Value} (h1:∀ u ∈ c1,u.oneCell'=true) (h2:∀ u ∈ c2,u.oneCell'=true):∀ u ∈ Value.int .i64 f :: .int .i64 t :: (c1++c2),u.oneCell'=true:=by
 intro u hu
 simp only [List.mem_cons,List.mem_append] at hu
 rcases hu with rfl | rfl | h | h
 · rfl
 · rfl
 · exact h1 u h
 · exact h2 u h
theorem kd_qw (x1:Bool) (x2:Option Addr) (x3 x4:Nat) (x5:Bool) (x6:Option Addr) (x7 x8:Nat):∀ u ∈ [Value.bool x1,.slice x2 x3 x4,.bool x5,.slice x6 x7 x8],NoWord u:=fun u hu=>(kd_q x1 x2 x3 x4 x5 x6 x7 x8 u hu).noWord
theorem zk_arc3:∀ u ∈ (Value.agg #[.int .i64 0,.int .i64 0,.bool false,.slice none 0 0,.bool false,.slice none 0 0,.bool false,.slice none 0 0,.bool false,.slice none 0 0]).cells.toList,NoWord u:=cells_ar 0 0 (kd_qw false none 0 0 false none 0 0) (kd_qw false none 0 0 false none 0 0)
end Go.Proofs.YtkdobjmhammhbaaGreatDoor
