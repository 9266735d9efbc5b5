import Derived.Test.YtkdobjmhammhbaaGreatDoorMK2
namespace Go.Proofs.YtkdobjmhammhbaaGreatDoor
open Go.RowKit
def JE (_w:World) (cs:List Value) (x:Int):Prop:=cs=[.int .i64 x] ∧ -9223372036854775808≤x∧x≤9223372036854775807
theorem JE.stays (K:Value→Prop) (e:TypeId):Stays K e JE:=fun _ _ _ _ h _=>h
theorem JE.other (w:World) (cs:List Value) (x:Int) (h:JE w cs x):∃ u ∈ cs,¬ IsSl u:=by
 obtain ⟨rfl,_⟩:=h
 exact ⟨_,List.mem_singleton.2 rfl,fun ⟨_,_,_,h⟩=>by cases h⟩
theorem Rows.int {w:World}{a:Option Addr}{n c i:Nat}{L:List Int}{x:Int} (h:Rows 1 JE w (.slice a n c) L) (hx:L[i]? = some x):∃ b o,a=some ⟨b,o,none⟩∧w.cell? ⟨b,o+i,none⟩=some (.int .i64 x) ∧ -9223372036854775808≤x∧x≤9223372036854775807:=by
 obtain ⟨b,o,rfl,cs,_,hcs,rfl,hb⟩:=h.at hx
 exact ⟨b,o,rfl,by simpa using hcs 0 _ rfl,hb⟩
theorem Rows.row {w:World}{a:Option Addr}{n c i:Nat}{L:List (List Int)}{r:List Int} (h:Rows 1 (LE 1 JE) w (.slice a n c) L) (hx:L[i]? = some r):∃ b o ra rc,a=some ⟨b,o,none⟩∧w.cell? ⟨b,o+i,none⟩=some (.slice ra r.length rc)∧Rows 1 JE w (.slice ra r.length rc) r:=by
 obtain ⟨b,o,rfl,cs,_,hcs,u,rfl,hr⟩:=h.at hx
 obtain ⟨ra,rc,rfl⟩:=hr.shape
 exact ⟨b,o,ra,rc,rfl,by simpa using hcs 0 _ rfl,hr⟩
def I64 (x:Int):Prop := -9223372036854775808≤x∧x≤9223372036854775807
theorem Rows.on {α:Type}{k:Nat}{E:World→List Value → α → Prop}{w w':World}{v:Value}{L:List α} (h:Rows k E w v L) (hE:∀ cs x,E w cs x→E w' cs x) (hb:Below w.heap.size w w'):Rows k E w' v L:=by
 obtain ⟨a,cap,h1,h2,h3,h4⟩:=h
 refine ⟨a,cap,h1,h2,h3,?_⟩
 rcases h4 with h4 | ⟨b,o,h4,h5⟩
 · exact Or.inl h4
 · refine Or.inr ⟨b,o,h4,fun i x hx => ?_⟩
   obtain ⟨cs,hl,hcs,he⟩:=h5 i x hx
   exact ⟨cs,hl,fun j' u' hu'=>ck hb (hcs j' u' hu'),hE _ _ he⟩
def YesP (e:Ending) (p:Prop):Prop:=∃ b,e=.returned (.bool b)∧(b=true↔p)
theorem YesP.yes {p:Prop} (h:p):YesP (.returned (.bool true)) p:=⟨true,rfl,fun _=>h,fun _=>rfl⟩
theorem YesP.no {p:Prop} (h:¬ p):YesP (.returned (.bool false)) p:=⟨false,rfl,(fun e=>by cases e),fun h'=>absurd h' h⟩
theorem YesP.of {p:Prop}{b:Bool} (h:b=true↔p):YesP (.returned (.bool b)) p:=⟨b,rfl,h⟩
theorem wrapI64 (n:Int):IntKind.i64.wrap n=wrap64 n:=by unfold wrap64;exact IntKind.wrap_i64 n
theorem JE.kinds (x:Int):∀ u ∈ [Value.int .i64 x],NoWord u:=by intro u hu z e;simp at hu;rw [hu] at e;cases e
theorem rows_nil {α:Type}{k:Nat}{E:World→List Value → α → Prop} (w:World):Rows k E w (.slice none 0 0) []:=⟨none,0,rfl,Nat.le_refl _,Nat.zero_le _,Or.inl rfl⟩
theorem info_ji:(Tryz.prog.info? 3).map (fun i=>(i.zero,i.size,i.bytes))=some (some (.int .i64 0),1,8):=by kernel_rfl
def BE (_w:World) (cs:List Value) (x:Bool):Prop:=cs=[.bool x]
theorem BE.stays (K:Value→Prop) (e:TypeId):Stays K e BE:=fun _ _ _ _ h _=>h
theorem Rows.flag {w:World}{a:Option Addr}{n c i:Nat}{L:List Bool}{x:Bool} (h:Rows 1 BE w (.slice a n c) L) (hx:L[i]? = some x):∃ b o,a=some ⟨b,o,none⟩∧w.cell? ⟨b,o+i,none⟩=some (.bool x):=by
 obtain ⟨b,o,rfl,cs,_,hcs,rfl⟩:=h.at hx
 exact ⟨b,o,rfl,by simpa using hcs 0 _ rfl⟩
structure Big (K N:Nat) (T:Int):Prop where
 r:T≤pw (K+1)
 q:T≤10000 ^ N
 k:78≤K∧K≤9000
 n:362≤N∧N≤30000
def Dn (T D:Int):Prop:=0<D∧D<T
def Ins (T s:Int):Prop := -T<s∧s<T
def Rs (K:Nat) (D:Int) (w:World) (v:Value) (s:Int):Prop:=∃ p d,Rr (K+1) w v p d∧p*D=s*d
def Qs (N:Nat) (D:Int) (w:World) (v:Value) (s:Int):Prop:=∃ p d,Qr N w v p d∧p*D=s*d
theorem Rs.later {K:Nat}{D s:Int}{w w':World}{v:Value} (h:Rs K D w v s) (hb:Below w.heap.size w w'):Rs K D w' v s:=by
 obtain ⟨p,d,h1,h2⟩:=h
 exact ⟨p,d,h1.later hb,h2⟩
theorem Qs.later {N:Nat}{D s:Int}{w w':World}{v:Value} (h:Qs N D w v s) (hb:Below w.heap.size w w'):Qs N D w' v s:=by
 obtain ⟨p,d,h1,h2⟩:=h
 exact ⟨p,d,h1.later hb,h2⟩
theorem Rs.shape {K:Nat}{D s:Int}{w:World}{v:Value} (h:Rs K D w v s):∃ x a n c y b m k,v=.agg #[.int .i64 x,.slice a n c,.int .i64 y,.slice b m k]:=by
 obtain ⟨p,d,h1,_⟩:=h
 exact h1.shape
theorem Qs.shape {N:Nat}{D s:Int}{w:World}{v:Value} (h:Qs N D w v s):∃ x a n c y b m k,v=.agg #[.bool x,.slice a n c,.bool y,.slice b m k]:=by
 obtain ⟨p,d,h1,_⟩:=h
 exact h1.shape
theorem Rr.low {N:Nat}{w:World}{v:Value}{p d:Int} (h:Rr N w v p d):0<d∧Int.gcd p d=1:=by
 obtain ⟨x,a,n,c,y,b,m,k,e,h1,h2,h3,h4,h5,h6⟩:=h
 exact ⟨h4,h5⟩
theorem Rr.fit {N M:Nat}{w:World}{v:Value}{p d:Int} (h:Rr N w v p d) (hp:-pw M<p∧p<pw M) (hd:d<pw M):Rr M w v p d:=by
 obtain ⟨x,a,n,c,y,b,m,k,e,h1,h2,h3,h4,h5,h6⟩:=h
 have p0:=zka M
 refine ⟨x,a,n,c,y,b,m,k,e,h1,h2.fit hp.1 hp.2,h3.fit ?_ ?_,h4,h5,h6⟩
 all_goals rcases h6 with ⟨_,e0⟩ | ⟨_,e0⟩ <;> omega
theorem Qr.pos {N:Nat}{w:World}{v:Value}{p d:Int} (h:Qr N w v p d):0<d∧Int.gcd p d=1:=by
 obtain ⟨x,a,n,c,y,b,m,k,e,g1,g2,d0,hg⟩:=h
 exact ⟨d0,hg⟩
theorem parts_fit {D s P E T:Int} (hD:Dn T D) (hs:Ins T s) (h0:0<E∧Int.gcd P E=1) (h:P*D=s*E):Ins T P∧E<T:=by
 obtain ⟨h1,h2⟩:=low_le hD.1 h0.1 h0.2 h
 unfold Ins Dn at *
 omega
theorem Rs.of {K N M:Nat}{T D s P E:Int}{w:World}{v:Value} (hB:Big K N T) (hD:Dn T D) (hs:Ins T s) (h:Rr M w v P E) (e:P*D=s*E):Rs K D w v s:=by
 obtain ⟨h1,h2⟩:=parts_fit hD hs h.low e
 have:=hB.r
 unfold Ins at h1
 exact ⟨P,E,h.fit (by omega) (by omega),e⟩
theorem Qs.of {K N M:Nat}{T D s P E:Int}{w:World}{v:Value} (hB:Big K N T) (hD:Dn T D) (hs:Ins T s) (h:Qr M w v P E) (e:P*D=s*E):Qs N D w v s:=by
 obtain ⟨h1,h2⟩:=parts_fit hD hs h.pos e
 have:=hB.q
 unfold Ins at h1
 exact ⟨P,E,h.fit (by omega) (by omega) (by omega),e⟩
theorem parts_add {D p d p' d' s s' P E:Int} (d0:0<d) (d0':0<d') (h:p*D=s*d) (h':p'*D=s'*d') (e:P*(d*d')=(p*d'+p'*d)*E):P*D=(s+s')*E:=by
 refine Int.eq_of_mul_eq_mul_right (show d*d'≠0 from Int.ne_of_gt (Int.mul_pos d0 d0')) ?_
 grind
theorem parts_mul {D D' p d p' d' s s' P E:Int} (d0:0<d) (d0':0<d') (h:p*D=s*d) (h':p'*D'=s'*d') (e:P*(d*d')=p*p'*E):P*(D*D')=s*s'*E:=by
 refine Int.eq_of_mul_eq_mul_right (show d*d'≠0 from Int.ne_of_gt (Int.mul_pos d0 d0')) ?_
 grind
theorem sgn_same {x y a b:Int} (ha:0<a) (hb:0<b) (h:x*a=y*b):sgn x=sgn y:=by
 rcases Int.lt_trichotomy x 0 with h1 | h1 | h1
 · have h2:x*a<0:=Int.mul_neg_of_neg_of_pos h1 ha
   have h3:y<0:=by
     rcases Int.lt_or_le y 0 with h3 | h3
     · exact h3
     · have:=Int.mul_nonneg h3 (Int.le_of_lt hb);omega
   rw [zql h1,zql h3]
 · have h3:y=0:=by
     rw [h1,Int.zero_mul] at h
     rcases Int.mul_eq_zero.1 h.symm with h3 | h3 <;> omega
   rw [zxe h1,zxe h3]
 · have h2:0<x*a:=Int.mul_pos h1 ha
   have h3:0<y:=by
     rcases Int.lt_or_le 0 y with h3 | h3
     · exact h3
     · have:=Int.mul_nonneg (show 0 ≤ -y by omega) (Int.le_of_lt hb);rw [Int.neg_mul] at this;omega
   rw [zqk h1,zqk h3]
theorem parts_cmp {D p d p' d' s s':Int} (D0:0<D) (d0:0<d) (d0':0<d') (h:p*D=s*d) (h':p'*D=s'*d'):sgn (p*d' - p'*d)=sgn (s - s'):=by
 refine sgn_same D0 (Int.mul_pos d0 d0') ?_
 grind
theorem rs_add {K N:Nat}{T D s s':Int}{v v':Value} (w:World) (hB:Big K N T) (hD:Dn T D) (h:Rs K D w v s) (h':Rs K D w v' s') (hs:Ins T (s+s')) (hT:Tab64 w) :
   Calls Tryz.prog 70 #[v,v'] w fun e w'=>(∃ v,e=.returned v∧Rs K D w' v (s+s'))∧Below w.heap.size w w':=by
 obtain ⟨p,d,h1,h2⟩:=h
 obtain ⟨p',d',h1',h2'⟩:=h'
 refine (qadd_any w h1 h1' (by have:=hB.k;omega) hT).mono fun e w' ⟨⟨v,P,E,he,hr,h3⟩,hb⟩=>⟨⟨v,he,Rs.of hB hD hs hr (parts_add h1.low.1 h1'.low.1 h2 h2' h3)⟩,hb⟩
theorem rs_mul {K N:Nat}{T D D' s s':Int}{v v':Value} (w:World) (hB:Big K N T) (hD:Dn T (D*D')) (h:Rs K D w v s) (h':Rs K D' w v' s') (hs:Ins T (s*s')) (hT:Tab64 w) :
   Calls Tryz.prog 76 #[v,v'] w fun e w'=>(∃ v,e=.returned v∧Rs K (D*D') w' v (s*s'))∧Below w.heap.size w w':=by
 obtain ⟨p,d,h1,h2⟩:=h
 obtain ⟨p',d',h1',h2'⟩:=h'
 refine (qmul_any w h1 h1' (by have:=hB.k;omega) hT).mono fun e w' ⟨⟨v,P,E,he,hr,h3⟩,hb⟩=>⟨⟨v,he,Rs.of hB hD hs hr (parts_mul h1.low.1 h1'.low.1 h2 h2' h3)⟩,hb⟩
theorem rs_cmp {K N:Nat}{T D s s':Int}{v v':Value} (w:World) (hB:Big K N T) (D0:0<D) (h:Rs K D w v s) (h':Rs K D w v' s') :
   Calls Tryz.prog 34 #[v,v'] w fun e w'=>e=.returned (.int .i64 (sgn (s - s')))∧Below w.heap.size w w':=by
 obtain ⟨p,d,h1,h2⟩:=h
 obtain ⟨p',d',h1',h2'⟩:=h'
 rw [← parts_cmp D0 h1.low.1 h1'.low.1 h2 h2']
 exact qcmp_any w h1 h1' (by have:=hB.k;omega)
theorem rs_sign {K:Nat}{D s:Int}{v:Value} (w:World) (D0:0<D) (h:Rs K D w v s) :
   Calls Tryz.prog 72 #[v] w fun e w'=>e=.returned (.int .i64 (sgn s))∧Below w.heap.size w w':=by
 obtain ⟨p,d,h1,h2⟩:=h
 rw [← sgn_same D0 h1.low.1 h2]
 exact qsign_any w h1
theorem qs_add {K N:Nat}{T D s s':Int}{v v':Value} (w:World) (hB:Big K N T) (hD:Dn T D) (h:Qs N D w v s) (h':Qs N D w v' s') (hs:Ins T (s+s')) :
   Calls Tryz.prog 40 #[v,v'] w fun e w'=>(∃ v,e=.returned v∧Qs N D w' v (s+s'))∧Below w.heap.size w w':=by
 obtain ⟨p,d,h1,h2⟩:=h
 obtain ⟨p',d',h1',h2'⟩:=h'
 refine (rqadd_any w h1 h1' (by have:=hB.n;omega)).mono fun e w' ⟨⟨v,P,E,he,hr,h3⟩,hb⟩=>⟨⟨v,he,Qs.of hB hD hs hr (parts_add h1.pos.1 h1'.pos.1 h2 h2' h3)⟩,hb⟩
theorem qs_mul {K N:Nat}{T D D' s s':Int}{v v':Value} (w:World) (hB:Big K N T) (hD:Dn T (D*D')) (h:Qs N D w v s) (h':Qs N D' w v' s') (hs:Ins T (s*s')) :
   Calls Tryz.prog 46 #[v,v'] w fun e w'=>(∃ v,e=.returned v∧Qs N (D*D') w' v (s*s'))∧Below w.heap.size w w':=by
 obtain ⟨p,d,h1,h2⟩:=h
 obtain ⟨p',d',h1',h2'⟩:=h'
 refine (rqmul_any w h1 h1' (by have:=hB.n;omega)).mono fun e w' ⟨⟨v,P,E,he,hr,h3⟩,hb⟩=>⟨⟨v,he,Qs.of hB hD hs hr (parts_mul h1.pos.1 h1'.pos.1 h2 h2' h3)⟩,hb⟩
theorem qs_cmp {K N:Nat}{T D s s':Int}{v v':Value} (w:World) (hB:Big K N T) (D0:0<D) (h:Qs N D w v s) (h':Qs N D w v' s') :
   Calls Tryz.prog 41 #[v,v'] w fun e w'=>e=.returned (.int .i64 (sgn (s - s')))∧Below w.heap.size w w':=by
 obtain ⟨p,d,h1,h2⟩:=h
 obtain ⟨p',d',h1',h2'⟩:=h'
 rw [← parts_cmp D0 h1.pos.1 h1'.pos.1 h2 h2']
 exact rqcmp_any w h1 h1' (by have:=hB.n;omega)
theorem qs_sign {N:Nat}{D s:Int}{v:Value} (w:World) (D0:0<D) (h:Qs N D w v s) :
   Calls Tryz.prog 37 #[v] w fun e w'=>e=.returned (.int .i64 (sgn s))∧Below w.heap.size w w':=by
 obtain ⟨p,d,h1,h2⟩:=h
 rw [← sgn_same D0 h1.pos.1 h2]
 exact rqsign_any w h1
theorem qs_zero {K N:Nat}{T D:Int} (w:World) (hB:Big K N T) :
   Calls Tryz.prog 39 #[.int .i64 0] w fun e w'=>(∃ v,e=.returned v∧Qs N D w' v 0)∧Below w.heap.size w w' :=
 (rint_zero w).mono fun e w' ⟨⟨v,he,h⟩,hb⟩=>⟨⟨v,he,0,1,h.mono (by have:=hB.n;omega),by omega⟩,hb⟩
theorem rs_nought (K:Nat) (D:Int) (w:World):Rs K D w (.agg #[.int .i64 0,.slice none 0 0,.int .i64 0,.slice none 0 0]) 0:=⟨0,1,rsum_zero _ _,by omega⟩
theorem Rs.up {K:Nat}{D s:Int} (C:Int) {w:World}{v:Value} (h:Rs K D w v s):Rs K (D*C) w v (s*C):=by
 obtain ⟨p,d,h1,h2⟩:=h
 exact ⟨p,d,h1,by rw [← Int.mul_assoc,h2];grind⟩
theorem Qs.up {N:Nat}{D s:Int} (C:Int) {w:World}{v:Value} (h:Qs N D w v s):Qs N (D*C) w v (s*C):=by
 obtain ⟨p,d,h1,h2⟩:=h
 exact ⟨p,d,h1,by rw [← Int.mul_assoc,h2];grind⟩
def scl (D:Int) (x:Int×Int):Int:=x.1*(D / x.2)
theorem scl_is {D:Int}{x:Int×Int} (h:x.2∣D):x.1*D=scl D x*x.2:=by
 unfold scl
 rw [Int.mul_assoc,Int.ediv_mul_cancel h]
def RsE (K:Nat) (D:Int) (w:World) (cs:List Value) (s:Int):Prop:=∃ x1 x2 x3 x4 x5 x6 x7 x8,cs=[.int .i64 x1,.slice x2 x3 x4,.int .i64 x5,.slice x6 x7 x8]∧Rs K D w (.agg #[.int .i64 x1,.slice x2 x3 x4,.int .i64 x5,.slice x6 x7 x8]) s
def QsE (N:Nat) (D:Int) (w:World) (cs:List Value) (s:Int):Prop:=∃ x1 x2 x3 x4 x5 x6 x7 x8,cs=[.bool x1,.slice x2 x3 x4,.bool x5,.slice x6 x7 x8]∧Qs N D w (.agg #[.bool x1,.slice x2 x3 x4,.bool x5,.slice x6 x7 x8]) s
theorem RsE.stays (N:Nat) (D:Int) {K:Value→Prop} (e:TypeId) (hK:∀ x,¬ K (.int .u64 x)):Stays K e (RsE N D):=fun _ _ _ _ ⟨x1,x2,x3,x4,x5,x6,x7,x8,h1,p,d,h2,h3⟩ hc=>⟨x1,x2,x3,x4,x5,x6,x7,x8,h1,p,d,h2.chg hc hK,h3⟩
theorem QsE.stays (N:Nat) (D:Int) (K:Value→Prop) {e:TypeId} (he:e≠3):Stays K e (QsE N D):=fun _ _ _ _ ⟨x1,x2,x3,x4,x5,x6,x7,x8,h1,p,d,h2,h3⟩ hc=>⟨x1,x2,x3,x4,x5,x6,x7,x8,h1,p,d,h2.chg hc he,h3⟩
theorem Rows.map {α β:Type}{k:Nat}{E:World→List Value → α → Prop}{E':World→List Value → β → Prop}{w:World}{v:Value}{L:List α} (h:Rows k E w v L) (f:α → β) (hE:∀ cs x,x ∈ L→E w cs x→E' w cs (f x)):Rows k E' w v (L.map f):=by
 obtain ⟨a,c,h1,h2,h3,h4⟩:=h
 refine ⟨a,c,by rw [List.length_map];exact h1,by rw [List.length_map];exact h2,h3,?_⟩
 rcases h4 with rfl | ⟨b,o,h4,h5⟩
 · exact Or.inl rfl
 · refine Or.inr ⟨b,o,h4,fun i y hy => ?_⟩
   rw [List.getElem?_map] at hy
   obtain ⟨x,hx,rfl⟩:=Option.map_eq_some_iff.1 hy
   obtain ⟨cs,hl,hcs,he⟩:=h5 i x hx
   exact ⟨cs,hl,hcs,hE cs x (List.mem_of_getElem? hx) he⟩
theorem RE.parts {K N:Nat}{T D:Int}{w:World}{cs:List Value}{x:Int×Int} (hB:Big K N T) (hx:x.2∣D) (h:RE 78 w cs x):RsE K D w cs (scl D x):=by
 obtain ⟨x1,x2,x3,x4,x5,x6,x7,x8,h1,h2⟩:=h
 exact ⟨x1,x2,x3,x4,x5,x6,x7,x8,h1,x.1,x.2,h2.mono (by have:=hB.k;omega),scl_is hx⟩
theorem QE.parts {K N:Nat}{T D:Int}{w:World}{cs:List Value}{x:Int×Int} (hB:Big K N T) (hx:x.2∣D) (h:QE 362 w cs x):QsE N D w cs (scl D x):=by
 obtain ⟨x1,x2,x3,x4,x5,x6,x7,x8,h1,h2⟩:=h
 exact ⟨x1,x2,x3,x4,x5,x6,x7,x8,h1,x.1,x.2,h2.mono (by have:=hB.n;omega),scl_is hx⟩
def SpE (_w:World) (cs:List Value) (x:Int×Int×ByteArray×ByteArray):Prop:=cs=[.int .i64 x.1,.int .i64 x.2.1,.string x.2.2.1,.string x.2.2.2]∧I64 x.1∧I64 x.2.1∧x.2.2.1.size≤maxLen∧x.2.2.2.size≤maxLen
theorem SpE.stays (K:Value→Prop) (e:TypeId):Stays K e SpE:=fun _ _ _ _ h _=>h
def ArE {β:Type} (E:World→List Value → β → Prop) (w:World) (cs:List Value) (x:Int×Int × β × β):Prop:=∃ c1 c2,cs=.int .i64 x.1 :: .int .i64 x.2.1 :: (c1++c2)∧I64 x.1∧I64 x.2.1∧E w c1 x.2.2.1∧E w c2 x.2.2.2
theorem ArE.stays {β:Type}{E:World→List Value → β → Prop}{K:Value→Prop}{e:TypeId} (h:Stays K e E):Stays K e (ArE E):=fun _ _ _ _ ⟨c1,c2,h1,h2,h3,h4,h5⟩ hc=>⟨c1,c2,h1,h2,h3,h _ _ _ _ h4 hc,h _ _ _ _ h5 hc⟩
def arc1 (s:Int×Int×ByteArray×ByteArray):Option (Int×Int×(Int×Int)×(Int×Int)):=match num s.2.2.1,num s.2.2.2 with
 | some c,some k=>some (s.1,s.2.1,c,k)
 | _,_=>none
def arcsOf (l:List (Int×Int×ByteArray×ByteArray)):Option (List (Int×Int×(Int×Int)×(Int×Int))):=allOf arc1 l
structure F8 (α:Type) where
 a:α
 b:Option Addr
 c:Nat
 d:Nat
 e:α
 f:Option Addr
 g:Nat
 h:Nat
abbrev vq (x:F8 Bool):Value:=.agg #[.bool x.a,.slice x.b x.c x.d,.bool x.e,.slice x.f x.g x.h]
abbrev vr (x:F8 Int):Value:=.agg #[.int .i64 x.a,.slice x.b x.c x.d,.int .i64 x.e,.slice x.f x.g x.h]
theorem Qs.sh {N:Nat}{D s:Int}{w:World}{v:Value} (h:Qs N D w v s):∃ x:F8 Bool,v=.agg #[.bool x.a,.slice x.b x.c x.d,.bool x.e,.slice x.f x.g x.h]:=by
 obtain ⟨x1,x2,x3,x4,x5,x6,x7,x8,rfl⟩:=h.shape
 exact ⟨⟨x1,x2,x3,x4,x5,x6,x7,x8⟩,rfl⟩
theorem Rs.sh {N:Nat}{D s:Int}{w:World}{v:Value} (h:Rs N D w v s):∃ x:F8 Int,v=.agg #[.int .i64 x.a,.slice x.b x.c x.d,.int .i64 x.e,.slice x.f x.g x.h]:=by
 obtain ⟨x1,x2,x3,x4,x5,x6,x7,x8,rfl⟩:=h.shape
 exact ⟨⟨x1,x2,x3,x4,x5,x6,x7,x8⟩,rfl⟩
theorem QsE.sh {N:Nat}{D s:Int}{w:World}{cs:List Value} (h:QsE N D w cs s):∃ x:F8 Bool,cs=[.bool x.a,.slice x.b x.c x.d,.bool x.e,.slice x.f x.g x.h]∧Qs N D w (vq x) s:=by
 obtain ⟨x1,x2,x3,x4,x5,x6,x7,x8,h1,h2⟩:=h
 exact ⟨⟨x1,x2,x3,x4,x5,x6,x7,x8⟩,h1,h2⟩
theorem RsE.sh {N:Nat}{D s:Int}{w:World}{cs:List Value} (h:RsE N D w cs s):∃ x:F8 Int,cs=[.int .i64 x.a,.slice x.b x.c x.d,.int .i64 x.e,.slice x.f x.g x.h]∧Rs N D w (vr x) s:=by
 obtain ⟨x1,x2,x3,x4,x5,x6,x7,x8,h1,h2⟩:=h
 exact ⟨⟨x1,x2,x3,x4,x5,x6,x7,x8⟩,h1,h2⟩
def Q4 (w:World) (b o:Nat) (x:F8 Bool):Prop:=w.cell? ⟨b,o,none⟩=some (.bool x.a)∧w.cell? ⟨b,o+1,none⟩=some (.slice x.b x.c x.d)∧w.cell? ⟨b,o+2,none⟩=some (.bool x.e)∧w.cell? ⟨b,o+3,none⟩=some (.slice x.f x.g x.h)
def R4 (w:World) (b o:Nat) (x:F8 Int):Prop:=w.cell? ⟨b,o,none⟩=some (.int .i64 x.a)∧w.cell? ⟨b,o+1,none⟩=some (.slice x.b x.c x.d)∧w.cell? ⟨b,o+2,none⟩=some (.int .i64 x.e)∧w.cell? ⟨b,o+3,none⟩=some (.slice x.f x.g x.h)
theorem Q4.keep {w w1:World}{b o:Nat}{x:F8 Bool} (h:Q4 w b o x) (hb:Below w.heap.size w w1):Q4 w1 b o x:=⟨ck hb h.1,ck hb h.2.1,ck hb h.2.2.1,ck hb h.2.2.2⟩
theorem R4.keep {w w1:World}{b o:Nat}{x:F8 Int} (h:R4 w b o x) (hb:Below w.heap.size w w1):R4 w1 b o x:=⟨ck hb h.1,ck hb h.2.1,ck hb h.2.2.1,ck hb h.2.2.2⟩
structure QX (N:Nat) (D:Int) (w:World) (r:Nat) (x:F8 Bool) (s:Int):Prop where
 c0:w.cell? ⟨r,0,none⟩=some (.bool x.a)
 c1:w.cell? ⟨r,1,none⟩=some (.slice x.b x.c x.d)
 c2:w.cell? ⟨r,2,none⟩=some (.bool x.e)
 c3:w.cell? ⟨r,3,none⟩=some (.slice x.f x.g x.h)
 box:QBox w r
 q:Qs N D w (vq x) s
structure RX (N:Nat) (D:Int) (w:World) (r:Nat) (x:F8 Int) (s:Int):Prop where
 c0:w.cell? ⟨r,0,none⟩=some (.int .i64 x.a)
 c1:w.cell? ⟨r,1,none⟩=some (.slice x.b x.c x.d)
 c2:w.cell? ⟨r,2,none⟩=some (.int .i64 x.e)
 c3:w.cell? ⟨r,3,none⟩=some (.slice x.f x.g x.h)
 box:RBox w r
 q:Rs N D w (vr x) s
theorem QX.keep {N:Nat}{D s:Int}{w w1:World}{r:Nat}{x:F8 Bool} (h:QX N D w r x s) (hb:Below w.heap.size w w1):QX N D w1 r x s:=⟨ck hb h.c0,ck hb h.c1,ck hb h.c2,ck hb h.c3,h.box.later hb,h.q.later hb⟩
theorem RX.keep {N:Nat}{D s:Int}{w w1:World}{r:Nat}{x:F8 Int} (h:RX N D w r x s) (hb:Below w.heap.size w w1):RX N D w1 r x s:=⟨ck hb h.c0,ck hb h.c1,ck hb h.c2,ck hb h.c3,h.box.later hb,h.q.later hb⟩
theorem QX.new {N:Nat}{D s:Int}{w:World}{x:F8 Bool} (h:Qs N D w (vq x) s):QX N D (w.alloc (.cells #[.bool x.a,.slice x.b x.c x.d,.bool x.e,.slice x.f x.g x.h] 59)) w.heap.size x s :=
 ⟨by rw [zqe rfl];rfl,by rw [zqe rfl];rfl,by rw [zqe rfl];rfl,by rw [zqe rfl];rfl,zkc _ _ _ _ _ _ _ _ _,h.later (zqa w _)⟩
theorem RX.new {N:Nat}{D s:Int}{w:World}{x:F8 Int} (h:Rs N D w (vr x) s):RX N D (w.alloc (.cells #[.int .i64 x.a,.slice x.b x.c x.d,.int .i64 x.e,.slice x.f x.g x.h] 39)) w.heap.size x s :=
 ⟨by rw [zqe rfl];rfl,by rw [zqe rfl];rfl,by rw [zqe rfl];rfl,by rw [zqe rfl];rfl,zjc _ _ _ _ _ _ _ _ _,h.later (zqa w _)⟩
theorem Qs.stored {N:Nat}{D s:Int}{w:World}{v:Value}{r:Nat} (h:Qs N D w v s) (hb:QBox w r) (u0 u1 u2 u3:Value):Qs N D ((((w.setCell ⟨r,0,none⟩ u0).setCell ⟨r,1,none⟩ u1).setCell ⟨r,2,none⟩ u2).setCell ⟨r,3,none⟩ u3) v s:=by
 obtain ⟨p,d,h1,h2⟩:=h
 exact ⟨p,d,h1.qstored hb _ _ _ _,h2⟩
theorem Rs.stored {N:Nat}{D s:Int}{w:World}{v:Value}{r:Nat} (h:Rs N D w v s) (hb:RBox w r) (u0 u1 u2 u3:Value):Rs N D ((((w.setCell ⟨r,0,none⟩ u0).setCell ⟨r,1,none⟩ u1).setCell ⟨r,2,none⟩ u2).setCell ⟨r,3,none⟩ u3) v s:=by
 obtain ⟨p,d,h1,h2⟩:=h
 exact ⟨p,d,h1.rstored hb _ _ _ _,h2⟩
theorem QX.put {N:Nat}{D s:Int}{w:World}{r:Nat}{x:F8 Bool} (hr:QBox w r) (h:Qs N D w (vq x) s):QX N D ((((w.setCell ⟨r,0,none⟩ (.bool x.a)).setCell ⟨r,1,none⟩ (.slice x.b x.c x.d)).setCell ⟨r,2,none⟩ (.bool x.e)).setCell ⟨r,3,none⟩ (.slice x.f x.g x.h)) r x s:=by
 obtain ⟨s0,s1,s2,s3⟩:=hr.stored (.bool x.a) (.slice x.b x.c x.d) (.bool x.e) (.slice x.f x.g x.h)
 exact ⟨s0,s1,s2,s3,hr.after _ _ _ _ _ _ _ _,h.stored hr _ _ _ _⟩
theorem RX.put {N:Nat}{D s:Int}{w:World}{r:Nat}{x:F8 Int} (hr:RBox w r) (h:Rs N D w (vr x) s):RX N D ((((w.setCell ⟨r,0,none⟩ (.int .i64 x.a)).setCell ⟨r,1,none⟩ (.slice x.b x.c x.d)).setCell ⟨r,2,none⟩ (.int .i64 x.e)).setCell ⟨r,3,none⟩ (.slice x.f x.g x.h)) r x s:=by
 obtain ⟨s0,s1,s2,s3⟩:=hr.stored (.int .i64 x.a) (.slice x.b x.c x.d) (.int .i64 x.e) (.slice x.f x.g x.h)
 exact ⟨s0,s1,s2,s3,hr.stored' _ _ _ _ _ _ _ _,h.stored hr _ _ _ _⟩
theorem Rows.qnum {N:Nat}{D:Int}{w:World}{a:Option Addr}{n c i:Nat}{L:List Int}{s:Int} (h:Rows 4 (QsE N D) w (.slice a n c) L) (hx:L[i]? = some s):∃ b o y,a=some ⟨b,o,none⟩∧Q4 w b (o+i*4) y∧Qs N D w (vq y) s:=by
 obtain ⟨b,o,rfl,cs,_,hcs,h1⟩:=h.at hx
 obtain ⟨y,rfl,hy⟩:=h1.sh
 exact ⟨b,o,y,rfl,⟨by simpa using hcs 0 _ rfl,hcs 1 _ rfl,hcs 2 _ rfl,hcs 3 _ rfl⟩,hy⟩
theorem Rows.rnum {N:Nat}{D:Int}{w:World}{a:Option Addr}{n c i:Nat}{L:List Int}{s:Int} (h:Rows 4 (RsE N D) w (.slice a n c) L) (hx:L[i]? = some s):∃ b o y,a=some ⟨b,o,none⟩∧R4 w b (o+i*4) y∧Rs N D w (vr y) s:=by
 obtain ⟨b,o,rfl,cs,_,hcs,h1⟩:=h.at hx
 obtain ⟨y,rfl,hy⟩:=h1.sh
 exact ⟨b,o,y,rfl,⟨by simpa using hcs 0 _ rfl,hcs 1 _ rfl,hcs 2 _ rfl,hcs 3 _ rfl⟩,hy⟩
theorem zjl {α:Type}{L:List α}{p:α → Prop}{i:Nat}{x:α} (h:∀ y ∈ L.take i,p y) (hx:L[i]? = some x) (hp:p x):∀ y ∈ L.take (i+1),p y:=by
 intro y hy
 rw [tkn hx,List.mem_append] at hy
 rcases hy with hy | hy
 · exact h y hy
 · simp at hy
   rw [hy]
   exact hp
theorem ck5 {w w1:World}{b0 b1 b2 b3 b4 o0 o1 o2 o3 o4:Nat}{v0 v1 v2 v3 v4:Value} (hb:Below w.heap.size w w1) (h:w.cell? ⟨b0,o0,none⟩=some v0∧w.cell? ⟨b1,o1,none⟩=some v1∧w.cell? ⟨b2,o2,none⟩=some v2∧w.cell? ⟨b3,o3,none⟩=some v3∧w.cell? ⟨b4,o4,none⟩=some v4):w1.cell? ⟨b0,o0,none⟩=some v0∧w1.cell? ⟨b1,o1,none⟩=some v1∧w1.cell? ⟨b2,o2,none⟩=some v2∧w1.cell? ⟨b3,o3,none⟩=some v3∧w1.cell? ⟨b4,o4,none⟩=some v4:=⟨ck hb h.1,ck hb h.2.1,ck hb h.2.2.1,ck hb h.2.2.2.1,ck hb h.2.2.2.2⟩
theorem ck8 {w w1:World}{b0 b1 b2 b3 b4 b5 b6 b7 o0 o1 o2 o3 o4 o5 o6 o7:Nat}{v0 v1 v2 v3 v4 v5 v6 v7:Value} (hb:Below w.heap.size w w1) (h:w.cell? ⟨b0,o0,none⟩=some v0∧w.cell? ⟨b1,o1,none⟩=some v1∧w.cell? ⟨b2,o2,none⟩=some v2∧w.cell? ⟨b3,o3,none⟩=some v3∧w.cell? ⟨b4,o4,none⟩=some v4∧w.cell? ⟨b5,o5,none⟩=some v5∧w.cell? ⟨b6,o6,none⟩=some v6∧w.cell? ⟨b7,o7,none⟩=some v7):w1.cell? ⟨b0,o0,none⟩=some v0∧w1.cell? ⟨b1,o1,none⟩=some v1∧w1.cell? ⟨b2,o2,none⟩=some v2∧w1.cell? ⟨b3,o3,none⟩=some v3∧w1.cell? ⟨b4,o4,none⟩=some v4∧w1.cell? ⟨b5,o5,none⟩=some v5∧w1.cell? ⟨b6,o6,none⟩=some v6∧w1.cell? ⟨b7,o7,none⟩=some v7:=⟨ck hb h.1,ck hb h.2.1,ck hb h.2.2.1,ck hb h.2.2.2.1,ck hb h.2.2.2.2.1,ck hb h.2.2.2.2.2.1,ck hb h.2.2.2.2.2.2.1,ck hb h.2.2.2.2.2.2.2⟩
theorem ck9 {w w1:World}{b0 b1 b2 b3 b4 b5 b6 b7 b8 o0 o1 o2 o3 o4 o5 o6 o7 o8:Nat}{v0 v1 v2 v3 v4 v5 v6 v7 v8:Value} (hb:Below w.heap.size w w1) (h:w.cell? ⟨b0,o0,none⟩=some v0∧w.cell? ⟨b1,o1,none⟩=some v1∧w.cell? ⟨b2,o2,none⟩=some v2∧w.cell? ⟨b3,o3,none⟩=some v3∧w.cell? ⟨b4,o4,none⟩=some v4∧w.cell? ⟨b5,o5,none⟩=some v5∧w.cell? ⟨b6,o6,none⟩=some v6∧w.cell? ⟨b7,o7,none⟩=some v7∧w.cell? ⟨b8,o8,none⟩=some v8):w1.cell? ⟨b0,o0,none⟩=some v0∧w1.cell? ⟨b1,o1,none⟩=some v1∧w1.cell? ⟨b2,o2,none⟩=some v2∧w1.cell? ⟨b3,o3,none⟩=some v3∧w1.cell? ⟨b4,o4,none⟩=some v4∧w1.cell? ⟨b5,o5,none⟩=some v5∧w1.cell? ⟨b6,o6,none⟩=some v6∧w1.cell? ⟨b7,o7,none⟩=some v7∧w1.cell? ⟨b8,o8,none⟩=some v8:=⟨ck hb h.1,ck hb h.2.1,ck hb h.2.2.1,ck hb h.2.2.2.1,ck hb h.2.2.2.2.1,ck hb h.2.2.2.2.2.1,ck hb h.2.2.2.2.2.2.1,ck hb h.2.2.2.2.2.2.2.1,ck hb h.2.2.2.2.2.2.2.2⟩
theorem zxd {w:World}{g o b p:Nat}{v:Value} (h:w.cell? ⟨b,p,none⟩=some v) (hne:b≠g) (u0 u1 u2 u3:Value):((((w.setCell ⟨g,o,none⟩ u0).setCell ⟨g,o+1,none⟩ u1).setCell ⟨g,o+2,none⟩ u2).setCell ⟨g,o+3,none⟩ u3).cell? ⟨b,p,none⟩=some v:=by
 rw [zqb _ _ _ _ _ _ (by omega),zqb _ _ _ _ _ _ (by omega),zqb _ _ _ _ _ _ (by omega),zqb _ _ _ _ _ _ (by omega)]
 exact h
def Abv (V:World):Type:={w':World // Below V.heap.size V w'}
theorem Abv.some (V:World):Nonempty (Abv V):=⟨⟨V,Below.refl _ _⟩⟩
theorem zxb {P:Program}{id:Nat}{Q:Exit→Act→World→Prop}{a:Act}{w:World}{l:List Oper} (hm:P.follows .mixedOrders=true) (hB:Region.lexB .any l.toArray=true)
   (h:wpQuiet P l.toArray (fun w'=>∃ x:Abv w,w'=x.val) (fun a'=>∀ w',(∃ x:Abv w,w'=x.val)→Q .normal a' w') l a):(Code.region id l.toArray true).wp P Q a w :=
 wp_region_quiet (C:=fun w'=>∃ x:Abv w,w'=x.val) hm hB ⟨⟨_,(Below.refl _ _).drew⟩,rfl⟩ (by simpa using h)
theorem Calls.abv {P:Program}{f:FuncId}{args:Array Value}{V:World}{x:Abv V}{v:Value} (h:Calls P f args x.val fun e w'=>e=.returned v∧Below x.val.heap.size x.val w'):Calls P f args x.val fun e w''=>e=.returned v∧∃ m:Abv V,w''=m.val :=
 h.mono fun _ w' ⟨he,hb⟩=>⟨he,⟨w',bk hb x.property⟩,rfl⟩
theorem sum_next {α:Type}{L:List α}{f:α → Int}{i:Nat}{x:α} (hx:L[i]? = some x):((L.take (i+1)).map f).sum=((L.take i).map f).sum+f x:=by
 rw [tkn hx,List.map_append,List.sum_append]
 simp
theorem sum_ins {α:Type}{f:α → Int}{B:Int} (hB:0≤B):∀ (L:List α),(∀ x ∈ L,-B≤f x∧f x≤B) → -(L.length*B)≤(L.map f).sum∧(L.map f).sum≤L.length*B
 | [],_=>by simp
 | x :: L,h=>by
   have h1:=h x (by simp)
   have h2:=sum_ins hB L (fun y hy=>h y (by simp [hy]))
   simp only [List.map_cons,List.sum_cons,List.length_cons]
   have e:((L.length+1:Nat):Int)*B=L.length*B+B:=by rw [Int.natCast_add,Int.add_mul];simp
   rw [e]
   omega
theorem sum_take {α:Type}{f:α → Int}{B T:Int}{L:List α} (i:Nat) (h:∀ x ∈ L,-B≤f x∧f x≤B) (hB:0≤B) (hT:(L.length:Int)*B<T):Ins T ((L.take i).map f).sum:=by
 have h1:=sum_ins hB (L.take i) (fun x hx=>h x (List.mem_of_mem_take hx))
 have h2:((L.take i).length:Int)*B≤(L.length:Int)*B:=Int.mul_le_mul_of_nonneg_right (by rw [List.length_take];omega) hB
 unfold Ins
 omega
end Go.Proofs.YtkdobjmhammhbaaGreatDoor
