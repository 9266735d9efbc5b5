import Derived.Test.YtkdobjmhammhbaaGreatDoorMK1
namespace Go.Proofs.YtkdobjmhammhbaaGreatDoor
set_option maxHeartbeats 4000000
set_option maxRecDepth 8000
open Go.RowKit
def num (s:ByteArray):Option (Int×Int):=match said s with
 | .inr (p,q)=>if 0<q then some (p / (Int.gcd p q:Int),q / (Int.gcd p q:Int)) else none
 | .inl _=>none
theorem num_low {p q P D:Int} (hq:0<q) (hE:P*q=p*D) (D0:0<D) (hg:Int.gcd P D=1):(p / (Int.gcd p q:Int),q / (Int.gcd p q:Int))=(P,D):=by
 have g0:0<Int.gcd p q:=Int.gcd_pos_of_ne_zero_right p (by omega)
 obtain ⟨p',hp⟩:=Int.gcd_dvd_left (a:=p) (b:=q)
 obtain ⟨q',hq'⟩:=Int.gcd_dvd_right (a:=p) (b:=q)
 have hgi:(0:Int)<(Int.gcd p q:Int):=by omega
 have e1:p / (Int.gcd p q:Int)=p':=by rw [hp];rw [<- hp];exact Int.ediv_eq_of_eq_mul_right (by omega) hp
 have e2:q / (Int.gcd p q:Int)=q':=Int.ediv_eq_of_eq_mul_right (by omega) hq'
 have h3:Int.gcd p' q'=1:=by
  have h:=Int.gcd_mul_left (Int.gcd p q:Int) p' q'
  rw [<- hp,<- hq',Int.natAbs_natCast] at h
  exact (Nat.eq_of_mul_eq_mul_left g0 (by rw [<- h,Nat.mul_one])).symm
 have q0:0<q':=by
  rcases Int.lt_or_le 0 q' with h | h
  ·exact h
  ·have:(Int.gcd p q:Int)*q'<=(Int.gcd p q:Int)*0:=Int.mul_le_mul_of_nonneg_left h (by omega)
   omega
 obtain ⟨a,b⟩:=lowest_one (p:=p') (d:=q') (p':=P) (d':=D) (z:=p) (o:=q) (by omega) (by grind) hE q0 D0 h3 hg
 rw [e1,e2,a,b]
def allOf {α β:Type} (f:α -> Option β):List α -> Option (List β)
 | []=>some []
 | s :: l=>match f s,allOf f l with
  | some x,some L=>some (x :: L)
  | _,_=>none
theorem allOf_snoc {α β:Type}{f:α -> Option β}{l:List α}{s:α}{L:List β}{x:β} (h:allOf f l=some L) (hs:f s=some x):allOf f (l++[s])=some (L++[x]):=by
 induction l generalizing L with
 | nil=>simp [allOf] at h;subst h;simp [allOf,hs]
 | cons t l ih =>
  simp only [allOf] at h
  split at h
  ·rename_i y M hy hM
   obtain rfl:y :: M=L:=by simpa using h
   simp [allOf,hy,ih hM]
  ·cases h
theorem allOf_none {α β:Type}{f:α -> Option β}{l:List α}{s:α}{i:Nat} (h:l[i]? = some s) (hs:f s=none):allOf f l=none:=by
 induction l generalizing i with
 | nil=>simp at h
 | cons t l ih =>
  rcases i with _ | i
  ·simp at h;subst h;simp [allOf,hs]
  ·simp at h
   simp only [allOf,ih h]
   split <;> simp_all
theorem allOf_len {α β:Type}{f:α -> Option β}{l:List α}{L:List β} (h:allOf f l=some L):L.length=l.length:=by
 induction l generalizing L with
 | nil=>simp [allOf] at h;subst h;rfl
 | cons t l ih =>
  simp only [allOf] at h
  split at h
  ·rename_i y M hy hM
   obtain rfl:y :: M=L:=by simpa using h
   simp [ih hM]
  ·cases h
theorem allOf_at {α β:Type}{f:α -> Option β}{l:List α}{L:List β}{i:Nat}{s:α} (h:allOf f l=some L) (hs:l[i]? = some s):∃ x,L[i]? = some x/\f s=some x:=by
 induction l generalizing L i with
 | nil=>simp at hs
 | cons t l ih =>
  simp only [allOf] at h
  split at h
  ·rename_i y M hy hM
   obtain rfl:y :: M=L:=by simpa using h
   rcases i with _ | i
   ·simp at hs;subst hs;exact ⟨y,rfl,hy⟩
   ·simp at hs;simpa using ih hM hs
  ·cases h
def nums (l:List ByteArray):Option (List (Int×Int)):=allOf num l
theorem QRP.num {s:ByteArray}{e:Ending}{w':World} (h:QRP s e w'):∃ j1 j2 j3 j4 j5 j6 j7 j8 code pl,e=.returned (.tuple #[.agg #[.bool j1,.slice j2 j3 j4,.bool j5,.slice j6 j7 j8],.agg #[.int .i64 code,.int .i64 pl]]) /\
 Hid ((0<code/\num s=none)\/(code=0/\∃ x,num s=some x/\Qr 362 w' (.agg #[.bool j1,.slice j2 j3 j4,.bool j5,.slice j6 j7 j8]) x.1 x.2)):=by
 rcases h with ⟨c,k,hs,c1,c3,rfl⟩ | ⟨p,q,v,P,D,hs,hq,rfl,hQ,hE⟩
 ·exact ⟨_,_,_,_,_,_,_,_,_,_,rfl,Or.inl ⟨by omega,by unfold Go.Proofs.YtkdobjmhammhbaaGreatDoor.num;rw [hs]⟩⟩
 ·have hQ0:=hQ
  obtain ⟨j1,j2,j3,j4,j5,j6,j7,j8,rfl,_,_,d0,hg⟩:=hQ
  exact ⟨_,_,_,_,_,_,_,_,_,_,rfl,Or.inr ⟨rfl,(P,D),by unfold Go.Proofs.YtkdobjmhammhbaaGreatDoor.num;rw [hs];simp only;rw [if_pos hq,num_low hq hE d0 hg],hQ0⟩⟩
theorem RdP.num {s:ByteArray}{A:Nat->Addr}{e:Ending}{w':World}{x:Int×Int} (h:RdP s A e w') (hs:Go.Proofs.YtkdobjmhammhbaaGreatDoor.num s=some x):∃ v,e=.returned (.tuple #[v,.nilIface])/\Rr 78 w' v x.1 x.2:=by
 rcases h with ⟨c,k,pb,h,_⟩ | ⟨p,q,v,P,D,h,hq,he,hR,hE⟩
 ·unfold Go.Proofs.YtkdobjmhammhbaaGreatDoor.num at hs;rw [h] at hs;cases hs
 ·have hR0:=hR
  obtain ⟨_,_,_,_,_,_,_,_,_,_,_,_,d0,hg,_⟩:=hR
  unfold Go.Proofs.YtkdobjmhammhbaaGreatDoor.num at hs
  rw [h] at hs
  simp only at hs
  rw [if_pos hq,num_low hq hE d0 hg] at hs
  obtain rfl:(P,D)=x:=by simpa using hs
  exact ⟨v,he,hR0⟩
theorem tkn {α:Type}{l:List α}{i:Nat}{x:α} (h:l[i]? = some x):l.take (i+1)=l.take i++[x]:=by rw [List.take_add_one,h];rfl
theorem info_q:(Tryz.prog.info? 59).map (fun i=>(i.zero,i.size,i.bytes))=some (some (.agg #[.bool false,.slice none 0 0,.bool false,.slice none 0 0]),4,64):=by kernel_rfl
theorem kd_q (x1:Bool) (x2:Option Addr) (x3 x4:Nat) (x5:Bool) (x6:Option Addr) (x7 x8:Nat):∀ u ∈ [Value.bool x1,.slice x2 x3 x4,.bool x5,.slice x6 x7 x8],NoInt u:=by
 intro u hu k x
 simp at hu
 rcases hu with rfl | rfl | rfl | rfl <;> simp
theorem one_q (x1:Bool) (x2:Option Addr) (x3 x4:Nat) (x5:Bool) (x6:Option Addr) (x7 x8:Nat):∀ u ∈ [Value.bool x1,.slice x2 x3 x4,.bool x5,.slice x6 x7 x8],u.oneCell'=true:=by
 intro u hu
 simp at hu
 rcases hu with rfl | rfl | rfl | rfl <;> rfl
theorem zk_q:∀ u ∈ (Value.agg #[.bool false,.slice none 0 0,.bool false,.slice none 0 0]).cells.toList,NoInt u:=kd_q false none 0 0 false none 0 0
theorem QE.other {N:Nat} (w:World) (cs:List Value) (x:Int×Int) (h:QE N w cs x):∃ u ∈ cs,¬ IsSl u:=by
 obtain ⟨x1,x2,x3,x4,x5,x6,x7,x8,rfl,_⟩:=h
 exact ⟨.bool x1,by simp,fun ⟨_,_,_,h⟩=>by cases h⟩
structure Env (A:Nat->Addr) (w:World):Prop where
 e1:w.cell? ⟨1,0,none⟩=some (.iface 324 (.pointer (some (A 0))))
 e2:w.cell? ⟨2,0,none⟩=some (.iface 324 (.pointer (some (A 1))))
 e3:w.cell? ⟨3,0,none⟩=some (.iface 324 (.pointer (some (A 2))))
 tab : Lib.TabIs Tryz.prog w "internal/strconv.uint64pow10" .u64 Lib.pow10Tab
 t64:Tab64 w
theorem Env.later {A:Nat->Addr}{w w':World} (h:Env A w) (hb:Below w.heap.size w w'):Env A w':=⟨ck hb h.e1,ck hb h.e2,ck hb h.e3,zkq h.tab hb,h.t64.later hb⟩
theorem kd_r (x1:Int) (x2:Option Addr) (x3 x4:Nat) (x5:Int) (x6:Option Addr) (x7 x8:Nat):∀ u ∈ [Value.int .i64 x1,.slice x2 x3 x4,.int .i64 x5,.slice x6 x7 x8],NoWord u:=by
 intro u hu x
 simp at hu
 rcases hu with rfl | rfl | rfl | rfl <;> simp
theorem one_r (x1:Int) (x2:Option Addr) (x3 x4:Nat) (x5:Int) (x6:Option Addr) (x7 x8:Nat):∀ u ∈ [Value.int .i64 x1,.slice x2 x3 x4,.int .i64 x5,.slice x6 x7 x8],u.oneCell'=true:=by
 intro u hu
 simp at hu
 rcases hu with rfl | rfl | rfl | rfl <;> rfl
theorem zk_r:∀ u ∈ (Value.agg #[.int .i64 0,.slice none 0 0,.int .i64 0,.slice none 0 0]).cells.toList,NoWord u:=kd_r 0 none 0 0 0 none 0 0
theorem nww (x:Int):¬ NoWord (.int .u64 x):=fun h=>h x rfl
theorem info_r:(Tryz.prog.info? 39).map (fun i=>(i.zero,i.size,i.bytes))=some (some (.agg #[.int .i64 0,.slice none 0 0,.int .i64 0,.slice none 0 0]),4,64):=by kernel_rfl
theorem RE.other {N:Nat} (w:World) (cs:List Value) (x:Int×Int) (h:RE N w cs x):∃ u ∈ cs,¬ IsSl u:=by
 obtain ⟨x1,x2,x3,x4,x5,x6,x7,x8,rfl,_⟩:=h
 exact ⟨.int .i64 x1,by simp,fun ⟨_,_,_,h⟩=>by cases h⟩
theorem pnumber_any {A:Nat->Addr}{x:Int×Int} (s:ByteArray) (w:World) (hA:Env A w) (hs:s.size<=9223372036854775807) (hx:num s=some x) :
 Calls Tryz.prog 10 #[.string s] w fun e w'=>(∃ v,e=.returned (.tuple #[v,.bool true])/\Rr 78 w' v x.1 x.2)/\Below w.heap.size w w':=by
 have kn:=zqa w (.cells #[.int .i64 0,.slice none 0 0,.int .i64 0,.slice none 0 0] 39)
 have HA:=qh (hA.later kn)
 have HX:=qh hx
 have hq:=zkw w 0 none 0 0 0 none 0 0
 have HQ:=qh hq
 have HB:=qh kn
 clear kn hA hx hq
 go_enter Tryz.func10,Tryz.ntmps10
 go_wp2_with fail
 go_fit (qread_any s A _ hs (uh HA).t64 (uh HA).e1 (uh HA).e2 (uh HA).e3)
 rintro e W1 ⟨hc,B1⟩
 obtain ⟨v,rfl,hR⟩:=hc.num (uh HX)
 obtain ⟨x1,x2,x3,x4,x5,x6,x7,x8,rfl⟩:=hR.shape
 have k1:=zqa W1 (.cells #[.int .i64 x1,.slice x2 x3 x4,.int .i64 x5,.slice x6 x7 x8] 39)
 obtain ⟨c0,c1,c2,c3⟩:=c4_new (w:=W1) (.int .i64 x1) (.slice x2 x3 x4) (.int .i64 x5) (.slice x6 x7 x8) 39
 have hbx:=((uh HQ).later B1).later k1
 have BB:=qh (bk k1 (bk B1 (uh HB)))
 have HR:=qh (hR.later k1)
 clear hc hR B1
 go_upto_region 2 with fail
 obtain ⟨V1,hV1⟩:∃ V1,V1=W1.alloc (.cells #[.int .i64 x1,.slice x2 x3 x4,.int .i64 x5,.slice x6 x7 x8] 39):=⟨_,rfl⟩
 rw [<- hV1] at c0 c1 c2 c3 hbx BB HR ⊢
 clear hV1 HA HX HQ HB
 obtain ⟨⟨j0,g0⟩,⟨j1,j2,j3,g1⟩,⟨j4,g2⟩,⟨j5,j6,j7,g3⟩,gf⟩:=hbx.cells
 have hxlt:=hbx.lt
 go_region
 all_goals
  go_wp2
  obtain ⟨st0,st1,st2,st3⟩:=hbx.stored (.int .i64 x1) (.slice x2 x3 x4) (.int .i64 x5) (.slice x6 x7 x8)
  exact bodyPost_ret (v:=.tuple #[.agg #[.int .i64 x1,.slice x2 x3 x4,.int .i64 x5,.slice x6 x7 x8],.bool true]) (by simp [results,Tryz.results10,go_sem,st0,st1,st2,st3]) rfl ⟨⟨_,rfl,show Rr 78 (World.drew _) _ _ _ from (uh HR).rstored hbx _ _ _ _⟩,(zqf (uh BB) (Nat.le_refl _) _ _ _ _).drew⟩
theorem mul_abs {x y B C:Int} (hx:-B<=x/\x<=B) (hy:-C<=y/\y<=C) (hB:0<=B) (hC:0<=C):-(B*C)<=x*y/\x*y<=B*C:=by
 have h1:x.natAbs*y.natAbs<=B.natAbs*C.natAbs:=Nat.mul_le_mul (by omega) (by omega)
 rw [<- Int.natAbs_mul,<- Int.natAbs_mul] at h1
 have:0<=B*C:=Int.mul_nonneg hB hC
 omega
theorem low_le {P D z o:Int} (o0:0<o) (D0:0<D) (hg:Int.gcd P D=1) (h:P*o=z*D):D<=o/\P.natAbs<=z.natAbs:=by
 have h1:D∣o:=by
  have h2:D∣P*o:=⟨z,by rw [h,Int.mul_comm]⟩
  exact dvd_cop h2 hg
 have hD:=Int.le_of_dvd o0 h1
 refine ⟨hD,?_⟩
 have h3:P.natAbs*o.natAbs=z.natAbs*D.natAbs:=by rw [<- Int.natAbs_mul,<- Int.natAbs_mul,h]
 rcases Nat.lt_or_ge z.natAbs P.natAbs with h4 | h4
 ·exfalso
  have h5:z.natAbs*D.natAbs<P.natAbs*o.natAbs:=by
   have h6:z.natAbs*D.natAbs<=z.natAbs*o.natAbs:=Nat.mul_le_mul_left _ (by omega)
   have h7:z.natAbs*o.natAbs<P.natAbs*o.natAbs:=Nat.mul_lt_mul_of_pos_right h4 (by omega)
   omega
  omega
 ·exact h4
def qt (x:Int×Int):ByteArray:=qtext x.1 x.2
theorem qtext_size {p d:Int}{a b:Nat} (ha:(⟨(Lib.itoa p).toArray⟩:ByteArray).size<=a) (hb:(⟨(Lib.itoa d).toArray⟩:ByteArray).size<=b):(qtext p d).size<=a+b+1:=by
 unfold qtext
 split
 ·omega
 ·rw [ByteArray.size_append,ByteArray.size_append]
  have:(⟨#[47]⟩:ByteArray).size=1:=rfl
  omega
theorem QE.size {N:Nat}{w:World}{cs:List Value}{x:Int×Int} (h:QE N w cs x) (hN:N<=100000):(qt x).size<=maxLen:=by
 obtain ⟨x1,x2,x3,x4,x5,x6,x7,x8,rfl,_,_,_,_,_,_,_,_,_,h2,h3,_⟩:=h
 have:=qtext_size h2.short h3.short
 unfold qt maxLen;omega
theorem RE.size {N:Nat}{w:World}{cs:List Value}{x:Int×Int} (h:RE N w cs x) (hN:N<=100000):(qt x).size<=maxLen:=by
 obtain ⟨x1,x2,x3,x4,x5,x6,x7,x8,rfl,_,_,_,_,_,_,_,_,e,_,h2,h3,d0,_,hd⟩:=h
 have:(qt x).size<=(20*N+21)+(20*N+21)+1:=by
  unfold qt
  rcases hd with ⟨hd,_⟩ | ⟨_,rfl⟩
  ·unfold qtext;rw [if_pos hd];have:=h2.short;omega
  ·exact qtext_size h2.short h3.short
 unfold maxLen;omega
theorem info_t:(Tryz.prog.info? 9).map (fun i=>(i.zero,i.size,i.bytes))=some (some (.string ⟨#[]⟩),1,16):=by kernel_rfl
theorem kd_t (s:ByteArray):∀ u ∈ [Value.string s],NoInt u:=by intro u hu k x;simp at hu;subst hu;simp
theorem one_t (s:ByteArray):∀ u ∈ [Value.string s],u.oneCell'=true:=by intro u hu;simp at hu;subst hu;rfl
theorem zk_t:∀ u ∈ (Value.string ⟨#[]⟩).cells.toList,NoInt u:=kd_t _
theorem TE.other (w:World) (cs:List Value) (x:ByteArray) (h:TE w cs x):∃ u ∈ cs,¬ IsSl u:=by
 obtain ⟨rfl,_⟩:=h
 exact ⟨.string x,by simp,fun ⟨_,_,_,h⟩=>by cases h⟩
theorem texts_any {A:Nat->Addr}{N:Nat}{v:Value}{l:List (Int×Int)} (w:World) (hA:Env A w) (h:Rows 4 (RE N) w v l) (hl:l.length<=100000000) (hN:N<=20000) :
 Calls Tryz.prog 26 #[v] w fun e w'=>(∃ v,e=.returned v/\Rows 1 TE w' v (l.map qt))/\Below w.heap.size w w':=by
 obtain ⟨sa,sc,rfl⟩:=h.shape
 have HR:=qh h
 have HA:=qh hA
 clear h hA
 go_enter Tryz.func26,Tryz.ntmps26
 go_wp2_with fail
 go_loopg [3,8] l.length (fun gk ov iv wr=>∃ (i:Nat) (L:List ByteArray),i<=l.length/\gk=l.length - i/\iv=.int .i64 (i:Int)/\Hid (L=(l.take i).map qt)/\Hid (Below w.heap.size w wr)/\Hid (OwnR NoInt 1 TE 9 wr w.heap.size ov L))
 case atStart=>exact ⟨0,[],by omega,by omega,rfl,qh rfl,qh (Below.refl _ _),qh (OwnR.nil _ _ _ _ _ _)⟩
 case round =>
  obtain ⟨i,L,hi,hgk,rfl,HL,HB,HO⟩:=hrel
  obtain ⟨oa,oc,rfl⟩:=(uh HO).slice
  by_cases hil:i<l.length
  ·obtain ⟨x,hx⟩:∃ s,l[i]? = some s:=⟨l[i],by simp [hil]⟩
   obtain ⟨b,o,rfl,cs,_,hcs,hte⟩:=(uh HR).at hx
   have HSZ:=qh (hte.size (by omega))
   obtain ⟨x1,x2,x3,x4,x5,x6,x7,x8,rfl,hQ⟩:=hte
   have c0:wr.cell? ⟨b,o+i*4,none⟩=some (.int .i64 x1):=ck (uh HB) (by simpa using hcs 0 _ rfl)
   have c1:wr.cell? ⟨b,o+i*4+1,none⟩=some (.slice x2 x3 x4):=ck (uh HB) (hcs 1 _ rfl)
   have c2:wr.cell? ⟨b,o+i*4+2,none⟩=some (.int .i64 x5):=ck (uh HB) (hcs 2 _ rfl)
   have c3:wr.cell? ⟨b,o+i*4+3,none⟩=some (.slice x6 x7 x8):=ck (uh HB) (hcs 3 _ rfl)
   have HS:=qh hx
   have kn:=zqa wr (.cells #[.int .i64 x1,.slice x2 x3 x4,.int .i64 x5,.slice x6 x7 x8] 39)
   obtain ⟨r0,r1,r2,r3⟩:=c4_new (w:=wr) (.int .i64 x1) (.slice x2 x3 x4) (.int .i64 x5) (.slice x6 x7 x8) 39
   have HB1:=qh (bk kn (uh HB))
   have HQ:=qh ((hQ.later (uh HB)).later kn)
   have HO:=qh ((uh HO).later (TE.stays _ _) kn)
   have hil':(i:Int)<(l.length:Int):=by omega
   have him:(i:Int)+1<=100000000:=by omega
   clear hx hcs hQ HB kn
   go_wp2_with fail
   go_fit (qtext_any _ (uh HQ) hN ((uh HA).later (uh HB1)).tab)
   rintro e W1 ⟨rfl,B1⟩
   have BB:=qh (bk B1 (uh HB1))
   have HO:=qh ((uh HO).later (TE.stays _ _) B1)
   have hbs:w.heap.size<=W1.heap.size:=(uh BB).size
   have hLn:L.length<=100000000:=by rw [uh HL,List.length_map,List.length_take];omega
   clear B1 c0 c1 c2 c3 HB1 HQ r0 r1 r2 r3
   go_wp2_with (at_builtin;refine wpList_pushE rfl _ _ _ rfl Tryz.underlying25 info_t rfl (by decide) (by decide) zk_t (TE.stays _ _) w.heap.size _ rfl (uh HO) [.string (qtext x.1 x.2)] rfl (one_t _) (kd_t _) ⟨rfl,uh HSZ⟩ rfl rfl hLn hbs ?_;intro ov' Z1 hO1 hc1 hgr1 hge1)
   go_roundg (l.length - (i+1))
   case measure=>omega
   case rel=>exact ⟨i+1,L++[qt x],by omega,rfl,by go_num,qh (by rw [tkn (uh HS),List.map_append,uh HL];rfl),qh ((bk (zqa _ _) (uh BB)).grown hgr1 (bk (zqa _ _) (uh BB)).size hge1),qh hO1⟩
  ·obtain rfl:i=l.length:=by omega
   clear hil hi hgk
   go_wp2
   go_ret
   refine ⟨⟨_,rfl,?_⟩,uh HB⟩
   have h1:=(uh HO).rows
   have h2:=uh HL
   rw [List.take_length] at h2
   rw [<- h2]
   exact h1
theorem zjk {P:Program} (t e:TypeId) (z:Value) (k bytes:Nat) (ht:P.underlying t=some (.slice e)) (hinfo:(P.info? e).map (fun i=>(i.zero,i.size,i.bytes))=some (some z,k,bytes))
 (kl kc:IntKind) (n:Nat) (hbytes:bytes*n<=281474976710656) (h63:n<=9223372036854775807) (w:World) :
 (Instr.makeSlice t (.int kl (n:Int)) (.int kc (n:Int))).run P w=.ok (.slice (some ⟨w.heap.size,0,none⟩) n n) (w.alloc (.cells (madeCells z.cells (n*k)) e)):=by
 obtain ⟨i,hi,hz,hs,hb⟩:=info_parts hinfo
 subst hb hs
 have hb':(i.bytes:Int)*(n:Int)<=281474976710656:=by
  have h:((i.bytes*n:Nat):Int)<=281474976710656:=by omega
  rwa [Int.natCast_mul] at h
 have hr:=run_make (P:=P) w t e i z ht hi hz kl kc n n (by omega) (Int.le_refl _) hb' (by omega)
 simp only [Int.toNat_natCast] at hr
 exact hr
theorem setCell_block {w:World}{g o:Nat}{cur:Array Value}{t:TypeId}{f:Nat×Nat} (h:w.heap[g]? = some (.cells cur t f)) (v:Value):(w.setCell ⟨g,o,none⟩ v).heap[g]? = some (.cells (cur.setIfInBounds o v) t f):=by
 simp [World.setCell,Array.getElem?_modify,h]
theorem setCell_chg {K:Value->Prop}{w:World}{g o:Nat}{cur:Array Value}{t:TypeId}{f:Nat×Nat} (h:w.heap[g]? = some (.cells cur t f)) (hk:∀ u ∈ cur.toList,K u) (v:Value):Chg K t w (w.setCell ⟨g,o,none⟩ v):=by
 intro b c t' f' hb hc
 have hne:b≠g:=by
  rintro rfl
  rw [h] at hb
  obtain ⟨rfl,rfl,rfl⟩:cur=c/\t=t'/\f=f':=by simpa using hb
  rcases hc with hc | ⟨i,u,hu,hku⟩
  ·exact hc rfl
  ·exact hku (hk u (by rw [<- Array.mem_def];exact Array.mem_of_getElem? hu))
 rw [Below.heap_setCell _ _ _ _ hne]
 exact hb
def Fill {α:Type} (K:Value->Prop) (k:Nat) (E:World->List Value -> α -> Prop) (t:TypeId) (w:World) (g n:Nat) (L:List α):Prop :=
 ∃ cur,w.heap[g]? = some (.cells cur t (0,0))/\cur.size=n*k/\(∀ u ∈ cur.toList,K u)/\L.length<=n/\∀ i x,L[i]? = some x->∃ cs,cs.length=k/\(∀ j u,cs[j]? = some u->cur[i*k+j]? = some u)/\E w cs x
theorem made_kinds {K:Value->Prop}{z:Array Value}{n:Nat} (hz:∀ u ∈ z.toList,K u) (hs:0<z.size):∀ u ∈ (madeCells z n).toList,K u:=by
 intro u hu
 simp only [madeCells,Array.toList_map,List.mem_map] at hu
 obtain ⟨i,_,rfl⟩:=hu
 have hi:i % z.size<z.size:=Nat.mod_lt _ hs
 rw [getElem!_pos z (i % z.size) hi]
 exact hz _ (by simp)
theorem Fill.new {α:Type}{K:Value->Prop}{k:Nat}{E:World->List Value -> α -> Prop}{t:TypeId} (w:World) {z:Array Value} (n:Nat) (hz:∀ u ∈ z.toList,K u) (hs:0<z.size):Fill K k E t (w.alloc (.cells (madeCells z (n*k)) t)) w.heap.size n [] :=
 ⟨_,heap_alloc_new w _,size_madeCells _ _,made_kinds hz hs,Nat.zero_le _,fun i x hx=>by simp at hx⟩
theorem Fill.later {α:Type}{K:Value->Prop}{k:Nat}{E:World->List Value -> α -> Prop}{t:TypeId}{w w':World}{g n:Nat}{L:List α} (h:Fill K k E t w g n L) (hE:Stays K t E) (hb:Below w.heap.size w w'):Fill K k E t w' g n L:=by
 obtain ⟨cur,h1,h2,h3,h4,h5⟩:=h
 refine ⟨cur,by rw [hb.block g (Array.getElem?_eq_some_iff.1 h1).1];exact h1,h2,h3,h4,fun i x hx => ?_⟩
 obtain ⟨cs,hl,hcs,he⟩:=h5 i x hx
 exact ⟨cs,hl,hcs,hE _ _ _ _ he (Chg.below hb)⟩
theorem Fill.lt {α:Type}{K:Value->Prop}{k:Nat}{E:World->List Value -> α -> Prop}{t:TypeId}{w:World}{g n:Nat}{L:List α} (h:Fill K k E t w g n L):g<w.heap.size:=by
 obtain ⟨cur,h1,_⟩:=h
 exact (Array.getElem?_eq_some_iff.1 h1).1
theorem Fill.cell {α:Type}{K:Value->Prop}{k:Nat}{E:World->List Value -> α -> Prop}{t:TypeId}{w:World}{g n o:Nat}{L:List α} (h:Fill K k E t w g n L) (ho:o<n*k):∃ u,w.cell? ⟨g,o,none⟩=some u:=by
 obtain ⟨cur,h1,h2,_⟩:=h
 exact ⟨cur[o]'(by omega),zku h1 (by simp)⟩
theorem Fill.free {α:Type}{K:Value->Prop}{k:Nat}{E:World->List Value -> α -> Prop}{t:TypeId}{w:World}{g n:Nat}{L:List α} (h:Fill K k E t w g n L) (o:Nat):w.frozen? ⟨g,o,none⟩=false:=by
 obtain ⟨cur,h1,_⟩:=h
 simp [World.frozen?,h1]
theorem Fill.rows {α:Type}{K:Value->Prop}{k:Nat}{E:World->List Value -> α -> Prop}{t:TypeId}{w:World}{g n:Nat}{L:List α} (h:Fill K k E t w g n L) (hL:L.length=n) (hn:n<=maxLen):Rows k E w (.slice (some ⟨g,0,none⟩) n n) L:=by
 obtain ⟨cur,h1,h2,h3,h4,h5⟩:=h
 refine ⟨_,n,by rw [hL],by omega,hn,Or.inr ⟨g,0,rfl,fun i x hx => ?_⟩⟩
 obtain ⟨cs,hl,hcs,he⟩:=h5 i x hx
 exact ⟨cs,hl,fun j u hu=>by rw [Nat.zero_add];exact zku h1 (hcs j u hu),he⟩
theorem Fill.store {α:Type}{K:Value->Prop}{k:Nat}{E:World->List Value -> α -> Prop}{t:TypeId}{w:World}{g n o:Nat}{L:List α}{v:Value} (h:Fill K k E t w g n L) (hE:Stays K t E) (ho:L.length*k<=o) (hv:K v):Fill K k E t (w.setCell ⟨g,o,none⟩ v) g n L/\Chg K t w (w.setCell ⟨g,o,none⟩ v):=by
 obtain ⟨cur,h1,h2,h3,h4,h5⟩:=h
 have hc:=setCell_chg (o:=o) h1 h3 v
 refine ⟨⟨_,setCell_block h1 v,by simp [h2],fun u hu => ?_,h4,fun i x hx => ?_⟩,hc⟩
 ·obtain ⟨i,hi⟩:=List.getElem?_of_mem hu
  rw [Array.getElem?_toList,Array.getElem?_setIfInBounds] at hi
  split at hi
  ·split at hi
   ·obtain rfl:v=u:=by simpa using hi
    exact hv
   ·cases hi
  ·exact h3 u (by rw [<- Array.mem_def];exact Array.mem_of_getElem? hi)
 ·obtain ⟨cs,hl,hcs,he⟩:=h5 i x hx
  refine ⟨cs,hl,fun j u hu => ?_,hE _ _ _ _ he hc⟩
  have hi:=(List.getElem?_eq_some_iff.1 hx).1
  have hj:=(List.getElem?_eq_some_iff.1 hu).1
  have h6:(i+1)*k<=L.length*k:=Nat.mul_le_mul_right _ hi
  rw [Nat.add_mul,Nat.one_mul] at h6
  rw [Array.getElem?_setIfInBounds,if_neg (by omega)]
  exact hcs j u hu
theorem Fill.snoc {α:Type}{K:Value->Prop}{k:Nat}{E:World->List Value -> α -> Prop}{t:TypeId}{w:World}{g n:Nat}{L:List α}{cs:List Value}{x:α} (h:Fill K k E t w g n L) (hlt:L.length<n) (hl:cs.length=k) (hcs:∀ j u,cs[j]? = some u->w.cell? ⟨g,L.length*k+j,none⟩=some u) (he:E w cs x):Fill K k E t w g n (L++[x]):=by
 obtain ⟨cur,h1,h2,h3,h4,h5⟩:=h
 refine ⟨cur,h1,h2,h3,by rw [List.length_append,List.length_singleton];exact hlt,fun i y hy => ?_⟩
 rcases Nat.lt_or_ge i L.length with hi | hi
 ·rw [List.getElem?_append_left hi] at hy
  exact h5 i y hy
 ·rw [List.getElem?_append_right hi] at hy
  have hi':i=L.length:=by
   have:=(List.getElem?_eq_some_iff.1 hy).1
   simp at this;omega
  subst hi'
  simp at hy
  subst hy
  refine ⟨cs,hl,fun j u hu => ?_,he⟩
  have:=hcs j u hu
  simpa [World.cell?,h1] using this
theorem Fill.put4 {α:Type}{K:Value->Prop}{E:World->List Value -> α -> Prop}{t:TypeId}{w:World}{g n:Nat}{L:List α}{u0 u1 u2 u3:Value}{x:α} (h:Fill K 4 E t w g n L) (hE:Stays K t E) (hlt:L.length<n) (hk:∀ u ∈ [u0,u1,u2,u3],K u) (he:E w [u0,u1,u2,u3] x) :
 Fill K 4 E t ((((w.setCell ⟨g,L.length*4,none⟩ u0).setCell ⟨g,L.length*4+1,none⟩ u1).setCell ⟨g,L.length*4+2,none⟩ u2).setCell ⟨g,L.length*4+3,none⟩ u3) g n (L++[x])/\Chg K t w ((((w.setCell ⟨g,L.length*4,none⟩ u0).setCell ⟨g,L.length*4+1,none⟩ u1).setCell ⟨g,L.length*4+2,none⟩ u2).setCell ⟨g,L.length*4+3,none⟩ u3):=by
 obtain ⟨a0,e0⟩:=h.cell (o:=L.length*4) (by omega)
 obtain ⟨a1,e1⟩:=h.cell (o:=L.length*4+1) (by omega)
 obtain ⟨a2,e2⟩:=h.cell (o:=L.length*4+2) (by omega)
 obtain ⟨a3,e3⟩:=h.cell (o:=L.length*4+3) (by omega)
 obtain ⟨f0,c0⟩:=h.store (o:=L.length*4) (v:=u0) hE (by omega) (hk _ (by simp))
 obtain ⟨f1,c1⟩:=f0.store (o:=L.length*4+1) (v:=u1) hE (by omega) (hk _ (by simp))
 obtain ⟨f2,c2⟩:=f1.store (o:=L.length*4+2) (v:=u2) hE (by omega) (hk _ (by simp))
 obtain ⟨f3,c3⟩:=f2.store (o:=L.length*4+3) (v:=u3) hE (by omega) (hk _ (by simp))
 have hc:=((c0.trans c1).trans c2).trans c3
 refine ⟨f3.snoc hlt rfl (fun j u hu => ?_) (hE _ _ _ _ he hc),hc⟩
 match j,hu with
 | 0,hu =>
  obtain rfl:u0=u:=by simpa using hu
  rw [Nat.add_zero,zqb _ _ _ _ _ _ (by omega),zqb _ _ _ _ _ _ (by omega),zqb _ _ _ _ _ _ (by omega)]
  exact zqd e0
 | 1,hu =>
  obtain rfl:u1=u:=by simpa using hu
  rw [zqb _ _ _ _ _ _ (by omega),zqb _ _ _ _ _ _ (by omega)]
  exact zqd (by rw [zqb _ _ _ _ _ _ (by omega)];exact e1)
 | 2,hu =>
  obtain rfl:u2=u:=by simpa using hu
  rw [zqb _ _ _ _ _ _ (by omega)]
  exact zqd (by rw [zqb _ _ _ _ _ _ (by omega),zqb _ _ _ _ _ _ (by omega)];exact e2)
 | 3,hu =>
  obtain rfl:u3=u:=by simpa using hu
  exact zqd (by rw [zqb _ _ _ _ _ _ (by omega),zqb _ _ _ _ _ _ (by omega),zqb _ _ _ _ _ _ (by omega)];exact e3)
theorem zkv {B:Nat}{w w':World}{g o:Nat} (h:Below B w w') (hg:B<=g) (u0 u1 u2 u3:Value):Below B w ((((w'.setCell ⟨g,o,none⟩ u0).setCell ⟨g,o+1,none⟩ u1).setCell ⟨g,o+2,none⟩ u2).setCell ⟨g,o+3,none⟩ u3) :=
 (((h.setCell (p:=⟨g,o,none⟩) hg _).setCell (p:=⟨g,o+1,none⟩) hg _).setCell (p:=⟨g,o+2,none⟩) hg _).setCell (p:=⟨g,o+3,none⟩) hg _
end Go.Proofs.YtkdobjmhammhbaaGreatDoor
