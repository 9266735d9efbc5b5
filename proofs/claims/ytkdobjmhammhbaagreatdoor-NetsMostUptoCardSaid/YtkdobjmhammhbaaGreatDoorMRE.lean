import Derived.Test.YtkdobjmhammhbaaGreatDoorMGA
import Derived.Test.YtkdobjmhammhbaaGreatDoorMRD
namespace Go.Proofs.YtkdobjmhammhbaaGreatDoor
set_option maxHeartbeats 4000000
set_option maxRecDepth 8000
open Go.RowKit
structure ShK (a b:List Int) (w:World) (gq i:Nat) (r:Value) (R Q:List Int) (wr:World):Prop where
 rest:Sl wr r R
 rp:P4 R
 rt:Trim R
 rl:v4 R<v4 b
 row:RowI wr gq Q
 gi:GI wr gq
 qp:P4 Q
 ql:Q.length=a.length
 sum:v4 (a.drop i)=v4 (Q.drop i)*v4 b+v4 R
 below:Below w.heap.size w wr
theorem ShK.step {a b:List Int}{w:World}{gq i:Nat}{r r':Value}{R R' Q:List Int}{wr w1:World}{V lo:Int} (h:ShK a b w gq (i+1) r R Q wr) (hi:i<a.length) (hV:V=nth a i+10000*v4 R) (h0:0<=lo) (h9:lo<10000) (hlo:lo*v4 b<=V) (hhi:V<(lo+1)*v4 b)
 (hs:Sl w1 r' R') (hP:P4 R') (hT:Trim R') (hv:v4 R'=V - v4 b*lo) (hrow:RowI w1 gq (Q.set i lo)) (hgi:GI w1 gq) (hb:Below w.heap.size w w1):ShK a b w gq i r' R' (Q.set i lo) w1:=by
 have hd:=digit_is hlo hhi
 rw [Int.mul_comm] at hd
 refine ⟨hs,hP,hT,by rw [hv];exact hd.1,hrow,hgi,h.qp.set i h0 h9,by rw [List.length_set];exact h.ql,?_,hb⟩
 have e1:v4 (a.drop i)=nth a i+10000*v4 (a.drop (i+1)):=v4_drop hi
 have e2:v4 ((Q.set i lo).drop i)=lo+10000*v4 (Q.drop (i+1)):=by
  rw [v4_drop (by rw [List.length_set,h.ql];exact hi)]
  rw [List.drop_set_of_lt (by omega)]
  simp [nth,h.ql,hi]
 rw [e1,e2,h.sum,hv,hV,Int.add_mul,Int.mul_comm (v4 b) lo,Int.mul_add,Int.mul_assoc]
 omega
theorem v4_cons (y:Int) (R:List Int):v4 (y :: R)=y+10000*v4 R:=rfl
theorem mid_bounds {lo hi:Int} (h0:0<=lo) (h1:lo<hi) (h2:hi<=9999):∃ m:Int,wrap64 ((lo+hi+1).tdiv 2)=m/\(lo+hi+1) / 2=m/\lo<m/\m<=hi:=by
 refine ⟨(lo+hi+1) / 2,?_,rfl,by omega,by omega⟩
 rw [Int.tdiv_eq_ediv_of_nonneg (by omega)];unfold wrap64;omega
theorem rshare_any {sa sb:Value}{a b:List Int} (w:World) (h1:Sl w sa a) (h2:Sl w sb b) (ha:P4 a) (hb:P4 b) (_tb:Trim b) (hb0:0<v4 b) (la:a.length<=90000) (lb:b.length<=90000) :
 Calls Tryz.prog 190 #[sa,sb] w fun e w'=>(∃ v1 v2 D1 D2,e=.returned (.tuple #[v1,v2])/\Sl w' v1 D1/\P4 D1/\Trim D1/\Sl w' v2 D2/\P4 D2/\Trim D2/\v4 a=v4 D1*v4 b+v4 D2/\v4 D2<v4 b)/\Below w.heap.size w w':=by
 obtain ⟨pa,ca,rfl,hra⟩:=h1.get
 clear h1
 obtain ⟨n,HN⟩:∃ n,Hid (a.length=n):=⟨_,rfl⟩
 rw [show a.length=n from uh HN] at la ⊢
 go_enter Tryz.func190,Tryz.ntmps190
 go_wp2_with (at_make;refine wpList_zeros rfl _ _ rfl _ _ n rfl rfl rfl rfl (by omega) ?_;intro w1 hrow1 hgi1 hbl1)
 go_loopg [7,8] n (fun k r iv wr=>∃ (i:Nat) (R Q:List Int),i<=n/\k=i/\iv=.int .i64 ((i:Int) - 1)/\ShK a b w w.heap.size i r R Q wr)
 case atStart =>
  refine ⟨n,[],List.replicate n 0,Nat.le_refl _,rfl,by go_num,Or.inl ⟨rfl,rfl⟩,P4.nil,Or.inl rfl,hb0,hrow1,hgi1,p4_zeros n,by rw [List.length_replicate];exact (uh HN).symm,?_,hbl1⟩
  rw [List.drop_eq_nil_of_le (by rw [uh HN];omega),List.drop_eq_nil_of_le (by simp)]
  simp [v4]
 case round =>
  obtain ⟨i,R,Q,hin,hgk,rfl,hk⟩:=hrel
  clear hrow1 hgi1 hbl1
  by_cases hi0:i=0
  ·subst hi0
   have hql:Q.length=n:=hk.ql.trans (uh HN)
   have hq:Sl wr (.slice (some ⟨w.heap.size,0,none⟩) n n) Q:=by
    have:=sl_mk hk.row (c:=n) (by omega) (by unfold maxLen;omega) hk.gi
    rwa [hql] at this
   have hs:=hk.sum
   simp only [List.drop_zero] at hs
   have HS:=qh hs
   have hqp:=hk.qp
   have f1:=hk.rest
   have f2:=hk.rp
   have f3:=hk.rt
   have f4:=hk.rl
   have f5:=hk.below
   have HQ:=qh hql
   clear hk hs hql
   go_wp2_with fail
   refine (rtrim_sl _ hq hqp).mono ?_
   rintro e w2 ⟨⟨v2,D2,rfl,s2,p2,t2,e2,-⟩,rfl⟩
   have HE:=qh e2
   clear e2
   obtain ⟨y0,y1,y2,rfl⟩:=s2.shape
   obtain ⟨z0,z1,z2,rfl⟩:=f1.shape
   go_wp2
   go_ret2
   exact ⟨⟨_,_,D2,R,rfl,s2,p2,t2,f1,f2,f3,by rw [uh HE];exact uh HS,f4⟩,f5⟩
  ·obtain ⟨j,rfl⟩:∃ j,i=j+1:=⟨i - 1,by omega⟩
   clear hi0
   obtain ⟨ba,rfl,hca⟩:=hra (by rintro rfl;have:=uh HN;simp at this;omega)
   have hca:=ck hk.below (hca j (by have:=uh HN;omega))
   have hxa:=ha.nth j
   have hji:(j:Int)<n:=by omega
   have hjj:((j+1:Nat):Int) - 1=j:=by omega
   have hRl:R.length<=90001:=by have:=len_le_of_v4 hb hk.rp hk.rt (by have:=hk.rl;omega);omega
   have hRl':R.length<=100000000:=by omega
   obtain ⟨r0,r1,r2,hr0⟩:=hk.rest.shape
   subst hr0
   go_wp2_with (at_builtin;refine wpList_prepend rfl _ _ rfl (nth a j) _ R hk.rest rfl rfl rfl hRl' ?_;intro g3 c3 w3 hr3 hg3 hl3 hc3 hgi3 hb3)
   have hBp:0<=v4 b:=by omega
   obtain ⟨V,HV⟩:∃ V,Hid (V=nth a j+10000*v4 R):=⟨_,rfl⟩
   have hV0:0<=V:=by have:=zqr hk.rp;have:=uh HV;omega
   have HV9:Hid (V<10000*v4 b):=by have:=hk.rl;have:=uh HV;show _<_;omega
   go_wp2_with fail
   refine (rtrim_any g3 c3 (nth a j :: R) w3 hr3 (by simpa using hl3) (by unfold maxLen at hc3;omega)).mono ?_
   rintro e w4 ⟨⟨m,hm,rfl,hz,ht⟩,rfl⟩
   have hP3:P4 (nth a j :: R):=fun d hd=>by
    rcases List.mem_cons.1 hd with rfl | hd
    ·exact hxa
    ·exact hk.rp d hd
   have hl4:((nth a j :: R).take m).length=m:=by rw [List.length_take];omega
   have hv4:v4 ((nth a j :: R).take m)=V:=by rw [v4_take hz,v4_cons];exact (uh HV).symm
   have hP4:=hP3.take m
   have hT4:=trim_take hm ht
   have hr4:RowI w4 g3 ((nth a j :: R).take m):=fun k hk=>by
    rw [hl4] at hk
    rw [hr3 k (by omega),nth_take hk]
   obtain ⟨R4,hR4⟩:∃ R4,(nth a j :: R).take m=R4:=⟨_,rfl⟩
   rw [hR4] at hl4 hv4 hP4 hT4 hr4
   have hm1:m<=90002:=by simp at hm;omega
   have hmc:m<=c3:=by simp at hm;omega
   have HL4:=qh hl4
   have HV4:=qh hv4
   clear hz ht hR4 hr3 hP3 hm hl4 hv4
   have hb4:=bk hb3 hk.below
   have hsb4:=h2.later hb4
   have hq4:=hk.row.later hb3
   have hgi4:=hk.gi.later hb3
   have hgq:w.heap.size<g3:=by have:=hk.gi.lt;omega
   have hql:Q.length=n:=hk.ql.trans (uh HN)
   have HQL:=qh hql
   clear hql
   go_wp2_with fail
   go_loopg [9,10] 9999 (fun k lov hiv wx=>∃ lo hi:Int,lov=.int .i64 lo/\hiv=.int .i64 hi/\0<=lo/\lo<=hi/\hi<=9999/\k=(hi - lo).toNat/\Hid (lo*v4 b<=V/\V<(hi+1)*v4 b)/\Below w4.heap.size w4 wx)
   case atStart=>exact ⟨0,9999,rfl,rfl,by omega,by omega,by omega,by omega,⟨by omega,by have:=uh HV9;omega⟩,Below.refl _ _⟩
   case round =>
    obtain ⟨lo,hi,rfl,rfl,lo0,lohi,hi9,hgk2,HLH,hbx⟩:=hrel
    by_cases hlt:lo<hi
    ·obtain ⟨md,hmd1,hmd2,hmd3,hmd4⟩:=mid_bounds lo0 hlt hi9
     go_wp2_with fail
     go_fit (rtimes_any md _ (hsb4.later hbx) hb (by omega) (by omega) (by omega))
     rintro e w5 ⟨⟨v5,T,rfl,s5,p5,t5,e5⟩,b5⟩
     have hb5:=bk b5 hbx
     have s4:Sl w5 (.slice (some ⟨g3,0,none⟩) m c3) R4:=by
      have:=sl_mk (hr4.later hb5) (c:=c3) (by rw [uh HL4];exact hmc) hc3 (hgi3.later hb5)
      rwa [uh HL4] at this
     have hTl:T.length<=100000:=by
      refine Nat.le_trans (places_le (n:=b.length+1) p5 t5 ?_) (by omega)
      have h1:=v4_lt hb
      rw [e5,Int.pow_succ]
      have:v4 b*md<=v4 b*9999:=Int.mul_le_mul_of_nonneg_left (by omega) hBp
      omega
     have E5:=qh e5
     clear e5
     obtain ⟨q0,q1,q2,rfl⟩:=s5.shape
     go_wp2_with fail
     go_fit (rsize_any _ s5 s4 p5 hP4 t5 hT4 hTl (by rw [uh HL4];omega))
     rintro e w6 ⟨rfl,b6⟩
     have hb6:=bk b6 hb5
     have hsg:sgn (v4 T - v4 R4)=sgn (md*v4 b - V):=by rw [uh E5,uh HV4,Int.mul_comm]
     rw [hsg]
     clear hsg b6 hb5 b5 s4 s5 p5 t5 hbx
     by_cases hc:md*v4 b<=V
     ·have hs1:sgn (md*v4 b - V)<=0:=by
       by_cases e:md*v4 b=V
       ·rw [zxi (by omega)];decide
       ·rw [zqp (by omega)];decide
      obtain ⟨sg,hsg⟩:∃ sg,sgn (md*v4 b - V)=sg:=⟨_,rfl⟩
      rw [hsg] at hs1 ⊢
      have HC:=qh hc
      clear hsg hc
      go_wp2
      go_roundg ((hi - md).toNat)
      case measure=>omega
      case rel=>exact ⟨md,hi,rfl,rfl,by omega,by omega,hi9,rfl,⟨uh HC,(uh HLH).2⟩,hb6⟩
     ·have hs1:0<sgn (md*v4 b - V):=by rw [zqq (by omega)];decide
      obtain ⟨sg,hsg⟩:∃ sg,sgn (md*v4 b - V)=sg:=⟨_,rfl⟩
      rw [hsg] at hs1 ⊢
      have HC:=qh hc
      clear hsg hc
      go_wp2
      go_roundg ((md - 1 - lo).toNat)
      case measure=>omega
      case rel=>exact ⟨lo,md - 1,rfl,by go_num,by omega,by omega,by omega,rfl,⟨(uh HLH).1,by rw [show md - 1+1=md by omega];have:=uh HC;omega⟩,hb6⟩
    ·obtain rfl:lo=hi:=by omega
     have hcq:=hq4.later hbx j (by rw [uh HQL];omega)
     have hfq:=(hgi4.later hbx).frozen j
     have hjs:w.heap.size<wr.heap.size:=(hgi4.later hbx).lt
     have hbw:=bk hbx hb4
     have hqx:=hq4.later hbx
     have hgx:=hgi4.later hbx
     have hsbx:=hsb4.later hbx
     have hrx:=hr4.later hbx
     have hgi3x:=hgi3.later hbx
     clear hlt lohi
     go_wp2_with fail
     have hws:Below w.heap.size w (wr.setCell ⟨w.heap.size,j,none⟩ (.int .i64 lo)):=hbw.setCell (p:=⟨w.heap.size,j,none⟩) (Nat.le_refl _) _
     go_fit (rtimes_any lo _ (h2.later hws) hb lo0 (by omega) (by omega))
     rintro e w5 ⟨⟨v5,T,rfl,s5,p5,t5,e5⟩,b5⟩
     have E5:=qh e5
     clear e5
     obtain ⟨q0,q1,q2,rfl⟩:=s5.shape
     have hr5:=(hrx.beside (g:=w.heap.size) (k:=j) (by omega) (.int .i64 lo)).later b5
     have hg5:=(hgi3x.set ⟨w.heap.size,j,none⟩ (.int .i64 lo)).later b5
     have s4:Sl w5 (.slice (some ⟨g3,0,none⟩) m c3) R4:=by
      have:=sl_mk hr5 (c:=c3) (by rw [uh HL4];exact hmc) hc3 hg5
      rwa [uh HL4] at this
     go_wp2_with fail
     go_fit (rless_any _ s4 s5 hP4 p5 t5 (by rw [uh E5,uh HV4,Int.mul_comm];exact (uh HLH).1) (by rw [uh HL4];omega))
     rintro e w6 ⟨⟨v6,D6,rfl,s6,p6,t6,e6⟩,b6⟩
     have hrow6:=((hqx.put (k:=j) (by rw [uh HQL];omega) lo).later b5).later b6
     have hgi6:=((hgx.set ⟨w.heap.size,j,none⟩ (.int .i64 lo)).later b5).later b6
     have R6:=hk.step (by rw [uh HN];omega) (uh HV) lo0 (by omega) (uh HLH).1 (uh HLH).2 s6 p6 t6 (by rw [e6,uh HV4,uh E5]) hrow6 hgi6 (bk b6 (bk b5 hws))
     obtain ⟨z0,z1,z2,rfl⟩:=s6.shape
     clear hk hrow6 hgi6 s6 p6 t6 e6 b6 b5 s4 s5 p5 t5 hr5 hg5 hcq hfq hqx hgx hsbx hrx hgi3x hws hbw
     go_wp2
     go_roundg j
     case measure=>omega
     case rel=>exact ⟨j,D6,_,by omega,rfl,by go_num,R6⟩
theorem p4_pos (n:Nat):(0:Int)<10000 ^ n:=Int.pow_pos (by decide)
theorem Nr.abs {N:Nat}{w:World}{v:Value}{z:Int} (h:Nr N w v z):-10000 ^ N<z/\z<10000 ^ N:=by
 obtain ⟨neg,sl,D,_,_,hP,_,hl,_,rfl⟩:=h
 have h1:=v4_lt hP
 have h2:=zqr hP
 have h3:=p4_mono hl
 split <;> omega
theorem Nr.fit {N M:Nat}{w:World}{v:Value}{z:Int} (h:Nr N w v z) (h0:-10000 ^ M<z) (h1:z<10000 ^ M):Nr M w v z:=by
 obtain ⟨neg,sl,D,e1,e2,hP,hT,hl,hn,rfl⟩:=h
 refine ⟨neg,sl,D,e1,e2,hP,hT,places_le hP hT ?_,hn,rfl⟩
 cases neg
 ·simpa using h1
 ·simp at h0;omega
theorem Nr.mono {N M:Nat}{w:World}{v:Value}{z:Int} (h:Nr N w v z) (hM:N<=M):Nr M w v z:=by
 obtain ⟨neg,sl,D,e1,e2,hP,hT,hl,hn,e⟩:=h
 exact ⟨neg,sl,D,e1,e2,hP,hT,Nat.le_trans hl hM,hn,e⟩
theorem rsign_any {N:Nat}{v:Value}{z:Int} (w:World) (hz:Nr N w v z) :
 Calls Tryz.prog 88 #[v] w fun e w'=>e=.returned (.int .i64 (sgn z))/\Below w.heap.size w w':=by
 obtain ⟨neg,sl,D,rfl,hsl,hP,hT,hl,hn,rfl⟩:=hz
 obtain ⟨pa,ca,rfl,_⟩:=hsl.get
 have hB:=zqa w (.cells #[.bool neg,.slice pa D.length ca] 57)
 by_cases hD:D=[]
 ·subst hD
  have h0:=hn rfl
  subst h0
  go_enter Tryz.func88,Tryz.ntmps88
  go_wp2
  go_ret
  exact ⟨zxd (by simp [v4,sgn]),hB⟩
 ·have hpos:=v4_pos hP hT hD
  have hlen:((D.length:Int) == 0)=false:=by have:=List.length_pos_iff.2 hD;simp;omega
  have HD:=qh hD
  have HP:=qh hpos
  clear hD hpos hn
  go_enter Tryz.func88,Tryz.ntmps88
  cases neg
  ·go_wp2
   go_ret
   exact ⟨zxd (by have:=uh HP;rw [zqq (by simpa using this)]),hB⟩
  ·go_wp2
   go_ret
   exact ⟨zxd (by have:=uh HP;rw [zqp (by simp;omega)]),hB⟩
structure N2 (w:World) (x:Bool) (s:Value) (y:Bool) (t:Value) (wr:World):Prop where
 below:Below w.heap.size w wr
 box:NBox wr (w.heap.size+2)
 c0:wr.cell? ⟨w.heap.size,0,none⟩=some (.bool x)
 c1:wr.cell? ⟨w.heap.size,1,none⟩=some s
 d0:wr.cell? ⟨w.heap.size+1,0,none⟩=some (.bool y)
 d1:wr.cell? ⟨w.heap.size+1,1,none⟩=some t
theorem N2.keep {w wr w1:World}{x y:Bool}{s t:Value} (h:N2 w x s y t wr) (hb:Below wr.heap.size wr w1):N2 w x s y t w1 :=
 ⟨bk hb h.below,h.box.later hb,ck hb h.c0,ck hb h.c1,ck hb h.d0,ck hb h.d1⟩
theorem N2.start (w:World) (x y:Bool) (s t:Value):N2 w x s y t (((w.alloc (.cells #[.bool x,s] 57)).alloc (.cells #[.bool y,t] 57)).alloc (.cells #[.bool false,.slice none 0 0] 57)):=by
 have k1:=zqa w (.cells #[.bool x,s] 57)
 have k2:=zqa (w.alloc (.cells #[.bool x,s] 57)) (.cells #[.bool y,t] 57)
 have k3:=zqa ((w.alloc (.cells #[.bool x,s] 57)).alloc (.cells #[.bool y,t] 57)) (.cells #[.bool false,.slice none 0 0] 57)
 refine ⟨bk k3 (bk k2 k1),?_,ck k3 (ck k2 ?_),ck k3 (ck k2 ?_),ck k3 ?_,ck k3 ?_⟩
 ·have:=zji ((w.alloc (.cells #[.bool x,s] 57)).alloc (.cells #[.bool y,t] 57)) false none 0 0
  simpa using this
 ·rw [zqe rfl];rfl
 ·rw [zqe rfl];rfl
 ·rw [zqe (by simp)];rfl
 ·rw [zqe (by simp)];rfl
theorem N2.lt {w wr:World}{x y:Bool}{s t:Value} (h:N2 w x s y t wr):w.heap.size+2<wr.heap.size:=by
 obtain ⟨x,a,n,c,h⟩:=h.box
 exact (Array.getElem?_eq_some_iff.1 h).1
theorem radd_any {N:Nat}{v u:Value}{z o:Int} (w:World) (hz:Nr N w v z) (ho:Nr N w u o) (hN:N<=90000) :
 Calls Tryz.prog 91 #[v,u] w fun e w'=>(∃ v,e=.returned v/\Nr (N+1) w' v (z+o))/\Below w.heap.size w w':=by
 have az:=hz.abs
 have ao:=ho.abs
 have HAB:Hid (-10000 ^ (N+1)<z+o/\z+o<10000 ^ (N+1)):=by
  have:=p4_pos N
  show _/\_
  rw [Int.pow_succ];omega
 clear az ao
 obtain ⟨S,HS⟩:∃ S,Hid (z+o=S):=⟨_,rfl⟩
 rw [show z+o=S from uh HS] at HAB ⊢
 obtain ⟨na,sa,A,rfl,hsa,hPa,hTa,hla,-,hzv⟩:=hz
 obtain ⟨nb,sb,B,rfl,hsb,hPb,hTb,hlb,-,hov⟩:=ho
 have HZ:=qh hzv
 have HO:=qh hov
 clear hzv hov
 obtain ⟨a1,n1,c1,rfl⟩:=hsa.shape
 obtain ⟨a2,n2,c2,rfl⟩:=hsb.shape
 have hst:=N2.start w na nb (.slice a1 n1 c1) (.slice a2 n2 c2)
 go_enter Tryz.func91,Tryz.ntmps91
 obtain ⟨W0,hW0⟩:∃ W0,W0=((w.alloc (.cells #[.bool na,.slice a1 n1 c1] 57)).alloc (.cells #[.bool nb,.slice a2 n2 c2] 57)).alloc (.cells #[.bool false,.slice none 0 0] 57):=⟨_,rfl⟩
 cases hab:(na == nb)
 ·go_wp2_with fail
  rw [<- hW0] at hst ⊢
  clear hW0
  go_fit (rsize_any _ (hsa.later hst.below) (hsb.later hst.below) hPa hPb hTa hTb (by omega) (by omega))
  rintro e W1 ⟨rfl,hb1⟩
  have hst1:=hst.keep hb1
  have d1:=hst1.c1
  have d2:=hst1.d1
  have d3:=hst1.c0
  have d4:=hst1.d0
  have hab':nb = !na:=by cases na <;> cases nb <;> simp_all
  subst hab'
  clear hb1 hab
  by_cases hle:v4 B<=v4 A
  ·have hs0:0<=sgn (v4 A - v4 B):=by
    by_cases e:v4 A=v4 B
    ·rw [zxi (by omega)];decide
    ·rw [zqq (by omega)];decide
   obtain ⟨sg,hsg⟩:∃ sg,sgn (v4 A - v4 B)=sg:=⟨_,rfl⟩
   rw [hsg] at hs0 ⊢
   clear hsg
   go_wp2_with fail
   go_fit (rless_any _ (hsa.later hst1.below) (hsb.later hst1.below) hPa hPb hTb hle (by omega))
   rintro e W2 ⟨⟨v2,D2,rfl,s2,p2,t2,e2⟩,hb2⟩
   have E2:=qh e2
   clear e2
   have hst2:=hst1.keep hb2
   obtain ⟨q0,q1,q2,rfl⟩:=s2.shape
   have d0:=hst2.c0
   have d1:=hst2.d0
   go_wp2_with fail
   go_fit (zks na _ D2 D2.length _ s2 p2 (Nat.le_refl _))
   rintro e W3 ⟨⟨v3,rfl,hN3⟩,hb3⟩
   obtain ⟨x3,a3,n3,c3,rfl⟩:=hN3.shape
   have hst3:=hst2.keep hb3
   obtain ⟨⟨x0,g0⟩,⟨a0,n0,c0,g1⟩,gf⟩:=hst3.box.cells
   have hlt:=hst3.lt
   clear hst hst2 hb3
   go_wp2
   obtain ⟨st0,st1⟩:=hst3.box.stored (.bool x3) (.slice a3 n3 c3)
   exact bodyPost_ret (v:=.agg #[.bool x3,.slice a3 n3 c3]) (by simp [results,Tryz.results91,go_sem,st0,st1]) rfl ⟨⟨_,rfl,(Nr.congr (hN3.stored hst3.box _ _) (by have h:=uh HS;rw [uh HZ,uh HO] at h;rw [uh E2];cases na <;> simp at h ⊢ <;> omega)).fit (uh HAB).1 (uh HAB).2⟩,zqc hst3.below (by omega) _ _⟩
  ·have hs0:sgn (v4 A - v4 B)<0:=by rw [zqp (by omega)];decide
   obtain ⟨sg,hsg⟩:∃ sg,sgn (v4 A - v4 B)=sg:=⟨_,rfl⟩
   rw [hsg] at hs0 ⊢
   clear hsg
   go_wp2_with fail
   go_fit (rless_any _ (hsb.later hst1.below) (hsa.later hst1.below) hPb hPa hTa (by omega) (by omega))
   rintro e W2 ⟨⟨v2,D2,rfl,s2,p2,t2,e2⟩,hb2⟩
   have E2:=qh e2
   clear e2
   have hst2:=hst1.keep hb2
   obtain ⟨q0,q1,q2,rfl⟩:=s2.shape
   have d0:=hst2.c0
   have d1:=hst2.d0
   go_wp2_with fail
   go_fit (zks (!na) _ D2 D2.length _ s2 p2 (Nat.le_refl _))
   rintro e W3 ⟨⟨v3,rfl,hN3⟩,hb3⟩
   obtain ⟨x3,a3,n3,c3,rfl⟩:=hN3.shape
   have hst3:=hst2.keep hb3
   obtain ⟨⟨x0,g0⟩,⟨a0,n0,c0,g1⟩,gf⟩:=hst3.box.cells
   have hlt:=hst3.lt
   clear hst hst2 hb3
   go_wp2
   obtain ⟨st0,st1⟩:=hst3.box.stored (.bool x3) (.slice a3 n3 c3)
   exact bodyPost_ret (v:=.agg #[.bool x3,.slice a3 n3 c3]) (by simp [results,Tryz.results91,go_sem,st0,st1]) rfl ⟨⟨_,rfl,(Nr.congr (hN3.stored hst3.box _ _) (by have h:=uh HS;rw [uh HZ,uh HO] at h;rw [uh E2];cases na <;> simp at h ⊢ <;> omega)).fit (uh HAB).1 (uh HAB).2⟩,zqc hst3.below (by omega) _ _⟩
 ·have hab':na=nb:=by simpa using hab
  subst hab'
  go_wp2_with fail
  rw [<- hW0] at hst ⊢
  clear hW0
  go_fit (rmore_any _ (hsa.later hst.below) (hsb.later hst.below) hPa hPb (by omega) (by omega))
  rintro e W2 ⟨⟨v2,D2,rfl,s2,p2,e2,l2⟩,hb2⟩
  have E2:=qh e2
  clear e2
  have hst2:=hst.keep hb2
  obtain ⟨q0,q1,q2,rfl⟩:=s2.shape
  have d0:=hst2.c0
  go_wp2_with fail
  go_fit (zks na _ D2 D2.length _ s2 p2 (Nat.le_refl _))
  rintro e W3 ⟨⟨v3,rfl,hN3⟩,hb3⟩
  obtain ⟨x3,a3,n3,c3,rfl⟩:=hN3.shape
  have hst3:=hst2.keep hb3
  obtain ⟨⟨x0,g0⟩,⟨a0,n0,c0,g1⟩,gf⟩:=hst3.box.cells
  have hlt:=hst3.lt
  clear hst hst2 hb3
  go_wp2
  obtain ⟨st0,st1⟩:=hst3.box.stored (.bool x3) (.slice a3 n3 c3)
  exact bodyPost_ret (v:=.agg #[.bool x3,.slice a3 n3 c3]) (by simp [results,Tryz.results91,go_sem,st0,st1]) rfl ⟨⟨_,rfl,(Nr.congr (hN3.stored hst3.box _ _) (by have h:=uh HS;rw [uh HZ,uh HO] at h;rw [uh E2];cases na <;> simp at h ⊢ <;> omega)).fit (uh HAB).1 (uh HAB).2⟩,zqc hst3.below (by omega) _ _⟩
theorem zqm (w:World) (o1 o2:Obj):Below w.heap.size w ((w.alloc o1).alloc o2):=bk (zqa _ _) (zqa w o1)
theorem Sl.nonempty {w:World}{a:Option Addr}{n c:Nat}{D:List Int} (h:Sl w (.slice a n c) D):D.length=n:=by
 rcases h with ⟨e,rfl⟩ | ⟨b,cap,e,_⟩
 ·simp at e;simp [e.2.1]
 ·simp at e;exact e.2.1.symm
theorem rneg_any {N:Nat}{v:Value}{z:Int} (w:World) (hz:Nr N w v z) :
 Calls Tryz.prog 145 #[v] w fun e w'=>(∃ v,e=.returned v/\Nr N w' v (-z))/\Below w.heap.size w w':=by
 obtain ⟨S,HS⟩:∃ S,Hid (-z=S):=⟨_,rfl⟩
 rw [show -z=S from uh HS]
 obtain ⟨neg,sl,D,rfl,hsl,hP,hT,hl,hn,hzv⟩:=hz
 have HZ:=qh hzv
 clear hzv
 obtain ⟨a,n,c,rfl⟩:=hsl.shape
 have hDn:=hsl.nonempty
 obtain ⟨nn,HNN⟩:∃ nn,Hid ((!neg && decide (0<n))=nn):=⟨_,rfl⟩
 have hN:Nr N w (.agg #[.bool nn,.slice a n c]) S:=by
  refine ⟨nn,_,D,rfl,hsl,hP,hT,hl,fun e => ?_,?_⟩
  ·subst e;rw [<- uh HNN,<- hDn];simp
  ·rw [<- uh HS,<- uh HNN,uh HZ,<- hDn]
   by_cases e:D=[]
   ·subst e;rw [hn rfl];simp [v4]
   ·have:=List.length_pos_iff.2 e
    cases neg <;> simp [this]
 have HD:=qh hDn
 clear hDn hn
 by_cases hn0:0<n
 ·have hni:(0:Int)<n:=by omega
  cases neg
  ·obtain rfl:nn=true:=by rw [<- uh HNN];simp [hn0]
   go_enter Tryz.func145,Tryz.ntmps145
   go_wp2
   exact bodyPost_ret (v:=.agg #[.bool true,.slice a n c]) (by simp [results,Tryz.results145,go_sem]) rfl ⟨⟨_,rfl,hN.later (zqm w _ _)⟩,zqm w _ _⟩
  ·obtain rfl:nn=false:=by rw [<- uh HNN];simp
   go_enter Tryz.func145,Tryz.ntmps145
   go_wp2
   exact bodyPost_ret (v:=.agg #[.bool false,.slice a n c]) (by simp [results,Tryz.results145,go_sem]) rfl ⟨⟨_,rfl,hN.later (zqm w _ _)⟩,zqm w _ _⟩
 ·obtain rfl:n=0:=by omega
  obtain rfl:nn=false:=by rw [<- uh HNN];simp
  cases neg
  ·go_enter Tryz.func145,Tryz.ntmps145
   go_wp2
   exact bodyPost_ret (v:=.agg #[.bool false,.slice a 0 c]) (by simp [results,Tryz.results145,go_sem]) rfl ⟨⟨_,rfl,hN.later (zqm w _ _)⟩,zqm w _ _⟩
  ·go_enter Tryz.func145,Tryz.ntmps145
   go_wp2
   exact bodyPost_ret (v:=.agg #[.bool false,.slice a 0 c]) (by simp [results,Tryz.results145,go_sem]) rfl ⟨⟨_,rfl,hN.later (zqm w _ _)⟩,zqm w _ _⟩
theorem rsub_any {N:Nat}{v u:Value}{z o:Int} (w:World) (hz:Nr N w v z) (ho:Nr N w u o) (hN:N<=90000) :
 Calls Tryz.prog 191 #[v,u] w fun e w'=>(∃ v,e=.returned v/\Nr (N+1) w' v (z - o))/\Below w.heap.size w w':=by
 obtain ⟨x1,a1,n1,c1,rfl⟩:=hz.shape
 obtain ⟨x2,a2,n2,c2,rfl⟩:=ho.shape
 have hst:=N2.start w x1 x2 (.slice a1 n1 c1) (.slice a2 n2 c2)
 go_enter Tryz.func191,Tryz.ntmps191
 go_wp2_with fail
 obtain ⟨W0,hW0⟩:∃ W0,W0=((w.alloc (.cells #[.bool x1,.slice a1 n1 c1] 57)).alloc (.cells #[.bool x2,.slice a2 n2 c2] 57)).alloc (.cells #[.bool false,.slice none 0 0] 57):=⟨_,rfl⟩
 rw [<- hW0] at hst ⊢
 clear hW0
 go_fit (rneg_any _ (ho.later hst.below))
 rintro e W1 ⟨⟨v1,rfl,hN1⟩,hb1⟩
 obtain ⟨x3,a3,n3,c3,rfl⟩:=hN1.shape
 have hst1:=hst.keep hb1
 clear hst hb1
 have e1:=hst1.c0
 have e2:=hst1.c1
 have k1:=zqa W1 (.cells #[.bool x3,.slice a3 n3 c3] 57)
 have hst2:=hst1.keep k1
 have f1:=hst2.c0
 have f2:=hst2.c1
 have hlt2:=hst1.lt
 go_wp2_with fail
 go_fit (radd_any (N:=N) _ (hz.later hst2.below) (hN1.later k1) hN)
 rintro e W3 ⟨⟨v3,rfl,hN3⟩,hb3⟩
 obtain ⟨x4,a4,n4,c4,rfl⟩:=hN3.shape
 have hst3:=hst2.keep hb3
 obtain ⟨⟨x0,g0⟩,⟨a0,n0,c0,g1⟩,gf⟩:=hst3.box.cells
 have hlt:=hst3.lt
 clear hst2 hb3 hst1
 go_wp2
 obtain ⟨st0,st1⟩:=hst3.box.stored (.bool x4) (.slice a4 n4 c4)
 exact bodyPost_ret (v:=.agg #[.bool x4,.slice a4 n4 c4]) (by simp [results,Tryz.results191,go_sem,st0,st1]) rfl ⟨⟨_,rfl,Nr.congr (hN3.stored hst3.box _ _) (by omega)⟩,zqc hst3.below (by omega) _ _⟩
theorem v4_set {l:List Int}{j:Nat} (hj:j<l.length) (y:Int):v4 (l.set j y)=v4 l+10000 ^ j*(y - nth l j):=by
 induction l generalizing j with
 | nil=>simp at hj
 | cons x l ih =>
  cases j with
  | zero=>simp [v4,nth];omega
  | succ j =>
   have h:=ih (j:=j) (by simpa using hj)
   simp only [List.set_cons_succ,v4]
   rw [h,show nth (x :: l) (j+1)=nth l j by simp [nth],Int.pow_succ,Int.mul_comm (10000 ^ j) 10000,Int.mul_assoc,Int.mul_add]
   omega
theorem p4_all_zero {l:List Int} (h:P4 l) (hz:v4 l=0) (j:Nat):nth l j=0:=by
 induction l generalizing j with
 | nil=>simp [nth]
 | cons x l ih =>
  have hx:=h x (by simp)
  have hl:P4 l:=fun d hd=>h d (by simp [hd])
  have hn:=zqr hl
  simp only [v4] at hz
  cases j with
  | zero=>simp [nth];omega
  | succ j=>rw [show nth (x :: l) (j+1)=nth l j by simp [nth]];exact ih hl (by omega) j
theorem high_zero {l:List Int}{m j:Nat} (h:P4 l) (hv:v4 l<10000 ^ m) (hj:m<=j):nth l j=0:=by
 by_cases e:l.length<=m
 ·exact zky (by omega)
 ·have e1:v4 l=v4 (l.take m)+10000 ^ m*v4 (l.drop m):=by
   conv=>lhs;rw [<- List.take_append_drop m l]
   rw [zjb,List.length_take,Nat.min_eq_left (by omega)]
  have h1:=zqr (h.take m)
  have h2:=zqr (h.drop m)
  have hp:=p4_pos m
  have hz:v4 (l.drop m)=0:=by
   by_cases g:v4 (l.drop m)=0
   ·exact g
   ·have:(10000:Int) ^ m*1<=10000 ^ m*v4 (l.drop m):=Int.mul_le_mul_of_nonneg_left (by omega) (by omega)
    omega
  have:=p4_all_zero (h.drop m) hz (j - m)
  rw [nth_drop,show m+(j - m)=j by omega] at this
  exact this
theorem N2.set {w wr:World}{x y:Bool}{s t:Value} (h:N2 w x s y t wr) {g k:Nat} (hg:w.heap.size+2<g) (v:Value):N2 w x s y t (wr.setCell ⟨g,k,none⟩ v):=by
 obtain ⟨h1,⟨x0,a0,n0,c0,h2⟩,h3,h4,h5,h6⟩:=h
 refine ⟨h1.setCell (p:=⟨g,k,none⟩) (show w.heap.size<=g by omega) v,⟨x0,a0,n0,c0,?_⟩,?_,?_,?_,?_⟩
 ·rw [Below.heap_setCell wr ⟨g,k,none⟩ v (w.heap.size+2) (by show w.heap.size+2≠g;omega)];exact h2
 ·rw [zqb _ _ _ _ _ _ (by omega)];exact h3
 ·rw [zqb _ _ _ _ _ _ (by omega)];exact h4
 ·rw [zqb _ _ _ _ _ _ (by omega)];exact h5
 ·rw [zqb _ _ _ _ _ _ (by omega)];exact h6
theorem N2.drew {w wr:World}{x y:Bool}{s t:Value} (h:N2 w x s y t wr):N2 w x s y t wr.drew:=⟨h.below.drew,h.box,h.c0,h.c1,h.d0,h.d1⟩
structure MuK (a b:List Int) (w:World) (x:Bool) (s:Value) (y:Bool) (t:Value) (i:Nat) (O:List Int) (wr:World):Prop where
 n2:N2 w x s y t wr
 row:RowI wr (w.heap.size+3) O
 gi:GI wr (w.heap.size+3)
 pl:P4 O
 len:O.length=a.length+b.length+1
 sum:v4 O=v4 (a.take i)*v4 b
structure RoK (a b:List Int) (w:World) (x:Bool) (s:Value) (y:Bool) (t:Value) (i:Nat) (V:Int) (k:Nat) (c:Int) (O:List Int) (wr:World):Prop where
 n2:N2 w x s y t wr
 row:RowI wr (w.heap.size+3) O
 gi:GI wr (w.heap.size+3)
 pl:P4 O
 len:O.length=a.length+b.length+1
 sum:v4 O+10000 ^ (i+k)*c=V+10000 ^ i*(nth a i*v4 (b.take k))
 high:∀ j,i+k<=j->i+b.length<=j->nth O j=0
theorem RoK.step {a b:List Int}{w:World}{xx:Bool}{s:Value}{yy:Bool}{t:Value}{i k:Nat}{V c X:Int}{O:List Int}{wr:World} (h:RoK a b w xx s yy t i V k c O wr) (hj:i+k<O.length) (hX:X=nth O (i+k)+c+nth a i*nth b k) (_X0:0<=X) :
 RoK a b w xx s yy t i V (k+1) (X / 10000) (O.set (i+k) (X % 10000)) (wr.setCell ⟨w.heap.size+3,i+k,none⟩ (.int .i64 (X % 10000))):=by
 refine ⟨h.n2.set (by omega) _,h.row.put hj _,h.gi.set _ _,h.pl.set _ (by omega) (by omega),by rw [List.length_set];exact h.len,?_,fun j h1 h2 => ?_⟩
 ·rw [v4_set hj,zxx,Int.mul_add,Int.mul_add,<- Int.add_assoc,<- h.sum,show i+(k+1)=(i+k)+1 by omega,Int.pow_succ]
  have e:X % 10000+10000*(X / 10000)=X:=Int.emod_add_mul_ediv X 10000
  have e2:(10000:Int) ^ (i+k)*(X % 10000 - nth O (i+k))+10000 ^ (i+k)*10000*(X / 10000)=10000 ^ (i+k)*(X - nth O (i+k)):=by
   rw [Int.mul_assoc,<- Int.mul_add];congr 1;omega
  rw [Int.add_assoc,e2,hX,show nth O (i+k)+c+nth a i*nth b k - nth O (i+k)=c+nth a i*nth b k by omega,Int.mul_add,Int.pow_add]
  have e3:(10000:Int) ^ i*(nth a i*(10000 ^ k*nth b k))=10000 ^ i*10000 ^ k*(nth a i*nth b k):=by
   rw [Int.mul_left_comm (nth a i),<- Int.mul_assoc]
  rw [e3];omega
 ·have:=h.high j (by omega) h2
  simp only [nth,List.getElem?_set] at this ⊢
  rw [if_neg (by omega)];exact this
theorem RoK.drew {a b:List Int}{w:World}{xx:Bool}{s:Value}{yy:Bool}{t:Value}{i k:Nat}{V c:Int}{O:List Int}{wr:World} (h:RoK a b w xx s yy t i V k c O wr):RoK a b w xx s yy t i V k c O wr.drew:=⟨h.n2.drew,h.row,h.gi,h.pl,h.len,h.sum,h.high⟩
theorem RoK.done {a b:List Int}{w:World}{xx:Bool}{s:Value}{yy:Bool}{t:Value}{i k:Nat}{V:Int}{O:List Int}{wr:World} (h:RoK a b w xx s yy t i V k 0 O wr) (hk:b.length<=k) (hV:V=v4 (a.take i)*v4 b):MuK a b w xx s yy t (i+1) O wr:=by
 refine ⟨h.n2,h.row,h.gi,h.pl,h.len,?_⟩
 have:=h.sum
 rw [zkl hk,hV,Int.mul_zero,Int.add_zero] at this
 rw [this,zxx,Int.add_mul,Int.mul_assoc]
theorem MuK.begin {a b:List Int}{w:World}{xx:Bool}{s:Value}{yy:Bool}{t:Value}{i:Nat}{O:List Int}{wr:World} (h:MuK a b w xx s yy t i O wr) (ha:P4 a) (hb:P4 b):RoK a b w xx s yy t i (v4 O) 0 0 O wr:=by
 refine ⟨h.n2,h.row,h.gi,h.pl,h.len,by simp [v4],fun j _ hj=>high_zero h.pl ?_ hj⟩
 rw [h.sum,Int.pow_add]
 have h1:=v4_lt (ha.take i)
 have h2:=v4_lt hb
 have h3:=zqr (ha.take i)
 have h4:=zqr hb
 have h5:(10000:Int) ^ (a.take i).length<=10000 ^ i:=p4_mono (by rw [List.length_take];omega)
 have h6:=p4_pos b.length
 rcases Int.lt_or_eq_of_le h4 with h7 | h7
 ·have e1:v4 (a.take i)*v4 b<10000 ^ i*v4 b:=Int.mul_lt_mul_of_pos_right (by omega) h7
  have e2:(10000:Int) ^ i*v4 b<=10000 ^ i*10000 ^ b.length:=Int.mul_le_mul_of_nonneg_left (by omega) (by omega)
  omega
 ·rw [<- h7,Int.mul_zero]
  exact Int.mul_pos (p4_pos i) h6
theorem zjh {N M:Nat}{v u:Value}{z o:Int} (w:World) (hz:Nr N w v z) (ho:Nr M w u o) (hN:N+M<=900000) :
 Calls Tryz.prog 87 #[v,u] w fun e w'=>(∃ v,e=.returned v/\Nr (N+M) w' v (z*o))/\Below w.heap.size w w':=by
 have az:=hz.abs
 have ao:=ho.abs
 have HAB:Hid (-10000 ^ (N+M)<z*o/\z*o<10000 ^ (N+M)):=by
  show _/\_
  rw [Int.pow_add]
  have hp:=p4_pos N
  have hq:=p4_pos M
  generalize (10000:Int) ^ N=P at *
  generalize (10000:Int) ^ M=Q at *
  have h1:z*o<=(P - 1)*(Q - 1) /\ -((P - 1)*(Q - 1))<=z*o:=by
   have e1:(z.natAbs:Int)<=P - 1:=by omega
   have e2:(o.natAbs:Int)<=Q - 1:=by omega
   have e3:(z.natAbs:Int)*o.natAbs<=(P - 1)*(Q - 1):=Int.mul_le_mul e1 e2 (by omega) (by omega)
   rw [<- Int.natCast_mul,<- Int.natAbs_mul] at e3
   omega
  have h2:(P - 1)*(Q - 1)<P*Q:=by
   have:(P - 1)*(Q - 1)=P*Q - P - Q+1:=by rw [Int.sub_mul,Int.mul_sub];omega
   omega
  omega
 clear az ao
 obtain ⟨S,HS⟩:∃ S,Hid (z*o=S):=⟨_,rfl⟩
 rw [show z*o=S from uh HS] at HAB ⊢
 obtain ⟨na,sa,A,rfl,hsa,hPa,hTa,hla,-,hzv⟩:=hz
 obtain ⟨nb,sb,B,rfl,hsb,hPb,hTb,hlb,-,hov⟩:=ho
 have HZ:=qh hzv
 have HO:=qh hov
 clear hzv hov
 obtain ⟨pa,ca,rfl,hra⟩:=hsa.get
 obtain ⟨pb,cb,rfl,hrb⟩:=hsb.get
 obtain ⟨n,HLA⟩:∃ n,Hid (A.length=n):=⟨_,rfl⟩
 obtain ⟨m,HLB⟩:∃ m,Hid (B.length=m):=⟨_,rfl⟩
 rw [show A.length=n from uh HLA] at hla hsa ⊢
 rw [show B.length=m from uh HLB] at hlb hsb ⊢
 have hst:=N2.start w na nb (.slice pa n ca) (.slice pb m cb)
 have HNM:=qh (show (n:Int)+m+1=((n+m+1:Nat):Int) by omega)
 go_enter Tryz.func87,Tryz.ntmps87
 go_wp2_with (at_make;refine wpList_zeros rfl _ _ rfl _ _ (n+m+1) rfl rfl (uh HNM) (uh HNM) (by omega) ?_;intro w1 hrow1 hgi1 hbl1)
 have hsz:(((w.alloc (.cells #[.bool na,.slice pa n ca] 57)).alloc (.cells #[.bool nb,.slice pb m cb] 57)).alloc (.cells #[.bool false,.slice none 0 0] 57)).heap.size=w.heap.size+3:=by simp
 have hst1:=hst.keep hbl1
 rw [hsz] at hrow1 hgi1
 have hM0:MuK A B w na (.slice pa n ca) nb (.slice pb m cb) 0 (List.replicate (n+m+1) 0) w1:=by
  refine ⟨hst1,hrow1,hgi1,p4_zeros _,by rw [List.length_replicate,uh HLA,uh HLB],?_⟩
  rw [v4_zeros];simp [v4]
 clear hst hst1 hbl1 hsz hrow1 hgi1
 go_loopg [6] n (fun g iv wr=>∃ (i:Nat) (O:List Int),i<=n/\g=n - i/\iv=.int .i64 i/\MuK A B w na (.slice pa n ca) nb (.slice pb m cb) i O wr)
 case atStart=>exact ⟨0,_,by omega,by omega,rfl,hM0⟩
 case round =>
  obtain ⟨i,O,hin,hgk,rfl,hk⟩:=hrel
  clear hM0
  have e1:=hk.n2.c1
  have e2:=hk.n2.d1
  have e3:=hk.n2.c0
  have e4:=hk.n2.d0
  by_cases hi:i<n
  ·have hii:(i:Int)<n:=by omega
   obtain ⟨ba,rfl,hca⟩:=hra (by rintro rfl;have:=uh HLA;simp at this;omega)
   have hca0:=hca i (by have:=uh HLA;omega)
   have hxa:=hPa.nth i
   obtain ⟨xa,HXA⟩:∃ x,Hid (nth A i=x):=⟨_,rfl⟩
   rw [show nth A i=xa from uh HXA] at hca0 hxa
   have hR0:=hk.begin hPa hPb
   have HVO:=qh hk.sum
   clear hk
   go_wp2_with fail
   go_loopg [7,8] (m+1) (fun g cv kv wx=>∃ (k:Nat) (c:Int) (O':List Int),k<=m+1/\g=m+1 - k/\cv=.int .i64 c/\kv=.int .i64 k/\0<=c/\c<10000/\(m<k->c=0)/\RoK A B w na (.slice (some ⟨ba,0,none⟩) n ca) nb (.slice pb m cb) i (v4 O) k c O' wx)
   case atStart=>exact ⟨0,0,O,by omega,by omega,rfl,rfl,by omega,by omega,fun _=>rfl,hR0⟩
   case round =>
    obtain ⟨k,c,O',hkm,hgk2,rfl,rfl,c0,c1,hcm,hr⟩:=hrel
    clear hR0 e1 e2 e3 e4
    have e1:=hr.n2.c1
    have e2:=hr.n2.d1
    have hOl:O'.length=n+m+1:=by rw [hr.len,uh HLA,uh HLB]
    have hca:=ck hr.n2.below hca0
    by_cases hkl:k<m
    ·have hkl':(k:Int)<m:=by omega
     obtain ⟨bb,rfl,hcb⟩:=hrb (by rintro rfl;have:=uh HLB;simp at this;omega)
     have hcb:=ck hr.n2.below (hcb k (by have:=uh HLB;omega))
     have hxb:=hPb.nth k
     obtain ⟨xb,HXB⟩:∃ x,Hid (nth B k=x):=⟨_,rfl⟩
     rw [show nth B k=xb from uh HXB] at hcb hxb
     have hco:=hr.row (i+k) (by omega)
     have hfo:=hr.gi.frozen (i+k)
     have hxo:=hr.pl.nth (i+k)
     obtain ⟨xo,HXO⟩:∃ x,Hid (nth O' (i+k)=x):=⟨_,rfl⟩
     rw [show nth O' (i+k)=xo from uh HXO] at hco hxo
     obtain ⟨p0,p1⟩:=place_prod hxa.1 hxa.2 hxb.1 hxb.2
     obtain ⟨p,HP⟩:∃ p,Hid (xa*xb=p):=⟨_,rfl⟩
     have hpe:xa*xb=p:=uh HP
     rw [hpe] at p0 p1
     obtain ⟨xo0,xo1⟩:=hxo
     obtain ⟨X,HX⟩:∃ X,Hid (X=xo+c+p):=⟨_,rfl⟩
     have X0:0<=X:=by rw [show X=_ from uh HX];omega
     have X1:X<=99999999:=by rw [show X=_ from uh HX];omega
     have hXe:xo+c+p=X:=(uh HX).symm
     have hik:((i:Int)+k)<(n+m+1:Nat):=by omega
     have HOL:=qh hOl
     clear hOl
     have R:=hr.drew.step (X:=X) (by have:=uh HOL;omega) (by rw [uh HX,uh HXO,uh HXA,uh HXB,<- uh HP]) X0
     have R':=hr.step (X:=X) (by have:=uh HOL;omega) (by rw [uh HX,uh HXO,uh HXA,uh HXB,<- uh HP]) X0
     clear hr
     go_wp2_with fail
     go_region
     all_goals
      go_wp2
      go_roundg (m+1 - (k+1))
      case measure=>omega
      case rel=>exact ⟨k+1,X / 10000,_,by omega,rfl,by go_num,by go_num,by omega,by omega,fun h=>by omega,by first | exact R | exact R' | exact R'.drew⟩
    ·have hkl':¬ (k:Int)<m:=by omega
     by_cases hc0:0<c
     ·have hkm':k=m:=by
       have:¬ m<k:=fun h=>by have:=hcm h;omega
       omega
      have hco:=hr.row (i+k) (by omega)
      have hfo:=hr.gi.frozen (i+k)
      have hz:=hr.high (i+k) (by omega) (by rw [uh HLB];omega)
      have hzb:nth B k=0:=zky (by rw [uh HLB];omega)
      have R:=hr.step (X:=c) (by omega) (by rw [hz,hzb,Int.mul_zero];omega) c0
      rw [hz] at hco
      have hik:((i:Int)+k)<(n+m+1:Nat):=by omega
      have HOL:=qh hOl
      clear hOl hr hz hzb hkm'
      go_wp2
      go_roundg (m+1 - (k+1))
      case measure=>omega
      case rel=>exact ⟨k+1,c / 10000,_,by omega,rfl,by go_num,by go_num,by omega,by omega,fun h=>by omega,by first | exact R | exact R.drew⟩
     ·obtain rfl:c=0:=by omega
      have R:=hr.done (by rw [uh HLB];omega) (uh HVO)
      clear hr
      go_wp2
      go_roundg (n - (i+1))
      case measure=>omega
      case rel=>exact ⟨i+1,_,by omega,rfl,by go_num,R⟩
  ·obtain rfl:i=n:=by omega
   have hlen:=hk.len
   rw [uh HLA,uh HLB] at hlen
   have hsl:Sl wr (.slice (some ⟨w.heap.size+3,0,none⟩) (i+m+1) (i+m+1)) O:=by
    have:=sl_mk hk.row (c:=i+m+1) (by omega) (by unfold maxLen;omega) hk.gi
    rwa [hlen] at this
   have hsum:=hk.sum
   rw [zkl (by rw [uh HLA];omega)] at hsum
   have HSUM:=qh hsum
   have hpl:=hk.pl
   have hst2:=hk.n2
   have HLEN:=qh hlen
   clear hk hsum hlen hgk
   go_wp2_with fail
   go_fit (zks (!(na == nb)) _ O O.length _ hsl hpl (Nat.le_refl _))
   rintro e W3 ⟨⟨v3,rfl,hN3⟩,hb3⟩
   obtain ⟨x3,a3,n3,c3,rfl⟩:=hN3.shape
   have hst3:=hst2.keep hb3
   obtain ⟨⟨x0,g0⟩,⟨a0,n0,c0,g1⟩,gf⟩:=hst3.box.cells
   have hlt:=hst3.lt
   clear hst2 hb3
   go_wp2
   obtain ⟨st0,st1⟩:=hst3.box.stored (.bool x3) (.slice a3 n3 c3)
   exact bodyPost_ret (v:=.agg #[.bool x3,.slice a3 n3 c3]) (by simp [results,Tryz.results87,go_sem,st0,st1]) rfl ⟨⟨_,rfl,(Nr.congr (hN3.stored hst3.box _ _) (by rw [uh HSUM,<- uh HS,uh HZ,uh HO];cases na <;> cases nb <;> simp [Int.neg_mul,Int.mul_neg])).fit (uh HAB).1 (uh HAB).2⟩,zqc hst3.below (by omega) _ _⟩
theorem zxn (n:Int) (w:World) (h0:0<n) (h1:n<10000) :
 Calls Tryz.prog 82 #[.int .i64 n] w fun e w'=>(∃ v,e=.returned v/\Nr 1 w' v n)/\Below w.heap.size w w':=by
 have hbx:=zji w false none 0 0
 have hk0:=zqa w (.cells #[.bool false,.slice none 0 0] 57)
 have hnl:¬ n<0:=by omega
 go_enter Tryz.func82,Tryz.ntmps82
 go_wp2_with fail
 go_loopg [0,4] 1 (fun k nv dv wr=>(k=1/\nv=.int .i64 n/\dv=.slice none 0 0/\Below w.heap.size w wr/\NBox wr w.heap.size)\/(nv=.int .i64 0/\Below w.heap.size w wr/\NBox wr w.heap.size/\wr.ownsRow (w.heap.size+1) 3 1 dv 1 [.int .i64 n]))
 case atStart=>exact Or.inl ⟨rfl,rfl,rfl,hk0,hbx⟩
 case round =>
  rcases hrel with ⟨hgk,rfl,rfl,hk0,hbx⟩ | ⟨rfl,hB,hbx1,hown⟩
  ·have hlt:w.heap.size+1<=wr.heap.size:=by obtain ⟨⟨x0,g0⟩,_⟩:=hbx.cells;exact World.block_lt_of_cell? wr _ g0
   have hown0:wr.ownsRow (w.heap.size+1) 3 1 (.slice none 0 0) 0 []:=World.ownsRow_nil _ _ _ _
   have hm1:n % 10000=n:=by omega
   have hm2:n / 10000=0:=by omega
   go_wp2_with (at_builtin;refine zxf rfl _ _ rfl (w.heap.size+1) _ _ _ rfl hown0 n rfl rfl (Nat.zero_le _) hlt ?_;intro v' w1 hown' hgrow)
   obtain ⟨k1,k2⟩:=grow_keep hk0 hbx hown0 hgrow
   obtain ⟨va',vn',vc',rfl⟩:=zqz hown'
   go_wp2
   go_roundg 0
   case measure=>omega
   case rel=>exact Or.inr ⟨by go_num,k1,k2,hown'⟩
  ·have hsl:Sl wr _ [n]:=sl_own (D:=[n]) hown
   obtain ⟨va',vn',vc',rfl⟩:=zqz hown
   obtain ⟨⟨x0,g0⟩,⟨a0,n0,c0,g1⟩,gf⟩:=hbx1.cells
   have hlt:w.heap.size<wr.heap.size:=World.block_lt_of_cell? wr _ g0
   go_wp2
   obtain ⟨st0,st1⟩:=hbx1.stored (.bool false) (.slice va' vn' vc')
   refine bodyPost_ret (v:=.agg #[.bool false,.slice va' vn' vc']) (by simp [results,Tryz.results82,go_sem,st0,st1]) rfl ⟨⟨_,rfl,false,_,[n],rfl,hsl.stored hbx1 _ _,fun d hd => ?_,Or.inr ?_,by simp,fun h=>by simp at h,by simp [v4]⟩,zqc hB (Nat.le_refl _) _ _⟩
   ·have:d=n:=by simpa using hd
    subst this;omega
   ·simp [nth];omega
theorem v4_gcd {na nb:Bool}{A B:List Int}{z o:Int} (hA:P4 A) (hB:P4 B) (hz:z=if na then -v4 A else v4 A) (ho:o=if nb then -v4 B else v4 B):Int.gcd (v4 A) (v4 B)=Int.gcd z o:=by
 have h1:=zqr hA
 have h2:=zqr hB
 rw [Int.gcd_eq_natAbs_gcd_natAbs,Int.gcd_eq_natAbs_gcd_natAbs]
 congr 1
 ·rw [hz];split <;> omega
 ·rw [ho];split <;> omega
theorem igcd_mod' {x y q r:Int} (e:x=q*y+r):Int.gcd y r=Int.gcd x y:=by
 rw [e,Int.gcd_comm (q*y+r),Int.gcd_mul_right_add_right]
theorem rgcd_any {N:Nat}{v u:Value}{z o:Int} (w:World) (hz:Nr N w v z) (ho:Nr N w u o) (hN:N<=90000) :
 Calls Tryz.prog 146 #[v,u] w fun e w'=>(∃ v,e=.returned v/\Nr N w' v (Int.gcd z o))/\Below w.heap.size w w':=by
 obtain ⟨na,sa,A,rfl,hsa,hPa,hTa,hla,-,hzv⟩:=hz
 obtain ⟨nb,sb,B,rfl,hsb,hPb,hTb,hlb,-,hov⟩:=ho
 obtain ⟨G,HG⟩:∃ G,Hid (Int.gcd z o=G):=⟨_,rfl⟩
 have hG0:Int.gcd (v4 A) (v4 B)=G:=(v4_gcd hPa hPb hzv hov).trans (uh HG)
 rw [show Int.gcd z o=G from uh HG]
 clear hzv hov HG
 obtain ⟨a1,n1,c1,rfl⟩:=hsa.shape
 obtain ⟨a2,n2,c2,rfl⟩:=hsb.shape
 have hst:=N2.start w na nb (.slice a1 n1 c1) (.slice a2 n2 c2)
 go_enter Tryz.func146,Tryz.ntmps146
 go_wp2_with fail
 obtain ⟨W0,hW0⟩:∃ W0,W0=((w.alloc (.cells #[.bool na,.slice a1 n1 c1] 57)).alloc (.cells #[.bool nb,.slice a2 n2 c2] 57)).alloc (.cells #[.bool false,.slice none 0 0] 57):=⟨_,rfl⟩
 rw [<- hW0] at hst ⊢
 clear hW0
 go_loopg [5,6] (v4 B).toNat (fun k xv yv wr=>∃ X Y:List Int,k=(v4 Y).toNat/\Sl wr xv X/\Sl wr yv Y/\P4 X/\P4 Y/\Trim X/\Trim Y/\X.length<=N/\Y.length<=N/\Int.gcd (v4 X) (v4 Y)=G/\N2 w na (.slice a1 n1 c1) nb (.slice a2 n2 c2) wr)
 case atStart=>exact ⟨A,B,rfl,hsa.later hst.below,hsb.later hst.below,hPa,hPb,hTa,hTb,hla,hlb,hG0,hst⟩
 case round =>
  obtain ⟨X,Y,hgk,hx,hy,hPx,hPy,hTx,hTy,hlx,hly,hG,hst⟩:=hrel
  obtain ⟨p1,m1,k1,rfl⟩:=hx.shape
  obtain ⟨p2,m2,k2,rfl⟩:=hy.shape
  have HG:=qh hG
  clear hG hG0
  have hm2:=hy.nonempty
  by_cases h0:Y=[]
  ·subst h0
   obtain rfl:m2=0:=by simpa using hm2.symm
   have hv:(v4 X:Int)=(G:Int):=by
    rw [<- uh HG,show v4 ([]:List Int)=0 from rfl,Int.gcd_zero,Int.natAbs_of_nonneg (zqr hPx)]
   have HV:=qh hv
   clear hv hm2
   obtain ⟨⟨x0,g0⟩,⟨a0,n0,c0,g1⟩,gf⟩:=hst.box.cells
   have hlt:=hst.lt
   go_wp2
   obtain ⟨st0,st1⟩:=hst.box.stored (.bool false) (.slice p1 m1 k1)
   exact bodyPost_ret (v:=.agg #[.bool false,.slice p1 m1 k1]) (by simp [results,Tryz.results146,go_sem,st0,st1]) rfl ⟨⟨_,rfl,false,_,X,rfl,hx.stored hst.box _ _,hPx,hTx,hlx,fun _=>rfl,by simp;exact (uh HV).symm⟩,zqc hst.below (by omega) _ _⟩
  ·have hpos:=v4_pos hPy hTy h0
   have hm3:(0:Int)<m2:=by have:=List.length_pos_iff.2 h0;omega
   have HM:=qh hm2
   clear hm2
   go_wp2_with fail
   go_fit (rshare_any _ hx hy hPx hPy hTy hpos (by omega) (by omega))
   rintro e W1 ⟨⟨v1,v2,D1,D2,rfl,s1,q1,t1,s2,q2,t2,es,ls⟩,hb1⟩
   obtain ⟨f1,f2,f3,rfl⟩:=s2.shape
   have hst1:=hst.keep hb1
   have hy1:=hy.later hb1
   have hg1:Int.gcd (v4 Y) (v4 D2)=G:=(igcd_mod' es).trans (uh HG)
   have HLT:Hid ((v4 D2).toNat<gk):=by show _<_;have:=zqr q2;omega
   have hl2:D2.length<=N:=Nat.le_trans (len_le_of_v4 hPy q2 t2 (by omega)) hly
   clear hst hb1 hx hy es ls hgk s1 q1 t1
   go_wp2
   go_roundg ((v4 D2).toNat)
   case measure=>exact uh HLT
   case rel=>exact ⟨Y,D2,rfl,hy1,s2,hPy,q2,hTy,t2,hly,hl2,hg1,hst1⟩
end Go.Proofs.YtkdobjmhammhbaaGreatDoor
