import Derived.Test.YtkdobjmhammhbaaGreatDoorMI
namespace Go.Proofs.YtkdobjmhammhbaaGreatDoor
set_option maxHeartbeats 40000000
open Go.RowKit
theorem divMod_neg {N:Nat} (x y:Int) (a1 a2:Option Addr) (n1 c1 n2 c2:Nat) (z o:Int) (w:World) (hz:Zr (N+1) w (.agg #[.int .i64 x,.slice a1 n1 c1]) z) (ho:Zr (N+1) w (.agg #[.int .i64 y,.slice a2 n2 c2]) o) (ho0:o<0) (hlim:N<=700000) :
 Calls Tryz.prog 162 #[.agg #[.int .i64 x,.slice a1 n1 c1],.agg #[.int .i64 y,.slice a2 n2 c2]] w fun e w'=>(∃ vq vr q r,e=.returned (.tuple #[vq,vr,.bool true])/\Zr (N+3) w' vq q/\Zr (N+3) w' vr r/\q*o+r=z/\0<=r/\r<iabs o)/\Below w.heap.size w w':=by
 have HZ:=qh hz
 have HO:=qh ho
 have HO0:=qh ho0
 have HSY:Hid (sgn y = -1):=by
  obtain ⟨x',a',n',c',hvv,hsg,_⟩:=ho.sgn
  obtain ⟨rfl,_⟩:y=x'/\_:=by simpa using hvv
  show _=_
  rw [hsg];exact zqp ho0
 clear hz ho ho0
 go_enter Tryz.func162,Tryz.ntmps162
 go_wp2_with fail
 go_fit (zqn y _ _)
 rintro e W1 ⟨rfl,hb0⟩
 rw [uh HSY]
 have hT:=keep22 hb0 (start22 w (.int .i64 x) (.slice a1 n1 c1) (.int .i64 y) (.slice a2 n2 c2))
 clear hb0
 have hT':=hT
 obtain ⟨hbW,hbox,hbox2,hc0,hc1,hc2,hc3⟩:=hT'
 go_wp2_with fail
 go_fit (cutOff_any (z:=z) (o:=o) (N:=N) _ ((uh HZ).later hbW) ((uh HO).later hbW) (by have:=uh HO0;omega) (by omega))
 rintro e W2 ⟨⟨vq,vr,q,r,rfl,hq,hr,heq,hlt⟩,hb2⟩
 obtain ⟨u7,a7,n7,c7,hv7⟩:=hq.shape
 subst hv7
 obtain ⟨u8,a8,n8,c8,hv8⟩:=hr.shape
 subst hv8
 have hT2:=keep22 hb2 hT
 obtain ⟨x0,a0,n0,c0,x1,a1',n1',c1',g0,g1,g2,g3,gf,gf2⟩:=boxes22 (Below.refl _ _) hT2
 have HEQ:=qh heq
 have HLT:=qh hlt
 clear hT hbW hbox hbox2 hc0 hc1 hc2 hc3 heq hlt
 have hsr:Hid (sgn u8=sgn r):=by
  obtain ⟨x',a',n',c',hvv,hsg,_⟩:=hr.sgn
  obtain ⟨rfl,_⟩:u8=x'/\_:=by simpa using hvv
  exact hsg
 go_wp2_with fail
 obtain ⟨b1,b2,b3,b4,b5,b6,b7,b8,b9⟩:=zjl hT2.1 hT2.2.1 hT2.2.2.1 hq hr
 have hT3:=store22 (u:=u8) (a:=a8) (n:=n8) (c:=c8) (store22 (u:=u7) (a:=a7) (n:=n7) (c:=c7) hT2 (Or.inl rfl)) (Or.inr rfl)
 obtain ⟨W3,hW3⟩:∃ W3,W3=(((W2.setCell ⟨w.heap.size+2,0,none⟩ (.int .i64 u7)).setCell ⟨w.heap.size+2,1,none⟩ (.slice a7 n7 c7)).setCell ⟨w.heap.size+3,0,none⟩ (.int .i64 u8)).setCell ⟨w.heap.size+3,1,none⟩ (.slice a8 n8 c8):=⟨_,rfl⟩
 rw [<- hW3]
 rw [<- hW3] at b1 b2 b3 b4 b5 b6 b7 b8 b9 hT3
 have hd:=DM.mk b7 b8 b9 hT3.2.2.2.2.2.1 hT3.2.2.2.2.2.2 b1 b2 b3 b4 b5 b6 (((uh HO).mono (Nat.le_succ _)).later b7)
 clear hW3 b1 b2 b3 b4 b5 b6 b7 b8 b9 hT3 hT2 g0 g1 g2 g3 gf gf2 hq hr hb2
 go_fit (zqn u8 _ _)
 rintro e W4 ⟨rfl,hb4⟩
 have hd:=hd.keep hb4
 have e1:=hd.o0;have e2:=hd.o1;have e3:=hd.q0;have e4:=hd.q1;have e5:=hd.r0;have e6:=hd.r1
 obtain ⟨f1,f2⟩:=hd.frozen
 by_cases hr0:0<=sgn u8
 ·go_wp2_with fail
  go_region
  all_goals go_wp2
  all_goals (obtain ⟨b1,b2,b3,b4,b5,b6,b7,b8,b9⟩:=zjl hd.below hd.box1 hd.box2 hd.zq hd.zr)
  all_goals exact bodyPost_ret (v:=.tuple #[.agg #[.int .i64 u7,.slice a7 n7 c7],.agg #[.int .i64 u8,.slice a8 n8 c8],.bool true]) (by simp [results,Tryz.results162,go_sem,b1,b2,b3,b4]) rfl ⟨⟨_,_,_,_,rfl,b5.mono (by omega),b6.mono (by omega),uh HEQ,(by have:=uh hsr;rcases zqo r with ⟨a,b,c⟩ | ⟨a,b,c⟩ | ⟨a,b,c⟩ <;> omega),(by have:=uh hsr;have:=uh HLT;rcases zqo r with ⟨a,b,c⟩ | ⟨a,b,c⟩ | ⟨a,b,c⟩ <;> omega)⟩,(by first | exact b7 | exact b7.drew)⟩
 ·have hneg:Hid (r<0):=by
   have:=uh hsr
   rcases zqo r with ⟨a,b,c⟩ | ⟨a,b,c⟩ | ⟨a,b,c⟩
   ·exact a
   ·omega
   ·omega
  go_wp2_with fail
  go_fit (zqn y _ _)
  rintro e W5 ⟨rfl,hb5⟩
  rw [uh HSY]
  have hd5:=hd.keep hb5
  clear e1 e2 e3 e4 e5 e6 f1 f2 hd
  have e1:=hd5.o0;have e2:=hd5.o1;have e3:=hd5.q0;have e4:=hd5.q1;have e5:=hd5.r0;have e6:=hd5.r1
  obtain ⟨f1,f2⟩:=hd5.frozen
  have hd0:=hd5.drew
  go_wp2_with fail
  go_region_with (first | (go_at_call 102;go_fit (of_any 1 _);rintro e w7 ⟨rfl,hb7⟩;have hd1:=hd0.keep hb7;have e11:=hd1.o0;have e12:=hd1.o1;have e13:=hd1.q0;have e14:=hd1.q1;have e15:=hd1.r0;have e16:=hd1.r1) | (go_at_call 111;go_fit (add_any (N:=N+1) (z:=q) (o:=1) _ hd1.zq (Zr.near _ (by decide) (by decide)) (by omega));rintro e w8 ⟨⟨v8,rfl,hZ8⟩,hb8⟩;obtain ⟨v1,s1,m1,k1,hv8⟩:=hZ8.shape;subst hv8;have hd2:=hd1.keep hb8;have e21:=hd2.o0;have e22:=hd2.o1;have e23:=hd2.q0;have e24:=hd2.q1;have e25:=hd2.r0;have e26:=hd2.r1) | (go_at_call 195;go_fit (sub_any (N:=N+1) (z:=r) (o:=o) _ hd2.zr hd2.zo (by omega));rintro e w9 ⟨⟨v9,rfl,hZ9⟩,hb9⟩;obtain ⟨v2,s2,m2,k2,hv9⟩:=hZ9.shape;subst hv9;have hd3:=hd2.keep hb9;have e33:=hd3.q0;have e34:=hd3.q1;have e35:=hd3.r0;have e36:=hd3.r1;obtain ⟨f31,f32⟩:=hd3.frozen))
  all_goals go_wp2
  all_goals (obtain ⟨b1,b2,b3,b4,b5,b6,b7,b8,b9⟩:=zjl hd3.below hd3.box1 hd3.box2 (hZ8.later hb9) hZ9)
  all_goals (obtain ⟨t1,t2,t3⟩:=divmod_down (uh HEQ) (uh hneg) (uh HLT) (uh HO0))
  all_goals exact bodyPost_ret (v:=.tuple #[.agg #[.int .i64 v1,.slice s1 m1 k1],.agg #[.int .i64 v2,.slice s2 m2 k2],.bool true]) (by simp [results,Tryz.results162,go_sem,b1,b2,b3,b4]) rfl ⟨⟨_,_,_,_,rfl,b5.mono (by omega),b6.mono (by omega),t1,t2,t3⟩,(by first | exact b7 | exact b7.drew)⟩
end Go.Proofs.YtkdobjmhammhbaaGreatDoor
