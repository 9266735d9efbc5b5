import Derived.Test.YtkdobjmhammhbaaGreatDoorMQD
import Derived.Test.YtkdobjmhammhbaaGreatDoorMSD
namespace Go.Proofs.YtkdobjmhammhbaaGreatDoor
set_option maxHeartbeats 40000000
set_option maxRecDepth 8000
open Go.RowKit
theorem fsize_any (mi me:Bool) (l u b x:ByteArray) (us es:Nat) (A:Nat->Addr) (w:World) (hl:Figs l) (hu:Figs u) (hb:Figs b) (hx:Figs x) (hT:Tab64 w)
 (h1:w.cell? ⟨1,0,none⟩=some (.iface 324 (.pointer (some (A 0))))) (h2:w.cell? ⟨2,0,none⟩=some (.iface 324 (.pointer (some (A 1))))) (h3:w.cell? ⟨3,0,none⟩=some (.iface 324 (.pointer (some (A 2))))) :
 Calls Tryz.prog 68 #[figs mi me l u b x us es] w fun e w'=>SzP mi me l u b x us es A e w'/\Below w.heap.size w w':=by
 have H1:=qh h1
 have H2:=qh h2
 have H3:=qh h3
 have HL:=qh hl
 have HU:=qh hu
 have HB:=qh hb
 have HX:=qh hx
 have HTT:=qh hT
 clear h1 h2 h3 hl hu hb hx hT
 have hst:=SK.start w mi me l u b x us es
 unfold figs
 go_enter Tryz.func68,Tryz.ntmps68
 go_upto_region 1 with fail
 obtain ⟨W0,hW0⟩:∃ W0,W0=(w.alloc (.cells #[.bool mi,.bool me,.string l,.string u,.string b,.string x,.int .i64 (us:Int),.int .i64 (es:Int)] 137)).alloc (.cells #[.int .i64 0,.slice none 0 0,.int .i64 0,.slice none 0 0] 39):=⟨_,rfl⟩
 rw [<- hW0] at hst ⊢
 clear hW0
 have e2:=hst.fg.c2
 go_wp2_with fail
 go_fit (number_any l _ _ _ _ _ (uh HL) (ck hst.below (uh H1)) (ck hst.below (uh H2)))
 rintro e W1 ⟨⟨v1,rfl,hZ1⟩,hb1⟩
 obtain ⟨i1,i2,i3,i4,rfl⟩:=hZ1.shape
 have hst1:=hst.keep hb1
 clear hst hb1 e2
 go_wp2_with fail
 go_fit (of_any 1 _)
 rintro e W2 ⟨rfl,hb2⟩
 have hst2:=(hst1.keep hb2).keep (zqm W2 (.cells #[.int .i64 i1,.slice i2 i3 i4] 37) (.cells #[.int .i64 1,.slice none 0 0] 37))
 have hnum2:=(Vr.new (hZ1.later hb2)).keep (zqa (W2.alloc (.cells #[.int .i64 i1,.slice i2 i3 i4] 37)) (.cells #[.int .i64 1,.slice none 0 0] 37))
 have hden2:Vr ((W2.alloc (.cells #[.int .i64 i1,.slice i2 i3 i4] 37)).alloc (.cells #[.int .i64 1,.slice none 0 0] 37)) (W2.heap.size+1) 1 none 0 0 16 1:=by
  have h:=Vr.new (w:=W2.alloc (.cells #[.int .i64 i1,.slice i2 i3 i4] 37)) (u:=1) (a:=none) (n:=0) (c:=0) (z:=1) (Zr.near 16 (by decide) (by decide))
  rw [show (W2.alloc (.cells #[.int .i64 i1,.slice i2 i3 i4] 37)).heap.size=W2.heap.size+1 by simp] at h
  exact h
 have l2:=(hst1.keep hb2).lt
 clear hst1 hb2 hZ1
 go_upto_region 2 with fail
 obtain ⟨W3,hW3⟩:∃ W3,W3=(W2.alloc (.cells #[.int .i64 i1,.slice i2 i3 i4] 37)).alloc (.cells #[.int .i64 1,.slice none 0 0] 37):=⟨_,rfl⟩
 rw [<- hW3] at hst2 hnum2 hden2 ⊢
 clear hW3
 generalize W2.heap.size=nb at hnum2 hden2 l2 ⊢
 have e3:=hst2.fg.c3
 go_upto_if 16 with fail
 go_cut [] (fun wx=>∃ d0 d1 d2 d3 dz,Vr wx nb i1 i2 i3 i4 16 (dB l)/\Vr wx (nb+1) d0 d1 d2 d3 16 dz/\SK w mi me l u b x us es wx/\Hid (dz=if u.size=0 then 1 else dB u))
 case first =>
  by_cases hu:u.size=0
  ·have hu0:=empty_yes hu
   rw [hu0]
   go_wp2
   go_meet
   exact ⟨_,_,_,_,_,hnum2,hden2,hst2,by show _=_;rw [if_pos hu]⟩
  ·have hu0:=empty_no hu
   rw [hu0]
   go_wp2_with fail
   go_fit (number_any u _ _ _ _ _ (uh HU) (ck hst2.below (uh H1)) (ck hst2.below (uh H2)))
   rintro e W4 ⟨⟨v4,rfl,hZ4⟩,hb4⟩
   obtain ⟨j1,j2,j3,j4,rfl⟩:=hZ4.shape
   have hst4:=hst2.keep hb4
   have hnum4:=hnum2.keep hb4
   have hden4:=hden2.keep hb4
   clear hb4 e3
   have b0:=hden4.c0
   have b1:=hden4.c1
   obtain ⟨_,_,bf⟩:=hden4.box.cells
   have lb:=hden4.lt
   go_wp2
   go_meet
   exact ⟨_,_,_,_,_,hnum4.other hden4.box (by omega) _ _ _ _,hden4.store hZ4,hst4.beside (by omega) _ _,by show _=_;rw [if_neg hu]⟩
 case rest =>
 clear hnum2 hden2 hst2 e3
 obtain ⟨d0,d1,d2,d3,dz,hnum,hden,hst,HDZ⟩:=hcut
 obtain ⟨X,rfl⟩:∃ X,X=wc:=⟨_,rfl⟩
 have e4:=hst.fg.c4
 go_upto_if 22 with fail
 go_cut [] (fun wx=>∃ n0 n1 n2 n3 d0 d1 d2 d3 nz dz,Vr wx nb n0 n1 n2 n3 33 nz/\Vr wx (nb+1) d0 d1 d2 d3 16 dz/\SK w mi me l u b x us es wx/\Hid (nz=figNum l b/\dz=figDen u b))
 case first =>
  by_cases hb:b.size=0
  ·have hb0:=empty_yes hb
   rw [hb0]
   go_wp2
   go_meet
   exact ⟨_,_,_,_,_,_,_,_,_,_,hnum.mono (by decide),hden,hst,by unfold figNum;rw [if_pos hb],by rw [uh HDZ];unfold figDen;rw [if_pos hb]⟩
  ·have hb0:=empty_no hb
   rw [hb0]
   have lb3:=(uh HB).2
   go_wp2_with fail
   go_fit (tenTo_any b.size _ lb3)
   rintro e W4 ⟨⟨v4,rfl,hZ4⟩,hb4⟩
   obtain ⟨j1,j2,j3,j4,rfl⟩:=hZ4.shape
   have hst4:=hst.keep hb4
   have hnum4:=hnum.keep hb4
   have hden4:=hden.keep hb4
   clear hb4 e4 hst hnum hden
   have b0:=hden4.c0
   have b1:=hden4.c1
   obtain ⟨_,_,bf⟩:=hden4.box.cells
   have lb:=hden4.lt
   have hst5:=hst4.beside (q:=nb+1) (by omega) (.int .i64 j1) (.slice j2 j3 j4)
   have hnum5:=hnum4.other hden4.box (by omega) j1 j2 j3 j4
   have hden5:=hden4.store hZ4
   go_upto_region 6 with fail
   obtain ⟨W5,hW5⟩:∃ W5,W5=(W4.setCell ⟨nb+1,0,none⟩ (.int .i64 j1)).setCell ⟨nb+1,1,none⟩ (.slice j2 j3 j4):=⟨_,rfl⟩
   rw [<- hW5] at hst5 hnum5 hden5 ⊢
   clear hW5 b0 b1 bf lb hst4 hnum4 hden4 hZ4
   have e4:=hst5.fg.c4
   have f0:=hnum5.c0
   have f1:=hnum5.c1
   have f2:=hden5.c0
   have f3:=hden5.c1
   have hstd:=hst5.drew
   have hnumd:=hnum5.drew
   have hdend:=hden5.drew
   go_region_with (first | (go_at_call 132;go_fit (mul_any (N:=15) _ hnumd.zr hdend.zr (by decide));rintro e q1 ⟨⟨w1,rfl,hM1⟩,hb1⟩;obtain ⟨k1,k2,k3,k4,rfl⟩:=hM1.shape;have hs1:=hstd.keep hb1;have e4:=hs1.fg.c4) | (go_at_call 130;go_fit (number_any b _ _ _ _ _ (uh HB) (ck hs1.below (uh H1)) (ck hs1.below (uh H2)));rintro e q2 ⟨⟨w2,rfl,hM2⟩,hb2⟩;obtain ⟨k5,k6,k7,k8,rfl⟩:=hM2.shape;have hs2:=hs1.keep hb2) | (go_at_call 111;go_fit (add_any (N:=31) _ (hM1.later hb2) (hM2.mono (by decide)) (by decide));rintro e q3 ⟨⟨w3,rfl,hM3⟩,hb3⟩;obtain ⟨k9,k10,k11,k12,rfl⟩:=hM3.shape;have hs3:=hs2.keep hb3;have hn3:=((hnumd.keep hb1).keep hb2).keep hb3;have hd3:=((hdend.keep hb1).keep hb2).keep hb3;have g0:=hn3.c0;have g1:=hn3.c1;obtain ⟨_,_,gf⟩:=hn3.box.cells;have lg:=hn3.lt))
   all_goals (
    go_wp2
    go_meet
    exact ⟨_,_,_,_,_,_,_,_,_,_,hn3.store hM3,hd3.other hn3.box (by omega) _ _ _ _,hs3.beside (by omega) _ _,by unfold figNum;rw [if_neg hb],by unfold figDen;rw [if_neg hb]⟩)
 case rest =>
 clear hnum hden hst e4 HDZ
 obtain ⟨n0,n1,n2,n3,d0,d1,d2,d3,nz,dz,hnum,hden,hst,HND⟩:=hcut
 obtain ⟨Y,rfl⟩:∃ X,X=wc:=⟨_,rfl⟩
 have e5:=hst.fg.c5
 go_wp2_with fail
 go_fit (number_any x _ _ _ _ _ (uh HX) (ck hst.below (uh H1)) (ck hst.below (uh H2)))
 rintro e V1 ⟨⟨v1,rfl,hX1⟩,hb1⟩
 obtain ⟨j1,j2,j3,j4,rfl⟩:=hX1.shape
 have hst1:=hst.keep hb1
 have hnum1:=hnum.keep hb1
 have hden1:=hden.keep hb1
 clear hb1 hst hnum hden e5
 go_wp2_with fail
 go_fit (int64_any (N:=16) _ hX1)
 rintro e V2 ⟨hi,hb2⟩
 have hst2:=hst1.keep hb2
 have hnum2:=hnum1.keep hb2
 have hden2:=hden1.keep hb2
 clear hb2 hst1 hnum1 hden1 hX1
 have hx0:=(uh HX).bound.1
 obtain ⟨X9,HX9⟩:∃ X9,Hid (dB x=X9):=⟨_,rfl⟩
 rw [show dB x=X9 from uh HX9] at hi hx0
 rcases hi with ⟨x1,x2,rfl⟩ | ⟨x1,rfl⟩
 ·by_cases h60:60<X9
  ·have HFS:Hid (figSaid mi me l u b x us es=.inl (1+1,es)):=by
    show _=_
    unfold figSaid
    rw [if_pos (by rw [show dB x=X9 from uh HX9];omega)]
   have e0:=hst2.rb.cells
   obtain ⟨⟨x0,g0⟩,⟨a0,n0,c0,g1⟩,⟨x1,g2⟩,⟨a1,n1,c1,g3⟩,gf⟩:=e0
   have hlt:=hst2.lt
   have lq:w.heap.size<V2.heap.size:=by omega
   have ek:=hst2.fg.c7
   have ge:=ck hst2.below (uh H2)
   have lg:=World.block_lt_of_cell? w _ (uh H2)
   go_wp2
   go_region
   all_goals go_wp2
   obtain ⟨s0,s1,s2,s3,q0,q1,hB⟩:=hst2.fault (.int .i64 (es:Nat)) (.iface 324 (.pointer (some (A 1)))) 166
   exact bodyPost_ret (v:=.tuple #[.agg #[.int .i64 0,.slice none 0 0,.int .i64 0,.slice none 0 0],.iface 162 (.pointer (some ⟨V2.heap.size,0,none⟩))]) (by simp [results,Tryz.results68,go_sem,s0,s1,s2,s3]) rfl ⟨Or.inl ⟨1,es,V2.heap.size,uh HFS,by decide,rfl,q0,q1⟩,hB.drew⟩
  ·have h60i:¬ (60:Int)<X9:=h60
   obtain ⟨y,rfl⟩:∃ y:Nat,X9=y:=⟨X9.toNat,by omega⟩
   have hy:y<=60:=by omega
   have e1:=hst2.fg.c1
   clear x1 x2 hx0
   go_upto_if 55 with fail
   go_cut [] (fun wx=>∃ n0 n1 n2 n3 d0 d1 d2 d3 nz dz,Vr wx nb n0 n1 n2 n3 36 nz/\Vr wx (nb+1) d0 d1 d2 d3 36 dz/\SK w mi me l u b x us es wx/\Hid ((dz=0->figSaid mi me l u b x us es=.inl (2+1,us))/\(dz≠0->0<dz/\figSaid mi me l u b x us es=.inr (signed mi nz,dz))))
   case first =>
    cases hme:me
    ·have hme:me=false:=hme
     subst hme
     go_upto_region 12 with fail
     have f0:=hnum2.c0
     have f1:=hnum2.c1
     have hstd:=hst2.drew
     have hnumd:=hnum2.drew
     have hdend:=hden2.drew
     go_region_with (first | (go_at_call 131;go_fit (tenTo_any y _ (by omega));rintro e q1 ⟨⟨w1,rfl,hM1⟩,hb1⟩;obtain ⟨k1,k2,k3,k4,rfl⟩:=hM1.shape;have hs1:=hstd.keep hb1;have f0:=(hnumd.keep hb1).c0;have f1:=(hnumd.keep hb1).c1) | (go_at_call 132;go_fit (mul_any (N:=32) _ (hnumd.zr.later hb1) (hM1.mono (by decide)) (by decide));rintro e q2 ⟨⟨w2,rfl,hM2⟩,hb2⟩;obtain ⟨k5,k6,k7,k8,rfl⟩:=hM2.shape;have hs2:=hs1.keep hb2;have hn2:=(hnumd.keep hb1).keep hb2;have hd2:=(hdend.keep hb1).keep hb2;have g0:=hn2.c0;have g1:=hn2.c1;obtain ⟨_,_,gf⟩:=hn2.box.cells;have lg:=hn2.lt))
     all_goals (
      have hdd:=figNum_small (uh HL) (uh HB)
      rw [<- (uh HND).1] at hdd
      have hde:=figDen_small (uh HU) (uh HB)
      rw [<- (uh HND).2] at hde
      have hM3:=scaled_tight (M:=36) (k:=600) hM2 hdd.1 hdd.2 hy (by decide)
      have HF:Hid ((dz=0->figSaid mi false l u b x us es=.inl (2+1,us))/\(dz≠0->0<dz/\figSaid mi false l u b x us es=.inr (signed mi (nz*10 ^ y),dz))):=by
       have hq:figSaid mi false l u b x us es=if figDen u b=0 then .inl (3,us) else .inr (signed mi (figNum l b*10 ^ y),figDen u b):=by
        unfold figSaid;rw [show dB x=_ from uh HX9,if_neg (by omega)];simp
       rw [hq,<- (uh HND).1,<- (uh HND).2]
       exact ⟨fun h=>if_pos h,fun h=>⟨by omega,if_neg h⟩⟩
      clear hdd hde hM2
      go_wp2
      go_meet
      exact ⟨_,_,_,_,_,_,_,_,_,_,hn2.store hM3,(hd2.other hn2.box (by omega) _ _ _ _).mono (by decide),hs2.beside (by omega) _ _,HF⟩)
    ·have hme:me=true:=hme
     subst hme
     go_upto_region 11 with fail
     have f0:=hden2.c0
     have f1:=hden2.c1
     have hstd:=hst2.drew
     have hnumd:=hnum2.drew
     have hdend:=hden2.drew
     go_region_with (first | (go_at_call 131;go_fit (tenTo_any y _ (by omega));rintro e q1 ⟨⟨w1,rfl,hM1⟩,hb1⟩;obtain ⟨k1,k2,k3,k4,rfl⟩:=hM1.shape;have hs1:=hstd.keep hb1;have f0:=(hdend.keep hb1).c0;have f1:=(hdend.keep hb1).c1) | (go_at_call 132;go_fit (mul_any (N:=15) _ (hdend.zr.later hb1) (hM1.mono (by decide)) (by decide));rintro e q2 ⟨⟨w2,rfl,hM2⟩,hb2⟩;obtain ⟨k5,k6,k7,k8,rfl⟩:=hM2.shape;have hs2:=hs1.keep hb2;have hn2:=(hnumd.keep hb1).keep hb2;have hd2:=(hdend.keep hb1).keep hb2;have g0:=hd2.c0;have g1:=hd2.c1;obtain ⟨_,_,gf⟩:=hd2.box.cells;have lg:=hd2.lt))
     all_goals (
      have hdd:=figDen_small (uh HU) (uh HB)
      rw [<- (uh HND).2] at hdd
      have hM3:=scaled_tight (M:=36) (k:=301) hM2 hdd.1 hdd.2 hy (by decide)
      have HF:Hid ((dz*10 ^ y=0->figSaid mi true l u b x us es=.inl (2+1,us))/\(dz*10 ^ y≠0->0<dz*10 ^ y/\figSaid mi true l u b x us es=.inr (signed mi nz,dz*10 ^ y))):=by
       have hp:=zki y
       have hq:figSaid mi true l u b x us es=if figDen u b=0 then .inl (3,us) else .inr (signed mi (figNum l b),figDen u b*10 ^ y):=by
        unfold figSaid;rw [show dB x=_ from uh HX9,if_neg (by omega)];simp
       rw [hq,<- (uh HND).1,<- (uh HND).2]
       refine ⟨fun h => ?_,fun h => ?_⟩
       ·rcases Int.mul_eq_zero.1 h with h | h
        ·rw [if_pos h]
        ·omega
       ·have hne:dz≠0:=fun h0=>h (by rw [h0,Int.zero_mul])
        exact ⟨Int.mul_pos (by omega) hp,by rw [if_neg hne]⟩
      clear hdd hM2
      go_wp2
      go_meet
      exact ⟨_,_,_,_,_,_,_,_,_,_,(hn2.other hd2.box (by omega) _ _ _ _).mono (by decide),hd2.store hM3,hs2.beside (by omega) _ _,HF⟩)
   case rest =>
   clear hnum2 hden2 hst2 e1 HND
   obtain ⟨n0,n1,n2,n3,d0,d1,d2,d3,nz,dz,hnum,hden,hst,HF⟩:=hcut
   obtain ⟨Z9,rfl⟩:∃ X,X=wc:=⟨_,rfl⟩
   have f0:=hnum.c0
   have f1:=hnum.c1
   have f2:=hden.c0
   have f3:=hden.c1
   go_wp2_with fail
   go_fit (rof_ratio (N:=35) _ hnum.zr hden.zr (by decide) ((uh HTT).later hst.below))
   rintro e V5 ⟨ho,hb5⟩
   have hst5:=hst.keep hb5
   clear f0 f1 f2 f3 hb5 hnum hden hst
   rcases ho with ⟨rfl,rfl⟩ | ⟨ho,v5,P,D,rfl,hR,hE⟩
   ·have HFS:=qh ((uh HF).1 rfl)
    obtain ⟨⟨x0,g0⟩,⟨a0,n0,c0,g1⟩,⟨x1,g2⟩,⟨a1,n1,c1,g3⟩,gf⟩:=hst5.rb.cells
    have hlt:=hst5.lt
    have lq:w.heap.size<V5.heap.size:=by omega
    have ek:=hst5.fg.c6
    have ge:=ck hst5.below (uh H3)
    have lg:3<w.heap.size:=World.block_lt_of_cell? w _ (uh H3)
    have lg5:3<V5.heap.size:=by omega
    go_wp2
    go_region
    all_goals go_wp2
    obtain ⟨s0,s1,s2,s3,q0,q1,hB⟩:=hst5.fault2 (.int .i64 (us:Nat)) (.iface 324 (.pointer (some (A 2)))) 166 (.cells #[.int .i64 0,.slice none 0 0,.int .i64 0,.slice none 0 0] 39)
    exact bodyPost_ret (v:=.tuple #[.agg #[.int .i64 0,.slice none 0 0,.int .i64 0,.slice none 0 0],.iface 162 (.pointer (some ⟨V5.heap.size+1,0,none⟩))]) (by simp [results,Tryz.results68,go_sem,s0,s1,s2,s3]) rfl ⟨Or.inl ⟨2,us,V5.heap.size+1,uh HFS,by decide,rfl,q0,q1⟩,hB.drew⟩
   ·have HFS:=qh ((uh HF).2 ho)
    have HE:=qh hE
    clear hE
    obtain ⟨k1,k2,k3,k4,k5,k6,k7,k8,k9,rfl,hP,hD,D0,hG,hDE⟩:=hR
    have HG:=qh hG
    have HDE:=qh hDE
    clear hG hDE
    obtain ⟨⟨x0,g0⟩,⟨a0,n0,c0,g1⟩,⟨x1,g2⟩,⟨a1,n1,c1,g3⟩,gf⟩:=hst5.rb.cells
    have hlt:=hst5.lt
    go_wp2
    obtain ⟨s0,s1,s2,s3⟩:=hst5.rb.stored (.int .i64 k1) (.slice k2 k3 k4) (.int .i64 k5) (.slice k6 k7 k8)
    have kk:=zqa ((((V5.setCell ⟨w.heap.size+1,0,none⟩ (.int .i64 k1)).setCell ⟨w.heap.size+1,1,none⟩ (.slice k2 k3 k4)).setCell ⟨w.heap.size+1,2,none⟩ (.int .i64 k5)).setCell ⟨w.heap.size+1,3,none⟩ (.slice k6 k7 k8)) (.cells #[.int .i64 k1,.slice k2 k3 k4,.int .i64 k5,.slice k6 k7 k8] 39)
    have s0:=ck kk s0
    have s1:=ck kk s1
    have s2:=ck kk s2
    have s3:=ck kk s3
    exact bodyPost_ret (v:=.tuple #[.agg #[.int .i64 k1,.slice k2 k3 k4,.int .i64 k5,.slice k6 k7 k8],.nilIface]) (by simp [results,Tryz.results68,go_sem,s0,s1,s2,s3]) rfl ⟨Or.inr ⟨nz,dz,_,P,D,(uh HFS).2,(uh HFS).1,rfl,⟨_,_,_,_,_,_,_,_,k9,rfl,(hP.rstored hst5.rb _ _ _ _).later kk,(hD.rstored hst5.rb _ _ _ _).later kk,D0,uh HG,uh HDE⟩,uh HE⟩,bk kk (zqf hst5.below (by omega) _ _ _ _)⟩
 ·have x3:9223372036854775807<X9:=by omega
  have HFS:Hid (figSaid mi me l u b x us es=.inl (1+1,es)):=by
   show _=_
   unfold figSaid
   rw [if_pos (by rw [show dB x=X9 from uh HX9];omega)]
  have e0:=hst2.rb.cells
  obtain ⟨⟨x0,g0⟩,⟨a0,n0,c0,g1⟩,⟨x1,g2⟩,⟨a1,n1,c1,g3⟩,gf⟩:=e0
  have hlt:=hst2.lt
  have lq:w.heap.size<V2.heap.size:=by omega
  have ek:=hst2.fg.c7
  have ge:=ck hst2.below (uh H2)
  have lg:=World.block_lt_of_cell? w _ (uh H2)
  go_wp2
  go_region
  all_goals go_wp2
  obtain ⟨s0,s1,s2,s3,q0,q1,hB⟩:=hst2.fault (.int .i64 (es:Nat)) (.iface 324 (.pointer (some (A 1)))) 166
  exact bodyPost_ret (v:=.tuple #[.agg #[.int .i64 0,.slice none 0 0,.int .i64 0,.slice none 0 0],.iface 162 (.pointer (some ⟨V2.heap.size,0,none⟩))]) (by simp [results,Tryz.results68,go_sem,s0,s1,s2,s3]) rfl ⟨Or.inl ⟨1,es,V2.heap.size,uh HFS,by decide,rfl,q0,q1⟩,hB.drew⟩
def RdP (s:ByteArray) (A:Nat->Addr) (e:Ending) (w':World):Prop :=
 (∃ c k pb,said s=.inl (c+1,k)/\c<3/\e=.returned (.tuple #[.agg #[.int .i64 0,.slice none 0 0,.int .i64 0,.slice none 0 0],.iface 162 (.pointer (some ⟨pb,0,none⟩))])/\w'.cell? ⟨pb,0,none⟩=some (.int .i64 (k:Nat))/\w'.cell? ⟨pb,1,none⟩=some (.iface 324 (.pointer (some (A c))))) \/
 (∃ p q v P D,said s=.inr (p,q)/\0<q/\e=.returned (.tuple #[v,.nilIface])/\Rr 78 w' v P D/\P*q=p*D)
theorem pb_not_rbox {w:World}{r pb:Nat}{t:TypeId}{v:Value} (h:RBox w r) (hc:w.cell? ⟨pb,1,none⟩=some (.iface t v)):r≠pb:=by
 rintro rfl
 obtain ⟨_,⟨a,n,c,h1⟩,_⟩:=h.cells
 rw [h1] at hc
 exact absurd (Option.some.inj hc) (by simp)
theorem pb_rstored {w:World}{pb r o:Nat}{v u0 u1 u2 u3:Value} (h:w.cell? ⟨pb,o,none⟩=some v) (hne:r≠pb):((((w.setCell ⟨r,0,none⟩ u0).setCell ⟨r,1,none⟩ u1).setCell ⟨r,2,none⟩ u2).setCell ⟨r,3,none⟩ u3).cell? ⟨pb,o,none⟩=some v:=by
 rw [zqb _ _ _ _ _ _ (by omega),zqb _ _ _ _ _ _ (by omega),zqb _ _ _ _ _ _ (by omega),zqb _ _ _ _ _ _ (by omega)];exact h
theorem qread_any (s:ByteArray) (A:Nat->Addr) (w:World) (hs:s.size<=9223372036854775807) (hT:Tab64 w)
 (h1:w.cell? ⟨1,0,none⟩=some (.iface 324 (.pointer (some (A 0))))) (h2:w.cell? ⟨2,0,none⟩=some (.iface 324 (.pointer (some (A 1))))) (h3:w.cell? ⟨3,0,none⟩=some (.iface 324 (.pointer (some (A 2))))) :
 Calls Tryz.prog 29 #[.string s] w fun e w'=>RdP s A e w'/\Below w.heap.size w w':=by
 have hbx:=zkw w 0 none 0 0 0 none 0 0
 have hk:=zqa w (.cells #[.int .i64 0,.slice none 0 0,.int .i64 0,.slice none 0 0] 39)
 have H1:=qh h1
 have H2:=qh h2
 have H3:=qh h3
 have HTT:=qh hT
 clear h1 h2 h3 hT
 go_enter Tryz.func29,Tryz.ntmps29
 go_wp2_with fail
 go_fit (split_any s A _ hs (ck hk (uh H1)) (ck hk (uh H2)))
 rintro e W1 ⟨⟨mi,me,l,u,b,x,us,es,hc⟩,hb1⟩
 have hbx1:=hbx.later hb1
 have hk1:=bk hb1 hk
 have hlt:=hbx1.lt
 clear hbx hk hb1
 rcases hc with ⟨c,k,pb,hsd,hc3,rfl,q0,q1⟩ | ⟨rfl,hsd,fl,fu,fb,fx⟩
 ·have HSD:=qh hsd
  clear hsd
  have hne:=pb_not_rbox hbx1 q1
  obtain ⟨⟨x0,g0⟩,⟨a0,n0,c0,g1⟩,⟨x1,g2⟩,⟨a1,n1,c1,g3⟩,gf⟩:=hbx1.cells
  unfold figs
  go_wp2
  obtain ⟨s0,s1,s2,s3⟩:=hbx1.stored (.int .i64 0) (.slice none 0 0) (.int .i64 0) (.slice none 0 0)
  have kk:=zqa ((((W1.setCell ⟨w.heap.size,0,none⟩ (.int .i64 0)).setCell ⟨w.heap.size,1,none⟩ (.slice none 0 0)).setCell ⟨w.heap.size,2,none⟩ (.int .i64 0)).setCell ⟨w.heap.size,3,none⟩ (.slice none 0 0)) (.cells #[.bool mi,.bool me,.string l,.string u,.string b,.string x,.int .i64 (us:Int),.int .i64 (es:Int)] 137)
  have s0:=ck kk s0
  have s1:=ck kk s1
  have s2:=ck kk s2
  have s3:=ck kk s3
  exact bodyPost_ret (v:=.tuple #[.agg #[.int .i64 0,.slice none 0 0,.int .i64 0,.slice none 0 0],.iface 162 (.pointer (some ⟨pb,0,none⟩))]) (by simp [results,Tryz.results29,go_sem,s0,s1,s2,s3]) rfl ⟨Or.inl ⟨c,k,pb,uh HSD,by omega,rfl,ck kk (pb_rstored q0 hne),ck kk (pb_rstored q1 hne)⟩,bk kk (zqf hk1 (Nat.le_refl _) _ _ _ _)⟩
 ·have HSD:=qh hsd
  clear hsd
  unfold figs
  have hf:Fg (W1.alloc (.cells #[.bool mi,.bool me,.string l,.string u,.string b,.string x,.int .i64 (us:Int),.int .i64 (es:Int)] 137)) W1.heap.size mi me l u b x us es:=heap_alloc_new W1 _
  have kf:=zqa W1 (.cells #[.bool mi,.bool me,.string l,.string u,.string b,.string x,.int .i64 (us:Int),.int .i64 (es:Int)] 137)
  have hbx2:=hbx1.later kf
  have hk2:=bk kf hk1
  clear hbx1 hk1 kf
  go_wp2_with fail
  go_fit (fsize_any mi me l u b x us es A _ fl fu fb fx ((uh HTT).later hk2) (ck hk2 (uh H1)) (ck hk2 (uh H2)) (ck hk2 (uh H3)))
  rintro e W2 ⟨hc,hb2⟩
  have hbx3:=hbx2.later hb2
  have hk3:=bk hb2 hk2
  have hf3:=hf.later hb2
  have e0:=hf3.c0
  have hlf:=hf3.lt
  have hlt3:=hbx3.lt
  clear hbx2 hk2 hf hb2
  rcases hc with ⟨c,k,pb,hsd,hc3,rfl,q0,q1⟩ | ⟨p,q,v,P,D,hsd,hq,rfl,hR,hE⟩
  ·have HS2:=qh ((uh HSD).trans hsd)
   clear hsd
   have hne:=pb_not_rbox hbx3 q1
   obtain ⟨⟨x0,g0⟩,⟨a0,n0,c0,g1⟩,⟨x1,g2⟩,⟨a1,n1,c1,g3⟩,gf⟩:=hbx3.cells
   go_wp2
   obtain ⟨s0,s1,s2,s3⟩:=hbx3.stored (.int .i64 0) (.slice none 0 0) (.int .i64 0) (.slice none 0 0)
   have kk:=zqa ((((W2.setCell ⟨w.heap.size,0,none⟩ (.int .i64 0)).setCell ⟨w.heap.size,1,none⟩ (.slice none 0 0)).setCell ⟨w.heap.size,2,none⟩ (.int .i64 0)).setCell ⟨w.heap.size,3,none⟩ (.slice none 0 0)) (.cells #[.int .i64 0,.slice none 0 0,.int .i64 0,.slice none 0 0] 39)
   have s0:=ck kk s0
   have s1:=ck kk s1
   have s2:=ck kk s2
   have s3:=ck kk s3
   exact bodyPost_ret (v:=.tuple #[.agg #[.int .i64 0,.slice none 0 0,.int .i64 0,.slice none 0 0],.iface 162 (.pointer (some ⟨pb,0,none⟩))]) (by simp [results,Tryz.results29,go_sem,s0,s1,s2,s3]) rfl ⟨Or.inl ⟨c,k,pb,uh HS2,hc3,rfl,ck kk (pb_rstored q0 hne),ck kk (pb_rstored q1 hne)⟩,bk kk (zqf hk3 (Nat.le_refl _) _ _ _ _)⟩
  ·have HS2:=qh ((uh HSD).trans hsd)
   have HE:=qh hE
   clear hsd hE
   have hR0:=hR
   obtain ⟨k1,k2,k3,k4,k5,k6,k7,k8,k9,rfl,hP,hD,D0,hG,hDE⟩:=hR
   have HG:=qh hG
   have HDE:=qh hDE
   clear hG hDE
   cases mi
   ·obtain ⟨⟨x0,g0⟩,⟨a0,n0,c0,g1⟩,⟨x1,g2⟩,⟨a1,n1,c1,g3⟩,gf⟩:=hbx3.cells
    go_wp2
    obtain ⟨s0,s1,s2,s3⟩:=hbx3.stored (.int .i64 k1) (.slice k2 k3 k4) (.int .i64 k5) (.slice k6 k7 k8)
    have kk:=zqa ((((W2.setCell ⟨w.heap.size,0,none⟩ (.int .i64 k1)).setCell ⟨w.heap.size,1,none⟩ (.slice k2 k3 k4)).setCell ⟨w.heap.size,2,none⟩ (.int .i64 k5)).setCell ⟨w.heap.size,3,none⟩ (.slice k6 k7 k8)) (.cells #[.int .i64 k1,.slice k2 k3 k4,.int .i64 k5,.slice k6 k7 k8] 39)
    have s0:=ck kk s0
    have s1:=ck kk s1
    have s2:=ck kk s2
    have s3:=ck kk s3
    exact bodyPost_ret (v:=.tuple #[.agg #[.int .i64 k1,.slice k2 k3 k4,.int .i64 k5,.slice k6 k7 k8],.nilIface]) (by simp [results,Tryz.results29,go_sem,s0,s1,s2,s3]) rfl ⟨Or.inr ⟨_,q,_,P,D,uh HS2,hq,rfl,(hR0.rstored hbx3 _ _ _ _).later kk,uh HE⟩,bk kk (zqf hk3 (Nat.le_refl _) _ _ _ _)⟩
   ·have kf:=zqa W2 (.cells #[.int .i64 k1,.slice k2 k3 k4,.int .i64 k5,.slice k6 k7 k8] 39)
    have hbx4:=hbx3.later kf
    have hk4:=bk kf hk3
    have hR4:=hR0.later kf
    clear hbx3 hk3 kf hlt3
    go_wp2_with fail
    go_fit (qneg_any (N:=77) _ hR4)
    rintro e W5 ⟨⟨v5,rfl,hR5⟩,hb5⟩
    have hbx5:=hbx4.later hb5
    have hk5:=bk hb5 hk4
    have hlt5:=hbx5.lt
    have hR6:=hR5
    obtain ⟨j1,j2,j3,j4,j5,j6,j7,j8,j9,rfl,_,_,_,_,_⟩:=hR5
    obtain ⟨⟨x0,g0⟩,⟨a0,n0,c0,g1⟩,⟨x1,g2⟩,⟨a1,n1,c1,g3⟩,gf⟩:=hbx5.cells
    go_wp2
    obtain ⟨s0,s1,s2,s3⟩:=hbx5.stored (.int .i64 j1) (.slice j2 j3 j4) (.int .i64 j5) (.slice j6 j7 j8)
    exact bodyPost_ret (v:=.tuple #[.agg #[.int .i64 j1,.slice j2 j3 j4,.int .i64 j5,.slice j6 j7 j8],.nilIface]) (by simp [results,Tryz.results29,go_sem,s0,s1,s2,s3]) rfl ⟨Or.inr ⟨_,q,_,_,D,uh HS2,hq,rfl,hR6.rstored hbx5 _ _ _ _,by have h9:=uh HE;show -P*q = -p*D;rw [Int.neg_mul,Int.neg_mul,h9]⟩,zqf hk5 (Nat.le_refl _) _ _ _ _⟩
end Go.Proofs.YtkdobjmhammhbaaGreatDoor
