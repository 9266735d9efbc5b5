import Derived.Test.YtkdobjmhammhbaaGreatDoorMPH
namespace Go.Proofs.YtkdobjmhammhbaaGreatDoor
open Go.RowKit
def givP (D:Int) (L:List (Int×Int)) (Pt:List (List Int)) (T:List Int) (c:Int):Prop:=(∀ (i:Nat) (x:Int×Int),L[i]? = some x→x.2*D≤cm Pt T i)∧T.sum=c
set_option maxHeartbeats 16000000 in
set_option maxRecDepth 8000 in
theorem gives_any {K N pg:Nat}{r T' D B c:Int}{v:Value}{L:List (Int×Int)}{Pt:List (List Int)}{T W:List Int}{pa ta wa:Option Addr}{pn pc tn tc wn wc:Nat}{x:F8 Int} (w:World) (hBg:Big K N T') (hD:Dn T' D) (hT64:Tab64 w) (h:Rows 2 SzE w v L) (hp:CutR w pg pa pn pc ta tn tc wa wn wc x) (hpt:Rows 1 (LE 1 JE) w (.slice pa pn pc) Pt) (ht:Rows 4 (RsE K D) w (.slice ta tn tc) T) (hc:Rs K D w (vr x) c) (hr:r≤200) (hl:L.length≤12) (hL:∀ y ∈ L,okS r y) (h40:T.length≤40) (hlen:T.length=Pt.length) (hP:∀ p ∈ Pt,patP r L p) (hb:CtB D B T' T W c) :
   Calls Tryz.prog 50 #[v,.pointer (some ⟨pg,0,none⟩)] w fun e w'=>YesP e (givP D L Pt T c)∧Below w.heap.size w w':=by
 obtain ⟨sa,sc,rfl⟩:=h.shape
 have sl1:=hpt.small
 have sl2:=ht.small
 unfold maxLen at sl1 sl2
 obtain rfl:=hpt.len
 obtain rfl:=ht.len
 obtain ⟨n,hn⟩:∃ n,n=Pt.length:=⟨_,rfl⟩
 obtain ⟨m,hm⟩:∃ n,n=L.length:=⟨_,rfl⟩
 rw [hlen,← hn] at hp ht
 rw [← hn] at hpt sl1
 rw [← hm] at h hl ⊢
 have hmk:=run_make_k (P:=Tryz.prog) 32 39 _ 4 64 Tryz.underlying32 info_r .i64 .i64 m (by omega) (by omega)
 obtain ⟨gr,hgr⟩:∃ g,g=w.heap.size:=⟨_,rfl⟩
 obtain ⟨V,hV⟩:∃ V,V=(w.alloc (.cells #[.int .i64 0,.slice none 0 0,.int .i64 0,.slice none 0 0] 39)).alloc (.cells (madeCells #[Value.int .i64 0,.slice none 0 0,.int .i64 0,.slice none 0 0] (m*4)) 39):=⟨_,rfl⟩
 have hS:GvS w K D gr (gr+1) m ⟨0,none,0,0,0,none,0,0⟩ 0 (gvL Pt T m 0 0) V:=by
   have hsz:(w.alloc (.cells #[.int .i64 0,.slice none 0 0,.int .i64 0,.slice none 0 0] 39)).heap.size=gr+1:=by rw [hgr];simp
   rw [hV,gvL_zero]
   refine ⟨bk (zqa _ _) (zqa _ _),?_,?_,by omega,by omega⟩
   · rw [hgr]
     exact (RX.new (x:=⟨0,none,0,0,0,none,0,0⟩) (rs_nought K D w)).keep (zqa _ _)
   · rw [← hsz]
     exact fill_zero K D _ m
 have HS:=qh hS
 have HG:=qh (And.intro hBg (And.intro hD hT64))
 have HR:=qh h
 have HCU:=qh hp
 have HPT:=qh hpt
 have HT:=qh ht
 have HC:=qh hc
 have HL:=qh hL
 have HBD:=qh hb
 have HLT:=qh h40
 have HPP:=qh hP
 have HN:=qh (And.intro (And.intro hn (show T.length=n by omega)) hm)
 have p0:=ck hS.below hp.c0
 clear h hp hpt ht hc hL hb hBg hD hS h40 hT64 hP hlen hn sl2 hm
 go_enter Tryz.func50,Tryz.ntmps50
 go_upto_region 3 with fail
 rw [← hV,← hgr]
 clear hV hgr hmk
 go_wp2_with fail
 go_loopg [21] n (fun gk iv wr=>∃ (k:Nat) (y:F8 Int),k≤n∧gk=n - k∧iv=.int .i64 (k:Int)∧Hid (GvS w K D gr (gr+1) m y (T.take k).sum (gvL Pt T m k 0) wr))
 case atStart=>exact ⟨0,_,by omega,by omega,rfl,qh (by simpa using uh HS)⟩
 case round =>
   clear HS p0
   obtain ⟨k,y,hk,hgk,rfl,HS⟩:=hrel
   by_cases hkn:k<n
   · obtain ⟨t,ht⟩:∃ t,T[k]? = some t:=⟨T[k]'(by have:=(uh HN).1;omega),by simp⟩
     obtain ⟨pl,hp⟩:∃ t,Pt[k]? = some t:=⟨Pt[k]'(by have:=(uh HN).1;omega),by simp⟩
     obtain ⟨tb,to',u,rfl,d,hu⟩:=(uh HT).rnum ht
     obtain ⟨pb,po,ra,rc,rfl,e0,hpr⟩:=(uh HPT).row hp
     have HX0:=qh (And.intro ht hp)
     have HU:=qh (And.intro d hu)
     have HPR:=qh hpr
     have hpat:=uh HPP pl (List.mem_of_getElem? hp)
     have HPA:=qh hpat
     have hkn':(k:Int)<(n:Int):=by omega
     have hk60:(k:Int)+1≤1000:=by have:=(uh HN).1;have:=uh HLT;omega
     have e0:=ck (uh HS).below e0
     have p1:=ck (uh HS).below (uh HCU).c1
     obtain ⟨d0,d1,d2,d3⟩:=d.keep (uh HS).below
     have x0:=(uh HS).xr.c0
     have x1:=(uh HS).xr.c1
     have x2:=(uh HS).xr.c2
     have x3:=(uh HS).xr.c3
     have HSU:=qh (ts_next ht)
     have HI:=qh (show Ins T' ((T.take k).sum+t) by
       have h1:=ts_in (by have:=(uh HBD).d;omega) (uh HBD).t (uh HLT) (k+1)
       rw [uh HSU] at h1
       have:=(uh HBD).b
       have:=(uh HBD).d
       unfold Ins
       omega)
     obtain ⟨q,hq⟩:∃ q,q=pl.length:=⟨_,rfl⟩
     have hqm:q=m:=by rw [hq,hpat.1];exact (uh HN).2.symm
     subst hqm
     rw [← hq] at HPR e0
     have HPL:=qh hq
     clear ht hp d hu hpr hpat hq
     go_upto_region 6 with fail
     go_cut [] (fun wx=>∃ z:F8 Int,Hid (GvS w K D gr (gr+1) q z (T.take (k+1)).sum (gvL Pt T q k 0) wx))
     case first =>
       go_region_with (first
         | (go_at_call 70;go_fit (rs_add _ (uh HG).1 (uh HG).2.1 ((uh HS).xr.q.later (Below.refl _ _).drew) ((uh HU).2.later (uh HS).below.drew) (uh HI) ((uh HG).2.2.later (uh HS).below.drew));rintro e9 Y1 ⟨⟨vm,rfl,hM⟩,hb⟩;obtain ⟨z,rfl⟩:=hM.sh;have HS:=qh (((uh HS).keep (Below.refl _ _).drew).keep hb);obtain ⟨⟨j0,h0⟩,⟨j1,j2,j3,h1⟩,⟨j4,h2⟩,⟨j5,j6,j7,h3⟩,gf⟩:=(uh HS).xr.box.cells;have hxlt:=(uh HS).xr.box.lt;clear hb x0 x1 x2 x3 p1 d0 d1 d2 d3))
       all_goals
         go_wp2
         go_meet
         exact ⟨z,qh (by rw [uh HSU];exact (uh HS).putR hM)⟩
     case rest =>
       obtain ⟨z,HS⟩:=hcut
       obtain ⟨Z,rfl⟩:∃ X,X=wc:=⟨_,rfl⟩
       clear p1 d0 d1 d2 d3 x0 x1 x2 x3 e0
       go_wp2_with fail
       go_loopg [37] q (fun gk iv wr=>∃ (j:Nat),j≤q∧gk=q - j∧iv=.int .i64 (j:Int)∧Hid (GvS w K D gr (gr+1) q z (T.take (k+1)).sum (gvL Pt T q k j) wr))
       case atStart=>exact ⟨0,by omega,by omega,rfl,HS⟩
       case round =>
         clear HS
         obtain ⟨j,hj,hgk,rfl,HS⟩:=hrel
         by_cases hjq:j<q
         · obtain ⟨pi,hpi⟩:∃ t,pl[j]? = some t:=⟨pl[j]'(by have:=uh HPL;omega),by simp⟩
           have hpg:pl.getD j 0=pi:=getD_some hpi
           have hpb:=pat_le (uh HPA) (uh HL) hr j
           rw [hpg] at hpb
           obtain ⟨rb,ro,rfl,f0,_⟩:=(uh HPR).int hpi
           have HNX:=qh (show cmN Pt T j (k+1)=cmN Pt T j k+t*pi by rw [cmN_next (uh HX0).1 (uh HX0).2,hpg])
           have HTB:=qh ((uh HBD).t t (List.mem_of_getElem? (uh HX0).1))
           have HI1:=qh (show Ins T' (t*pi) by
             have h1:=mul_in (uh HTB) hpb (by have:=(uh HBD).d;omega)
             have:=(uh HBD).b
             have:=(uh HBD).d
             unfold Ins
             omega)
           have HI2:=qh (show Ins T' (cmN Pt T j k+t*pi) by
             have h1:=cm_in (by have:=(uh HBD).d;omega) (uh HBD).t (uh HPP) (uh HL) hr (uh HLT) j (k+1)
             rw [uh HNX] at h1
             have:=(uh HBD).b
             have:=(uh HBD).d
             unfold Ins
             omega)
           have hat:=gvL_at Pt T (k:=k) (j:=j) hjq
           rw [if_neg (Nat.lt_irrefl j)] at hat
           obtain ⟨yc,⟨y0,y1,y2,y3⟩,hyc⟩:=(uh HS).fill.r4 hat
           have HYC:=qh hyc
           have f0:=ck (uh HS).below f0
           have p1:=ck (uh HS).below (uh HCU).c1
           obtain ⟨d0,d1,d2,d3⟩:=(uh HU).1.keep (uh HS).below
           have hjq':(j:Int)<(q:Int):=by omega
           have hj60:(j:Int)+1≤1000:=by omega
           have HJ:=qh hpb
           clear hpi hpg hat hyc hpb
           have hgl:=(uh HS).fill.lt
           go_upto_region 10 with fail
           go_region_with (first
             | (go_at_call 99;go_fit (rs_int 1 pi _ (uh HG).1 (by have:=uh HJ;omega) (by have:=uh HJ;omega));rintro e7 Y0 ⟨⟨vi,rfl,hI⟩,hb⟩;obtain ⟨zi,rfl⟩:=hI.sh;have BW:=qh (bk hb (Below.refl wr.heap.size wr).drew);have p1:=ck (uh BW) p1;have d0:=ck (uh BW) d0;have d1:=ck (uh BW) d1;have d2:=ck (uh BW) d2;have d3:=ck (uh BW) d3;have y0:=ck (uh BW) y0;have y1:=ck (uh BW) y1;have y2:=ck (uh BW) y2;have y3:=ck (uh BW) y3;clear hb)
             | (go_at_call 76;go_fit (rs_times _ (uh HG).1 (uh HG).2.1 ((uh HU).2.later (bk (uh BW) (uh HS).below)) hI (uh HI1) ((uh HG).2.2.later (bk (uh BW) (uh HS).below)));rintro e8 Y1 ⟨⟨vm,rfl,hM⟩,hb⟩;obtain ⟨zm,rfl⟩:=hM.sh;have BW:=qh (bk hb (uh BW));have p1:=ck hb p1;have y0:=ck hb y0;have y1:=ck hb y1;have y2:=ck hb y2;have y3:=ck hb y3;clear hb hI)
             | (go_at_call 70;go_fit (rs_add _ (uh HG).1 (uh HG).2.1 ((uh HYC).later (uh BW)) hM (uh HI2) ((uh HG).2.2.later (bk (uh BW) (uh HS).below)));rintro e9 Y2 ⟨⟨va,rfl,hA⟩,hb⟩;obtain ⟨za,rfl⟩:=hA.sh;have HS:=qh (((uh HS).keep (uh BW)).keep hb);obtain ⟨w0,h0⟩:=(uh HS).fill.cell (o:=j*4) (by omega);obtain ⟨w1,h1⟩:=(uh HS).fill.cell (o:=j*4+1) (by omega);obtain ⟨w2,h2⟩:=(uh HS).fill.cell (o:=j*4+2) (by omega);obtain ⟨w3,h3⟩:=(uh HS).fill.cell (o:=j*4+3) (by omega);have f0':=(uh HS).fill.free (j*4);have f1':=(uh HS).fill.free (j*4+1);have f2':=(uh HS).fill.free (j*4+2);have f3':=(uh HS).fill.free (j*4+3);have hlt:=(uh HS).fill.lt;clear hb hM p1 y0 y1 y2 y3))
           all_goals
             go_wp2
             go_roundg (q - (j+1))
             case measure=>omega
             case rel=>exact ⟨j+1,by omega,rfl,by go_num,qh (by rw [← gvL_set hjq (uh HNX).symm];exact (uh HS).setC (by rw [gvL_len];exact hjq) hA)⟩
         · obtain rfl:q=j:=by omega
           clear hjq hj hgk
           rw [gvL_next] at HS
           go_wp2
           go_roundg (n - (k+1))
           case measure=>omega
           case rel=>exact ⟨k+1,z,by omega,rfl,by go_num,HS⟩
   · obtain rfl:n=k:=by omega
     clear hkn hk hgk
     rw [List.take_of_length_le (show T.length≤n by have:=(uh HN).1;omega)] at HS
     go_wp2_with fail
     go_loopg [64] m (fun gk iv wr=>∃ (i:Nat),i≤m∧gk=m - i∧iv=.int .i64 (i:Int)∧Hid (GvS w K D gr (gr+1) m y T.sum (gvL Pt T m n 0) wr)∧Hid (∀ (j:Nat) (x:Int×Int),j<i→L[j]? = some x→x.2*D≤cm Pt T j))
     case atStart=>exact ⟨0,by omega,by omega,rfl,HS,qh (fun j _ h=>by omega)⟩
     case round =>
       clear HS
       obtain ⟨i,hi,hgk,rfl,HS,HCM⟩:=hrel
       by_cases him:i<m
       · obtain ⟨⟨lo,want⟩,hx⟩:∃ x,L[i]? = some x:=⟨L[i]'(by have:=(uh HN).2;omega),by simp⟩
         have hok:=uh HL _ (List.mem_of_getElem? hx)
         have hwa:0≤want∧want≤100000000:=hok.1
         obtain ⟨b,o,rfl,c0,c1,_⟩:=(uh HR).size2 hx
         simp only at c0 c1
         have c0:=ck (uh HS).below c0
         have c1:=ck (uh HS).below c1
         have hat:=gvL_at Pt T (k:=n) (j:=0) him
         rw [if_neg (Nat.not_lt_zero i),cmN_all (by have:=(uh HN).1;omega)] at hat
         obtain ⟨cv,hcv⟩:∃ c,c=cm Pt T i:=⟨_,rfl⟩
         rw [← hcv] at hat
         have HX:=qh (And.intro hx hcv)
         obtain ⟨yc,hy4,hyc⟩:=(uh HS).fill.r4 hat
         obtain ⟨V1,hV1⟩:∃ V,V=wr.alloc (.cells #[.int .i64 lo,.int .i64 want] 76):=⟨_,rfl⟩
         obtain ⟨q,hq⟩:∃ q,q=wr.heap.size:=⟨_,rfl⟩
         have hn:=size_new wr lo want
         have kn:=zqa wr (.cells #[.int .i64 lo,.int .i64 want] 76)
         simp only [← hV1,← hq] at hn
         rw [← hV1] at kn
         have HYC:=qh (hyc.later kn)
         have h4:=hy4.keep kn
         have HS:=qh ((uh HS).keep kn)
         have HS00:=qh (show V1.cell? ⟨gr+1,i*4,none⟩=_∧V1.cell? ⟨gr+1,i*4+1,none⟩=_∧V1.cell? ⟨gr+1,i*4+2,none⟩=_∧V1.cell? ⟨gr+1,i*4+3,none⟩=_∧V1.cell? ⟨q,1,none⟩=_ from ⟨h4.1,h4.2.1,h4.2.2.1,h4.2.2.2,hn.2⟩)
         have him':(i:Int)<(m:Int):=by omega
         have hi60:(i:Int)+1≤1000:=by omega
         clear hx hok hat hcv hy4 hyc kn h4 hn
         go_upto_region 16 with fail
         rw [← hV1,← hq]
         clear hV1 hq c0 c1
         obtain ⟨sg,hsg⟩:∃ s,s=sgn (cv - want*D):=⟨_,rfl⟩
         have hlt:=@sgn_lt (cv - want*D)
         rw [← hsg] at hlt
         have HSG:=qh hsg
         have HLT2:=qh hlt
         clear hsg hlt
         go_region_held3 (fun w'=>w'.cell? ⟨gr+1,i*4,none⟩=some (.int .i64 yc.a)∧w'.cell? ⟨gr+1,i*4+1,none⟩=some (.slice yc.b yc.c yc.d)∧w'.cell? ⟨gr+1,i*4+2,none⟩=some (.int .i64 yc.e)∧w'.cell? ⟨gr+1,i*4+3,none⟩=some (.slice yc.f yc.g yc.h)∧w'.cell? ⟨q,1,none⟩=some (.int .i64 want))
           (first | with_reducible exact ck5 (Below.refl _ _).drew (uh HS00) | with_reducible exact ck5 (uh BW) (uh HS00))
           (first
           | (go_at_call 99;go_fit (rs_int D want _ (uh HG).1 (by omega) (by omega));rintro e8 Y0 ⟨⟨vi,rfl,hI⟩,hb⟩;obtain ⟨zi,rfl⟩:=hI.sh;have BW:=qh (bk hb (Below.refl V1.heap.size V1).drew);clear hb)
           | (go_at_call 34;go_fit (rs_cmp _ (uh HG).1 (uh HG).2.1.1 ((uh HYC).later (uh BW)) hI);rintro e9 Y1 ⟨rfl,hb⟩;have BW:=qh (bk hb (uh BW));clear hb hI))
         all_goals
           have HS:=qh ((uh HS).keep (uh BW))
           rw [← uh HSG]
           by_cases hg0:sg<0
           · have FIN:=qh (show ¬ givP D L Pt T c from fun h=>by
               have h1:=h.1 i _ (uh HX).1
               simp only at h1
               have h2:=(uh HLT2).1 hg0
               have h3:=(uh HX).2
               omega)
             go_wp2
             go_ret
             exact ⟨YesP.no (uh FIN),(uh HS).below⟩
           · have HOK:=qh (show want*D≤cm Pt T i by
               have h1:¬ cv - want*D<0:=fun h=>hg0 ((uh HLT2).2 h)
               have h3:=(uh HX).2
               omega)
             go_wp2
             go_roundg (m - (i+1))
             case measure=>omega
             case rel=>exact ⟨i+1,by omega,rfl,by go_num,HS,qh (fun j x hj hx=>by
               rcases Nat.lt_or_ge j i with h | h
               · exact uh HCM j x h hx
               · obtain rfl:j=i:=by omega
                 rw [(uh HX).1] at hx
                 obtain rfl:=Option.some.inj hx
                 exact uh HOK)⟩
       · obtain rfl:m=i:=by omega
         clear him hi hgk
         have HCA:=qh (show ∀ (j:Nat) (x:Int×Int),L[j]? = some x→x.2*D≤cm Pt T j from fun j x hx=>uh HCM j x (by have:=(uh HN).2;have:=(List.getElem?_eq_some_iff.1 hx).1;omega) hx)
         have ne:=Abv.some wr
         have r4:=(uh HCU).c3.keep (uh HS).below
         have s0:∀ y':Abv wr,y'.val.cell? ⟨gr,0,none⟩=_:=fun y'=>ck y'.property (uh HS).xr.c0
         have s1:∀ y':Abv wr,y'.val.cell? ⟨gr,1,none⟩=_:=fun y'=>ck y'.property (uh HS).xr.c1
         have s2:∀ y':Abv wr,y'.val.cell? ⟨gr,2,none⟩=_:=fun y'=>ck y'.property (uh HS).xr.c2
         have s3:∀ y':Abv wr,y'.val.cell? ⟨gr,3,none⟩=_:=fun y'=>ck y'.property (uh HS).xr.c3
         have t0:∀ y':Abv wr,y'.val.cell? ⟨pg,3,none⟩=_:=fun y'=>ck y'.property r4.1
         have t1:∀ y':Abv wr,y'.val.cell? ⟨pg,3+1,none⟩=_:=fun y'=>ck y'.property r4.2.1
         have t2:∀ y':Abv wr,y'.val.cell? ⟨pg,3+2,none⟩=_:=fun y'=>ck y'.property r4.2.2.1
         have t3:∀ y':Abv wr,y'.val.cell? ⟨pg,3+3,none⟩=_:=fun y'=>ck y'.property r4.2.2.2
         obtain ⟨sg,hsg⟩:∃ s,s=sgn (T.sum - c):=⟨_,rfl⟩
         have hnil:=@sgn_nil (T.sum - c)
         have HQC:=qh (fun (y':Abv wr)=>rs_cmp y'.val (uh HG).1 (uh HG).2.1.1 ((uh HS).xr.q.later y'.property) ((uh HC).later (bk y'.property (uh HS).below)))
         rw [← hsg] at HQC hnil
         have FIN:=qh (show sg=0↔givP D L Pt T c from ⟨fun h=>⟨uh HCA,by have:=hnil.1 h;omega⟩,fun h=>hnil.2 (by have:=h.2;omega)⟩)
         clear hnil hsg r4
         go_upto_region 19 with fail
         refine zxb (by kernel_rfl) (by kernel_rfl) ?_
         repeat (go_big_quiet_step (exact Calls.abv (uh HQC _)))
         refine wpQuiet_nil ?_
         rintro W9 ⟨⟨Z9,B9⟩,rfl⟩
         have HB:=qh (bk B9 (uh HS).below)
         clear s0 s1 s2 s3 t0 t1 t2 t3 HQC ne B9
         by_cases hg:sg=0
         · have FI:=qh ((uh FIN).1 hg)
           subst hg
           go_wp2
           go_ret
           exact ⟨YesP.yes (uh FI),uh HB⟩
         · have FI:=qh (show ¬ givP D L Pt T c from fun h=>hg ((uh FIN).2 h))
           have hd:(sg == 0)=false:=by simpa using hg
           clear hg
           go_wp2
           go_ret
           exact ⟨YesP.of (iff_of_false (by simp [hd]) (uh FI)),uh HB⟩
end Go.Proofs.YtkdobjmhammhbaaGreatDoor
