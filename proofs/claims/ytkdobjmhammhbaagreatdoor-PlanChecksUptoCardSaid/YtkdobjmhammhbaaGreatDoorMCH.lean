import Derived.Test.YtkdobjmhammhbaaGreatDoorMPF
namespace Go.Proofs.YtkdobjmhammhbaaGreatDoor
open Go.RowKit
set_option maxHeartbeats 16000000 in
set_option maxRecDepth 8000 in
theorem rcut_any {K N r:Nat}{T' D B c:Int}{v:Value}{L:List (Int×Int)}{Pt:List (List Int)}{T W:List Int}{pa ta wa:Option Addr}{pn pc tn tc wn wc:Nat}{x:F8 Bool} (w:World) (hBg:Big K N T') (hD:Dn T' D) (h:Rows 2 SzE w v L) (hpt:Rows 1 (LE 1 JE) w (.slice pa pn pc) Pt) (ht:Rows 4 (QsE N D) w (.slice ta tn tc) T) (hw:Rows 4 (QsE N D) w (.slice wa wn wc) W) (hc:Qs N D w (vq x) c) (hr:1≤r∧r≤200) (hl:L.length≤12) (hL:∀ y ∈ L,okS (r:Int) y) (h40:T.length≤40) (hb:CtB D B T' T W c) :
   Calls Tryz.prog 22 #[.int .i64 (r:Int),v,.agg #[.slice pa pn pc,.slice ta tn tc,.slice wa wn wc,.bool x.a,.slice x.b x.c x.d,.bool x.e,.slice x.f x.g x.h]] w fun e w'=>YesP e (cutP D r L Pt T W c)∧Below w.heap.size w w':=by
 obtain ⟨sa,sc,rfl⟩:=h.shape
 have sl1:=hpt.small
 have sl2:=ht.small
 have sl3:=hw.small
 unfold maxLen at sl1 sl2 sl3
 obtain rfl:=hpt.len
 obtain rfl:=ht.len
 obtain rfl:=hw.len
 obtain ⟨V,hV⟩:∃ V,V=w.alloc (.cells #[.slice pa Pt.length pc,.slice ta T.length tc,.slice wa W.length wc,.bool x.a,.slice x.b x.c x.d,.bool x.e,.slice x.f x.g x.h] 83):=⟨_,rfl⟩
 obtain ⟨g,hg⟩:∃ g,g=w.heap.size:=⟨_,rfl⟩
 have k1:=zqa w (.cells #[.slice pa Pt.length pc,.slice ta T.length tc,.slice wa W.length wc,.bool x.a,.slice x.b x.c x.d,.bool x.e,.slice x.f x.g x.h] 83)
 have hS:CtS w g pa Pt.length pc ta T.length tc wa W.length wc x V:=by
   have h0:∀ k u,(#[Value.slice pa Pt.length pc,.slice ta T.length tc,.slice wa W.length wc,.bool x.a,.slice x.b x.c x.d,.bool x.e,.slice x.f x.g x.h])[k]? = some u→V.cell? ⟨g,k,none⟩=some u:=fun k u hu=>by rw [hV,hg,zqe rfl];exact hu
   rw [← hV] at k1
   exact ⟨k1,h0 0 _ rfl,h0 1 _ rfl,h0 2 _ rfl,⟨h0 3 _ rfl,h0 4 _ rfl,h0 5 _ rfl,h0 6 _ rfl⟩,by omega⟩
 have hgV:g<V.heap.size:=by rw [hV,hg];simp
 have HS:=qh hS
 have HG:=qh (And.intro hBg hD)
 have HR:=qh h
 have HP:=qh hpt
 have HT:=qh ht
 have HW:=qh hw
 have HC:=qh hc
 have HL:=qh hL
 have HBD:=qh hb
 have HLT:=qh h40
 have p0:=hS.c0
 have p1:=hS.c1
 have p2:=hS.c2
 clear h hpt ht hw hc hL hb k1 hBg hD hS h40
 go_enter Tryz.func22,Tryz.ntmps22
 go_upto_region 1 with fail
 rw [← hV,← hg]
 clear hV hg
 by_cases hl1:T.length=Pt.length
 rotate_left
 · have hd:((T.length:Int) != (Pt.length:Int))=true:=by simp;omega
   have FIN:=qh (show ¬ cutP D r L Pt T W c from fun h=>hl1 h.1.1.1)
   go_wp2
   go_ret
   exact ⟨YesP.no (uh FIN),(uh HS).below⟩
 have hd:((T.length:Int) != (Pt.length:Int))=false:=by simp;omega
 by_cases hl2:W.length=L.length
 rotate_left
 · have hd2:((W.length:Int) != (L.length:Int))=true:=by simp;omega
   have FIN:=qh (show ¬ cutP D r L Pt T W c from fun h=>hl2 h.1.1.2)
   go_wp2
   go_ret
   exact ⟨YesP.no (uh FIN),(uh HS).below⟩
 have hd2:((W.length:Int) != (L.length:Int))=false:=by simp;omega
 go_wp2_with fail
 go_fit (qs_zero (D:=D) _ (uh HG).1)
 rintro e W1 ⟨⟨v0,rfl,hv0⟩,B1⟩
 obtain ⟨x0,rfl⟩:=hv0.sh
 obtain ⟨V1,hV1⟩:∃ V,V=W1.alloc (.cells #[.bool x0.a,.slice x0.b x0.c x0.d,.bool x0.e,.slice x0.f x0.g x0.h] 59):=⟨_,rfl⟩
 obtain ⟨gr,hgr⟩:∃ g,g=W1.heap.size:=⟨_,rfl⟩
 have hX:QX N D V1 gr x0 0:=by rw [hV1,hgr];exact QX.new hv0
 have HS:=qh (((uh HS).keep B1).keep (show Below W1.heap.size W1 V1 by rw [hV1];exact zqa _ _))
 have hgg:g<gr:=by have:=B1.size;omega
 have HX:=qh hX
 obtain ⟨n,hn⟩:∃ n,n=Pt.length:=⟨_,rfl⟩
 obtain ⟨m,hm⟩:∃ n,n=L.length:=⟨_,rfl⟩
 rw [hl1,hl2,← hn,← hm] at HS
 rw [hl1,← hn] at HT
 rw [hl2,← hm] at HW
 rw [← hn] at HP sl1
 rw [← hm] at HR hl
 rw [hl1,hl2,← hn,← hm]
 have HN:=qh (And.intro (And.intro hn (show T.length=n by omega)) (And.intro hm (show W.length=m by omega)))
 clear hX B1 hv0 hd hd2 p0 p1 p2 hl1 hl2 hn hm sl2 sl3 hgV
 go_upto_region 5 with fail
 rw [← hV1,← hgr]
 clear hV1 hgr
 go_loopg [8] n (fun gk iv wr=>∃ (k:Nat) (y:F8 Bool),k≤n∧gk=n - k∧iv=.int .i64 (k:Int)∧Hid (CtS w g pa n pc ta n tc wa m wc x wr)∧Hid (QX N D wr gr y (T.take k).sum)∧Hid (∀ t ∈ T.take k,0≤t)∧Hid (∀ p ∈ Pt.take k,patP (r:Int) L p))
 case atStart=>exact ⟨0,x0,by omega,by omega,rfl,HS,HX,qh (by simp),qh (by simp)⟩
 case round =>
   clear HS HX
   obtain ⟨k,y,hk,hgk,rfl,HS,HX,HA,HQ⟩:=hrel
   have p0:=(uh HS).c0
   by_cases hkn:k<n
   · obtain ⟨t,ht⟩:∃ t,T[k]? = some t:=⟨T[k]'(by have:=(uh HN).1;omega),by simp⟩
     obtain ⟨pl,hp⟩:∃ t,Pt[k]? = some t:=⟨Pt[k]'(by have:=(uh HN).1;omega),by simp⟩
     obtain ⟨b,o,u,rfl,d,hu⟩:=(uh HT).qnum ht
     obtain ⟨b',o',ra,rc,rfl,e0,hpr⟩:=(uh HP).row hp
     have HX0:=qh (And.intro ht hp)
     have HU:=qh (And.intro d hu)
     have HPR:=qh (And.intro e0 hpr)
     have hkn':(k:Int)<(n:Int):=by omega
     have hk60:(k:Int)+1≤1000:=by have:=(uh HN).1;have:=uh HLT;omega
     have p1:=(uh HS).c1
     obtain ⟨d0,d1,d2,d3⟩:=d.keep (uh HS).below
     clear ht hp d hu e0 hpr
     go_wp2_with fail
     go_fit (qs_sign _ (uh HG).2.1 ((uh HU).2.later (uh HS).below))
     rintro e W2 ⟨rfl,B2⟩
     obtain ⟨sg,hsg⟩:∃ s,s=sgn t:=⟨_,rfl⟩
     rw [← hsg]
     have HSG:=qh hsg
     have HS:=qh ((uh HS).keep B2)
     have HX:=qh ((uh HX).keep B2)
     have p0:=(uh HS).c0
     have e0:=ck (uh HS).below (uh HPR).1
     clear B2 hsg p1 d0 d1 d2 d3
     go_wp2_with fail
     go_fit (rpat_any _ ((uh HR).later (SzE.stays NoWord 0) (uh HS).below) ((uh HPR).2.later (JE.stays NoWord 0) (uh HS).below) (by omega) (by have:=(uh HN).2;omega) (uh HL))
     rintro e W3 ⟨⟨ok,rfl,hok⟩,B3⟩
     have HS:=qh ((uh HS).keep B3)
     have HX:=qh ((uh HX).keep B3)
     have HOK:=qh hok
     clear B3 hok p0 e0
     by_cases hs0:sg<0
     · have FIN:=qh (show ¬ cutP D r L Pt T W c from fun h=>by
         have h1:=h.1.2.2.1 t (List.mem_of_getElem? (uh HX0).1)
         have h2:=@sgn_lt t
         rw [← uh HSG] at h2
         omega)
       go_wp2
       go_ret
       exact ⟨YesP.no (uh FIN),(uh HS).below⟩
     rcases ok with _ | _
     · have FIN:=qh (show ¬ cutP D r L Pt T W c from fun h=>by
         have h1:=(uh HOK).2 (h.1.2.1 pl (List.mem_of_getElem? (uh HX0).2))
         cases h1)
       go_wp2
       go_ret
       exact ⟨YesP.no (uh FIN),(uh HS).below⟩
     have HT0:=qh (show 0≤t by have h2:=@sgn_lt t;rw [← uh HSG] at h2;omega)
     have HPO:=qh ((uh HOK).1 rfl)
     have HSU:=qh (ts_next (uh HX0).1)
     have HI:=qh (show Ins T' ((T.take k).sum+t) by
       have h1:=ts_in (by have:=(uh HBD).d;omega) (uh HBD).t (uh HLT) (k+1)
       rw [uh HSU] at h1
       have:=(uh HBD).b
       have:=(uh HBD).d
       unfold Ins
       omega)
     have x0:=(uh HX).c0
     have x1:=(uh HX).c1
     have x2:=(uh HX).c2
     have x3:=(uh HX).c3
     have p1:=(uh HS).c1
     obtain ⟨d0,d1,d2,d3⟩:=(uh HU).1.keep (uh HS).below
     clear HSG HOK
     go_upto_region 11 with fail
     clear hs0
     go_region_with (first
       | (go_at_call 40;go_fit (qs_add _ (uh HG).1 (uh HG).2 ((uh HX).q.later (Below.refl _ _).drew) ((uh HU).2.later (uh HS).below.drew) (uh HI));rintro e9 Y1 ⟨⟨vm,rfl,hM⟩,hb⟩;obtain ⟨z,rfl⟩:=hM.sh;have HS:=qh (((uh HS).keep (Below.refl _ _).drew).keep hb);have HX:=qh (((uh HX).keep (Below.refl _ _).drew).keep hb);obtain ⟨⟨j0,h0⟩,⟨j1,j2,j3,h1⟩,⟨j4,h2⟩,⟨j5,j6,j7,h3⟩,gf⟩:=(uh HX).box.cells;have hxlt:=(uh HX).box.lt;clear hb x0 x1 x2 x3 p1 d0 d1 d2 d3))
     all_goals
       go_wp2
       go_roundg (n - (k+1))
       case measure=>omega
       case rel=>exact ⟨k+1,z,by omega,rfl,by go_num,qh ((uh HS).beside hgg _ _ _ _),qh (by rw [uh HSU];exact QX.put (uh HX).box hM),qh (zjl (uh HA) (uh HX0).1 (uh HT0)),qh (zjl (uh HQ) (uh HX0).2 (uh HPO))⟩
   · obtain rfl:n=k:=by omega
     clear hkn hk hgk
     have HA:=qh (show ∀ t ∈ T,0≤t by have h1:=uh HA;rw [List.take_of_length_le (by have:=(uh HN).1;omega)] at h1;exact h1)
     have HQ:=qh (show ∀ p ∈ Pt,patP (r:Int) L p by have h1:=uh HQ;rw [List.take_of_length_le (by have:=(uh HN).1;omega)] at h1;exact h1)
     have HX:=qh (show QX N D wr gr y T.sum by have h1:=uh HX;rw [List.take_of_length_le (by have:=(uh HN).1;omega)] at h1;exact h1)
     go_wp2_with fail
     go_fit (qs_zero (D:=D) _ (uh HG).1)
     rintro e W4 ⟨⟨v0,rfl,hv0⟩,B4⟩
     obtain ⟨z0,rfl⟩:=hv0.sh
     obtain ⟨V2,hV2⟩:∃ V,V=W4.alloc (.cells #[.bool z0.a,.slice z0.b z0.c z0.d,.bool z0.e,.slice z0.f z0.g z0.h] 59):=⟨_,rfl⟩
     obtain ⟨gw,hgw⟩:∃ g,g=W4.heap.size:=⟨_,rfl⟩
     have k2:Below W4.heap.size W4 V2:=by rw [hV2];exact zqa _ _
     have HA2:=qh (show Ct2 w N D g gr gw pa n pc ta n tc wa m wc x y z0 T.sum 0 V2 from ⟨((uh HS).keep B4).keep k2,((uh HX).keep B4).keep k2,by rw [hV2,hgw];exact QX.new hv0,hgg,by have h1:=(uh HX).box.lt;have h2:=B4.size;omega⟩)
     clear HS HX B4 hv0 k2 p0
     go_upto_region 14 with fail
     rw [← hV2,← hgw]
     clear hV2 hgw
     go_loopg [12] m (fun gk iv wr=>∃ (i:Nat) (z:F8 Bool),i≤m∧gk=m - i∧iv=.int .i64 (i:Int)∧Hid (Ct2 w N D g gr gw pa n pc ta n tc wa m wc x y z T.sum (wsN L W i) wr)∧Hid (∀ (j:Nat) (x:Int×Int),j<i→L[j]? = some x→x.2*D≤cm Pt T j)∧Hid (∀ t ∈ W.take i,0≤t))
     case atStart=>exact ⟨0,z0,by omega,by omega,rfl,qh (by simpa [wsN] using uh HA2),qh (fun j _ h=>by omega),qh (by simp)⟩
     case round =>
       clear HA2
       obtain ⟨i,z,hi,hgk,rfl,HS,HCM,HWP⟩:=hrel
       by_cases hil:i<m
       · obtain ⟨⟨lo,want⟩,hx⟩:∃ x,L[i]? = some x:=⟨L[i]'(by have:=(uh HN).2;omega),by simp⟩
         obtain ⟨wo,hs⟩:∃ x,W[i]? = some x:=⟨W[i]'(by have:=(uh HN).2;omega),by simp⟩
         have hok:=uh HL _ (List.mem_of_getElem? hx)
         have HX:=qh (And.intro hx hs)
         have HWA:=qh hok.1
         obtain ⟨b,o,rfl,_,c1,_⟩:=(uh HR).size2 hx
         obtain ⟨b',o',u,rfl,d,hu⟩:=(uh HW).qnum hs
         simp only at c1
         have HC1:=qh c1
         have HU:=qh (And.intro d hu)
         have hil':(i:Int)<(m:Int):=by omega
         have hi60:(i:Int)+1≤1000:=by omega
         clear hx hs hok c1 d hu
         go_wp2_with fail
         go_fit (qs_zero (D:=D) _ (uh HG).1)
         rintro e W5 ⟨⟨v0,rfl,hv0⟩,B5⟩
         obtain ⟨q0,rfl⟩:=hv0.sh
         obtain ⟨V3,hV3⟩:∃ V,V=W5.alloc (.cells #[.bool q0.a,.slice q0.b q0.c q0.d,.bool q0.e,.slice q0.f q0.g q0.h] 59):=⟨_,rfl⟩
         obtain ⟨gb,hgb⟩:∃ g,g=W5.heap.size:=⟨_,rfl⟩
         have k3:Below W5.heap.size W5 V3:=by rw [hV3];exact zqa _ _
         have HS3:=qh (((uh HS).keep B5).keep k3)
         have HXB:=qh (show QX N D V3 gb q0 0 by rw [hV3,hgb];exact QX.new hv0)
         have hgwb:gw<gb:=by have h1:=(uh HS).xw.box.lt;have h2:=B5.size;omega
         clear B5 hv0 k3 HS
         go_upto_region 18 with fail
         rw [← hV3,← hgb]
         clear hV3 hgb
         go_loopg [14] n (fun gk iv wr=>∃ (k:Nat) (qv:F8 Bool),k≤n∧gk=n - k∧iv=.int .i64 (k:Int)∧Hid (Ct2 w N D g gr gw pa n pc ta n tc (some ⟨b',o',none⟩) m wc x y z T.sum (wsN L W i) wr)∧Hid (QX N D wr gb qv (cmN Pt T i k)))
         case atStart=>exact ⟨0,q0,by omega,by omega,rfl,HS3,qh (by simpa [cmN] using uh HXB)⟩
         case round =>
           clear HS3 HXB
           obtain ⟨k,qv,hk,hgk,rfl,HS,HXB⟩:=hrel
           have p0:=(uh HS).cs.c0
           by_cases hkn:k<n
           · obtain ⟨t,ht⟩:∃ t,T[k]? = some t:=⟨T[k]'(by have:=(uh HN).1;omega),by simp⟩
             obtain ⟨pl,hp⟩:∃ t,Pt[k]? = some t:=⟨Pt[k]'(by have:=(uh HN).1;omega),by simp⟩
             have hpat:=uh HQ pl (List.mem_of_getElem? hp)
             have hpl:=hpat.1
             obtain ⟨pi,hpi⟩:∃ t,pl[i]? = some t:=⟨pl[i]'(by have:=(uh HN).2;omega),by simp⟩
             have hpg:pl.getD i 0=pi:=getD_some hpi
             have hpb:=pat_le hpat (uh HL) (by omega) i
             rw [hpg] at hpb
             obtain ⟨tb,to',ut,rfl,dt,hut⟩:=(uh HT).qnum ht
             obtain ⟨pb,po,ra,rc,rfl,e0,hpr⟩:=(uh HP).row hp
             obtain ⟨rb,ro,rfl,f0,_⟩:=hpr.int hpi
             have HNX:=qh (show cmN Pt T i (k+1)=cmN Pt T i k+t*pi by rw [cmN_next ht hp,hpg])
             have HTB:=qh ((uh HBD).t t (List.mem_of_getElem? ht))
             have HI1:=qh (show Ins T' (t*pi) by
               have h1:=mul_in (uh HTB) hpb (by have:=(uh HBD).d;omega)
               have:=(uh HBD).b
               have:=(uh HBD).d
               unfold Ins
               omega)
             have HI2:=qh (show Ins T' (cmN Pt T i k+t*pi) by
               have h1:=cm_in (by have:=(uh HBD).d;omega) (uh HBD).t (uh HQ) (uh HL) (by omega) (uh HLT) i (k+1)
               rw [uh HNX] at h1
               have:=(uh HBD).b
               have:=(uh HBD).d
               unfold Ins
               omega)
             have HUT:=qh (hut.later (uh HS).cs.below)
             have d4:=dt.keep (uh HS).cs.below
             have HS00:=qh (show wr.cell? ⟨g,1,none⟩=_∧wr.cell? ⟨tb,to'+k*4,none⟩=_∧wr.cell? ⟨tb,to'+k*4+1,none⟩=_∧wr.cell? ⟨tb,to'+k*4+2,none⟩=_∧wr.cell? ⟨tb,to'+k*4+3,none⟩=_∧wr.cell? ⟨g,0,none⟩=_∧wr.cell? ⟨pb,po+k,none⟩=_∧wr.cell? ⟨rb,ro+i,none⟩=_ from ⟨(uh HS).cs.c1,d4.1,d4.2.1,d4.2.2.1,d4.2.2.2,p0,ck (uh HS).cs.below e0,ck (uh HS).cs.below f0⟩)
             have hkn':(k:Int)<(n:Int):=by omega
             have hk60:(k:Int)+1≤1000:=by have:=(uh HN).1;have:=uh HLT;omega
             have hipl:(i:Int)<(pl.length:Int):=by have:=(uh HN).2;omega
             have hgbl:=(uh HXB).box.lt
             have hwsz:=(uh HS).cs.below.size
             clear ht hp hpat hpi hpg hpl dt hut e0 hpr f0 d4
             go_upto_region 20 with fail
             go_cut [15] (fun tv wx=>∃ (q:Nat) (zz:F8 Bool),tv=.pointer (some ⟨q,0,none⟩)∧gb<q∧Hid (QX N D wx q zz (t*pi))∧Hid (Ct2 w N D g gr gw (some ⟨pb,po,none⟩) n pc (some ⟨tb,to',none⟩) n tc (some ⟨b',o',none⟩) m wc x y z T.sum (wsN L W i) wx)∧Hid (QX N D wx gb qv (cmN Pt T i k)))
             case first =>
               go_region_held3 (fun w'=>w'.cell? ⟨g,1,none⟩=some (.slice (some ⟨tb,to',none⟩) n tc)∧w'.cell? ⟨tb,to'+k*4,none⟩=some (.bool ut.a)∧w'.cell? ⟨tb,to'+k*4+1,none⟩=some (.slice ut.b ut.c ut.d)∧w'.cell? ⟨tb,to'+k*4+2,none⟩=some (.bool ut.e)∧w'.cell? ⟨tb,to'+k*4+3,none⟩=some (.slice ut.f ut.g ut.h)∧w'.cell? ⟨g,0,none⟩=some (.slice (some ⟨pb,po,none⟩) n pc)∧w'.cell? ⟨pb,po+k,none⟩=some (.slice (some ⟨rb,ro,none⟩) pl.length rc)∧w'.cell? ⟨rb,ro+i,none⟩=some (.int .i64 pi))
                 (first | with_reducible exact ck8 (Below.refl _ _).drew (uh HS00) | with_reducible exact ck8 (zqa _ _).drew (uh HS00) | with_reducible exact ck8 (uh BW) (uh HS00) | with_reducible exact ck8 (bk (zqa _ _) (uh BW)) (uh HS00) | with_reducible exact ck8 (zqf (uh BW) (by omega) _ _ _ _) (uh HS00))
                 (first
                 | (go_at_call 39;go_fit (qs_int 1 pi _ (uh HG).1 hpb.1 (by omega));rintro e8 Y0 ⟨⟨vi,rfl,hI⟩,hb⟩;obtain ⟨zi,rfl⟩:=hI.sh;(first | have BW:=qh (bk hb (Below.refl wr.heap.size wr).drew) | (have BW:=qh (bk hb (zqa wr (.cells #[.bool false,.slice none 0 0,.bool false,.slice none 0 0] 59)).drew);have hbx:=(show QBox (wr.alloc (.cells #[.bool false,.slice none 0 0,.bool false,.slice none 0 0] 59)).drew wr.heap.size from zkc wr false none 0 0 false none 0 0).later hb));clear hb)
                 | (go_at_call 46;(first | go_fit (qs_times _ (uh HG).1 (uh HG).2 ((uh HUT).later (uh BW)) hI (uh HI1)) | go_fit (qs_times _ (uh HG).1 (uh HG).2 ((uh HUT).later (bk (zqa _ _) (uh BW))) (hI.later (zqa _ _)) (uh HI1)));rintro e9 Y1 ⟨⟨vm,rfl,hM⟩,hb⟩;obtain ⟨zm,rfl⟩:=hM.sh;(first | (have BW:=qh (bk hb (uh BW));try have hbx:=hbx.later hb) | (have hsy:=(uh BW).size;have hbx:=(zkc Y0 false none 0 0 false none 0 0).later hb;have BW:=qh (bk hb (bk (zqa _ _) (uh BW)))));(try (obtain ⟨⟨w0,h0⟩,⟨w1,w2,w3,h1⟩,⟨w4,h2⟩,⟨w5,w6,w7,h3⟩,gf⟩:=hbx.cells;have hxlt:=hbx.lt));clear hb hI))
               all_goals
                 have hsz:=(uh BW).size
                 have hg0:=(uh HS).cs.gw
                 have HS:=qh ((uh HS).keep (uh BW))
                 have HXB:=qh ((uh HXB).keep (uh BW))
                 go_wp2
                 go_meet
                 first
                   | exact ⟨_,_,rfl,by omega,qh (QX.new hM),qh ((uh HS).keep (zqa _ _)),qh ((uh HXB).keep (zqa _ _))⟩
                   | exact ⟨_,_,rfl,by omega,qh (QX.put hbx hM),qh ((uh HS).beside hbx (by omega) _ _ _ _),qh ((uh HXB).beside hbx (by omega) _ _ _ _)⟩
             case rest =>
               obtain ⟨q,zz,rfl,hq,HT1,HS,HXB⟩:=hcut
               obtain ⟨Z,rfl⟩:∃ X,X=wc:=⟨_,rfl⟩
               have a0:=(uh HXB).c0
               have a1:=(uh HXB).c1
               have a2:=(uh HXB).c2
               have a3:=(uh HXB).c3
               have b0:=(uh HT1).c0
               have b1:=(uh HT1).c1
               have b2:=(uh HT1).c2
               have b3:=(uh HT1).c3
               clear HS00 p0
               go_wp2_with fail
               go_fit (qs_add _ (uh HG).1 (uh HG).2 (uh HXB).q (uh HT1).q (uh HI2))
               rintro e W6 ⟨⟨v2,rfl,hv2⟩,B6⟩
               obtain ⟨z2,rfl⟩:=hv2.sh
               have HS:=qh ((uh HS).keep B6)
               have HXB:=qh ((uh HXB).keep B6)
               clear B6 HT1 a0 a1 a2 a3 b0 b1 b2 b3
               obtain ⟨⟨j0,h0⟩,⟨j1,j2,j3,h1⟩,⟨j4,h2⟩,⟨j5,j6,j7,h3⟩,gf⟩:=(uh HXB).box.cells
               have hlt:=(uh HXB).box.lt
               go_wp2
               go_roundg (n - (k+1))
               case measure=>omega
               case rel=>exact ⟨k+1,z2,by omega,rfl,by go_num,qh ((uh HS).beside (uh HXB).box hgwb _ _ _ _),qh (by rw [uh HNX];exact QX.put (uh HXB).box hv2)⟩
           · obtain rfl:n=k:=by omega
             clear hkn hk hgk
             rw [cmN_all (by have:=(uh HN).1;omega)] at HXB
             obtain ⟨cv,hcv⟩:∃ c,c=cm Pt T i:=⟨_,rfl⟩
             rw [← hcv] at HXB
             have HCV:=qh hcv
             have HS00:=qh (show wr.cell? ⟨gb,0,none⟩=_∧wr.cell? ⟨gb,1,none⟩=_∧wr.cell? ⟨gb,2,none⟩=_∧wr.cell? ⟨gb,3,none⟩=_∧wr.cell? ⟨b,o+i*2+1,none⟩=_ from ⟨(uh HXB).c0,(uh HXB).c1,(uh HXB).c2,(uh HXB).c3,ck (uh HS).cs.below (uh HC1)⟩)
             have hwa:=uh HWA
             have hwsz:=(uh HS).cs.below.size
             clear hcv
             go_upto_region 22 with fail
             clear p0
             go_cut [16] (fun tv wx=>∃ dd:Int,tv=.int .i64 dd∧Hid (dd<0↔cv<want*D)∧Hid (Ct2 w N D g gr gw pa n pc ta n tc (some ⟨b',o',none⟩) m wc x y z T.sum (wsN L W i) wx))
             case first =>
               go_region_held3 (fun w'=>w'.cell? ⟨gb,0,none⟩=some (.bool qv.a)∧w'.cell? ⟨gb,1,none⟩=some (.slice qv.b qv.c qv.d)∧w'.cell? ⟨gb,2,none⟩=some (.bool qv.e)∧w'.cell? ⟨gb,3,none⟩=some (.slice qv.f qv.g qv.h)∧w'.cell? ⟨b,o+i*2+1,none⟩=some (.int .i64 want))
                 (first | with_reducible exact ck5 (Below.refl _ _).drew (uh HS00) | with_reducible exact ck5 (uh BW) (uh HS00))
                 (first
                 | (go_at_call 39;go_fit (qs_int D want _ (uh HG).1 hwa.1 (by omega));rintro e8 Y0 ⟨⟨vi,rfl,hI⟩,hb⟩;obtain ⟨zi,rfl⟩:=hI.sh;have BW:=qh (bk hb (Below.refl wr.heap.size wr).drew);clear hb)
                 | (go_at_call 41;go_fit (qs_cmp _ (uh HG).1 (uh HG).2.1 ((uh HXB).q.later (uh BW)) hI);rintro e9 Y1 ⟨rfl,hb⟩;have BW:=qh (bk hb (uh BW));clear hb hI))
               all_goals
                 have HS:=qh ((uh HS).keep (uh BW))
                 obtain ⟨sg,hsg⟩:∃ s,s=sgn (cv - want*D):=⟨_,rfl⟩
                 have hlt:=@sgn_lt (cv - want*D)
                 rw [← hsg] at hlt ⊢
                 have HLT2:=qh hlt
                 clear hlt hsg
                 go_wp2
                 go_meet
                 exact ⟨_,rfl,qh ((uh HLT2).trans (by omega)),HS⟩
             case rest =>
               obtain ⟨dd,rfl,HDD,HS⟩:=hcut
               obtain ⟨Z,rfl⟩:∃ X,X=wc:=⟨_,rfl⟩
               clear HS00 HXB
               have p2:=(uh HS).cs.c2
               obtain ⟨d0,d1,d2,d3⟩:=(uh HU).1.keep (uh HS).cs.below
               go_wp2_with fail
               go_fit (qs_sign _ (uh HG).2.1 ((uh HU).2.later (uh HS).cs.below))
               rintro e W7 ⟨rfl,B7⟩
               obtain ⟨sg,hsg⟩:∃ s,s=sgn wo:=⟨_,rfl⟩
               rw [← hsg]
               have hlt:=@sgn_lt wo
               rw [← hsg] at hlt
               have HSG:=qh hlt
               have HS:=qh ((uh HS).keep B7)
               clear B7 hsg hlt p2 d0 d1 d2 d3
               by_cases hdd:dd<0
               · have FIN:=qh (show ¬ cutP D r L Pt T W c from fun h=>by
                   have h1:=h.2.1.1 i _ (uh HX).1
                   simp only at h1
                   have h2:=(uh HDD).1 hdd
                   have h3:=uh HCV
                   omega)
                 go_wp2
                 go_ret
                 exact ⟨YesP.no (uh FIN),(uh HS).cs.below⟩
               by_cases hsg:sg<0
               · have FIN:=qh (show ¬ cutP D r L Pt T W c from fun h=>by
                   have h1:=h.1.2.2.2 wo (List.mem_of_getElem? (uh HX).2)
                   have h2:=(uh HSG).1 hsg
                   omega)
                 go_wp2
                 go_ret
                 exact ⟨YesP.no (uh FIN),(uh HS).cs.below⟩
               have HOK:=qh (show want*D≤cm Pt T i∧0≤wo by
                 have h1:¬ cv<want*D:=fun h=>hdd ((uh HDD).2 h)
                 have h2:¬ wo<0:=fun h=>hsg ((uh HSG).2 h)
                 have h3:=uh HCV
                 omega)
               have HNX:=qh (show wsN L W (i+1)=wsN L W i+wo*want from wsN_next (uh HX).1 (uh HX).2)
               have HI1:=qh (show Ins T' (wo*want) by
                 have h1:=mul_in ((uh HBD).w wo (List.mem_of_getElem? (uh HX).2)) hwa (by have:=(uh HBD).d;omega)
                 have:=(uh HBD).b
                 have:=(uh HBD).d
                 unfold Ins
                 omega)
               have HI2:=qh (show Ins T' (wsN L W i+wo*want) by
                 have h1:=ws_in (by have:=(uh HBD).d;omega) (uh HBD).w (uh HL) (by have:=(uh HN).2;omega) (i+1)
                 rw [uh HNX] at h1
                 have:=(uh HBD).b
                 have:=(uh HBD).d
                 unfold Ins
                 omega)
               have d4:=(uh HU).1.keep (uh HS).cs.below
               have HUW:=qh ((uh HU).2.later (uh HS).cs.below)
               have HS00:=qh (show W7.cell? ⟨g,2,none⟩=_∧W7.cell? ⟨b',o'+i*4,none⟩=_∧W7.cell? ⟨b',o'+i*4+1,none⟩=_∧W7.cell? ⟨b',o'+i*4+2,none⟩=_∧W7.cell? ⟨b',o'+i*4+3,none⟩=_∧W7.cell? ⟨b,o+i*2+1,none⟩=_ from ⟨(uh HS).cs.c2,d4.1,d4.2.1,d4.2.2.1,d4.2.2.2,ck (uh HS).cs.below (uh HC1)⟩)
               have hgwl:=(uh HS).xw.box.lt
               clear d4
               go_upto_region 26 with fail
               clear hdd hsg
               go_cut [18] (fun tv wx=>∃ (q:Nat) (zz:F8 Bool),tv=.pointer (some ⟨q,0,none⟩)∧gw<q∧Hid (QX N D wx q zz (wo*want))∧Hid (Ct2 w N D g gr gw pa n pc ta n tc (some ⟨b',o',none⟩) m wc x y z T.sum (wsN L W i) wx))
               case first =>
                 go_region_held3 (fun w'=>w'.cell? ⟨g,2,none⟩=some (.slice (some ⟨b',o',none⟩) m wc)∧w'.cell? ⟨b',o'+i*4,none⟩=some (.bool u.a)∧w'.cell? ⟨b',o'+i*4+1,none⟩=some (.slice u.b u.c u.d)∧w'.cell? ⟨b',o'+i*4+2,none⟩=some (.bool u.e)∧w'.cell? ⟨b',o'+i*4+3,none⟩=some (.slice u.f u.g u.h)∧w'.cell? ⟨b,o+i*2+1,none⟩=some (.int .i64 want))
                   (first | with_reducible exact ck6 (Below.refl _ _).drew (uh HS00) | with_reducible exact ck6 (zqa _ _).drew (uh HS00) | with_reducible exact ck6 (uh BW) (uh HS00) | with_reducible exact ck6 (bk (zqa _ _) (uh BW)) (uh HS00) | with_reducible exact ck6 (zqf (uh BW) (by omega) _ _ _ _) (uh HS00))
                   (first
                   | (go_at_call 39;go_fit (qs_int 1 want _ (uh HG).1 hwa.1 (by omega));rintro e8 Y0 ⟨⟨vi,rfl,hI⟩,hb⟩;obtain ⟨zi,rfl⟩:=hI.sh;(first | have BW:=qh (bk hb (Below.refl W7.heap.size W7).drew) | (have BW:=qh (bk hb (zqa W7 (.cells #[.bool false,.slice none 0 0,.bool false,.slice none 0 0] 59)).drew);have hbx:=(show QBox (W7.alloc (.cells #[.bool false,.slice none 0 0,.bool false,.slice none 0 0] 59)).drew W7.heap.size from zkc W7 false none 0 0 false none 0 0).later hb));clear hb)
                   | (go_at_call 46;(first | go_fit (qs_times _ (uh HG).1 (uh HG).2 ((uh HUW).later (uh BW)) hI (uh HI1)) | go_fit (qs_times _ (uh HG).1 (uh HG).2 ((uh HUW).later (bk (zqa _ _) (uh BW))) (hI.later (zqa _ _)) (uh HI1)));rintro e9 Y1 ⟨⟨vm,rfl,hM⟩,hb⟩;obtain ⟨zm,rfl⟩:=hM.sh;(first | (have BW:=qh (bk hb (uh BW));try have hbx:=hbx.later hb) | (have hsy:=(uh BW).size;have hbx:=(zkc Y0 false none 0 0 false none 0 0).later hb;have BW:=qh (bk hb (bk (zqa _ _) (uh BW)))));(try (obtain ⟨⟨w0,h0⟩,⟨w1,w2,w3,h1⟩,⟨w4,h2⟩,⟨w5,w6,w7,h3⟩,gf⟩:=hbx.cells;have hxlt:=hbx.lt));clear hb hI))
                 all_goals
                   have hsz:=(uh BW).size
                   have HS:=qh ((uh HS).keep (uh BW))
                   go_wp2
                   go_meet
                   first
                     | exact ⟨_,_,rfl,by omega,qh (QX.new hM),qh ((uh HS).keep (zqa _ _))⟩
                     | exact ⟨_,_,rfl,by omega,qh (QX.put hbx hM),qh ((uh HS).beside hbx (by omega) _ _ _ _)⟩
               case rest =>
                 obtain ⟨q,zz,rfl,hq,HT1,HS⟩:=hcut
                 obtain ⟨Z1,rfl⟩:∃ X,X=wc:=⟨_,rfl⟩
                 have a0:=(uh HS).xw.c0
                 have a1:=(uh HS).xw.c1
                 have a2:=(uh HS).xw.c2
                 have a3:=(uh HS).xw.c3
                 have b0:=(uh HT1).c0
                 have b1:=(uh HT1).c1
                 have b2:=(uh HT1).c2
                 have b3:=(uh HT1).c3
                 clear HS00
                 go_wp2_with fail
                 go_fit (qs_add _ (uh HG).1 (uh HG).2 (uh HS).xw.q (uh HT1).q (uh HI2))
                 rintro e W8 ⟨⟨v2,rfl,hv2⟩,B8⟩
                 obtain ⟨z2,rfl⟩:=hv2.sh
                 have HS:=qh ((uh HS).keep B8)
                 clear B8 HT1 a0 a1 a2 a3 b0 b1 b2 b3
                 obtain ⟨⟨j0,h0⟩,⟨j1,j2,j3,h1⟩,⟨j4,h2⟩,⟨j5,j6,j7,h3⟩,gf⟩:=(uh HS).xw.box.cells
                 have hlt:=(uh HS).xw.box.lt
                 go_wp2
                 go_roundg (m - (i+1))
                 case measure=>omega
                 case rel=>exact ⟨i+1,z2,by omega,rfl,by go_num,qh (by rw [uh HNX];exact (uh HS).put hv2),qh (fun j x hj hx=>by
                   rcases Nat.lt_or_ge j i with h | h
                   · exact uh HCM j x h hx
                   · obtain rfl:j=i:=by omega
                     rw [(uh HX).1] at hx
                     obtain rfl:=Option.some.inj hx
                     exact (uh HOK).1),qh (zjl (uh HWP) (uh HX).2 (uh HOK).2)⟩
       · obtain rfl:m=i:=by omega
         clear hil hi hgk
         have HW0:=qh (show ∀ t ∈ W,0≤t by have h1:=uh HWP;rw [List.take_of_length_le (by have:=(uh HN).2;omega)] at h1;exact h1)
         rw [wsN_all (by have:=(uh HN).2;omega)] at HS
         have HCA:=qh (show ∀ (j:Nat) (x:Int×Int),L[j]? = some x→x.2*D≤cm Pt T j from fun j x hx=>uh HCM j x (by have:=(uh HN).2;have:=(List.getElem?_eq_some_iff.1 hx).1;omega) hx)
         have HFIT:=qh (show fitP (r:Int) L Pt T W from ⟨⟨by have:=(uh HN).1;omega,by have:=(uh HN).2;omega⟩,uh HQ,uh HA,uh HW0⟩)
         have a0:=(uh HS).xr.c0
         have a1:=(uh HS).xr.c1
         have a2:=(uh HS).xr.c2
         have a3:=(uh HS).xr.c3
         obtain ⟨c0,c1,c2,c3⟩:=(uh HS).cs.c3
         clear HCM HWP HA HQ
         go_wp2_with fail
         go_fit (qs_cmp _ (uh HG).1 (uh HG).2.1 (uh HS).xr.q ((uh HC).later (uh HS).cs.below))
         rintro e W9 ⟨rfl,B9⟩
         obtain ⟨sa',hsa⟩:∃ s,s=sgn (T.sum - c):=⟨_,rfl⟩
         rw [← hsa]
         have HSA:=qh hsa
         have HS:=qh ((uh HS).keep B9)
         clear B9 hsa a0 a1 a2 a3 c0 c1 c2 c3
         have a0:=(uh HS).xw.c0
         have a1:=(uh HS).xw.c1
         have a2:=(uh HS).xw.c2
         have a3:=(uh HS).xw.c3
         obtain ⟨c0,c1,c2,c3⟩:=(uh HS).cs.c3
         go_wp2_with fail
         go_fit (qs_cmp _ (uh HG).1 (uh HG).2.1 (uh HS).xw.q ((uh HC).later (uh HS).cs.below))
         rintro e W10 ⟨rfl,B10⟩
         obtain ⟨sb',hsb⟩:∃ s,s=sgn (wsum L W - c):=⟨_,rfl⟩
         rw [← hsb]
         have HSB:=qh hsb
         have HS:=qh ((uh HS).keep B10)
         clear B10 hsb a0 a1 a2 a3 c0 c1 c2 c3
         have p2:=(uh HS).cs.c2
         go_wp2_with fail
         go_fit (rrich_any (B:=B) _ (uh HG).1 (uh HG).2 ((uh HR).later (SzE.stays NoWord 0) (uh HS).cs.below) ((uh HW).later (QsE.stays N D NoWord (e:=0) (by decide)) (uh HS).cs.below) hr (uh HL) (by have:=(uh HN).2;omega) (by have:=(uh HN).2;omega) (by have:=(uh HBD).d;omega) (uh HBD).w (by have:=(uh HBD).b;have:=(uh HBD).d;omega))
         rintro e W11 ⟨⟨vb,rfl,hvb⟩,B11⟩
         obtain ⟨zb,rfl⟩:=hvb.sh
         obtain ⟨V4,hV4⟩:∃ V,V=W11.alloc (.cells #[.bool zb.a,.slice zb.b zb.c zb.d,.bool zb.e,.slice zb.f zb.g zb.h] 59):=⟨_,rfl⟩
         obtain ⟨gv,hgv⟩:∃ g,g=W11.heap.size:=⟨_,rfl⟩
         have HXB:=qh (show QX N D V4 gv zb (bz (L.zip W) r) by rw [hV4,hgv];exact QX.new hvb)
         have HS:=qh (((uh HS).keep B11).keep (show Below W11.heap.size W11 V4 by rw [hV4];exact zqa _ _))
         have HS00:=qh (show V4.cell? ⟨gv,0,none⟩=_∧V4.cell? ⟨gv,1,none⟩=_∧V4.cell? ⟨gv,2,none⟩=_∧V4.cell? ⟨gv,3,none⟩=_ from ⟨(uh HXB).c0,(uh HXB).c1,(uh HXB).c2,(uh HXB).c3⟩)
         clear B11 hvb p2
         go_upto_region 31 with fail
         rw [← hV4,← hgv]
         clear hV4 hgv
         go_cut [22] (fun tv wx=>∃ dd:Int,tv=.int .i64 dd∧Hid (0<dd↔D<bz (L.zip W) r)∧Hid (Below w.heap.size w wx))
         case first =>
           go_region_held3 (fun w'=>w'.cell? ⟨gv,0,none⟩=some (.bool zb.a)∧w'.cell? ⟨gv,1,none⟩=some (.slice zb.b zb.c zb.d)∧w'.cell? ⟨gv,2,none⟩=some (.bool zb.e)∧w'.cell? ⟨gv,3,none⟩=some (.slice zb.f zb.g zb.h))
             (first | with_reducible exact ck4 (Below.refl _ _).drew (uh HS00) | with_reducible exact ck4 (uh BW) (uh HS00))
             (first
             | (go_at_call 39;go_fit (qs_int D 1 _ (uh HG).1 (by decide) (by decide));rintro e8 Y0 ⟨⟨vi,rfl,hI⟩,hb⟩;obtain ⟨zi,rfl⟩:=hI.sh;have BW:=qh (bk hb (Below.refl V4.heap.size V4).drew);clear hb)
             | (go_at_call 41;go_fit (qs_cmp _ (uh HG).1 (uh HG).2.1 ((uh HXB).q.later (uh BW)) hI);rintro e9 Y1 ⟨rfl,hb⟩;have BW:=qh (bk hb (uh BW));clear hb hI))
           all_goals
             have HS:=qh ((uh HS).keep (uh BW))
             obtain ⟨sg,hsg⟩:∃ s,s=sgn (bz (L.zip W) r - D):=⟨_,rfl⟩
             have hgt:=@sgn_gt (bz (L.zip W) r - D)
             rw [← hsg] at hgt ⊢
             have HGT:=qh hgt
             clear hgt hsg
             go_wp2
             go_meet
             exact ⟨_,rfl,qh ((uh HGT).trans (by omega)),qh (uh HS).cs.below⟩
         case rest =>
           obtain ⟨dd,rfl,HDD,HB⟩:=hcut
           obtain ⟨Z,rfl⟩:∃ X,X=wc:=⟨_,rfl⟩
           have HFIN:=qh (show cutP D r L Pt T W c↔sa'=0∧sb'=0∧dd≤0 by
             have h1:=@sgn_nil (T.sum - c)
             have h2:=@sgn_nil (wsum L W - c)
             rw [← uh HSA] at h1
             rw [← uh HSB] at h2
             have h3:=uh HDD
             constructor
             · rintro ⟨_,⟨_,g1⟩,g2,g3⟩
               exact ⟨h1.2 (by omega),h2.2 (by omega),by omega⟩
             · rintro ⟨g1,g2,g3⟩
               have e1:=h1.1 g1
               have e2:=h2.1 g2
               exact ⟨uh HFIT,⟨uh HCA,by omega⟩,by omega,by omega⟩)
           clear HS00 HXB HS HDD HSA HSB
           by_cases g1:sa'=0
           rotate_left
           · have hd:(sa' == 0)=false:=by simpa using g1
             have FIN:=qh (show ¬ cutP D r L Pt T W c from fun h=>g1 ((uh HFIN).1 h).1)
             clear g1
             go_wp2
             go_ret
             exact ⟨YesP.no (uh FIN),uh HB⟩
           by_cases g2:sb'=0
           rotate_left
           · have hd:(sb' == 0)=false:=by simpa using g2
             have FIN:=qh (show ¬ cutP D r L Pt T W c from fun h=>g2 ((uh HFIN).1 h).2.1)
             clear g2
             subst g1
             go_wp2
             go_ret
             exact ⟨YesP.no (uh FIN),uh HB⟩
           have FIN:=qh (show dd≤0↔cutP D r L Pt T W c from ⟨fun h=>(uh HFIN).2 ⟨g1,g2,h⟩,fun h=>((uh HFIN).1 h).2.2⟩)
           subst g1 g2
           by_cases g3:dd≤0
           · have FI:=qh ((uh FIN).1 g3)
             go_wp2
             go_ret
             exact ⟨YesP.yes (uh FI),uh HB⟩
           · have FI:=qh (show ¬ cutP D r L Pt T W c from fun h=>g3 ((uh FIN).2 h))
             go_wp2
             go_ret
             exact ⟨YesP.no (uh FI),uh HB⟩
end Go.Proofs.YtkdobjmhammhbaaGreatDoor
