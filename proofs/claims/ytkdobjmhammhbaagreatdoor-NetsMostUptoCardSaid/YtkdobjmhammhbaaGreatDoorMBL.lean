import Derived.Test.YtkdobjmhammhbaaGreatDoorMPB
import Derived.Test.YtkdobjmhammhbaaGreatDoorMBK
namespace Go.Proofs.YtkdobjmhammhbaaGreatDoor
set_option maxHeartbeats 16000000
set_option maxRecDepth 8000
open Go.RowKit
theorem flag_some {side:List Bool}{k n:Nat}{b:Bool} (h:flagAt side (k:Int)=b) (hl:side.length=n) (hk:k<n):side[k]? = some b:=by
 unfold flagAt at h
 rw [List.getD_eq_getElem?_getD,Int.toNat_natCast,List.getElem?_eq_getElem (by omega)] at h
 rw [List.getElem?_eq_getElem (by omega)]
 exact congrArg some h
theorem rmost_any {K N n s t:Nat}{T D B c:Int}{v fv sv:Value}{L:List (Int×Int×Int×Int)}{F:List Int}{side:List Bool}{x:F8 Bool} (w:World) (hBg:Big K N T) (hD:Dn T D) (h:Rows 10 (ArE (QsE N D)) w v L) (hf:Rows 4 (QsE N D) w fv F) (hs:Rows 1 BE w sv side) (hc:Qs N D w (vq x) c) (hn:∀ x ∈ L,¬ badArc n x) (hl:L.length<=300) (h60:n<=60) (hcap:∀ x ∈ L,x.2.2.1<=B) (hB:0<=B) (hT:1000*B<T) (hsn:s<n) (htn:t<n) (hM:MostP n s t L F side c) :
 Calls Tryz.prog 28 #[.int .i64 (n:Int),v,.int .i64 (s:Int),.int .i64 (t:Int),fv,sv,vq x] w fun e w'=>e=.returned (.bool true)/\Below w.heap.size w w':=by
 obtain ⟨la,lc,rfl⟩:=h.shape
 obtain ⟨fa,fc,rfl⟩:=hf.shape
 obtain ⟨b1,o1,s1⟩:∃ b o,True:=⟨0,0,trivial⟩
 obtain ⟨sa,sc,rfl⟩:=hs.shape
 obtain ⟨sb,so,rfl,cs⟩:=hs.flag (flag_some hM.s1 hM.len hsn)
 obtain ⟨sb',so',e,ct⟩:=hs.flag (flag_some hM.t0 hM.len htn)
 obtain ⟨rfl,rfl⟩:sb=sb'/\so=so':=by simpa using e
 have hFB:∀ f ∈ F,-B<=f/\f<=B:=fun f hf'=>by
  obtain ⟨i,hi⟩:=List.getElem?_of_mem hf'
  obtain ⟨y,hy⟩:∃ y,L[i]? = some y:=⟨_,List.getElem?_eq_getElem (by rw [<- hM.wi.1];exact (List.getElem?_eq_some_iff.1 hi).1)⟩
  have h1:=hM.wi.2 i y f hy hi
  have h2:=hcap y (List.mem_of_getElem? hy)
  omega
 have hCB:∀ x ∈ L,-B<=x.2.2.1/\x.2.2.1<=B:=fun y hy=>by
  have h1:=hn y hy
  unfold badArc at h1
  have h2:=hcap y hy
  omega
 have hLB:(L.length:Int)*B<T:=by
  have h1:(L.length:Int)*B<=300*B:=Int.mul_le_mul_of_nonneg_right (by omega) hB
  omega
 rw [hM.len]
 have hns:∀ x ∈ L,¬ badArc side.length x:=by rw [hM.len];exact hn
 have kn:=zqa w (.cells #[.bool x.a,.slice x.b x.c x.d,.bool x.e,.slice x.f x.g x.h] 59)
 obtain ⟨g,hg⟩:∃ g,g=w.heap.size:=⟨_,rfl⟩
 obtain ⟨W0,hW0⟩:∃ W0,W0=w.alloc (.cells #[.bool x.a,.slice x.b x.c x.d,.bool x.e,.slice x.f x.g x.h] 59):=⟨_,rfl⟩
 have HX:=qh (show QX N D W0 g x c from by rw [hW0,hg];exact QX.new hc)
 rw [<- hW0] at kn
 have HQ:=qh (fun (W:World) (hb:Below w.heap.size w W)=>And.intro (h.later (ArE.stays (QsE.stays N D NoWord (e:=0) (by decide))) hb) (And.intro (hf.later (QsE.stays N D NoWord (e:=0) (by decide)) hb) (hs.later (BE.stays NoWord 0) hb)))
 have HG:=qh (And.intro hBg hD)
 have HM:=qh hM
 have HN:=qh (And.intro hn (And.intro hl (And.intro h60 (And.intro hns (And.intro hcap (And.intro hB hT))))))
 have HFB:=qh (And.intro hFB (And.intro hCB hLB))
 have HB:=qh kn
 have cs:=ck kn cs
 have ct:=ck kn ct
 have hsn':(s:Int)<(n:Int):=by omega
 have htn':(t:Int)<(n:Int):=by omega
 obtain ⟨ll,hll⟩:∃ k,k=L.length:=⟨_,rfl⟩
 obtain ⟨nf,hnf⟩:∃ k,k=F.length:=⟨_,rfl⟩
 rw [<- hll] at HQ ⊢
 rw [<- hnf] at HQ ⊢
 rw [hM.len] at HQ
 clear h hf hs hc hn hBg hD hM hFB hCB hLB hns kn hcap hT hll hnf e s1 b1 o1
 go_enter Tryz.func28,Tryz.ntmps28
 go_upto_region 1 with fail
 rw [<- hW0,<- hg]
 clear hW0 hg
 go_wp2_with fail
 go_fit (rwithin_any _ (uh HG).1 (uh HG).2.1 (uh HQ _ (uh HB)).1 (uh HQ _ (uh HB)).2.1 (uh HN).2.1)
 rintro e W1 ⟨⟨yes,rfl,hyes⟩,B1⟩
 obtain rfl:yes=true:=hyes.2 (uh HM).wi
 have HB:=qh (bk B1 (uh HB))
 have HX:=qh ((uh HX).keep B1)
 have cs:=ck B1 cs
 have ct:=ck B1 ct
 clear B1 hyes
 have hd:((n:Int) != (n:Int))=false:=by simp
 go_wp2_with fail
 go_fit (rleft_any (B:=B) _ (uh HG).1 (uh HG).2 (uh HQ _ (uh HB)).1 (uh HQ _ (uh HB)).2.1 (uh HM).wi.1 (uh HN).1 (uh HN).2.1 h60 (uh HFB).1 hB (uh HN).2.2.2.2.2.2)
 rintro e W2 ⟨⟨lv,rfl,hlv⟩,B2⟩
 have HB:=qh (bk B2 (uh HB))
 have HX:=qh ((uh HX).keep B2)
 have HLV:=qh (And.intro hlv (show ∀ k,k<n->(mvs L F (List.replicate n 0) L.length)[k]? = some (exo (arcN L) F k) from fun k hk=>by
  rw [<- mvs_exo (uh HN).1 (uh HM).wi.1 k,List.getD_eq_getElem?_getD,List.getElem?_eq_getElem (by rw [mvs_len,List.length_replicate];exact hk)]
  rfl))
 obtain ⟨da,dc,rfl⟩:=hlv.shape
 rw [mvs_len,List.length_replicate]
 have h1:=hlv
 clear B2 hlv cs ct h1
 go_wp2_with fail
 go_loopg [17] n (fun gk iv wr=>∃ i:Nat,i<=n/\gk=n - i/\iv=.int .i64 (i:Int)/\Hid (Below w.heap.size w wr)/\Hid (Below W2.heap.size W2 wr))
 case atStart=>exact ⟨0,by omega,by omega,rfl,HB,qh (Below.refl _ _)⟩
 case round =>
  clear HB
  obtain ⟨i,hi,hgk,rfl,HB,HB2⟩:=hrel
  by_cases hin:i<n
  ·obtain ⟨b,o,y,rfl,d,hy⟩:=(uh HLV).1.qnum ((uh HLV).2 i hin)
   obtain ⟨d0,d1,d2,d3⟩:=d.keep (uh HB2)
   have hin':(i:Int)<(n:Int):=by omega
   have him:(i:Int)+1<=1000:=by have:=h60;omega
   go_wp2_with fail
   go_fit (qs_sign _ (uh HG).2.1 (hy.later (uh HB2)))
   rintro e W3 ⟨rfl,B3⟩
   have HB:=qh (bk B3 (uh HB))
   have HB2:=qh (bk B3 (uh HB2))
   obtain ⟨z,hz⟩:∃ z,z=sgn (exo (arcN L) F i):=⟨_,rfl⟩
   rw [<- hz]
   clear B3 d0 d1 d2 d3 d
   by_cases a1:i=s
   ·subst a1
    have h1:((i:Int) != (i:Int))=false:=by simp
    clear hz
    go_wp2
    go_roundg (n - (i+1))
    case measure=>omega
    case rel=>exact ⟨i+1,by omega,rfl,by go_num,HB,HB2⟩
   ·have h1:((i:Int) != (s:Int))=true:=by simp;omega
    by_cases a2:i=t
    ·subst a2
     have h2:((i:Int) != (i:Int))=false:=by simp
     clear hz a1
     go_wp2
     go_roundg (n - (i+1))
     case measure=>omega
     case rel=>exact ⟨i+1,by omega,rfl,by go_num,HB,HB2⟩
    ·have h2:((i:Int) != (t:Int))=true:=by simp;omega
     obtain rfl:z=0:=by rw [hz,(uh HM).keep i hin a1 a2];rfl
     have h3:((0:Int) != 0)=false:=by simp
     clear hz a1 a2
     go_wp2
     go_roundg (n - (i+1))
     case measure=>omega
     case rel=>exact ⟨i+1,by omega,rfl,by go_num,HB,HB2⟩
  ·obtain rfl:n=i:=by omega
   clear hin hi hgk
   obtain ⟨b,o,y,rfl,d,hy⟩:=(uh HLV).1.qnum ((uh HLV).2 s hsn)
   obtain ⟨d0,d1,d2,d3⟩:=d.keep (uh HB2)
   have HX:=qh ((uh HX).keep (uh HB2))
   have x0:=(uh HX).c0
   have x1:=(uh HX).c1
   have x2:=(uh HX).c2
   have x3:=(uh HX).c3
   have HY:=qh (hy.later (uh HB2))
   have HSG:=qh (show sgn (exo (arcN L) F s - c)=0 by rw [(uh HM).out,Int.sub_self];rfl)
   have HSH:=qh (show sgn (thru side L - c)=0 by rw [(uh HM).cut,Int.sub_self];rfl)
   clear hy d HLV
   go_upto_region 11 with fail
   go_cut [19] (fun v wx=>v=.int .i64 0/\Hid (Below wr.heap.size wr wx))
   case first =>
    go_region_with (go_at_call 41;go_fit (qs_cmp _ (uh HG).1 (uh HG).2.1 ((uh HY).later (Below.refl _ _).drew) ((uh HX).q.later (Below.refl _ _).drew));rintro e W4 ⟨rfl,B4⟩;rw [uh HSG];have HB4:=qh (bk B4 (Below.refl _ _).drew);clear B4 d0 d1 d2 d3 x0 x1 x2 x3)
    all_goals
     go_wp2
     go_meet
     exact ⟨rfl,HB4⟩
   case rest =>
    obtain ⟨rfl,HB4⟩:=hcut
    obtain ⟨W5,rfl⟩:∃ X,X=wc:=⟨_,rfl⟩
    have HX:=qh ((uh HX).keep (uh HB4))
    have HB:=qh (bk (uh HB4) (uh HB))
    have HQ5:=qh (uh HQ _ (uh HB).drew)
    clear d0 d1 d2 d3 x0 x1 x2 x3 HB4 HB2
    have x0:=(uh HX).c0
    have x1:=(uh HX).c1
    have x2:=(uh HX).c2
    have x3:=(uh HX).c3
    go_upto_region 12 with fail
    go_cut [20] (fun v wx=>v=.int .i64 0/\Hid (Below w.heap.size w wx))
    case first =>
     go_region_with (first
      | (go_at_call 42;go_fit (rthru_any (B:=B) (side:=side) _ (uh HG).1 (uh HG).2 (uh HQ5).1 (uh HQ5).2.2 (uh HN).2.2.2.1 (uh HN).2.1 (uh HFB).2.1 hB (uh HFB).2.2);rintro e W6 ⟨⟨v2,rfl,hv2⟩,B6⟩
         obtain ⟨z2,rfl⟩:=hv2.sh
         have HV2:=qh hv2
         have HX6:=qh (((uh HX).keep (Below.refl _ _).drew).keep B6)
         have HB6:=qh (bk B6 (uh HB).drew)
         have x0:=(uh HX6).c0
         have x1:=(uh HX6).c1
         have x2:=(uh HX6).c2
         have x3:=(uh HX6).c3
         clear B6 hv2)
      | (go_at_call 41;go_fit (qs_cmp _ (uh HG).1 (uh HG).2.1 (uh HV2) (uh HX6).q);rintro e W7 ⟨rfl,B7⟩;rw [uh HSH];have HB7:=qh (bk B7 (uh HB6));clear B7 x0 x1 x2 x3))
     all_goals
      go_wp2
      go_meet
      exact ⟨rfl,HB7⟩
    case rest =>
     obtain ⟨rfl,HB7⟩:=hcut
     go_wp2
     go_ret
     exact ⟨rfl,uh HB7⟩
def lowF (D:Int) (F:List Int):List (Int×Int):=F.map fun s=>(pO D s,dO D s)
theorem low_gcd {D:Int} (D0:0<D) (s:Int):Int.gcd (pO D s) (dO D s)=1:=by
 have h:=lowq_spec (p:=s) D0
 exact h.2.2
theorem rows_low {K:Nat}{D:Int}{w:World}{v:Value}{F:List Int} (D0:0<D) (h:Rows 4 (RsE K D) w v F):Rows 4 (RE (K+1)) w v (lowF D F) :=
 h.map (fun s=>(pO D s,dO D s)) fun cs s _ he=>by
  obtain ⟨x1,x2,x3,x4,x5,x6,x7,x8,h1,h2⟩:=he
  exact ⟨x1,x2,x3,x4,x5,x6,x7,x8,h1,h2.low D0⟩
theorem low_size {K N:Nat}{T D s:Int} (hB:Big K N T) (hD:Dn T D) (hs:Ins T s):(qt (pO D s,dO D s)).size<=4*(10*(K+1)+1):=by
 obtain ⟨h0,_,h1⟩:=dO_spec hD.1 s
 obtain ⟨⟨a,b⟩,c⟩:=parts_fit hD hs ⟨h0,low_gcd hD.1 s⟩ h1
 have h2:=pw_ten (K+1)
 have h3:=hB.r
 have e1:=itoa_short (z:=pO D s) (k:=20*(K+1)) (by omega) (by omega) (by omega)
 have e2:=itoa_short (z:=dO D s) (k:=20*(K+1)) (by omega) (by omega) (by omega)
 have:=qtext_size (p:=pO D s) (d:=dO D s) (a:=20*(K+1)+1) (b:=20*(K+1)+1) (by show (Lib.itoa (pO D s)).toArray.size<=_;simpa using e1) (by show (Lib.itoa (dO D s)).toArray.size<=_;simpa using e2)
 show (qtext (pO D s) (dO D s)).size<=_
 omega
theorem low_back {D:Int} (D0:0<D) (F:List Int):(lowF D F).map (scl D)=F:=by
 unfold lowF
 rw [List.map_map]
 conv=>rhs;rw [<- List.map_id F]
 refine List.map_congr_left fun s _ => ?_
 obtain ⟨h0,h1,h2⟩:=dO_spec D0 s
 have h3:=scl_is (x:=(pO D s,dO D s)) h1
 show scl D (pO D s,dO D s)=s
 simp only at h3
 rw [h2] at h3
 exact (Int.eq_of_mul_eq_mul_right (by omega) h3).symm
theorem rows_back {K N M:Nat}{T D:Int}{w:World}{v:Value}{F:List Int} (hB:Big K N T) (hD:Dn T D) (hF:∀ f ∈ F,Ins T f) (h:Rows 4 (QE M) w v (lowF D F)):Rows 4 (QsE N D) w v F:=by
 have h1:=h.map (E':=QsE N D) (scl D) fun cs x hx he=>by
  obtain ⟨s,hs,rfl⟩:=List.mem_map.1 hx
  obtain ⟨x1,x2,x3,x4,x5,x6,x7,x8,h1,h2⟩:=he
  obtain ⟨h0,h3,h4⟩:=dO_spec hD.1 s
  have e:scl D (pO D s,dO D s)=s:=by
   have h5:=scl_is (x:=(pO D s,dO D s)) h3
   simp only at h5
   rw [h4] at h5
   exact (Int.eq_of_mul_eq_mul_right (by omega) h5).symm
  rw [e]
  exact ⟨x1,x2,x3,x4,x5,x6,x7,x8,h1,Qs.of hB hD (hF s hs) h2 h4⟩
 rw [low_back hD.1] at h1
 exact h1
theorem zero_r (w:World):Rr 1650 w (vr ⟨0,none,0,0,0,none,0,0⟩) 0 1:=⟨0,none,0,0,0,none,0,0,0,rfl,Or.inl ⟨rfl,by omega,by omega⟩,Or.inl ⟨rfl,by omega,by omega⟩,by omega,by decide,Or.inl ⟨rfl,rfl⟩⟩
def VrR (w:World) (g:Nat) (u:F8 Int):Prop:=w.cell? ⟨g,0,none⟩=some (.int .i64 u.a)/\w.cell? ⟨g,1,none⟩=some (.slice u.b u.c u.d)/\w.cell? ⟨g,2,none⟩=some (.int .i64 u.e)/\w.cell? ⟨g,3,none⟩=some (.slice u.f u.g u.h)
theorem vr_new (w:World) (g:Nat) (hg:g=w.heap.size) (u:F8 Int):Pst (w.alloc (.cells #[.int .i64 u.a,.slice u.b u.c u.d,.int .i64 u.e,.slice u.f u.g u.h] 39)) fun W=>VrR W g u:=by
 subst hg
 intro W hb
 have h:∀ k v,(#[Value.int .i64 u.a,.slice u.b u.c u.d,.int .i64 u.e,.slice u.f u.g u.h])[k]? = some v->W.cell? ⟨w.heap.size,k,none⟩=some v:=fun k v hv=>ck hb (by rw [zqe rfl];exact hv)
 exact ⟨h 0 _ rfl,h 1 _ rfl,h 2 _ rfl,h 3 _ rfl⟩
theorem says_arcs {l:List (Int×Int×ByteArray×ByteArray)} (hm:arcsOf l=some (arcsD l)) (ha:shortA l):Says l [] [] [] ⟨#[48]⟩ (arcsD l) (numsD []) (numsD []) (numsD []) (numD ⟨#[48]⟩) :=
 ⟨hm,rfl,rfl,rfl,by unfold numD;rw [num0];rfl,ha,by unfold shortT;simp,by unfold shortT;simp,by unfold shortT;simp,by decide⟩
theorem flows_any {A:Nat->Addr}{n s t:Int}{lv:Value}{l:List (Int×Int×ByteArray×ByteArray)} (w:World) (hA:Env A w) (hS:Sents w A) (h:Rows 4 SpE w lv l) (hl:l.length<=100000000) :
 Calls Tryz.prog 6 #[.int .i64 n,lv,.int .i64 s,.int .i64 t] w fun e w'=>e=.returned (.bool true)/\Below w.heap.size w w':=by
 obtain ⟨la,lc,rfl⟩:=h.shape
 have HLN:=qh hl
 have HP:=qh (show Pst w fun W=>Env A W/\Sents W A/\Rows 4 SpE W (.slice la l.length lc) l/\Below w.heap.size w W from fun W hb=>⟨hA.later hb,hS.later hb,h.later (SpE.stays NoWord 0) hb,hb⟩)
 clear hA hS h hl
 obtain ⟨ll,hll⟩:∃ n,n=l.length:=⟨_,rfl⟩
 rw [<- hll] at HP ⊢
 clear hll
 go_enter Tryz.func6,Tryz.ntmps6
 go_wp2_with fail
 go_fit (rarcs_any _ (uh HP).now.2.2.1 (uh HLN))
 rintro e W1 ⟨h1,B1⟩
 obtain ⟨vm,ok,rfl,hm1,hm2⟩:=arcsP_D h1
 have HP:=qh ((uh HP).up B1)
 have HD:=qh hm2
 have HM:=qh hm1
 clear B1 h1 hm1 hm2
 go_wp2_with fail
 go_fit (shortA_any _ (uh HP).now.2.2.1)
 rintro e W2 ⟨⟨b1,rfl,hb1⟩,rfl⟩
 have HS1:=qh hb1
 clear hb1
 rcases ok with _ | _
 ·go_wp2
  go_ret
  exact ⟨rfl,(uh HP).now.2.2.2⟩
 rcases b1 with _ | _
 ·go_wp2
  go_ret
  exact ⟨rfl,(uh HP).now.2.2.2⟩
 obtain ⟨D,L,S,F,P,c,hN⟩:=(says_arcs (uh HM (by simp)) (uh HS1 (by simp))).net
 have HN:=qh hN
 have HQ:=qh (show Pst W2 fun W=>Rows 10 (ArE (QsE 7590 D)) W vm L from fun W hb=>hN.qa (uh HD W hb (by simp)))
 have HSA:=qh (uh HS1 (by simp))
 clear hN HD
 go_wp2_with fail
 go_fit (parcs_any _ (uh HP).now.1 (uh HP).now.2.2.1 (uh HLN) (uh HM (by simp)))
 rintro e W3 ⟨⟨va,rfl,h3⟩,B3⟩
 have HP:=qh ((uh HP).up B3)
 have HQ:=qh ((uh HQ).up B3)
 have HR:=qh ((uh HN).ra h3)
 have HL20:=qh (show L.length<=20 from by
  obtain ⟨a1,c1,e1⟩:=h3.shape
  obtain ⟨a2,c2,e2⟩:=(uh HR).shape
  rw [e1] at e2
  injection e2 with _ e3 _
  have h4:=allOf_len (uh HM (by simp))
  have h5:=(uh HSA).1
  omega)
 clear B3 h3
 have HMO:=qh (most_any (A:=A) (K:=1649) (N:=7590) (T:=TT) (D:=D) (B:=MM*D) (n:=n) (s:=s) (t:=t) W3 (uh HP).now.2.1 (uh HP).now.1.t64 bigTT (uh HN).dn (uh HR) (fun x hx=>((uh HN).b.l x hx).1.2) (uh HN).b.b (uh HN).b.t)
 go_wp2_with fail
 go_fit (uh HMO)
 rintro e W4 ⟨hR,B4⟩
 obtain ⟨fv,sv,u,rfl,hbad,hgood⟩:=hR
 have HP:=qh ((uh HP).up B4)
 have HQ:=qh ((uh HQ).up B4)
 have HBA:=qh hbad
 have HGO:=qh hgood
 obtain ⟨g,hg⟩:∃ g,g=W4.heap.size:=⟨_,rfl⟩
 obtain ⟨V,hV⟩:∃ V,V=W4.alloc (.cells #[.int .i64 u.a,.slice u.b u.c u.d,.int .i64 u.e,.slice u.f u.g u.h] 39):=⟨_,rfl⟩
 have k5:Below W4.heap.size W4 V:=by rw [hV];exact zqa _ _
 have HU:=qh (show Pst V fun W=>VrR W g u from by rw [hV];exact vr_new W4 g hg u)
 have HP:=qh ((uh HP).up k5)
 have HQ:=qh ((uh HQ).up k5)
 have HK:=qh k5
 clear B4 hbad hgood HMO HR k5
 obtain ⟨ev,hev⟩:∃ v,v=errV A (mostE n s t L):=⟨_,rfl⟩
 rw [<- hev]
 have HEV:=qh hev
 clear hev
 go_upto_region 7 with fail
 rw [<- hV]
 rw [<- hg]
 clear hV hg
 go_wp2_with fail
 go_fit (rnetv_any (n:=n) _ (uh HN).dn.1 (uh HQ).now)
 rintro e W5 ⟨rfl,B5⟩
 have HP:=qh ((uh HP).up B5)
 have HQ:=qh ((uh HQ).up B5)
 have HU:=qh ((uh HU).up B5)
 have HK:=qh (bk B5 (uh HK))
 clear B5
 by_cases h0:netV n L=0
 rotate_left
 ·have hcod:netV n L=2\/netV n L=4:=by
   rcases netV_codes n L with e | e | e
   ·exact absurd e h0
   ·exact Or.inl e
   ·exact Or.inr e
  have hE:mostE n s t L=netV n L:=by unfold mostE;rw [if_neg h0]
  clear h0
  rcases hcod with e | e
  ·have HE:=qh (hE.trans e)
   rw [e]
   clear e hE
   obtain ⟨q1,q2,q3⟩:=uh HBA (by rw [uh HE];decide)
   subst q1 q2 q3
   obtain rfl:ev=errV A 2:=by rw [uh HEV,uh HE]
   go_wp2_with fail
   go_fit (coded_err A _ (Or.inr (Or.inl rfl)) (uh HP).now.2.1)
   rintro e W6 ⟨rfl,B6⟩
   have HP:=qh ((uh HP).up B6)
   have HU:=qh ((uh HU).up B6)
   clear B6
   obtain ⟨r0,r1,r2,r3⟩:=(uh HU).now
   go_wp2_with fail
   go_fit (qtext_any _ (zero_r _) (by decide) (uh HP).now.1.tab)
   rintro e W7 ⟨rfl,B7⟩
   have HP:=qh ((uh HP).up B7)
   rw [show qtext 0 1=⟨#[48]⟩ by decide +kernel]
   clear B7 r0 r1 r2 r3
   go_wp2
   go_ret
   exact ⟨rfl,(uh HP).now.2.2.2⟩
  ·have HE:=qh (hE.trans e)
   rw [e]
   clear e hE
   obtain ⟨q1,q2,q3⟩:=uh HBA (by rw [uh HE];decide)
   subst q1 q2 q3
   obtain rfl:ev=errV A 4:=by rw [uh HEV,uh HE]
   go_wp2_with fail
   go_fit (coded_err A _ (Or.inr (Or.inr rfl)) (uh HP).now.2.1)
   rintro e W6 ⟨rfl,B6⟩
   have HP:=qh ((uh HP).up B6)
   have HU:=qh ((uh HU).up B6)
   clear B6
   obtain ⟨r0,r1,r2,r3⟩:=(uh HU).now
   go_wp2_with fail
   go_fit (qtext_any _ (zero_r _) (by decide) (uh HP).now.1.tab)
   rintro e W7 ⟨rfl,B7⟩
   have HP:=qh ((uh HP).up B7)
   rw [show qtext 0 1=⟨#[48]⟩ by decide +kernel]
   clear B7 r0 r1 r2 r3
   go_wp2
   go_ret
   exact ⟨rfl,(uh HP).now.2.2.2⟩
 by_cases a1:(0<=s/\s<n)/\(0<=t/\t<n)/\s≠t
 rotate_left
 ·have HE:=qh (show mostE n s t L=4 by unfold mostE;rw [if_pos h0,if_neg a1])
  rw [h0]
  have HA1:=qh a1
  clear h0 a1
  go_upto_region 8 with fail
  go_cut [78] (fun v wx=>v=.bool true/\W5=wx)
  case first =>
   by_cases c1:s<0
   ·go_wp2
    go_meet
    exact ⟨rfl,rfl⟩
   by_cases c2:n<=s
   ·go_wp2
    go_meet
    exact ⟨rfl,rfl⟩
   by_cases c3:t<0
   ·go_wp2
    go_meet
    exact ⟨rfl,rfl⟩
   by_cases c4:n<=t
   ·go_wp2
    go_meet
    exact ⟨rfl,rfl⟩
   have c5:s=t:=by
    rcases Classical.em (s=t) with h | h
    ·exact h
    ·exact absurd ⟨⟨by omega,by omega⟩,⟨by omega,by omega⟩,h⟩ (uh HA1)
   subst c5
   go_wp2
   go_meet
   exact ⟨rfl,rfl⟩
  case rest =>
   obtain ⟨rfl,rfl⟩:=hcut
   obtain ⟨q1,q2,q3⟩:=uh HBA (by rw [uh HE];decide)
   subst q1 q2 q3
   obtain rfl:ev=errV A 4:=by rw [uh HEV,uh HE]
   go_wp2_with fail
   go_fit (coded_err A _ (Or.inr (Or.inr rfl)) (uh HP).now.2.1)
   rintro e W6 ⟨rfl,B6⟩
   have HP:=qh ((uh HP).up B6)
   have HU:=qh ((uh HU).up B6)
   clear B6
   obtain ⟨r0,r1,r2,r3⟩:=(uh HU).now
   go_wp2_with fail
   go_fit (qtext_any _ (zero_r _) (by decide) (uh HP).now.1.tab)
   rintro e W7 ⟨rfl,B7⟩
   have HP:=qh ((uh HP).up B7)
   rw [show qtext 0 1=⟨#[48]⟩ by decide +kernel]
   clear B7 r0 r1 r2 r3
   go_wp2
   go_ret
   exact ⟨rfl,(uh HP).now.2.2.2⟩
 have HE:=qh (show mostE n s t L=0 by unfold mostE;rw [if_pos h0,if_pos a1])
 obtain ⟨n',s',t',hn',hs',ht',h60,h300,hbd,F',side,sum,hF,hsd,hsum,hMP⟩:=uh HGO (uh HE)
 obtain rfl:ev=.nilIface:=by rw [uh HEV,uh HE];rfl
 rw [h0]
 have hins:∀ f ∈ F',Ins TT f:=fun f hf=>by
  obtain ⟨i,hi⟩:=List.getElem?_of_mem hf
  obtain ⟨y,hy⟩:∃ y,L[i]? = some y:=⟨_,List.getElem?_eq_getElem (by rw [<- hMP.wi.1];exact (List.getElem?_eq_some_iff.1 hi).1)⟩
  have h1:=hMP.wi.2 i y f hy hi
  have h2:=((uh HN).b.l y (List.mem_of_getElem? hy)).1.2
  have h3:=(uh HN).b.t
  have h4:=(uh HN).b.b
  unfold Ins
  omega
 have hcB:∀ x ∈ L,-(MM*D)<=x.2.2.1/\x.2.2.1<=MM*D:=fun x hx=>((uh HN).b.l x hx).1
 have hthru:Ins TT sum:=by
  have h1:=sum_ins (f:=fun x:Int×Int×Int×Int=>if flagAt side x.1=true/\flagAt side x.2.1=false then x.2.2.1 else 0) (uh HN).b.b L fun x hx=>by
   have h2:=hcB x hx
   have h3:=(uh HN).b.b
   split <;> omega
  have h4:(L.length:Int)*(MM*D)<=300*(MM*D):=Int.mul_le_mul_of_nonneg_right (by omega) (uh HN).b.b
  have h5:=(uh HN).b.t
  have h6:=(uh HN).b.b
  rw [<- hMP.cut]
  unfold thru Ins
  omega
 have hl20:F'.length<=20:=by
  rw [hMP.wi.1]
  exact uh HL20
 have c1:¬ (s<0):=by omega
 have c2:¬ (n<=s):=by omega
 have c3:¬ (t<0):=by omega
 have c4:¬ (n<=t):=by omega
 have c5:(s == t)=false:=beq_eq_false_iff_ne.2 (show s≠t by omega)
 have HEQ:=qh (And.intro hn' (And.intro hs' ht'))
 have HST:=qh (show s'<n'/\t'<n' by omega)
 have hlow:∀ f,Ins TT f->0<(pO D f,dO D f).2/\Int.gcd (pO D f,dO D f).1 (pO D f,dO D f).2=1/\(qt (pO D f,dO D f)).size<=4*16501:=fun f hf=>⟨(dO_spec (uh HN).dn.1 f).1,low_gcd (uh HN).dn.1 f,low_size bigTT (uh HN).dn hf⟩
 have HLOW:=qh hlow
 have HINS:=qh (And.intro hins (And.intro hcB hthru))
 have HF:=qh (rows_low (uh HN).dn.1 (hF.later (RsE.stays 1649 D 0 nww) (uh HK)))
 have HSD:=qh (show Pst W5 fun W=>Rows 1 BE W sv side from fun W hb=>(hsd.later (BE.stays NoWord 0) (uh HK)).later (BE.stays NoWord 0) hb)
 have HSM:=qh (show Pst W5 fun W=>Rr 1650 W (vr u) (pO D sum) (dO D sum) from fun W hb=>((hsum.low (uh HN).dn.1).later (uh HK)).later hb)
 have HMP:=qh hMP
 have HBN:=qh (And.intro h60 (And.intro h300 hbd))
 have HLF:=qh (show (lowF D F').length<=20 by unfold lowF;rw [List.length_map];exact hl20)
 clear hn' hs' ht' hins hcB hthru hl20 hlow hF hsd hsum hMP h60 h300 hbd h0 HGO HBA HEV a1 HK HL20
 go_wp2_with fail
 go_fit (texts_any _ (uh HP).now.1 (uh HF) (by have:=uh HLF;omega) (by decide))
 rintro e W6 ⟨⟨v6,rfl,h6⟩,B6⟩
 have HP:=qh ((uh HP).up B6)
 have HQ:=qh ((uh HQ).up B6)
 have HU:=qh ((uh HU).up B6)
 have HSD:=qh ((uh HSD).up B6)
 have HSM:=qh ((uh HSM).up B6)
 have H6:=qh h6
 clear B6 h6 HF
 go_wp2_with fail
 go_fit (rsaid_any (N:=16501) _ (uh H6) (uh HLF) (fun x hx=>by
  obtain ⟨f,hf,rfl⟩:=List.mem_map.1 hx
  exact uh HLOW f ((uh HINS).1 f hf)) (by decide) (by decide))
 rintro e W7 ⟨⟨v7,rfl,h7⟩,B7⟩
 have HP:=qh ((uh HP).up B7)
 have HQ:=qh ((uh HQ).up B7)
 have HU:=qh ((uh HU).up B7)
 have HSD:=qh ((uh HSD).up B7)
 have HSM:=qh ((uh HSM).up B7)
 have HF:=qh (show Pst W7 fun W=>Rows 4 (QsE 7590 D) W v7 F' from fun W hb=>(rows_back bigTT (uh HN).dn (uh HINS).1 h7).later (QsE.stays 7590 D NoWord (e:=0) (by decide)) hb)
 clear B7 h7 H6
 obtain ⟨r0,r1,r2,r3⟩:=(uh HU).now
 go_wp2_with fail
 go_fit (qtext_any _ (uh HSM).now (by decide) (uh HP).now.1.tab)
 rintro e W8 ⟨rfl,B8⟩
 have HP:=qh ((uh HP).up B8)
 have HQ:=qh ((uh HQ).up B8)
 have HF:=qh ((uh HF).up B8)
 have HSD:=qh ((uh HSD).up B8)
 clear B8 r0 r1 r2 r3 HU HSM
 have HLS:=qh (uh HLOW sum (uh HINS).2.2)
 go_wp2_with fail
 go_fit (qsaid_any (N:=16501) _ (uh HLS).1 (uh HLS).2.1 (uh HLS).2.2 (by decide) (by decide))
 rintro e W9 ⟨⟨x1,x2,x3,x4,x5,x6,x7,x8,rfl,h9⟩,B9⟩
 have HP:=qh ((uh HP).up B9)
 have HQ:=qh ((uh HQ).up B9)
 have HF:=qh ((uh HF).up B9)
 have HSD:=qh ((uh HSD).up B9)
 have HC:=qh (show Pst W9 fun W=>Qs 7590 D W (vq ⟨x1,x2,x3,x4,x5,x6,x7,x8⟩) sum from fun W hb=>(Qs.of bigTT (uh HN).dn (uh HINS).2.2 h9 (dO_spec (uh HN).dn.1 sum).2.2).later hb)
 obtain ⟨gq,hgq⟩:∃ g,g=W9.heap.size:=⟨_,rfl⟩
 have HV:=qh (vf_new W9 gq hgq ⟨x1,x2,x3,x4,x5,x6,x7,x8⟩ 0 (-1))
 have kk:=bk (zqa (W9.alloc (.cells #[.bool x1,.slice x2 x3 x4,.bool x5,.slice x6 x7 x8] 59)) (.cells #[.int .i64 0,.int .i64 (-1)] 61)) (zqa W9 _)
 obtain ⟨V9,hV9⟩:∃ V,V=(W9.alloc (.cells #[.bool x1,.slice x2 x3 x4,.bool x5,.slice x6 x7 x8] 59)).alloc (.cells #[.int .i64 0,.int .i64 (-1)] 61):=⟨_,rfl⟩
 simp only at HV
 rw [<- hV9] at HV kk
 have HP:=qh ((uh HP).up kk)
 have HQ:=qh ((uh HQ).up kk)
 have HF:=qh ((uh HF).up kk)
 have HSD:=qh ((uh HSD).up kk)
 have HC:=qh ((uh HC).up kk)
 clear B9 h9 kk HLS
 go_upto_region 14 with fail
 rw [<- hV9,<- hgq]
 clear hV9 hgq
 obtain ⟨⟨p0,p1,p2,p3⟩,q0,q1⟩:=(uh HV).now
 obtain ⟨rfl,rfl,rfl⟩:=uh HEQ
 have HRM:=qh (rmost_any (K:=1649) (N:=7590) (T:=TT) (D:=D) (B:=MM*D) (c:=sum) V9 bigTT (uh HN).dn (uh HQ).now (uh HF).now (uh HSD).now (uh HC).now (uh HBN).2.2 (uh HBN).2.1 (uh HBN).1 (fun x hx=>((uh HINS).2.1 x hx).2) (uh HN).b.b (uh HN).b.t (uh HST).1 (uh HST).2 (uh HMP))
 go_wp2_with fail
 go_fit (uh HRM)
 rintro e W10 ⟨rfl,B10⟩
 have HP:=qh ((uh HP).up B10)
 clear B10 p0 p1 p2 p3 q0 q1
 go_wp2
 go_ret
 exact ⟨rfl,(uh HP).now.2.2.2⟩
theorem netsMost_law {A:Nat->Addr}{n s t:Int}{lv:Value}{l:List (Int×Int×ByteArray×ByteArray)} (w:World) (hA:Env A w) (hS:Sents w A) (h:Rows 4 SpE w lv l) (hl:l.length<=100000000) :
 Calls Tryz.prog 3 #[.int .i64 n,lv,.int .i64 s,.int .i64 t] w fun e w'=>e=.returned (.bool true)/\Below w.heap.size w w':=by
 obtain ⟨la,lc,rfl⟩:=h.shape
 have HLN:=qh hl
 have HP:=qh (show Pst w fun W=>Env A W/\Sents W A/\Rows 4 SpE W (.slice la l.length lc) l/\Below w.heap.size w W from fun W hb=>⟨hA.later hb,hS.later hb,h.later (SpE.stays NoWord 0) hb,hb⟩)
 clear hA hS h hl
 obtain ⟨ll,hll⟩:∃ n,n=l.length:=⟨_,rfl⟩
 rw [<- hll] at HP ⊢
 clear hll
 go_enter Tryz.func3,Tryz.ntmps3
 go_wp2_with fail
 go_fit (lone_any _)
 rintro e W1 ⟨⟨v1,rfl,h1⟩,B1⟩
 have HP:=qh ((uh HP).up B1)
 have HF1:=qh (flows_any (n:=2) (s:=0) (t:=1) W1 (uh HP).now.1 (uh HP).now.2.1 h1 (by decide))
 clear B1 h1
 go_wp2_with fail
 go_fit (uh HF1)
 rintro e W2 ⟨rfl,B2⟩
 have HP:=qh ((uh HP).up B2)
 have HF2:=qh (flows_any (n:=n) (s:=s) (t:=t) W2 (uh HP).now.1 (uh HP).now.2.1 (uh HP).now.2.2.1 (uh HLN))
 clear B2 HF1
 go_wp2_with fail
 go_fit (uh HF2)
 rintro e W3 ⟨rfl,B3⟩
 have HP:=qh ((uh HP).up B3)
 clear B3 HF2
 go_wp2
 go_ret
 exact ⟨rfl,(uh HP).now.2.2.2⟩
end Go.Proofs.YtkdobjmhammhbaaGreatDoor
