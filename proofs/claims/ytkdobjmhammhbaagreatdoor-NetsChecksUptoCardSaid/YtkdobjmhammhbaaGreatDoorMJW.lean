import Derived.Test.YtkdobjmhammhbaaGreatDoorMJ7
namespace Go.Proofs.YtkdobjmhammhbaaGreatDoor
open Go.RowKit
theorem zkr (K:Nat) (D:Int):Stays NoWord 39 (RsE K D):=RsE.stays K D _ nww
theorem Fill.r4 {N:Nat}{D:Int}{K:Value→Prop}{t:TypeId}{w:World}{g n i:Nat}{L:List Int}{s:Int} (h:Fill K 4 (RsE N D) t w g n L) (hx:L[i]? = some s):∃ y,R4 w g (i*4) y∧Rs N D w (vr y) s:=by
 obtain ⟨cs,_,hcs,h1⟩:=h.at hx
 obtain ⟨y,rfl,hy⟩:=h1.sh
 exact ⟨y,⟨by simpa using hcs 0 _ rfl,hcs 1 _ rfl,hcs 2 _ rfl,hcs 3 _ rfl⟩,hy⟩
theorem zxv {a:List Int}{i:Nat}{s:Int} (h:a[i]? = some s):a.getD i 0=s:=by rw [List.getD_eq_getElem?_getD,h];rfl
theorem eg_some:∀ args w,(callFunc 75 args).run Tryz.prog w=.ok (.enter 75 args) w:=enters_of Tryz.func75 (by kernel_rfl) rfl
def sentP (L:List (Int×Int×Int×Int)) (S F:List Int):Prop:=wiP L F∧(mvs L (F.map fun f => -f) S L.length).any (fun s=>decide (s≠0))=false
set_option maxHeartbeats 16000000 in
set_option maxRecDepth 8000 in
theorem sendsAll_any {K N n:Nat}{T D B:Int}{v kv fv:Value}{L:List (Int×Int×Int×Int)}{S F:List Int} (w:World) (hBg:Big K N T) (hD:Dn T D) (hT64:Tab64 w) (h:Rows 10 (ArE (RsE K D)) w v L) (hk:Rows 4 (RsE K D) w kv S) (hf:Rows 4 (RsE K D) w fv F) (hS:S.length=n) (h1n:1≤n) (hlen:F.length=L.length) (hn:∀ x ∈ L,¬ badArc n x) (hl:L.length≤300) (h60:n≤60) (hSb:∀ f ∈ S,-B≤f∧f≤B) (hF:∀ f ∈ F,-B≤f∧f≤B) (hB:0≤B) (hT:1000*B<T) :
   Calls Tryz.prog 32 #[v,kv,fv] w fun e w'=>YesP e (sentP L S F)∧Below w.heap.size w w':=by
 obtain ⟨la,lc,rfl⟩:=h.shape
 obtain ⟨fa,fc,rfl⟩:=hf.shape
 have hbd:∀ i,i≤300→∀ j,-(601*B)≤(mvs L (F.map fun f => -f) S i).getD j 0∧(mvs L (F.map fun f => -f) S i).getD j 0≤601*B:=fun i hi j=>by
   have h1:=mvs_ins (i:=i) (a:=S) (F:=F.map fun f => -f) hn hS hB (fun j=>by rw [List.getD_eq_getElem?_getD];cases hj:S[j]? with | none=>simp;omega | some s=>exact hSb s (List.mem_of_getElem? hj)) (fun f hf=>by obtain ⟨f',hf',rfl⟩:=List.mem_map.1 hf;have:=hF f' hf';omega) j
   have:=mv_bound hB hi
   omega
 have HBD:=qh (And.intro hbd hF)
 have HT:=qh (And.intro hB hT)
 have HG:=qh (And.intro hBg (And.intro hD hT64))
 have HR:=qh h
 have HF:=qh hf
 have HK:=qh hk
 have HNB:=qh hn
 obtain ⟨m,hm⟩:∃ m,m=L.length:=⟨_,rfl⟩
 rw [← hm] at HR hl hlen ⊢
 rw [hlen] at HF ⊢
 have HM:=qh (And.intro hm (And.intro hlen hS))
 have HS0:=qh (show S≠[]∧S.length≤60 from ⟨fun h=>by rw [h] at hS;simp at hS;omega,by omega⟩)
 clear h hf hk hn hBg hD hT64 hT hbd hF hB hm hlen hS hSb
 go_enter Tryz.func32,Tryz.ntmps32
 go_wp2_with fail
 go_fit (rclone_any _ (uh HK) (uh HS0).1 (uh HS0).2)
 rintro e W0 ⟨⟨g,c,rfl,hg,hc,hFl⟩,B0⟩
 have HV0:=qh hFl
 have HB0:=qh B0
 have HGC:=qh (And.intro hg hc)
 have hcn:n≤c:=by have:=hFl.len;have:=uh HM;omega
 rw [(uh HM).2.2]
 clear hFl B0 hg hc
 go_upto_region 3 with fail
 go_loopg [14] m (fun gk iv wr=>∃ i:Nat,i≤m∧gk=m - i∧iv=.int .i64 (i:Int)∧Hid (∀ (j:Nat) (y:Int×Int×Int×Int) (f:Int),j<i→L[j]? = some y→F[j]? = some f→0≤f∧f≤y.2.2.1)∧Hid (Below w.heap.size w wr)∧Hid (Fill NoWord 4 (RsE K D) 39 wr g c (mvs L (F.map fun f => -f) S i)))
 case atStart=>exact ⟨0,by omega,by omega,rfl,qh (fun j _ _ h=>by omega),HB0,HV0⟩
 case round =>
   clear HB0 HV0
   obtain ⟨i,hi,hgk,rfl,HA,HB,HV⟩:=hrel
   by_cases hil:i<m
   · obtain ⟨⟨fr,to',cp,co⟩,hx⟩:∃ x,L[i]? = some x:=⟨L[i]'(by have:=uh HM;omega),by simp⟩
     obtain ⟨f,hf⟩:∃ x,F[i]? = some x:=⟨F[i]'(by have:=uh HM;omega),by simp⟩
     have hg:=uh HNB _ (List.mem_of_getElem? hx)
     obtain ⟨q1,q2,q3,q4,q5⟩:0≤fr∧fr<n∧0≤to'∧to'<n∧0≤cp:=by unfold badArc at hg;simp only at hg;omega
     obtain ⟨k,rfl⟩:∃ f:Nat,fr=(f:Int):=⟨fr.toNat,by omega⟩
     obtain ⟨t,rfl⟩:∃ f:Nat,to'=(f:Int):=⟨to'.toNat,by omega⟩
     obtain ⟨b,o,u,z,rfl,⟨c0,c1,c2,c3⟩,⟨hcp,_⟩,_⟩:=(uh HR).rarc hx
     obtain ⟨fb,fo,u3,rfl,d,hfq⟩:=(uh HF).rnum hf
     simp only at c0 c1 hcp
     have c0:=ck (uh HB) c0
     have c1:=ck (uh HB) c1
     obtain ⟨d0,d1,d2,d3⟩:=c2.keep (uh HB)
     obtain ⟨e0,e1,e2,e3⟩:=c3.keep (uh HB)
     have HX:=qh (And.intro hx hf)
     have hil':(i:Int)<(m:Int):=by omega
     have him:(i:Int)+1≤1000:=by omega
     obtain ⟨V,hV⟩:∃ V,V=wr.alloc (.cells #[.int .i64 (k:Int),.int .i64 (t:Int),.int .i64 u.a,.slice u.b u.c u.d,.int .i64 u.e,.slice u.f u.g u.h,.int .i64 z.a,.slice z.b z.c z.d,.int .i64 z.e,.slice z.f z.g z.h] 93):=⟨_,rfl⟩
     obtain ⟨q,hq⟩:∃ q,q=wr.heap.size:=⟨_,rfl⟩
     have hn:=arc_new wr k t u z
     have kn:=zqa wr (.cells #[.int .i64 (k:Int),.int .i64 (t:Int),.int .i64 u.a,.slice u.b u.c u.d,.int .i64 u.e,.slice u.f u.g u.h,.int .i64 z.a,.slice z.b z.c z.d,.int .i64 z.e,.slice z.f z.g z.h] 93)
     simp only [← hV,← hq] at hn
     rw [← hV] at kn
     have HBV:=qh (bk kn (uh HB))
     have hgq:g<q:=by rw [hq];exact (uh HV).lt
     have HGQ:=qh hgq
     clear hgq
     have HV:=qh ((uh HV).later (zkr K D) kn)
     have HQS:=qh (And.intro hcp hfq)
     have HDF:=qh d
     have HAN:=qh hn
     clear hx hf hg hcp hfq c2 c3 d kn hn
     go_upto_region 5 with fail
     rw [← hV,← hq]
     clear hV hq c0 c1 d0 d1 d2 d3 e0 e1 e2 e3 HB
     have ne:=Abv.some V
     have HDV:=qh ((uh HDF).keep (uh HBV))
     have s1:∀ x:Abv V,x.val.cell? ⟨fb,fo+i*4,none⟩=_:=fun x=>ck x.property (uh HDV).1
     have s2:∀ x:Abv V,x.val.cell? ⟨fb,fo+i*4+1,none⟩=_:=fun x=>ck x.property (uh HDV).2.1
     have s3:∀ x:Abv V,x.val.cell? ⟨fb,fo+i*4+2,none⟩=_:=fun x=>ck x.property (uh HDV).2.2.1
     have s4:∀ x:Abv V,x.val.cell? ⟨fb,fo+i*4+3,none⟩=_:=fun x=>ck x.property (uh HDV).2.2.2
     have s5:∀ x:Abv V,x.val.cell? ⟨q,2,none⟩=_:=fun x=>ck x.property (uh HAN).2.2.1.1
     have s6:∀ x:Abv V,x.val.cell? ⟨q,2+1,none⟩=_:=fun x=>ck x.property (uh HAN).2.2.1.2.1
     have s7:∀ x:Abv V,x.val.cell? ⟨q,2+2,none⟩=_:=fun x=>ck x.property (uh HAN).2.2.1.2.2.1
     have s8:∀ x:Abv V,x.val.cell? ⟨q,2+3,none⟩=_:=fun x=>ck x.property (uh HAN).2.2.1.2.2.2
     have HCM:=qh (show ∀ x:Abv V,Calls Tryz.prog 34 #[vr u3,vr u] x.val fun e w'=>e=.returned (.int .i64 (sgn (f - cp)))∧Below x.val.heap.size x.val w' from fun x=>rs_cmp _ (uh HG).1 (uh HG).2.1.1 ((uh HQS).2.later (bk x.property (uh HBV))) ((uh HQS).1.later (bk x.property (uh HBV))))
     have HSI:=qh (show ∀ x:Abv V,Calls Tryz.prog 72 #[vr u3] x.val fun e w'=>e=.returned (.int .i64 (sgn f))∧Below x.val.heap.size x.val w' from fun x=>rs_sign _ (uh HG).2.1.1 ((uh HQS).2.later (bk x.property (uh HBV))))
     obtain ⟨sf,hsf⟩:∃ s,s=sgn (f - cp):=⟨_,rfl⟩
     obtain ⟨ss,hss⟩:∃ s,s=sgn f:=⟨_,rfl⟩
     have hf1:=@sgn_gt (f - cp)
     have hf2:=@sgn_lt f
     rw [← hsf] at hf1 HCM
     rw [← hss] at hf2 HSI
     clear hsf hss
     have HNO:=qh (fun (hno:¬ (0≤f∧f≤cp)) (h:sentP L S F)=>hno (h.1.2 i _ _ (uh HX).1 (uh HX).2))
     rcases (show ss<0∨(¬ ss<0∧0<sf)∨(¬ ss<0∧¬ 0<sf) by omega) with h1 | ⟨h1,h2⟩ | ⟨h1,h2⟩
     · have g1:decide (ss<0)=true:=decide_eq_true h1
       have HB2:=qh (show ¬ (0≤f∧f≤cp) by omega)
       clear hf1 hf2
       refine zqm (by kernel_rfl) (by kernel_rfl) ?_
       repeat (go_big_quiet_step (first | exact Calls.abv (uh HCM _) | exact Calls.abv (uh HSI _)))
       refine wpQuiet_nil ?_
       rintro _ ⟨⟨W4,B4⟩,rfl⟩
       have HBV:=qh (bk B4 (uh HBV))
       clear s1 s2 s3 s4 s5 s6 s7 s8 HCM HSI ne
       go_wp2
       go_ret
       exact ⟨YesP.no (uh HNO (uh HB2)),uh HBV⟩
     · have g1:decide (ss<0)=false:=decide_eq_false h1
       have g2:decide (0<sf)=true:=decide_eq_true h2
       have HB2:=qh (show ¬ (0≤f∧f≤cp) by omega)
       clear hf1 hf2
       refine zqm (by kernel_rfl) (by kernel_rfl) ?_
       repeat (go_big_quiet_step (first | exact Calls.abv (uh HCM _) | exact Calls.abv (uh HSI _)))
       refine wpQuiet_nil ?_
       rintro _ ⟨⟨W4,B4⟩,rfl⟩
       have HBV:=qh (bk B4 (uh HBV))
       clear s1 s2 s3 s4 s5 s6 s7 s8 HCM HSI ne
       go_wp2
       go_ret
       exact ⟨YesP.no (uh HNO (uh HB2)),uh HBV⟩
     have g1:decide (ss<0)=false:=decide_eq_false h1
     have g2:decide (0<sf)=false:=decide_eq_false h2
     have HOK:=qh (two_next (p:=fun y f=>0≤f∧f≤y.2.2.1) (uh HA) (uh HX).1 (uh HX).2 (by simp only;omega))
     clear hf1 hf2
     refine zqm (by kernel_rfl) (by kernel_rfl) ?_
     repeat (go_big_quiet_step (first | exact Calls.abv (uh HCM _) | exact Calls.abv (uh HSI _)))
     refine wpQuiet_nil ?_
     rintro _ ⟨⟨W4,B4⟩,rfl⟩
     have HBV:=qh (bk B4 (uh HBV))
     have HV:=qh ((uh HV).later (zkr K D) B4)
     have HAC:=qh (And.intro (ck B4 (uh HAN).1) (ck B4 (uh HAN).2.1))
     clear s1 s2 s3 s4 s5 s6 s7 s8 HCM HSI ne g1 g2 h1 h2 B4 HNO HAN HDV
     obtain ⟨a,ha⟩:∃ a,a=mvs L (F.map fun f => -f) S i:=⟨_,rfl⟩
     have hal:a.length=n:=by rw [ha,zkh];exact (uh HM).2.2
     have hab:=(uh HBD).1 i (by omega)
     rw [← ha] at HV hab
     have hfb:=(uh HBD).2 f (List.mem_of_getElem? (uh HX).2)
     have HAA:=qh (And.intro ha (And.intro hal (And.intro hab hfb)))
     obtain ⟨s,hs⟩:∃ s,a[k]? = some s:=⟨a[k]'(by omega),by simp⟩
     have hsb:=hab k
     rw [zxv hs] at hsb
     have HI1:=qh (show Ins T (s - f) by have:=uh HT;unfold Ins;omega)
     obtain ⟨y,hy4,hyq⟩:=(uh HV).r4 hs
     have HY:=qh hyq
     have HSS:=qh hs
     clear ha hal hab hfb hs hsb hyq
     have a0:=(uh HAC).1
     obtain ⟨d0,d1,d2,d3⟩:=(uh HDF).keep (uh HBV)
     obtain ⟨y0,y1,y2,y3⟩:=hy4
     go_upto_region 7 with fail
     go_cut [] (fun wx=>Hid (Below w.heap.size w wx)∧Hid (Fill NoWord 4 (RsE K D) 39 wx g c (a.set k (s - f)))∧Hid (wx.cell? ⟨q,0,none⟩=some (.int .i64 (k:Int))∧wx.cell? ⟨q,1,none⟩=some (.int .i64 (t:Int))))
     case first =>
       go_region_with (first
         | (go_at_call 71;go_fit (rs_sub _ (uh HG).1 (uh HG).2.1 ((uh HY).later (Below.refl _ _).drew) ((uh HQS).2.later (uh HBV).drew) (uh HI1) ((uh HG).2.2.later (uh HBV).drew));rintro e W1 ⟨⟨v1,rfl,hv1⟩,B1⟩;obtain ⟨z1,rfl⟩:=hv1.sh;have HBV:=qh (bk B1 (uh HBV).drew);have HV:=qh (((uh HV).later (zkr K D) (Below.refl _ _).drew).later (zkr K D) B1);have HAC:=qh (And.intro (ck B1 (ck (Below.refl _ _).drew (uh HAC).1)) (ck B1 (ck (Below.refl _ _).drew (uh HAC).2)));have a0:=(uh HAC).1;obtain ⟨w0,h0⟩:=(uh HV).cell (o:=k*4) (by omega);obtain ⟨w1,h1⟩:=(uh HV).cell (o:=k*4+1) (by omega);obtain ⟨w2,h2⟩:=(uh HV).cell (o:=k*4+2) (by omega);obtain ⟨w3,h3⟩:=(uh HV).cell (o:=k*4+3) (by omega);have f0:=(uh HV).free (k*4);have f1:=(uh HV).free (k*4+1);have f2:=(uh HV).free (k*4+2);have f3:=(uh HV).free (k*4+3);have hlt:=(uh HV).lt;clear B1 d0 d1 d2 d3 y0 y1 y2 y3))
       all_goals
         go_wp2
         go_meet
         exact ⟨qh (below_put4 (uh HBV) (uh HGC).1 _ _ _ _),qh ((uh HV).set4 (zkr K D) (by have:=uh HAA;omega) (kd_r _ _ _ _ _ _ _ _) ⟨_,_,_,_,_,_,_,_,rfl,hv1⟩),qh ⟨zqy (uh HAC).1 (Nat.ne_of_gt (uh HGQ)) _ _ _ _,zqy (uh HAC).2 (Nat.ne_of_gt (uh HGQ)) _ _ _ _⟩⟩
     case rest =>
       obtain ⟨HBV,HV,HAC⟩:=hcut
       obtain ⟨Z,rfl⟩:∃ X,X=wc:=⟨_,rfl⟩
       clear HY a0 d0 d1 d2 d3 y0 y1 y2 y3
       obtain ⟨a2,ha2⟩:∃ a2,a2=a.set k (s - f):=⟨_,rfl⟩
       rw [← ha2] at HV
       have hal2:a2.length=n:=by rw [ha2,List.length_set];exact (uh HAA).2.1
       obtain ⟨s2,hs2⟩:∃ s,a2[t]? = some s:=⟨a2[t]'(by omega),by simp⟩
       have hsb2:-(602*B)≤s2∧s2≤602*B:=by
         have h1:=getD_set' a k t (s - f) (by have:=uh HAA;omega)
         rw [← ha2,zxv hs2] at h1
         have h2:=(uh HAA).2.2.1 t
         have h3:=(uh HAA).2.2.1 k
         have h4:=(uh HAA).2.2.2
         rw [zxv (uh HSS)] at h3
         have:=uh HT
         rw [h1]
         split <;> omega
       have HI2:=qh (show Ins T (s2+f) by have:=uh HT;have:=(uh HAA).2.2.2;unfold Ins;omega)
       obtain ⟨y',hy4,hyq⟩:=(uh HV).r4 hs2
       have HY:=qh hyq
       have HA2:=qh (And.intro ha2 (And.intro hal2 hs2))
       clear ha2 hal2 hs2 hsb2 hyq
       have a0:=(uh HAC).2
       obtain ⟨d0,d1,d2,d3⟩:=(uh HDF).keep (uh HBV)
       obtain ⟨y0,y1,y2,y3⟩:=hy4
       have HNX:=qh (show a2.set t (s2+f)=mvs L (F.map fun f => -f) S (i+1) by
         rw [mvs_next (F:=F.map fun f => -f) (f := -f) (uh HX).1 (by rw [List.getElem?_map,(uh HX).2];rfl),← (uh HAA).1,mv]
         simp only [Int.toNat_natCast]
         rw [zxv (uh HSS),show s + -f=s - f by omega,← (uh HA2).1,zxv (uh HA2).2.2,show s2 - -f=s2+f by omega])
       go_upto_region 8 with fail
       go_region_with (first
         | (go_at_call 70;go_fit (rs_add _ (uh HG).1 (uh HG).2.1 ((uh HY).later (Below.refl _ _).drew) ((uh HQS).2.later (uh HBV).drew) (uh HI2) ((uh HG).2.2.later (uh HBV).drew));rintro e W1 ⟨⟨v1,rfl,hv1⟩,B1⟩;obtain ⟨z1,rfl⟩:=hv1.sh;have HBV:=qh (bk B1 (uh HBV).drew);have HV:=qh (((uh HV).later (zkr K D) (Below.refl _ _).drew).later (zkr K D) B1);have HAC:=qh (And.intro (ck B1 (ck (Below.refl _ _).drew (uh HAC).1)) (ck B1 (ck (Below.refl _ _).drew (uh HAC).2)));have a0:=(uh HAC).2;obtain ⟨w0,h0⟩:=(uh HV).cell (o:=t*4) (by omega);obtain ⟨w1,h1⟩:=(uh HV).cell (o:=t*4+1) (by omega);obtain ⟨w2,h2⟩:=(uh HV).cell (o:=t*4+2) (by omega);obtain ⟨w3,h3⟩:=(uh HV).cell (o:=t*4+3) (by omega);have f0:=(uh HV).free (t*4);have f1:=(uh HV).free (t*4+1);have f2:=(uh HV).free (t*4+2);have f3:=(uh HV).free (t*4+3);have hlt:=(uh HV).lt;clear B1 d0 d1 d2 d3 y0 y1 y2 y3))
       all_goals
         go_wp2
         go_roundg (m - (i+1))
         case measure=>omega
         case rel=>exact ⟨i+1,by omega,rfl,by go_num,HOK,qh (below_put4 (uh HBV) (uh HGC).1 _ _ _ _),qh (by rw [← uh HNX];exact (uh HV).set4 (zkr K D) (by have:=uh HA2;omega) (kd_r _ _ _ _ _ _ _ _) ⟨_,_,_,_,_,_,_,_,rfl,hv1⟩)⟩
   · obtain rfl:m=i:=by omega
     clear hil hi hgk
     have HAL:=qh (show wiP L F from ⟨by have:=uh HM;omega,fun j x f hx hf=>uh HA j x f (by have:=(List.getElem?_eq_some_iff.1 hx).1;have:=uh HM;omega) hx hf⟩)
     have hrw:Rows 4 (RsE K D) wr (.slice (some ⟨g,0,none⟩) n c) (mvs L (F.map fun f => -f) S m):=by
       have h1:=(uh HV).rowsOf (uh HGC).2
       rw [zkh,(uh HM).2.2] at h1
       exact h1
     have HRW:=qh hrw
     clear hrw
     go_wp2_with fail
     go_fit (hasQ_any (p:=fun s=>decide (s≠0)) (lb:=#[]) _ eg_some (uh HRW) (fun W x s hW hs=>by exact some_any W (uh HG).2.1.1 hs))
     rintro e W9 ⟨rfl,B9⟩
     have HB:=qh (bk B9 (uh HB))
     clear B9
     obtain ⟨an,han⟩:∃ b,b=(mvs L (F.map fun f => -f) S m).any (fun s=>decide (s≠0)):=⟨_,rfl⟩
     rw [← han]
     have HAN:=qh han
     clear han
     go_wp2
     go_ret
     refine ⟨YesP.of ?_,uh HB⟩
     unfold sentP
     rw [← (uh HM).1,← uh HAN]
     constructor
     · intro h
       exact ⟨uh HAL,by simpa using h⟩
     · rintro ⟨_,h⟩
       rw [h]
       rfl
end Go.Proofs.YtkdobjmhammhbaaGreatDoor
