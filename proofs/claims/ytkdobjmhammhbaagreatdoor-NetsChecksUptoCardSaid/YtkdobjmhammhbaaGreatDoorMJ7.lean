import Derived.Test.YtkdobjmhammhbaaGreatDoorMJ6
namespace Go.Proofs.YtkdobjmhammhbaaGreatDoor
open Go.RowKit
set_option maxHeartbeats 16000000 in
set_option maxRecDepth 8000 in
theorem areBest_any {K N n pg:Nat}{T D B:Int}{v:Value}{L:List (Int×Int×Int×Int)}{S F P:List Int}{fa pa:Option Addr}{fc pc:Nat} (w:World) (hBg:Big K N T) (hD:Dn T D) (hT64:Tab64 w) (h:Rows 10 (ArE (RsE K D)) w v L) (hf:Rows 4 (RsE K D) w (.slice fa L.length fc) F) (hp:Rows 4 (RsE K D) w (.slice pa n pc) P) (p1:w.cell? ⟨pg,1,none⟩=some (.slice fa L.length fc)) (p2:w.cell? ⟨pg,2,none⟩=some (.slice pa n pc)) (hn:∀ x ∈ L,¬ badArc n x) (hl:L.length≤300) (_h60:n≤60) (hb:ShB T B L S F P) :
   Calls Tryz.prog 35 #[v,.pointer (some ⟨pg,0,none⟩)] w fun e w'=>YesP e (∀ (i:Nat) (x:Int×Int×Int×Int) (f:Int),L[i]? = some x→F[i]? = some f→bestP P x f)∧Below w.heap.size w w':=by
 obtain ⟨la,lc,rfl⟩:=h.shape
 have hfl:=hf.len
 have hpl:=hp.len
 have HBD:=qh hb
 have HG:=qh (And.intro hBg (And.intro hD hT64))
 have HR:=qh h
 have HF:=qh hf
 have HPR:=qh hp
 have HNB:=qh hn
 obtain ⟨m,hm⟩:∃ m,m=L.length:=⟨_,rfl⟩
 rw [← hm] at HR HF hl hfl p1 ⊢
 have HM:=qh (And.intro hm (And.intro hfl hpl))
 have HPC:=qh (And.intro p1 p2)
 clear h hf hp hBg hD hT64 hm hfl hpl hb hn p1 p2
 go_enter Tryz.func35,Tryz.ntmps35
 go_wp2_with fail
 go_loopg [10] m (fun gk iv wr=>∃ i:Nat,i≤m∧gk=m - i∧iv=.int .i64 (i:Int)∧Hid (∀ (j:Nat) (y:Int×Int×Int×Int) (f:Int),j<i→L[j]? = some y→F[j]? = some f→bestP P y f)∧Hid (Below w.heap.size w wr))
 case atStart=>exact ⟨0,by omega,by omega,rfl,qh (fun j _ _ h=>by omega),qh (Below.refl _ _)⟩
 case round =>
   obtain ⟨i,hi,hgk,rfl,HA,HB⟩:=hrel
   by_cases hil:i<m
   · obtain ⟨⟨fr,to',cp,co⟩,hx⟩:∃ x,L[i]? = some x:=⟨L[i]'(by have:=uh HM;omega),by simp⟩
     obtain ⟨f,hf⟩:∃ x,F[i]? = some x:=⟨F[i]'(by have:=uh HM;omega),by simp⟩
     have hg:=uh HNB _ (List.mem_of_getElem? hx)
     obtain ⟨q1,q2,q3,q4,q5⟩:0≤fr∧fr<n∧0≤to'∧to'<n∧0≤cp:=by unfold badArc at hg;simp only at hg;omega
     obtain ⟨k,rfl⟩:∃ f:Nat,fr=(f:Int):=⟨fr.toNat,by omega⟩
     obtain ⟨t,rfl⟩:∃ f:Nat,to'=(f:Int):=⟨to'.toNat,by omega⟩
     obtain ⟨pf,hpf⟩:∃ x,P[k]? = some x:=⟨P[k]'(by have:=uh HM;omega),by simp⟩
     obtain ⟨pt,hpt⟩:∃ x,P[t]? = some x:=⟨P[t]'(by have:=uh HM;omega),by simp⟩
     obtain ⟨b,o,u,z,rfl,⟨c0,c1,c2,c3⟩,⟨hcp,hco⟩,_⟩:=(uh HR).rarc hx
     obtain ⟨fb,fo,u3,rfl,d,hfq⟩:=(uh HF).rnum hf
     obtain ⟨pb,po,u4,rfl,e,hpq⟩:=(uh HPR).rnum hpf
     obtain ⟨pb',po',u5,e2,e',hpq'⟩:=(uh HPR).rnum hpt
     obtain ⟨rfl,rfl⟩:pb=pb'∧po=po':=by simpa using e2
     simp only at c0 c1 hcp hco
     have c0:=ck (uh HB) c0
     have c1:=ck (uh HB) c1
     obtain ⟨d0,d1,d2,d3⟩:=c2.keep (uh HB)
     obtain ⟨e0,e1,e2',e3⟩:=c3.keep (uh HB)
     have hb1:=(uh HBD).p _ (List.mem_of_getElem? hpf)
     have hb2:=(uh HBD).p _ (List.mem_of_getElem? hpt)
     have hbx:=(uh HBD).l _ (List.mem_of_getElem? hx)
     simp only at hbx
     have HI3:=qh (show Ins T (co+pf)∧Ins T (co+pf - pt) by have:=(uh HBD).t;have:=(uh HBD).b;unfold Ins;omega)
     have HX:=qh (And.intro hx (And.intro hf (And.intro hpf hpt)))
     have hil':(i:Int)<(m:Int):=by omega
     have him:(i:Int)+1≤1000:=by omega
     obtain ⟨V,hV⟩:∃ V,V=wr.alloc (.cells #[.int .i64 (k:Int),.int .i64 (t:Int),.int .i64 u.a,.slice u.b u.c u.d,.int .i64 u.e,.slice u.f u.g u.h,.int .i64 z.a,.slice z.b z.c z.d,.int .i64 z.e,.slice z.f z.g z.h] 93):=⟨_,rfl⟩
     obtain ⟨q,hq⟩:∃ q,q=wr.heap.size:=⟨_,rfl⟩
     have hn:=arc_new wr k t u z
     have kn:=zqa wr (.cells #[.int .i64 (k:Int),.int .i64 (t:Int),.int .i64 u.a,.slice u.b u.c u.d,.int .i64 u.e,.slice u.f u.g u.h,.int .i64 z.a,.slice z.b z.c z.d,.int .i64 z.e,.slice z.f z.g z.h] 93)
     simp only [← hV,← hq] at hn
     rw [← hV] at kn
     have HBV:=qh (bk kn (uh HB))
     have HQS:=qh (And.intro hcp (And.intro hco (And.intro hfq (And.intro hpq hpq'))))
     have HE4:=qh (And.intro (e.keep (uh HBV)) (And.intro (e'.keep (uh HBV)) (d.keep (uh HBV))))
     have HAN:=qh hn
     clear hx hf hg hpf hpt hcp hco hfq hpq hpq' c2 c3 d e e' e2 hb1 hb2 hbx kn hn
     go_upto_region 4 with fail
     rw [← hV,← hq]
     clear hV hq c0 c1 d0 d1 d2 d3 e0 e1 e2' e3 HB
     have HS0:=qh (show V.cell? ⟨q,0,none⟩=_∧V.cell? ⟨q,1,none⟩=_∧V.cell? ⟨q,6,none⟩=_∧V.cell? ⟨q,6+1,none⟩=_∧V.cell? ⟨q,6+2,none⟩=_∧V.cell? ⟨q,6+3,none⟩=_∧V.cell? ⟨pg,2,none⟩=_∧V.cell? ⟨pb,po+k*4,none⟩=_∧V.cell? ⟨pb,po+k*4+1,none⟩=_∧V.cell? ⟨pb,po+k*4+2,none⟩=_∧V.cell? ⟨pb,po+k*4+3,none⟩=_∧V.cell? ⟨pb,po+t*4,none⟩=_∧V.cell? ⟨pb,po+t*4+1,none⟩=_∧V.cell? ⟨pb,po+t*4+2,none⟩=_∧V.cell? ⟨pb,po+t*4+3,none⟩=_ from ⟨(uh HAN).1,(uh HAN).2.1,(uh HAN).2.2.2.1,(uh HAN).2.2.2.2.1,(uh HAN).2.2.2.2.2.1,(uh HAN).2.2.2.2.2.2,ck (uh HBV) (uh HPC).2,(uh HE4).1.1,(uh HE4).1.2.1,(uh HE4).1.2.2.1,(uh HE4).1.2.2.2,(uh HE4).2.1.1,(uh HE4).2.1.2.1,(uh HE4).2.1.2.2.1,(uh HE4).2.1.2.2.2⟩)
     go_region_held3 (fun w'=>w'.cell? ⟨q,0,none⟩=some (.int .i64 (k:Int))∧w'.cell? ⟨q,1,none⟩=some (.int .i64 (t:Int))∧w'.cell? ⟨q,6,none⟩=some (.int .i64 z.a)∧w'.cell? ⟨q,6+1,none⟩=some (.slice z.b z.c z.d)∧w'.cell? ⟨q,6+2,none⟩=some (.int .i64 z.e)∧w'.cell? ⟨q,6+3,none⟩=some (.slice z.f z.g z.h)∧w'.cell? ⟨pg,2,none⟩=some (.slice (some ⟨pb,po,none⟩) n pc)∧w'.cell? ⟨pb,po+k*4,none⟩=some (.int .i64 u4.a)∧w'.cell? ⟨pb,po+k*4+1,none⟩=some (.slice u4.b u4.c u4.d)∧w'.cell? ⟨pb,po+k*4+2,none⟩=some (.int .i64 u4.e)∧w'.cell? ⟨pb,po+k*4+3,none⟩=some (.slice u4.f u4.g u4.h)∧w'.cell? ⟨pb,po+t*4,none⟩=some (.int .i64 u5.a)∧w'.cell? ⟨pb,po+t*4+1,none⟩=some (.slice u5.b u5.c u5.d)∧w'.cell? ⟨pb,po+t*4+2,none⟩=some (.int .i64 u5.e)∧w'.cell? ⟨pb,po+t*4+3,none⟩=some (.slice u5.f u5.g u5.h))
       (first | with_reducible exact ck15 (Below.refl _ _).drew (uh HS0) | with_reducible exact uh HS1)
       (first
       | (go_at_call 70;go_fit (rs_add _ (uh HG).1 (uh HG).2.1 ((uh HQS).2.1.later (uh HBV).drew) ((uh HQS).2.2.2.1.later (uh HBV).drew) (uh HI3).1 ((uh HG).2.2.later (uh HBV).drew));rintro e W1 ⟨⟨v1,rfl,hv1⟩,B1⟩;have HS1:=qh (ck15 B1 (ck15 (Below.refl _ _).drew (uh HS0)));have HBV:=qh (bk B1 (uh HBV).drew);have BW:=qh (bk B1 (Below.refl V.heap.size V).drew);have HV1:=qh hv1;clear B1 hv1)
       | (go_at_call 71;go_fit (rs_sub _ (uh HG).1 (uh HG).2.1 (uh HV1) ((uh HQS).2.2.2.2.later (uh HBV)) (uh HI3).2 ((uh HG).2.2.later (uh HBV)));rintro e W2 ⟨⟨v2,rfl,hv2⟩,B2⟩;have HS1:=qh (ck15 B2 (uh HS1));have HBV:=qh (bk B2 (uh HBV));have BW:=qh (bk B2 (uh BW));have HV2:=qh hv2;clear B2 hv2)
       | (go_at_call 72;go_fit (rs_sign _ (uh HG).2.1.1 (uh HV2));rintro e W3 ⟨rfl,B3⟩;have HS1:=qh (ck15 B3 (uh HS1));have HBV:=qh (bk B3 (uh HBV));have BW:=qh (bk B3 (uh BW));clear B3))
     obtain ⟨sr,hsr⟩:∃ s,s=sgn (co+pf - pt):=⟨_,rfl⟩
     rw [← hsr]
     have hred:redc P ((k:Int),(t:Int),cp,co)=co+pf - pt:=by
       unfold redc
       simp only [Int.toNat_natCast]
       rw [zke (uh HX).2.2.1,zke (uh HX).2.2.2]
     have hr1:=@sgn_lt (co+pf - pt)
     have hr2:=@sgn_gt (co+pf - pt)
     rw [← hsr] at hr1 hr2
     have HE:=qh (show bestP P ((k:Int),(t:Int),cp,co) f↔¬ (sr<0∧f - cp<0)∧¬ (0<sr∧0<f) by
       unfold bestP
       rw [hred,hr1,hr2]
       simp only
       omega)
     clear hsr hred hr1 hr2 HS1
     have HAN:=qh (And.intro (uh HAN).2.2.1 (uh HE4).2.2)
     have HNO:=qh (fun (hno:¬ bestP P ((k:Int),(t:Int),cp,co) f) (h:∀ (i:Nat) (x:Int×Int×Int×Int) (f:Int),L[i]? = some x→F[i]? = some f→bestP P x f)=>hno (h i _ _ (uh HX).1 (uh HX).2.1))
     have HYE:=qh (fun (hok:bestP P ((k:Int),(t:Int),cp,co) f)=>two_next (p:=fun y f=>bestP P y f) (uh HA) (uh HX).1 (uh HX).2.1 hok)
     go_upto_region 5 with fail
     have HUW:=qh ((uh HAN).1.keep (uh BW))
     have HFW:=qh ((uh HAN).2.keep (uh BW))
     have ne:=Abv.some W3
     have s0:∀ x:Abv W3,x.val.cell? ⟨pg,1,none⟩=_:=fun x=>ck x.property (ck (uh HBV) (uh HPC).1)
     have s1:∀ x:Abv W3,x.val.cell? ⟨fb,fo+i*4,none⟩=_:=fun x=>ck x.property (uh HFW).1
     have s2:∀ x:Abv W3,x.val.cell? ⟨fb,fo+i*4+1,none⟩=_:=fun x=>ck x.property (uh HFW).2.1
     have s3:∀ x:Abv W3,x.val.cell? ⟨fb,fo+i*4+2,none⟩=_:=fun x=>ck x.property (uh HFW).2.2.1
     have s4:∀ x:Abv W3,x.val.cell? ⟨fb,fo+i*4+3,none⟩=_:=fun x=>ck x.property (uh HFW).2.2.2
     have s5:∀ x:Abv W3,x.val.cell? ⟨q,2,none⟩=_:=fun x=>ck x.property (uh HUW).1
     have s6:∀ x:Abv W3,x.val.cell? ⟨q,2+1,none⟩=_:=fun x=>ck x.property (uh HUW).2.1
     have s7:∀ x:Abv W3,x.val.cell? ⟨q,2+2,none⟩=_:=fun x=>ck x.property (uh HUW).2.2.1
     have s8:∀ x:Abv W3,x.val.cell? ⟨q,2+3,none⟩=_:=fun x=>ck x.property (uh HUW).2.2.2
     have HCM:=qh (show ∀ x:Abv W3,Calls Tryz.prog 34 #[vr u3,vr u] x.val fun e w'=>e=.returned (.int .i64 (sgn (f - cp)))∧Below x.val.heap.size x.val w' from fun x=>rs_cmp _ (uh HG).1 (uh HG).2.1.1 ((uh HQS).2.2.1.later (bk x.property (uh HBV))) ((uh HQS).1.later (bk x.property (uh HBV))))
     have HSI:=qh (show ∀ x:Abv W3,Calls Tryz.prog 72 #[vr u3] x.val fun e w'=>e=.returned (.int .i64 (sgn f))∧Below x.val.heap.size x.val w' from fun x=>rs_sign _ (uh HG).2.1.1 ((uh HQS).2.2.1.later (bk x.property (uh HBV))))
     obtain ⟨sf,hsf⟩:∃ s,s=sgn (f - cp):=⟨_,rfl⟩
     obtain ⟨ss,hss⟩:∃ s,s=sgn f:=⟨_,rfl⟩
     have hf1:=@sgn_lt (f - cp)
     have hf2:=@sgn_gt f
     rw [← hsf] at hf1
     rw [← hss] at hf2
     rw [← hsf] at HCM
     rw [← hss] at HSI
     clear hsf hss
     rcases (show (sr<0∧sf<0)∨(sr<0∧¬ sf<0)∨sr=0∨(0<sr∧0<ss)∨(0<sr∧¬ 0<ss) by omega) with ⟨h1,h2⟩ | ⟨h1,h2⟩ | h1 | ⟨h1,h2⟩ | ⟨h1,h2⟩
     · have g1:decide (sr<0)=true:=decide_eq_true h1
       have g3:decide (sf<0)=true:=decide_eq_true h2
       have HB2:=qh (show ¬ bestP P ((k:Int),(t:Int),cp,co) f from fun h=>absurd ((uh HE).1 h) (by omega))
       clear hf1 hf2
       refine zqm (by kernel_rfl) (by kernel_rfl) ?_
       repeat (go_big_quiet_step (first | exact Calls.abv (uh HCM _) | exact Calls.abv (uh HSI _)))
       refine wpQuiet_nil ?_
       rintro _ ⟨⟨W4,B4⟩,rfl⟩
       have HBV:=qh (bk B4 (uh HBV))
       clear s0 s1 s2 s3 s4 s5 s6 s7 s8 HCM HSI ne
       all_goals
         go_wp2
         go_ret
         exact ⟨YesP.no (uh HNO (uh HB2)),uh HBV⟩
     · have g1:decide (sr<0)=true:=decide_eq_true h1
       have g2:decide (0<sr)=false:=decide_eq_false (by omega)
       have g3:decide (sf<0)=false:=decide_eq_false h2
       have HB2:=qh ((uh HE).2 (by omega))
       clear hf1 hf2
       refine zqm (by kernel_rfl) (by kernel_rfl) ?_
       repeat (go_big_quiet_step (first | exact Calls.abv (uh HCM _) | exact Calls.abv (uh HSI _)))
       refine wpQuiet_nil ?_
       rintro _ ⟨⟨W4,B4⟩,rfl⟩
       have HBV:=qh (bk B4 (uh HBV))
       clear s0 s1 s2 s3 s4 s5 s6 s7 s8 HCM HSI ne
       all_goals
         go_wp2
         go_roundg (m - (i+1))
         case measure=>omega
         case rel=>exact ⟨i+1,by omega,rfl,by go_num,qh (uh HYE (uh HB2)),HBV⟩
     · have g1:decide (sr<0)=false:=decide_eq_false (by omega)
       have g2:decide (0<sr)=false:=decide_eq_false (by omega)
       have HB2:=qh ((uh HE).2 (by omega))
       clear hf1 hf2
       refine zqm (by kernel_rfl) (by kernel_rfl) ?_
       repeat (go_big_quiet_step (first | exact Calls.abv (uh HCM _) | exact Calls.abv (uh HSI _)))
       refine wpQuiet_nil ?_
       rintro _ ⟨⟨W4,B4⟩,rfl⟩
       have HBV:=qh (bk B4 (uh HBV))
       clear s0 s1 s2 s3 s4 s5 s6 s7 s8 HCM HSI ne
       all_goals
         go_wp2
         go_roundg (m - (i+1))
         case measure=>omega
         case rel=>exact ⟨i+1,by omega,rfl,by go_num,qh (uh HYE (uh HB2)),HBV⟩
     · have g1:decide (sr<0)=false:=decide_eq_false (by omega)
       have g2:decide (0<sr)=true:=decide_eq_true h1
       have g4:decide (0<ss)=true:=decide_eq_true h2
       have HB2:=qh (show ¬ bestP P ((k:Int),(t:Int),cp,co) f from fun h=>absurd ((uh HE).1 h) (by omega))
       clear hf1 hf2
       refine zqm (by kernel_rfl) (by kernel_rfl) ?_
       repeat (go_big_quiet_step (first | exact Calls.abv (uh HCM _) | exact Calls.abv (uh HSI _)))
       refine wpQuiet_nil ?_
       rintro _ ⟨⟨W4,B4⟩,rfl⟩
       have HBV:=qh (bk B4 (uh HBV))
       clear s0 s1 s2 s3 s4 s5 s6 s7 s8 HCM HSI ne
       all_goals
         go_wp2
         go_ret
         exact ⟨YesP.no (uh HNO (uh HB2)),uh HBV⟩
     · have g1:decide (sr<0)=false:=decide_eq_false (by omega)
       have g2:decide (0<sr)=true:=decide_eq_true h1
       have g4:decide (0<ss)=false:=decide_eq_false h2
       have HB2:=qh ((uh HE).2 (by omega))
       clear hf1 hf2
       refine zqm (by kernel_rfl) (by kernel_rfl) ?_
       repeat (go_big_quiet_step (first | exact Calls.abv (uh HCM _) | exact Calls.abv (uh HSI _)))
       refine wpQuiet_nil ?_
       rintro _ ⟨⟨W4,B4⟩,rfl⟩
       have HBV:=qh (bk B4 (uh HBV))
       clear s0 s1 s2 s3 s4 s5 s6 s7 s8 HCM HSI ne
       all_goals
         go_wp2
         go_roundg (m - (i+1))
         case measure=>omega
         case rel=>exact ⟨i+1,by omega,rfl,by go_num,qh (uh HYE (uh HB2)),HBV⟩
   · obtain rfl:i=m:=by omega
     clear hil hi hgk
     go_wp2
     go_ret
     exact ⟨YesP.yes (fun j x f hx hf=>uh HA j x f (by have:=(List.getElem?_eq_some_iff.1 hx).1;have:=uh HM;omega) hx hf),uh HB⟩
theorem zero_size (z:Array Value) (n:Nat):(Builtin.zeroCells z n).size=n*z.size:=by simp [Builtin.zeroCells]
theorem rows_flat {α:Type}{k:Nat}{E:World→List Value → α → Prop}{w:World}{b o:Nat}{L:List α} (h:∀ i x,L[i]? = some x→∃ cs,cs.length=k∧(∀ j u,cs[j]? = some u→w.cell? ⟨b,o+(i*k+j),none⟩=some u)∧E w cs x) :
   ∃ vs:List Value,vs.length=L.length*k∧(∀ j u,vs[j]? = some u→w.cell? ⟨b,o+j,none⟩=some u)∧∀ i x,L[i]? = some x→∃ cs,cs.length=k∧(∀ j u,cs[j]? = some u→vs[i*k+j]? = some u)∧E w cs x:=by
 induction L generalizing o with
 | nil=>exact ⟨[],by simp,fun j u hu=>by simp at hu,fun i x hx=>by simp at hx⟩
 | cons y L ih =>
   obtain ⟨cs,hl,hcs,he⟩:=h 0 y rfl
   obtain ⟨vs,h1,h2,h3⟩:=ih (o:=o+k) (fun i x hx=>by
     obtain ⟨ds,hd,hds,he⟩:=h (i+1) x (by simpa using hx)
     exact ⟨ds,hd,fun j u hu=>by rw [show o+k+(i*k+j)=o+((i+1)*k+j) by rw [Nat.add_mul];omega];exact hds j u hu,he⟩)
   refine ⟨cs++vs,by rw [List.length_append,h1,hl,List.length_cons,Nat.add_mul];omega,fun j u hu => ?_,fun i x hx => ?_⟩
   · rcases Nat.lt_or_ge j k with hj | hj
     · rw [List.getElem?_append_left (by omega)] at hu
       simpa using hcs j u hu
     · rw [List.getElem?_append_right (by omega),hl] at hu
       have:=h2 (j - k) u hu
       rwa [show o+k+(j - k)=o+j by omega] at this
   · rcases i with _ | i
     · obtain rfl:y=x:=by simpa using hx
       exact ⟨cs,hl,fun j u hu=>by rw [Nat.zero_mul,Nat.zero_add,List.getElem?_append_left (List.getElem?_eq_some_iff.1 hu).1];exact hu,he⟩
     · obtain ⟨ds,hd,hds,he⟩:=h3 i x (by simpa using hx)
       exact ⟨ds,hd,fun j u hu=>by rw [List.getElem?_append_right (by rw [hl,Nat.add_mul];omega),hl,show (i+1)*k+j - k=i*k+j by rw [Nat.add_mul];omega];exact hds j u hu,he⟩
theorem fill_copied {α:Type}{K:Value→Prop}{k:Nat}{E:World→List Value → α → Prop}{e:TypeId}{w:World}{L:List α}{vs:List Value}{z:Value}{c:Nat} (hk:0<k) (hz:z.cells.size=k) (hzk:∀ u ∈ z.cells.toList,K u) (hE:Stays K e E) (hEK:∀ w cs x,E w cs x→∀ u ∈ cs,K u) (h1:vs.length=L.length*k) (hc:L.length≤c)
   (h3:∀ i x,L[i]? = some x→∃ cs,cs.length=k∧(∀ j u,cs[j]? = some u→vs[i*k+j]? = some u)∧E w cs x):Fill K k E e (w.drew.alloc (.cells (vs.toArray++Builtin.zeroCells z.cells (c - L.length)) e)) w.heap.size c L:=by
 have hb:Below w.heap.size w (w.drew.alloc (.cells (vs.toArray++Builtin.zeroCells z.cells (c - L.length)) e)):=bk (zqa w.drew _) (Below.refl _ _).drew
 have hvk:∀ u ∈ vs,K u:=by
   intro u hu
   obtain ⟨m,hm⟩:=List.getElem?_of_mem hu
   have hml:=(List.getElem?_eq_some_iff.1 hm).1
   have hi:m / k<L.length:=by rw [Nat.div_lt_iff_lt_mul hk];omega
   obtain ⟨x,hx⟩:∃ x,L[m / k]? = some x:=⟨L[m / k],by simp [hi]⟩
   obtain ⟨cs,hl,hcs,he⟩:=h3 _ x hx
   have hj:m % k<cs.length:=by rw [hl];exact Nat.mod_lt _ hk
   have h4:=hcs (m % k) cs[m % k] (by simp [hj])
   rw [show m / k*k+m % k=m by rw [Nat.mul_comm];exact Nat.div_add_mod m k,hm] at h4
   obtain rfl:=Option.some.inj h4
   exact hEK _ _ _ he _ (by simp)
 refine ⟨_,heap_alloc_new w.drew _,?_,fun u hu => ?_,hc,fun i x hx => ?_⟩
 · rw [Array.size_append,zero_size,hz,List.size_toArray,h1,← Nat.add_mul]
   congr 1
   omega
 · simp only [Array.toList_append,List.mem_append] at hu
   rcases hu with hu | hu
   · exact hvk u (by simpa using hu)
   · exact zero_kinds hzk (by omega) u hu
 · obtain ⟨cs,hl,hcs,he⟩:=h3 i x hx
   refine ⟨cs,hl,fun j u hu => ?_,hE _ _ _ _ he (Chg.below hb)⟩
   have:=hcs j u hu
   rw [Array.getElem?_append_left (by have:=(List.getElem?_eq_some_iff.1 this).1;simpa using this)]
   simpa using this
theorem Fill.rowsOf {α:Type}{K:Value→Prop}{k:Nat}{E:World→List Value → α → Prop}{t:TypeId}{w:World}{g c:Nat}{L:List α} (h:Fill K k E t w g c L) (hn:c≤maxLen):Rows k E w (.slice (some ⟨g,0,none⟩) L.length c) L:=by
 refine ⟨_,c,rfl,h.len,hn,Or.inr ⟨g,0,rfl,fun i x hx => ?_⟩⟩
 obtain ⟨cs,hl,hcs,he⟩:=h.at hx
 exact ⟨cs,hl,fun j u hu=>by rw [Nat.zero_add];exact hcs j u hu,he⟩
theorem RsE.kinds {N:Nat}{D:Int} (w:World) (cs:List Value) (x:Int) (h:RsE N D w cs x):∀ u ∈ cs,NoWord u:=by
 obtain ⟨x1,x2,x3,x4,x5,x6,x7,x8,rfl,_⟩:=h
 exact kd_r _ _ _ _ _ _ _ _
theorem add_none (b o j:Nat):(⟨b,o,none⟩:Addr).add j=⟨b,o+j,none⟩:=by unfold Addr.add;split <;> simp_all
theorem wpList_append {P:Program}{ops:Array Oper}{rest:List Oper}{o:Oper}{A:Act}{w:World}{Q:Exit→Act→World→Prop} (hgd:o.guard=none) (s x:Operand) (T:TypeId) (ho:o.op=.call { callee:=.builtin .append,args:=#[s,x],argTypes:=#[T,T] }) {v1 v2 v':Value}{w':World} (hs:A.eval s=v1) (hx:A.eval x=v2) (hr:(Builtin.append_ #[T,T] o.type #[v1,v2]).run P w=.ok v' w') (h:wpList P ops Q rest (A.put o.dst v') w'):wpList P ops Q (o :: rest) A w:=by
 refine wpList_plain hgd fun _ hK => ?_
 unfold Oper.wp execOp
 simp only [ho,resolve,invoke,builtin,Sem.run_bind,Sem.run_pure,Result.andThen_ok,List.map_toArray,List.map_cons,List.map_nil,hs,hx,hr]
 exact hK _ _ h
set_option maxHeartbeats 4000000 in
set_option maxRecDepth 8000 in
theorem rclone_any {N:Nat}{D:Int}{v:Value}{L:List Int} (w:World) (h:Rows 4 (RsE N D) w v L) (h0:L≠[]) (hl:L.length≤60) :
   Calls Tryz.prog 73 #[v] w fun e w'=>(∃ g c,e=.returned (.slice (some ⟨g,0,none⟩) L.length c)∧w.heap.size≤g∧c≤maxLen∧Fill NoWord 4 (RsE N D) 39 w' g c L)∧Below w.heap.size w w':=by
 obtain ⟨a,cap,rfl,h2,h3,h4⟩:=h
 rcases h4 with h4 | ⟨b,o,rfl,h5⟩
 · exact absurd h4 h0
 obtain ⟨vs,v1,v2,v3⟩:=rows_flat h5
 have hlen:0<L.length:=List.length_pos_iff.2 h0
 obtain ⟨i0,hi,hz0,hz1,hz2⟩:=info_parts info_r
 have kn:=zqa w (.cells #[] 39)
 have hr:=run_append_grow (P:=Tryz.prog) (w.alloc (.cells #[] 39)) 32 32 39 i0 _ Tryz.underlying32 hi hz0 ⟨w.heap.size,0,none⟩ 0 0 [] (by simp) (fun j u hu=>by simp at hu) ⟨b,o,none⟩ L.length cap vs (by rw [hz1];exact v1) (fun j u hu=>by rw [add_none];exact ck kn (v2 j u hu)) (by omega) (by omega) (growslice_fits (by omega) (by rw [hz2];omega))
 have hq:∀ w,(binOp .eql 32 (.slice (some ⟨b,o,none⟩) L.length cap) (.slice none 0 0)).run Tryz.prog w=.ok (.bool false) w:=fun w=>Lib.run_eql_slice_nil w 32 39 _ _ _ 0 0 Tryz.underlying32
 rw [Nat.zero_add,show ([]:List Value).toArray++vs.toArray=vs.toArray by simp] at hr
 have hF:=fill_copied (K:=NoWord) (k:=4) (E:=RsE N D) (e:=39) (w:=w.alloc (.cells #[] 39)) (L:=L) (vs:=vs) (z:=.agg #[.int .i64 0,.slice none 0 0,.int .i64 0,.slice none 0 0]) (c:=grownCap (w.alloc (.cells #[] 39)) L.length 0 39) (by decide) rfl zk_r (RsE.stays _ _ _ nww) (fun w cs x h=>RsE.kinds w cs x h) v1 (grownCap_ge _ _ _ _) (fun i x hx=>by
   obtain ⟨cs,h1,h2,h3⟩:=v3 i x hx
   exact ⟨cs,h1,h2,RsE.stays (K:=NoWord) _ _ 39 nww _ _ _ _ h3 (Chg.below kn)⟩)
 obtain ⟨g,c,W',hr2,hg,hc,hF2,hB2⟩:∃ g c W',(Builtin.append_ #[32,32] 32 #[.slice (some ⟨w.heap.size,0,none⟩) 0 0,.slice (some ⟨b,o,none⟩) L.length cap]).run Tryz.prog (w.alloc (.cells #[] 39))=.ok (.slice (some ⟨g,0,none⟩) L.length c) W'∧w.heap.size≤g∧c≤maxLen∧Fill NoWord 4 (RsE N D) 39 W' g c L∧Below w.heap.size w W' :=
   ⟨_,_,_,hr,by simp,grownCap_le_maxLen _ _ _ _ (by unfold maxLen;omega),hF,bk (zqa _ _) kn.drew⟩
 have HF:=qh hF2
 clear h5 v1 v2 v3 hr hF kn hF2
 go_enter Tryz.func73,Tryz.ntmps73
 go_wp2_with (at_builtin;refine wpList_append rfl _ _ 32 rfl rfl rfl hr2 ?_)
 go_ret
 exact ⟨⟨g,c,rfl,hg,hc,uh HF⟩,hB2⟩
def PredQ (K:Nat) (D:Int) (g:Nat) (lb:Array Value) (p:Int→Bool) (w:World):Prop :=
 ∀ (W:World) (x:F8 Int) (s:Int),Below w.heap.size w W→Rs K D W (vr x) s→Calls Tryz.prog g (#[vr x]++lb) W fun e w'=>e=.returned (.bool (p s))∧Below W.heap.size W w'
set_option maxHeartbeats 4000000 in
set_option maxRecDepth 8000 in
theorem idxQ_any {K g:Nat}{D:Int}{lb:Array Value}{p:Int→Bool}{v:Value}{L:List Int} (w:World) (eg:∀ args w,(callFunc g args).run Tryz.prog w=.ok (.enter g args) w) (h:Rows 4 (RsE K D) w v L) (hp:PredQ K D g lb p w) :
   Calls Tryz.prog 138 #[v,.func (.func g) #[] lb] w fun e w'=>(∃ i:Int,e=.returned (.int .i64 i)∧(L.any p=decide (0≤i)))∧Below w.heap.size w w':=by
 obtain ⟨sa,sc,rfl⟩:=h.shape
 have HR:=qh h
 have hsm:=h.small
 unfold maxLen at hsm
 have HP:=qh hp
 clear h hp
 go_enter Tryz.func138,Tryz.ntmps138
 go_wp2_with fail
 go_loopg [5,8] L.length (fun gk _ iv wr=>∃ i:Nat,i≤L.length∧gk=L.length - i∧iv=.int .i64 (i:Int)∧Hid (Below w.heap.size w wr)∧Hid ((L.take i).any p=false))
 case atStart=>exact ⟨0,by omega,by omega,rfl,qh (Below.refl _ _),qh rfl⟩
 case round =>
   obtain ⟨i,hi,hgk,rfl,HB,HN⟩:=hrel
   by_cases hil:i<L.length
   · obtain ⟨x,hx⟩:∃ x,L[i]? = some x:=⟨L[i],by simp [hil]⟩
     obtain ⟨b,o,u,rfl,d,hu⟩:=(uh HR).rnum hx
     obtain ⟨c0,c1,c2,c3⟩:=d.keep (uh HB)
     have HC:=qh (uh HP wr u x (uh HB) (hu.later (uh HB)))
     have hil':(i:Int)<(L.length:Int):=by omega
     have HS:=qh hx
     clear hx d hu
     go_wp2_with fail
     go_fit (uh HC)
     rintro e W1 ⟨rfl,hb⟩
     have HB':=qh (bk hb (uh HB))
     clear hb
     cases hq:p x
     · go_wp2
       go_roundg (L.length - (i+1))
       case measure=>omega
       case rel=>exact ⟨i+1,by omega,rfl,by go_num,HB',qh (by rw [tkn (uh HS)];simp only [List.any_append,List.any_cons,List.any_nil,hq];simpa using uh HN)⟩
     · go_wp2
       go_ret
       refine ⟨⟨_,rfl,?_⟩,uh HB'⟩
       rw [show L.any p=true from List.any_eq_true.2 ⟨x,List.mem_of_getElem? (uh HS),hq⟩]
       simp
   · obtain rfl:i=L.length:=by omega
     clear hil hi hgk
     go_wp2
     go_ret
     refine ⟨⟨_,rfl,?_⟩,uh HB⟩
     have:=uh HN
     rw [List.take_length] at this
     rw [this]
     rfl
set_option maxHeartbeats 4000000 in
set_option maxRecDepth 8000 in
theorem hasQ_any {K g:Nat}{D:Int}{lb:Array Value}{p:Int→Bool}{v:Value}{L:List Int} (w:World) (eg:∀ args w,(callFunc g args).run Tryz.prog w=.ok (.enter g args) w) (h:Rows 4 (RsE K D) w v L) (hp:PredQ K D g lb p w) :
   Calls Tryz.prog 74 #[v,.func (.func g) #[] lb] w fun e w'=>e=.returned (.bool (L.any p))∧Below w.heap.size w w':=by
 have HC:=qh (idxQ_any w eg h hp)
 obtain ⟨sa,sc,rfl⟩:=h.shape
 clear h hp
 go_enter Tryz.func74,Tryz.ntmps74
 go_wp2_with fail
 go_fit (uh HC)
 rintro e W1 ⟨⟨i,rfl,hi⟩,hb⟩
 have HI:=qh hi
 clear hi
 go_wp2
 go_ret
 exact ⟨by rw [uh HI];rfl,hb⟩
theorem some_any {K:Nat}{D:Int}{x:F8 Int}{s:Int} (w:World) (D0:0<D) (h:Rs K D w (vr x) s):Calls Tryz.prog 75 #[vr x] w fun e w'=>e=.returned (.bool (decide (s≠0)))∧Below w.heap.size w w':=by
 have kn:=zqa w (.cells #[.int .i64 x.a,.slice x.b x.c x.d,.int .i64 x.e,.slice x.f x.g x.h] 39)
 have hx:=RX.new h
 have c0:=hx.c0
 have c1:=hx.c1
 have c2:=hx.c2
 have c3:=hx.c3
 have HX:=qh hx
 have HB:=qh kn
 clear h hx kn
 go_enter Tryz.func75,Tryz.ntmps75
 go_wp2_with fail
 go_fit (rs_sign _ D0 (uh HX).q)
 rintro e W1 ⟨rfl,B1⟩
 have HB:=qh (bk B1 (uh HB))
 obtain ⟨sg,hsg⟩:∃ t,t=sgn s:=⟨_,rfl⟩
 rw [← hsg]
 have HSG:=qh hsg
 clear hsg B1 c0 c1 c2 c3
 go_wp2
 go_ret
 refine ⟨?_,uh HB⟩
 have h1:=@sgn_nil s
 rw [← uh HSG] at h1
 show Ending.returned (.bool (sg != 0))=_
 congr 2
 by_cases h0:s=0
 · rw [h1.2 h0];simp [h0]
 · have:sg≠0:=fun h=>h0 (h1.1 h)
   simp [h0,this]
end Go.Proofs.YtkdobjmhammhbaaGreatDoor
