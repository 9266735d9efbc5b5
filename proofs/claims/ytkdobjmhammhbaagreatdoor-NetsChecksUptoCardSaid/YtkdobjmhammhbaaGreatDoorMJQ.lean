import Derived.Test.YtkdobjmhammhbaaGreatDoorMJ3
namespace Go.Proofs.YtkdobjmhammhbaaGreatDoor
open Go.RowKit
set_option maxHeartbeats 16000000 in
set_option maxRecDepth 8000 in
theorem rship_some {K N n:Nat}{T D B c:Int}{v kv:Value}{L:List (Int×Int×Int×Int)}{S F P:List Int}{fa pa sa:Option Addr}{fn fc pn pc sn sc:Nat}{x:F8 Bool} (w:World) (hBg:Big K N T) (hD:Dn T D) (hDD:Dn T (D*D)) (h:Rows 10 (ArE (QsE N D)) w v L) (hk:Rows 4 (QsE N D) w kv S) (hf:Rows 4 (QsE N D) w (.slice fa fn fc) F) (hp:Rows 4 (QsE N D) w (.slice pa pn pc) P) (hc:Qs N D w (vq x) c) (hn:∀ x ∈ L,¬ badArc n x) (hl:L.length≤300) (h60:n≤60) (hb:ShB T B L S F P) :
   Calls Tryz.prog 19 #[.int .i64 (n:Int),v,kv,.agg #[.bool false,.slice fa fn fc,.slice pa pn pc,.slice sa sn sc,.bool x.a,.slice x.b x.c x.d,.bool x.e,.slice x.f x.g x.h]] w fun e w'=>YesP e (shipOk D n L S F P c)∧Below w.heap.size w w':=by
 obtain ⟨la,lc,rfl⟩:=h.shape
 obtain ⟨ka,kc,rfl⟩:=hk.shape
 obtain rfl:=hf.len
 obtain rfl:=hp.len
 have hsm:=hp.small
 unfold maxLen at hsm
 have HG:=qh (And.intro hBg (And.intro hD hDD))
 have HR:=qh h
 have HK:=qh hk
 have HF:=qh hf
 have HPR:=qh hp
 have HC:=qh hc
 have HNB:=qh hn
 have HBD:=qh hb
 clear h hk hf hp hn hc hBg hD hDD hb
 have kn:=zqa w (.cells #[.bool false,.slice fa F.length fc,.slice pa P.length pc,.slice sa sn sc,.bool x.a,.slice x.b x.c x.d,.bool x.e,.slice x.f x.g x.h] 70)
 have hcell:∀ k u,(#[Value.bool false,.slice fa F.length fc,.slice pa P.length pc,.slice sa sn sc,.bool x.a,.slice x.b x.c x.d,.bool x.e,.slice x.f x.g x.h])[k]? = some u→(w.alloc (.cells #[.bool false,.slice fa F.length fc,.slice pa P.length pc,.slice sa sn sc,.bool x.a,.slice x.b x.c x.d,.bool x.e,.slice x.f x.g x.h] 70)).cell? ⟨w.heap.size,k,none⟩=some u:=fun k u hu=>by rw [nc rfl];exact hu
 obtain ⟨W0,hW0⟩:∃ W0,W0=w.alloc (.cells #[.bool false,.slice fa F.length fc,.slice pa P.length pc,.slice sa sn sc,.bool x.a,.slice x.b x.c x.d,.bool x.e,.slice x.f x.g x.h] 70):=⟨_,rfl⟩
 obtain ⟨g,hg⟩:∃ g,g=w.heap.size:=⟨_,rfl⟩
 have hgw:w.heap.size≤g:=by omega
 rw [← hW0] at kn hcell
 rw [← hg] at hcell
 have b0:=hcell 0 _ rfl
 have b1:=hcell 1 _ rfl
 have b2:=hcell 2 _ rfl
 have HP:=qh (show W0.cell? ⟨g,1,none⟩=some (.slice fa F.length fc)∧W0.cell? ⟨g,2,none⟩=some (.slice pa P.length pc)∧Q4 W0 g 4 x∧w.heap.size≤g from ⟨b1,b2,⟨hcell 4 _ rfl,hcell 5 _ rfl,hcell 6 _ rfl,hcell 7 _ rfl⟩,hgw⟩)
 clear hcell hgw
 go_enter Tryz.func19,Tryz.ntmps19
 go_upto_region 1 with fail
 rw [← hW0,← hg]
 have HB:=qh kn
 clear hW0 hg kn
 obtain ⟨m,hm⟩:∃ m,m=L.length:=⟨_,rfl⟩
 obtain ⟨nf,hnf⟩:∃ m,m=F.length:=⟨_,rfl⟩
 obtain ⟨np,hnp⟩:∃ m,m=P.length:=⟨_,rfl⟩
 rw [← hm] at HR hl ⊢
 rw [← hnf] at HF HP b1
 rw [← hnp] at HPR HP b2 hsm
 have HM:=qh (And.intro hm (And.intro hnf hnp))
 clear hm hnf hnp
 have HQ:=qh (fun (W:World) (hb:Below w.heap.size w W)=>And.intro ((uh HR).later (ArE.stays (QsE.stays N D NoWord (e:=0) (by decide))) hb) (And.intro ((uh HF).later (QsE.stays N D NoWord (e:=0) (by decide)) hb) (And.intro ((uh HK).later (QsE.stays N D NoWord (e:=0) (by decide)) hb) ((uh HPR).later (QsE.stays N D NoWord (e:=0) (by decide)) hb))))
 go_wp2_with fail
 go_fit (rwithin_any _ (uh HG).1 (uh HG).2.1.1 (uh HQ _ (uh HB)).1 (uh HQ _ (uh HB)).2.1 (by have:=uh HM;omega))
 rintro e W1 ⟨⟨yes,rfl,hyes⟩,B1⟩
 have HB:=qh (bk B1 (uh HB))
 have HP:=qh (show W1.cell? ⟨g,1,none⟩=some (.slice fa nf fc)∧W1.cell? ⟨g,2,none⟩=some (.slice pa np pc)∧Q4 W1 g 4 x∧w.heap.size≤g from ⟨ck B1 (uh HP).1,ck B1 (uh HP).2.1,(uh HP).2.2.1.keep B1,(uh HP).2.2.2⟩)
 have HY:=qh hyes
 clear B1 b0 b1 b2 hyes
 have b1:=(uh HP).1
 have b2:=(uh HP).2.1
 rcases yes with _ | _
 · go_wp2
   go_ret
   exact ⟨YesP.no fun h=>absurd ((uh HY).2 h.1) (by simp),uh HB⟩
 have HWI:=qh ((uh HY).1 rfl)
 clear HY
 by_cases hmn:np=n
 rotate_left
 · have hd:((np:Int) != (n:Int))=true:=by simp;omega
   go_wp2
   go_ret
   exact ⟨YesP.no fun h=>hmn (by have:=h.2.1;have:=uh HM;omega),uh HB⟩
 subst hmn
 have hd:((np:Int) != (np:Int))=false:=by simp
 have hfm:nf=m:=by have:=(uh HWI).1;have:=uh HM;omega
 subst hfm
 go_wp2_with fail
 go_fit (rleft_any (B:=B) _ (uh HG).1 (uh HG).2.1 (uh HQ _ (uh HB)).1 (uh HQ _ (uh HB)).2.1 (uh HWI).1 (uh HNB) (by have:=uh HM;omega) h60 (uh HBD).f (uh HBD).b (uh HBD).t)
 rintro e W2 ⟨⟨lv,rfl,hlv⟩,B2⟩
 have HB:=qh (bk B2 (uh HB))
 have HP:=qh (show W2.cell? ⟨g,1,none⟩=some (.slice fa nf fc)∧W2.cell? ⟨g,2,none⟩=some (.slice pa np pc)∧Q4 W2 g 4 x∧w.heap.size≤g from ⟨ck B2 (uh HP).1,ck B2 (uh HP).2.1,(uh HP).2.2.1.keep B2,(uh HP).2.2.2⟩)
 have HLV:=qh hlv
 clear B2 b1 b2 hlv
 go_wp2_with fail
 go_fit (rsamerow_any _ (uh HG).1 (uh HG).2.1.1 (uh HLV) (uh HQ _ (uh HB)).2.2.1 (by rw [zkh,List.length_replicate];omega))
 rintro e W3 ⟨⟨yes,rfl,hyes⟩,B3⟩
 have HB:=qh (bk B3 (uh HB))
 have HP:=qh (show W3.cell? ⟨g,1,none⟩=some (.slice fa nf fc)∧W3.cell? ⟨g,2,none⟩=some (.slice pa np pc)∧Q4 W3 g 4 x∧w.heap.size≤g from ⟨ck B3 (uh HP).1,ck B3 (uh HP).2.1,(uh HP).2.2.1.keep B3,(uh HP).2.2.2⟩)
 have HY:=qh hyes
 clear B3 hyes
 rcases yes with _ | _
 · go_wp2
   go_ret
   exact ⟨YesP.no fun h=>absurd ((uh HY).2 h.2.2.1) (by simp),uh HB⟩
 have HSM:=qh ((uh HY).1 rfl)
 clear HY HLV
 go_wp2_with fail
 go_fit (qs_zero (D:=D*D) _ (uh HG).1)
 rintro e W4 ⟨⟨v0,rfl,hv0⟩,B4⟩
 obtain ⟨x0,rfl⟩:=hv0.sh
 have kn:=zqa W4 (.cells #[.bool x0.a,.slice x0.b x0.c x0.d,.bool x0.e,.slice x0.f x0.g x0.h] 59)
 have hlt:g<W4.heap.size:=by have:=World.block_lt_of_cell? _ _ (ck B4 (uh HP).1);simpa using this
 have HSH:Hid (Sh w N D g W4.heap.size fa nf fc pa np pc x x0 0 (W4.alloc (.cells #[.bool x0.a,.slice x0.b x0.c x0.d,.bool x0.e,.slice x0.f x0.g x0.h] 59))):=qh ⟨bk kn (bk B4 (uh HB)),ck kn (ck B4 (uh HP).1),ck kn (ck B4 (uh HP).2.1),((uh HP).2.2.1.keep B4).keep kn,QX.new hv0,hlt,(uh HP).2.2.2⟩
 obtain ⟨gc,hgc⟩:∃ g,g=W4.heap.size:=⟨_,rfl⟩
 obtain ⟨V,hV⟩:∃ V,V=W4.alloc (.cells #[.bool x0.a,.slice x0.b x0.c x0.d,.bool x0.e,.slice x0.f x0.g x0.h] 59):=⟨_,rfl⟩
 rw [← hV,← hgc] at HSH
 clear B4 kn hv0 hlt HB HP
 go_upto_region 21 with fail
 rw [← hV,← hgc]
 clear hV hgc
 go_loopg [16] nf (fun gk iv wr=>∃ (i:Nat) (y:F8 Bool),i≤nf∧gk=nf - i∧iv=.int .i64 (i:Int)∧Hid (∀ (j:Nat) (y:Int×Int×Int×Int) (f:Int),j<i→L[j]? = some y→F[j]? = some f→bestP P y f)∧Hid (Sh w N D g gc fa nf fc pa np pc x y (((L.zip F).take i).map fun p=>p.1.2.2.2*p.2).sum wr))
 case atStart=>exact ⟨0,x0,by omega,by omega,rfl,qh (fun j _ _ h=>by omega),qh (by simpa using uh HSH)⟩
 case round =>
   clear HSH
   obtain ⟨i,y,hi,hgk,rfl,HA,HSH⟩:=hrel
   by_cases hil:i<nf
   · obtain ⟨⟨fr,to',cp,co⟩,hx⟩:∃ x,L[i]? = some x:=⟨L[i]'(by have:=uh HM;omega),by simp⟩
     obtain ⟨f,hf⟩:∃ x,F[i]? = some x:=⟨F[i]'(by have:=uh HM;omega),by simp⟩
     have hg:=uh HNB _ (List.mem_of_getElem? hx)
     obtain ⟨q1,q2,q3,q4,q5⟩:0≤fr∧fr<np∧0≤to'∧to'<np∧0≤cp:=by unfold badArc at hg;simp only at hg;omega
     obtain ⟨k,rfl⟩:∃ f:Nat,fr=(f:Int):=⟨fr.toNat,by omega⟩
     obtain ⟨t,rfl⟩:∃ f:Nat,to'=(f:Int):=⟨to'.toNat,by omega⟩
     obtain ⟨pf,hpf⟩:∃ x,P[k]? = some x:=⟨P[k]'(by have:=uh HM;omega),by simp⟩
     obtain ⟨pt,hpt⟩:∃ x,P[t]? = some x:=⟨P[t]'(by have:=uh HM;omega),by simp⟩
     obtain ⟨b,o,u1,u2,rfl,⟨c0,c1,c2,c3⟩,⟨hcp,hco⟩,_⟩:=(uh HR).qarc hx
     obtain ⟨fb,fo,u3,rfl,d,hfq⟩:=(uh HF).qnum hf
     obtain ⟨pb,po,u4,rfl,e,hpq⟩:=(uh HPR).qnum hpf
     obtain ⟨pb',po',u5,e2,e',hpq'⟩:=(uh HPR).qnum hpt
     obtain ⟨rfl,rfl⟩:pb=pb'∧po=po':=by simpa using e2
     simp only at c0 c1 hcp hco
     have HCL:=qh (And.intro c0 (And.intro c1 (And.intro c2 (And.intro c3 (And.intro d (And.intro e e'))))))
     have HQS:=qh (And.intro hcp (And.intro hco (And.intro hfq (And.intro hpq hpq'))))
     have HX:=qh (And.intro hx (And.intro hf (And.intro hpf hpt)))
     have hbx:=(uh HBD).l _ (List.mem_of_getElem? hx)
     have hbf:=(uh HBD).f _ (List.mem_of_getElem? hf)
     have hb1:=(uh HBD).p _ (List.mem_of_getElem? hpf)
     have hb2:=(uh HBD).p _ (List.mem_of_getElem? hpt)
     have hpr:=(uh HBD).prod (List.mem_of_getElem? hx) (List.mem_of_getElem? hf)
     simp only at hbx hpr
     have HI1:=qh (show Ins T (co*f) by have:=(uh HBD).u;have:=Int.mul_nonneg (uh HBD).b (uh HBD).b;unfold Ins;omega)
     have HI3:=qh (show Ins T (co+pf)∧Ins T (co+pf - pt) by have:=(uh HBD).t;have:=(uh HBD).b;unfold Ins;omega)
     have HI2:=qh (sum_next (f:=fun p:(Int×Int×Int×Int)×Int=>p.1.2.2.2*p.2) (zip_at hx hf))
     simp only at HI2
     have hil':(i:Int)<(nf:Int):=by omega
     have him:(i:Int)+1≤1000:=by omega
     clear hx hf hg hpf hpt c0 c1 c2 c3 d e e' e2 hcp hco hfq hpq hpq' hbx hbf hb1 hb2 hpr
     have HW:=qh (And.intro (ck (uh HSH).below (uh HCL).1) (And.intro (ck (uh HSH).below (uh HCL).2.1) (And.intro ((uh HCL).2.2.1.keep (uh HSH).below) (And.intro ((uh HCL).2.2.2.1.keep (uh HSH).below) (And.intro ((uh HCL).2.2.2.2.1.keep (uh HSH).below) (And.intro ((uh HCL).2.2.2.2.2.1.keep (uh HSH).below) ((uh HCL).2.2.2.2.2.2.keep (uh HSH).below)))))))
     have HS00:=qh (show wr.cell? ⟨b,o+i*10+6,none⟩=_∧wr.cell? ⟨b,o+i*10+6+1,none⟩=_∧wr.cell? ⟨b,o+i*10+6+2,none⟩=_∧wr.cell? ⟨b,o+i*10+6+3,none⟩=_∧wr.cell? ⟨g,1,none⟩=_∧wr.cell? ⟨fb,fo+i*4,none⟩=_∧wr.cell? ⟨fb,fo+i*4+1,none⟩=_∧wr.cell? ⟨fb,fo+i*4+2,none⟩=_∧wr.cell? ⟨fb,fo+i*4+3,none⟩=_ from ⟨(uh HW).2.2.2.1.1,(uh HW).2.2.2.1.2.1,(uh HW).2.2.2.1.2.2.1,(uh HW).2.2.2.1.2.2.2,(uh HSH).p1,(uh HW).2.2.2.2.1.1,(uh HW).2.2.2.2.1.2.1,(uh HW).2.2.2.2.1.2.2.1,(uh HW).2.2.2.2.1.2.2.2⟩)
     go_upto_region 23 with fail
     go_cut [17] (fun tv wx=>∃ (q:Nat) (z:F8 Bool),tv=.pointer (some ⟨q,0,none⟩)∧gc<q∧Hid (QX N (D*D) wx q z (co*f))∧Hid (Sh w N D g gc (some ⟨fb,fo,none⟩) nf fc (some ⟨pb,po,none⟩) np pc x y (((L.zip F).take i).map fun p=>p.1.2.2.2*p.2).sum wx))
     case first =>
       have hgcl:=(uh HSH).acc.box.lt
       go_region_held3 (fun w'=>w'.cell? ⟨b,o+i*10+6,none⟩=some (.bool u2.a)∧w'.cell? ⟨b,o+i*10+6+1,none⟩=some (.slice u2.b u2.c u2.d)∧w'.cell? ⟨b,o+i*10+6+2,none⟩=some (.bool u2.e)∧w'.cell? ⟨b,o+i*10+6+3,none⟩=some (.slice u2.f u2.g u2.h)∧w'.cell? ⟨g,1,none⟩=some (.slice (some ⟨fb,fo,none⟩) nf fc)∧w'.cell? ⟨fb,fo+i*4,none⟩=some (.bool u3.a)∧w'.cell? ⟨fb,fo+i*4+1,none⟩=some (.slice u3.b u3.c u3.d)∧w'.cell? ⟨fb,fo+i*4+2,none⟩=some (.bool u3.e)∧w'.cell? ⟨fb,fo+i*4+3,none⟩=some (.slice u3.f u3.g u3.h))
         (first | with_reducible exact ck9 (Below.refl _ _).drew (uh HS00) | with_reducible exact ck9 (zqa _ _).drew (uh HS00) | with_reducible exact ck9 (uh BW) (uh HS00) | with_reducible exact ck9 (bk (zqa _ _) (uh BW)) (uh HS00) | with_reducible exact ck9 (zqd (uh BW) (by omega) _ _ _ _) (uh HS00))
         (first
         | (go_at_call 46;(first | go_fit (qs_mul _ (uh HG).1 (uh HG).2.2 ((uh HQS).2.1.later (uh HSH).below.drew) ((uh HQS).2.2.1.later (uh HSH).below.drew) (uh HI1)) | go_fit (qs_mul _ (uh HG).1 (uh HG).2.2 ((uh HQS).2.1.later (bk (zqa _ _) (uh HSH).below).drew) ((uh HQS).2.2.1.later (bk (zqa _ _) (uh HSH).below).drew) (uh HI1)));rintro e9 Y1 ⟨⟨vm,rfl,hM⟩,hb⟩;obtain ⟨z,rfl⟩:=hM.sh;(first | (have BW:=qh (bk hb (Below.refl wr.heap.size wr).drew);have HSH:=qh (((uh HSH).keep (Below.refl _ _).drew).keep hb)) | (have BW:=qh (bk hb (zqa wr (.cells #[.bool false,.slice none 0 0,.bool false,.slice none 0 0] 59)).drew);have HSH:=qh ((((uh HSH).keep (zqa wr (.cells #[.bool false,.slice none 0 0,.bool false,.slice none 0 0] 59))).keep (Below.refl _ _).drew).keep hb);have hbx:=(show QBox (wr.alloc (.cells #[.bool false,.slice none 0 0,.bool false,.slice none 0 0] 59)).drew wr.heap.size from zkl wr false none 0 0 false none 0 0).later hb;obtain ⟨⟨g0,h0⟩,⟨g1,g2,g3,h1⟩,⟨g4,h2⟩,⟨g5,g6,g7,h3⟩,gf⟩:=hbx.cells;have hxlt:=hbx.lt));clear hb))
       all_goals
         have hsz:=(uh BW).size
         go_wp2
         go_meet
         first
           | exact ⟨_,_,rfl,by omega,qh (QX.new hM),qh ((uh HSH).keep (zqa _ _))⟩
           | exact ⟨_,_,rfl,by omega,qh (QX.put hbx hM),qh ((uh HSH).beside hbx (by omega) _ _ _ _)⟩
     case rest =>
       obtain ⟨q,z,rfl,hq,HT1,HSH⟩:=hcut
       obtain ⟨wt,rfl⟩:∃ X,X=wc:=⟨_,rfl⟩
       clear HW HS00
       have a0:=(uh HSH).acc.c0
       have a1:=(uh HSH).acc.c1
       have a2:=(uh HSH).acc.c2
       have a3:=(uh HSH).acc.c3
       have b0:=(uh HT1).c0
       have b1:=(uh HT1).c1
       have b2:=(uh HT1).c2
       have b3:=(uh HT1).c3
       go_wp2_with fail
       go_fit (qs_add _ (uh HG).1 (uh HG).2.2 (uh HSH).acc.q (uh HT1).q (by rw [← uh HI2];exact (uh HBD).sum (by have:=uh HM;omega) _))
       rintro e W6 ⟨⟨v2,rfl,hv2⟩,B6⟩
       obtain ⟨z2,rfl⟩:=hv2.sh
       have HSH:=qh ((uh HSH).keep B6)
       clear B6 HT1 a0 a1 a2 a3 b0 b1 b2 b3
       obtain ⟨⟨j0,h0⟩,⟨j1,j2,j3,h1⟩,⟨j4,h2⟩,⟨j5,j6,j7,h3⟩,gf⟩:=(uh HSH).acc.box.cells
       have hlt:=(uh HSH).acc.box.lt
       have HS2:=qh ((uh HSH).put hv2)
       rw [← uh HI2] at HS2
       obtain ⟨wr,hwr⟩:∃ X,X=(((W6.setCell ⟨gc,0,none⟩ (.bool z2.a)).setCell ⟨gc,1,none⟩ (.slice z2.b z2.c z2.d)).setCell ⟨gc,2,none⟩ (.bool z2.e)).setCell ⟨gc,3,none⟩ (.slice z2.f z2.g z2.h):=⟨_,rfl⟩
       rw [← hwr] at HS2
       go_upto_region 25 with fail
       rw [← hwr]
       clear hwr HSH h0 h1 h2 h3 gf hlt hv2
       have HSH:=HS2
       have HW:=qh (And.intro (ck (uh HSH).below (uh HCL).1) (And.intro (ck (uh HSH).below (uh HCL).2.1) (And.intro ((uh HCL).2.2.1.keep (uh HSH).below) (And.intro ((uh HCL).2.2.2.1.keep (uh HSH).below) (And.intro ((uh HCL).2.2.2.2.1.keep (uh HSH).below) (And.intro ((uh HCL).2.2.2.2.2.1.keep (uh HSH).below) ((uh HCL).2.2.2.2.2.2.keep (uh HSH).below)))))))
       have HS00:=qh (show wr.cell? ⟨b,o+i*10+6,none⟩=_∧wr.cell? ⟨b,o+i*10+6+1,none⟩=_∧wr.cell? ⟨b,o+i*10+6+2,none⟩=_∧wr.cell? ⟨b,o+i*10+6+3,none⟩=_∧wr.cell? ⟨g,2,none⟩=_∧wr.cell? ⟨b,o+i*10,none⟩=_∧wr.cell? ⟨pb,po+k*4,none⟩=_∧wr.cell? ⟨pb,po+k*4+1,none⟩=_∧wr.cell? ⟨pb,po+k*4+2,none⟩=_∧wr.cell? ⟨pb,po+k*4+3,none⟩=_ from ⟨(uh HW).2.2.2.1.1,(uh HW).2.2.2.1.2.1,(uh HW).2.2.2.1.2.2.1,(uh HW).2.2.2.1.2.2.2,(uh HSH).p2,(uh HW).1,(uh HW).2.2.2.2.2.1.1,(uh HW).2.2.2.2.2.1.2.1,(uh HW).2.2.2.2.2.1.2.2.1,(uh HW).2.2.2.2.2.1.2.2.2⟩)
       go_cut [18] (fun tv wx=>∃ (q:Nat) (z:F8 Bool),tv=.pointer (some ⟨q,0,none⟩)∧gc<q∧Hid (QX N D wx q z (co+pf))∧Hid (Sh w N D g gc (some ⟨fb,fo,none⟩) nf fc (some ⟨pb,po,none⟩) np pc x z2 (((L.zip F).take (i+1)).map fun p=>p.1.2.2.2*p.2).sum wx))
       case first =>
         have hgcl:=(uh HSH).acc.box.lt
         go_region_held3 (fun w'=>w'.cell? ⟨b,o+i*10+6,none⟩=some (.bool u2.a)∧w'.cell? ⟨b,o+i*10+6+1,none⟩=some (.slice u2.b u2.c u2.d)∧w'.cell? ⟨b,o+i*10+6+2,none⟩=some (.bool u2.e)∧w'.cell? ⟨b,o+i*10+6+3,none⟩=some (.slice u2.f u2.g u2.h)∧w'.cell? ⟨g,2,none⟩=some (.slice (some ⟨pb,po,none⟩) np pc)∧w'.cell? ⟨b,o+i*10,none⟩=some (.int .i64 (k:Int))∧w'.cell? ⟨pb,po+k*4,none⟩=some (.bool u4.a)∧w'.cell? ⟨pb,po+k*4+1,none⟩=some (.slice u4.b u4.c u4.d)∧w'.cell? ⟨pb,po+k*4+2,none⟩=some (.bool u4.e)∧w'.cell? ⟨pb,po+k*4+3,none⟩=some (.slice u4.f u4.g u4.h))
           (first | with_reducible exact ck10 (Below.refl _ _).drew (uh HS00) | with_reducible exact ck10 (zqa _ _).drew (uh HS00) | with_reducible exact ck10 (uh BW) (uh HS00) | with_reducible exact ck10 (bk (zqa _ _) (uh BW)) (uh HS00) | with_reducible exact ck10 (zqd (uh BW) (by omega) _ _ _ _) (uh HS00))
           (first
           | (go_at_call 40;(first | go_fit (qs_add _ (uh HG).1 (uh HG).2.1 ((uh HQS).2.1.later (uh HSH).below.drew) ((uh HQS).2.2.2.1.later (uh HSH).below.drew) (uh HI3).1) | go_fit (qs_add _ (uh HG).1 (uh HG).2.1 ((uh HQS).2.1.later (bk (zqa _ _) (uh HSH).below).drew) ((uh HQS).2.2.2.1.later (bk (zqa _ _) (uh HSH).below).drew) (uh HI3).1));rintro e9 Y1 ⟨⟨vm,rfl,hM⟩,hb⟩;obtain ⟨z,rfl⟩:=hM.sh;(first | (have BW:=qh (bk hb (Below.refl wr.heap.size wr).drew);have HSH:=qh (((uh HSH).keep (Below.refl _ _).drew).keep hb)) | (have BW:=qh (bk hb (zqa wr (.cells #[.bool false,.slice none 0 0,.bool false,.slice none 0 0] 59)).drew);have HSH:=qh ((((uh HSH).keep (zqa wr (.cells #[.bool false,.slice none 0 0,.bool false,.slice none 0 0] 59))).keep (Below.refl _ _).drew).keep hb);have hbx:=(show QBox (wr.alloc (.cells #[.bool false,.slice none 0 0,.bool false,.slice none 0 0] 59)).drew wr.heap.size from zkl wr false none 0 0 false none 0 0).later hb;obtain ⟨⟨g0,h0⟩,⟨g1,g2,g3,h1⟩,⟨g4,h2⟩,⟨g5,g6,g7,h3⟩,gf⟩:=hbx.cells;have hxlt:=hbx.lt));clear hb))
         all_goals
           have hsz:=(uh BW).size
           go_wp2
           go_meet
           first
             | exact ⟨_,_,rfl,by omega,qh (QX.new hM),qh ((uh HSH).keep (zqa _ _))⟩
             | exact ⟨_,_,rfl,by omega,qh (QX.put hbx hM),qh ((uh HSH).beside hbx (by omega) _ _ _ _)⟩
       case rest =>
         obtain ⟨qx,zx,rfl,hqx,HXB,HSH⟩:=hcut
         obtain ⟨wu,rfl⟩:∃ X,X=wc:=⟨_,rfl⟩
         clear HW HS00 HS2
         go_upto_region 26 with fail
         go_cut [] (fun wx=>∃ z,Hid (QX N D wx qx z (co+pf - pt))∧Hid (Sh w N D g gc (some ⟨fb,fo,none⟩) nf fc (some ⟨pb,po,none⟩) np pc x z2 (((L.zip F).take (i+1)).map fun p=>p.1.2.2.2*p.2).sum wx))
         case first =>
           have r0:=(uh HXB).c0
           have r1:=(uh HXB).c1
           have r2:=(uh HXB).c2
           have r3:=(uh HXB).c3
           have p2:=(uh HSH).p2
           have c1:=ck (uh HSH).below (uh HCL).2.1
           obtain ⟨e0,e1,e2,e3⟩:=(uh HCL).2.2.2.2.2.2.keep (uh HSH).below
           go_region_with (first
             | (go_at_call 47;go_fit (qs_sub _ (uh HG).1 (uh HG).2.1 ((uh HXB).q.later (Below.refl _ _).drew) ((uh HQS).2.2.2.2.later (uh HSH).below.drew) (uh HI3).2);rintro e9 Y1 ⟨⟨vm,rfl,hM⟩,hb⟩;obtain ⟨z,rfl⟩:=hM.sh;have HSH:=qh (((uh HSH).keep (Below.refl _ _).drew).keep hb);have HXB:=qh (((uh HXB).keep (Below.refl _ _).drew).keep hb);obtain ⟨⟨g0,h0⟩,⟨g1,g2,g3,h1⟩,⟨g4,h2⟩,⟨g5,g6,g7,h3⟩,gf⟩:=(uh HXB).box.cells;have hxlt:=(uh HXB).box.lt;clear hb r0 r1 r2 r3 p2 c1 e0 e1 e2 e3))
           all_goals
             go_wp2
             go_meet
             exact ⟨_,qh (QX.put (uh HXB).box hM),qh ((uh HSH).beside (uh HXB).box hqx _ _ _ _)⟩
         case rest =>
           obtain ⟨zy,HXB,HSH⟩:=hcut
           obtain ⟨wv,rfl⟩:∃ X,X=wc:=⟨_,rfl⟩
           have r0:=(uh HXB).c0
           have r1:=(uh HXB).c1
           have r2:=(uh HXB).c2
           have r3:=(uh HXB).c3
           go_wp2_with fail
           go_fit (qs_sign _ (uh HG).2.1.1 (uh HXB).q)
           rintro e W7 ⟨rfl,B7⟩
           have HSH:=qh ((uh HSH).keep B7)
           clear B7 HXB r0 r1 r2 r3
           obtain ⟨sr,hsr⟩:∃ s,s=sgn (co+pf - pt):=⟨_,rfl⟩
           rw [← hsr]
           have HSR:=qh hsr
           clear hsr
           go_upto_region 28 with fail
           have HFL:=qh ((uh HCL).2.2.2.2.1.keep (uh HSH).below)
           have HCP:=qh ((uh HCL).2.2.1.keep (uh HSH).below)
           have HS0:=qh (show W7.cell? ⟨g,1,none⟩=_∧W7.cell? ⟨fb,fo+i*4,none⟩=_∧W7.cell? ⟨fb,fo+i*4+1,none⟩=_∧W7.cell? ⟨fb,fo+i*4+2,none⟩=_∧W7.cell? ⟨fb,fo+i*4+3,none⟩=_∧W7.cell? ⟨b,o+i*10+2,none⟩=_∧W7.cell? ⟨b,o+i*10+2+1,none⟩=_∧W7.cell? ⟨b,o+i*10+2+2,none⟩=_∧W7.cell? ⟨b,o+i*10+2+3,none⟩=_ from ⟨(uh HSH).p1,(uh HFL).1,(uh HFL).2.1,(uh HFL).2.2.1,(uh HFL).2.2.2,(uh HCP).1,(uh HCP).2.1,(uh HCP).2.2.1,(uh HCP).2.2.2⟩)
           go_region_held3 (fun w'=>w'.cell? ⟨g,1,none⟩=some (.slice (some ⟨fb,fo,none⟩) nf fc)∧w'.cell? ⟨fb,fo+i*4,none⟩=some (.bool u3.a)∧w'.cell? ⟨fb,fo+i*4+1,none⟩=some (.slice u3.b u3.c u3.d)∧w'.cell? ⟨fb,fo+i*4+2,none⟩=some (.bool u3.e)∧w'.cell? ⟨fb,fo+i*4+3,none⟩=some (.slice u3.f u3.g u3.h)∧w'.cell? ⟨b,o+i*10+2,none⟩=some (.bool u1.a)∧w'.cell? ⟨b,o+i*10+2+1,none⟩=some (.slice u1.b u1.c u1.d)∧w'.cell? ⟨b,o+i*10+2+2,none⟩=some (.bool u1.e)∧w'.cell? ⟨b,o+i*10+2+3,none⟩=some (.slice u1.f u1.g u1.h))
             (first | with_reducible exact ck9 (Below.refl _ _).drew (uh HS0) | with_reducible exact uh HS1)
             (first
             | (go_at_call 41;go_fit (qs_cmp _ (uh HG).1 (uh HG).2.1.1 ((uh HQS).2.2.1.later (uh HSH).below.drew) ((uh HQS).1.later (uh HSH).below.drew));rintro e9 W8 ⟨rfl,hb⟩;have HSH:=qh (((uh HSH).keep (Below.refl _ _).drew).keep hb);have HS1:=qh (ck9 hb (ck9 (Below.refl _ _).drew (uh HS0)));clear hb))
           obtain ⟨sf,hsf⟩:∃ s,s=sgn (f - cp):=⟨_,rfl⟩
           rw [← hsf]
           have HSF:=qh hsf
           clear hsf HFL HCP HS0 HS1
           have p1:=(uh HSH).p1
           obtain ⟨e0,e1,e2,e3⟩:=(uh HCL).2.2.2.2.1.keep (uh HSH).below
           go_wp2_with fail
           go_fit (qs_sign _ (uh HG).2.1.1 ((uh HQS).2.2.1.later (uh HSH).below))
           rintro e W9 ⟨rfl,B9⟩
           have HSH:=qh ((uh HSH).keep B9)
           clear B9 p1 e0 e1 e2 e3
           obtain ⟨ss,hss⟩:∃ s,s=sgn f:=⟨_,rfl⟩
           rw [← hss]
           have hred:redc P ((k:Int),(t:Int),cp,co)=co+pf - pt:=by
             unfold redc
             simp only [Int.toNat_natCast]
             rw [zke (uh HX).2.2.1,zke (uh HX).2.2.2]
           have hr1:=@sgn_lt (co+pf - pt)
           have hr2:=@sgn_gt (co+pf - pt)
           have hf1:=@sgn_lt (f - cp)
           have hs1:=@sgn_gt f
           rw [← uh HSR] at hr1 hr2
           rw [← uh HSF] at hf1
           rw [← hss] at hs1
           have HE:=qh (show bestP P ((k:Int),(t:Int),cp,co) f↔¬ (sr<0∧sf<0)∧¬ (0<sr∧0<ss) by
             unfold bestP
             rw [hred,hr1,hr2,hf1,hs1]
             simp only
             omega)
           clear hss hred hr1 hr2 hf1 hs1
           by_cases hok:¬ (sr<0∧sf<0)∧¬ (0<sr∧0<ss)
           · have HOK:=qh ((uh HE).2 hok)
             rcases (show (sr<0∧0≤sf∧sr≤0)∨(0≤sr∧sr≤0)∨(0<sr∧ss≤0) by omega) with ⟨w1,w2,w3⟩ | ⟨w1,w2⟩ | ⟨w1,w2⟩
             all_goals
               clear hok
               go_wp2
               go_roundg (nf - (i+1))
               case measure=>omega
               case rel=>exact ⟨i+1,_,by omega,rfl,by go_num,qh (two_next (p:=fun y f=>bestP P y f) (uh HA) (uh HX).1 (uh HX).2.1 (uh HOK)),HSH⟩
           · have HNO:=qh (fun h:shipOk D np L S F P c=>hok ((uh HE).1 (h.2.2.2.1 i _ _ (uh HX).1 (uh HX).2.1)))
             rcases (show (sr<0∧sf<0)∨(0<sr∧0<ss) by omega) with ⟨w1,w2⟩ | ⟨w1,w2⟩
             all_goals
               clear hok
               go_wp2
               go_ret
               exact ⟨YesP.no (uh HNO),(uh HSH).below⟩
   · obtain rfl:nf=i:=by omega
     clear hil hi hgk
     have HE:=qh (show (((L.zip F).take nf).map fun p=>p.1.2.2.2*p.2).sum=billOf L F by rw [List.take_of_length_le (by rw [List.length_zip];have:=uh HM;omega)];rfl)
     rw [uh HE] at HSH
     have a0:=(uh HSH).acc.c0
     have a1:=(uh HSH).acc.c1
     have a2:=(uh HSH).acc.c2
     have a3:=(uh HSH).acc.c3
     obtain ⟨d0,d1,d2,d3⟩:=(uh HSH).c
     go_wp2_with fail
     go_fit (qs_cmp _ (uh HG).1 (uh HG).2.2.1 (uh HSH).acc.q (((uh HC).later (uh HSH).below).up D))
     rintro e W5 ⟨rfl,B5⟩
     have HB:=qh (bk B5 (uh HSH).below)
     obtain ⟨sg,hsg⟩:∃ s,s=sgn (billOf L F - c*D):=⟨_,rfl⟩
     rw [← hsg]
     have HSG:=qh hsg
     clear hsg B5 a0 a1 a2 a3 d0 d1 d2 d3
     go_wp2
     go_ret
     refine ⟨YesP.of ?_,uh HB⟩
     have h1:=@sgn_nil (billOf L F - c*D)
     rw [← uh HSG] at h1
     simp only [beq_iff_eq]
     constructor
     · intro h
       exact ⟨uh HWI,by have:=uh HM;omega,uh HSM,fun i x f hx hf=>uh HA i x f (by have:=(List.getElem?_eq_some_iff.1 hf).1;have:=uh HM;omega) hx hf,by have:=h1.1 h;omega⟩
     · intro h
       exact h1.2 (by have:=h.2.2.2.2;omega)
end Go.Proofs.YtkdobjmhammhbaaGreatDoor
