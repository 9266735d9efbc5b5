import Derived.Test.YtkdobjmhammhbaaGreatDoorMTA
namespace Go.Proofs.YtkdobjmhammhbaaGreatDoor
set_option maxHeartbeats 16000000
set_option maxRecDepth 8000
open Go.RowKit
theorem rq_stroke (s:ByteArray) (w:World) (hs:s.size<=9223372036854775807) (hh:atOf s<runEnd s (atOf s)/\runEnd s (atOf s)<=atOf s+300/\bAt s (runEnd s (atOf s)) 47=true) :
 Calls Tryz.prog 36 #[.string s,.int .i64 300] w fun e w'=>QRP s e w'/\Below w.heap.size w w':=by
 have HH:=qh hh
 clear hh
 have hal:=atOf_le s
 have h3:(¬ (0:Int)<s.size/\minusOf s=false/\atOf s=0)\/(∃ h:0<s.size,(((s[0]'h).toNat:Int) == 45)=true/\minusOf s=true/\atOf s=1)\/(∃ h:0<s.size,(((s[0]'h).toNat:Int) == 45)=false/\minusOf s=false/\atOf s=0):=by
  rcases zqu s 0 45 with ⟨h0,h1⟩ | ⟨h0,h1,h2⟩ | ⟨h0,h1,h2⟩
  ·exact Or.inl ⟨h0,zqx (fun g=>by have:=zql g;rw [h1] at this;exact absurd this (by decide))⟩
  ·exact Or.inr (Or.inl ⟨h0,h1,zkp (zkh.1 h2)⟩)
  ·exact Or.inr (Or.inr ⟨h0,h1,zqx (fun g=>by have:=zql g;rw [h2] at this;exact absurd this (by decide))⟩)
 obtain ⟨a,HA⟩:∃ a,Hid (atOf s=a):=⟨_,rfl⟩
 obtain ⟨mi,HMI⟩:∃ b,Hid (minusOf s=b):=⟨_,rfl⟩
 rw [show atOf s=a from uh HA] at hal h3
 rw [show minusOf s=mi from uh HMI] at h3
 have H3:=qh h3
 clear h3
 have hst:=QK.start w
 go_enter Tryz.func36,Tryz.ntmps36
 go_upto_region 2 with fail
 obtain ⟨W0,hW0⟩:∃ W0,W0=(w.alloc (.cells #[.bool false,.slice none 0 0,.bool false,.slice none 0 0] 59)).alloc (.cells #[.int .i64 0,.int .i64 0] 61):=⟨_,rfl⟩
 rw [<- hW0] at hst ⊢
 clear hW0
 go_cut [7] (fun b wx=>b=.bool mi/\W0=wx)
 case first =>
  rcases uh H3 with ⟨hz,hm,_⟩ | ⟨hz,h1,hm,_⟩ | ⟨hz,h1,hm,_⟩
  ·go_wp2
   go_meet
   exact ⟨by rw [hm],rfl⟩
  ·have hzi:(0:Int)<s.size:=by omega
   go_wp2
   go_meet
   exact ⟨by rw [hm],rfl⟩
  ·have hzi:(0:Int)<s.size:=by omega
   go_wp2
   go_meet
   exact ⟨by rw [hm],rfl⟩
 case rest =>
 obtain ⟨rfl,rfl⟩:=hcut
 go_upto_if 31 with fail
 have hma:(mi=false/\a=0)\/(mi=true/\a=1):=by
  rcases uh H3 with ⟨_,hm,ha⟩ | ⟨_,_,hm,ha⟩ | ⟨_,_,hm,ha⟩
  ·exact Or.inl ⟨hm,ha⟩
  ·exact Or.inr ⟨hm,ha⟩
  ·exact Or.inl ⟨hm,ha⟩
 go_cut [6,7] (fun v b wx=>v=.int .i64 a/\b=.bool mi/\W0=wx)
 case first =>
  rcases hma with ⟨rfl,rfl⟩ | ⟨rfl,rfl⟩
  ·go_wp2
   go_meet
   exact ⟨rfl,rfl,rfl⟩
  ·go_wp2
   go_meet
   exact ⟨rfl,rfl,rfl⟩
 case rest =>
 obtain ⟨rfl,rfl,rfl⟩:=hcut
 clear hma H3
 go_wp2_with fail
 go_fit (rrun_any s a _ (by omega) hal)
 rintro e W1 ⟨hc,hb1⟩
 have hst1:=hst.keep hb1
 clear hst hb1
 obtain ⟨⟨x0,g0⟩,⟨a0,n0,c0,g1⟩,⟨x1,g2⟩,⟨a1,n1,c1,g3⟩,gf⟩:=hst1.qb.cells
 obtain ⟨⟨y0,k0⟩,⟨y1,k1⟩,kf⟩:=hst1.fb.cells
 have hlt:=hst1.lt
 have l0:w.heap.size<W1.heap.size:=by omega
 rcases hc with ⟨hr,rfl⟩ | ⟨hr,rfl⟩ | ⟨m,m0,m1,m2,hr,rfl⟩
 ·exfalso
  have h9:=uh HH
  rw [show atOf s=a from uh HA] at h9
  omega
 ·exfalso
  have h9:=uh HH
  rw [show atOf s=a from uh HA] at h9
  omega
 have hF:=Figs.run hal m1 hr
 have HR:=qh hr
 have HF:=qh hF
 clear hr hF g0 g1 g2 g3 gf k0 k1 kf
 have hle1:(a:Int)<=m:=by omega
 have hle2:(m:Int)<=s.size:=by omega
 have hle3:a<=m:=by omega
 go_wp2_with fail
 go_fit (zxl (N:=150) (s.extract a m) _ (by have:=(uh HF).2;omega) (by decide) (uh HF).1)
 rintro e W2 ⟨⟨v2,rfl,hN2⟩,hb2⟩
 obtain ⟨p0,p1,p2,p3,rfl⟩:=hN2.shape
 have hst2:=(hst1.keep (zqa W1 _)).keep hb2
 have hnum:=NB.new hN2
 clear hb2 hst1 hlt l0 hN2
 go_wp2_with fail
 go_fit (zxn 1 _ (by decide) (by decide))
 rintro e W3 ⟨⟨v3,rfl,hN3⟩,hb3⟩
 obtain ⟨r0,r1,r2,r3,rfl⟩:=hN3.shape
 have hnum3:=(hnum.keep hb3).keep (zqa W3 (.cells #[.bool r0,.slice r1 r2 r3] 57))
 have hden3:=NB.new hN3
 have hst3:=((hst2.keep (zqa W2 (.cells #[.bool p0,.slice p1 p2 p3] 57))).keep hb3).keep (zqa W3 (.cells #[.bool r0,.slice r1 r2 r3] 57))
 have l2:=hst2.lt
 have l3:=(hnum.keep hb3).lt
 clear hb3 hnum hN3 hst2
 go_upto_region 11 with fail
 obtain ⟨W4,hW4⟩:∃ W4,W4=W3.alloc (.cells #[.bool r0,.slice r1 r2 r3] 57):=⟨_,rfl⟩
 rw [<- hW4] at hnum3 hden3 hst3 ⊢
 clear hW4
 generalize W2.heap.size=nb at hnum3 l2 l3 ⊢
 generalize W3.heap.size=db at hden3 l3 ⊢
 have z0:0<=dv s a m:=((uh HF).bound).1
 obtain ⟨sl,HSL⟩:∃ b,Hid (bAt s m 47=b):=⟨_,rfl⟩
 go_cut [60] (fun b wx=>b=.bool sl/\W4=wx)
 case first =>
  rcases zqu s m 47 with ⟨hz,hm⟩ | ⟨hz,h1,hm⟩ | ⟨hz,h1,hm⟩
  ·rw [show bAt s m 47=sl from uh HSL] at hm
   go_wp2
   go_meet
   exact ⟨by rw [hm],rfl⟩
  ·rw [show bAt s m 47=sl from uh HSL] at hm
   have hzi:(m:Int)<s.size:=by omega
   go_wp2
   go_meet
   exact ⟨by rw [hm];exact congrArg Value.bool h1,rfl⟩
  ·rw [show bAt s m 47=sl from uh HSL] at hm
   have hzi:(m:Int)<s.size:=by omega
   go_wp2
   go_meet
   exact ⟨by rw [hm];exact congrArg Value.bool h1,rfl⟩
 case rest =>
 obtain ⟨rfl,rfl⟩:=hcut
 cases sl
 ·exfalso
  have h9:=(uh HH).2.2
  rw [show atOf s=a from uh HA,show runEnd s a=m from uh HR,show bAt s m 47=_ from uh HSL] at h9
  exact absurd h9 (by decide)
 ·have hsl:=zkh.1 (uh HSL)
  have hml:=hsl.1
  have hmi:(m:Int)<s.size:=by omega
  have HSO:=qh (said_over (uh HMI) (uh HA) m0 m1 (uh HR) hsl)
  clear hsl
  go_wp2_with fail
  go_fit (rrun_v s (m+1) ((m:Int)+1) (by omega) _ (by omega) (by omega))
  rintro e W5 ⟨hc,hb5⟩
  have hst5:=hst3.keep hb5
  have hnum5:=hnum3.keep hb5
  have hden5:=hden3.keep hb5
  clear hb5
  obtain ⟨⟨x0,g0⟩,⟨a0,n0,c0,g1⟩,⟨x1,g2⟩,⟨a1,n1,c1,g3⟩,gf⟩:=hst5.qb.cells
  obtain ⟨⟨y0,k0⟩,⟨y1,k1⟩,kf⟩:=hst5.fb.cells
  have hlt:=hst5.lt
  have l0:w.heap.size<W5.heap.size:=by omega
  rcases hc with ⟨hr,rfl⟩ | ⟨hr,rfl⟩ | ⟨n,n0,n1,n2,hr,rfl⟩
  ·have HSD:=qh ((uh HSO).trans (over_none hr))
   clear hr
   go_wp2
   go_region
   all_goals go_wp2
   obtain ⟨t0,t1,t2,t3,t4,t5,hB⟩:=hst5.out1 (.bool false) (.slice none 0 0) (.bool false) (.slice none 0 0) (.int .i64 1) (.int .i64 ((m:Int)+1)) (.cells #[.int .i64 1,.int .i64 ((m:Int)+1)] 61)
   exact bodyPost_ret (v:=.tuple #[.agg #[.bool false,.slice none 0 0,.bool false,.slice none 0 0],.agg #[.int .i64 1,.int .i64 ((m:Int)+1)]]) (by simp [results,Tryz.results36,go_sem,t0,t1,t2,t3,t4,t5]) rfl ⟨Or.inl ⟨1,m+1,uh HSD,by first | decide | omega,by first | decide | omega,rfl⟩,by first | exact hB | exact hB.drew⟩
  ·have HSD:=qh ((uh HSO).trans (over_many hr))
   clear hr
   go_wp2
   go_region
   all_goals go_wp2
   obtain ⟨t0,t1,t2,t3,t4,t5,hB⟩:=hst5.out1 (.bool false) (.slice none 0 0) (.bool false) (.slice none 0 0) (.int .i64 2) (.int .i64 ((m:Int)+1+300)) (.cells #[.int .i64 2,.int .i64 ((m:Int)+1+300)] 61)
   exact bodyPost_ret (v:=.tuple #[.agg #[.bool false,.slice none 0 0,.bool false,.slice none 0 0],.agg #[.int .i64 2,.int .i64 ((m:Int)+1+300)]]) (by simp [results,Tryz.results36,go_sem,t0,t1,t2,t3,t4,t5]) rfl ⟨Or.inl ⟨2,m+1+300,uh HSD,by first | decide | omega,by first | decide | omega,rfl⟩,by first | exact hB | exact hB.drew⟩
  ·have HRN:=qh hr
   have HFN:=qh (Figs.run (a:=m+1) (by omega) n1 hr)
   clear hr
   have HSN:=qh ((uh HSO).trans (over_is (uh HRN) n0 n1))
   by_cases hn:n<s.size
   ·have hni:(n:Int)<s.size:=by omega
    have HSD:=qh ((uh HSN).trans (zjc hn))
    go_wp2
    obtain ⟨t0,t1,t2,t3,t4,t5,hB⟩:=hst5.out1 (.bool false) (.slice none 0 0) (.bool false) (.slice none 0 0) (.int .i64 1) (.int .i64 n) (.cells #[.int .i64 0,.int .i64 (-1)] 61)
    exact bodyPost_ret (v:=.tuple #[.agg #[.bool false,.slice none 0 0,.bool false,.slice none 0 0],.agg #[.int .i64 1,.int .i64 n]]) (by simp [results,Tryz.results36,go_sem,t0,t1,t2,t3,t4,t5]) rfl ⟨Or.inl ⟨1,n,uh HSD,by first | decide | omega,by first | decide | omega,rfl⟩,by first | exact hB | exact hB.drew⟩
   ·have hni:¬ (n:Int)<s.size:=by omega
    have HSD:=qh ((uh HSN).trans (zjp (by omega)))
    clear g0 g1 g2 g3 gf k0 k1 kf
    have hle4:(m:Int)+1<=n:=by omega
    have hle5:(n:Int)<=s.size:=by omega
    have hle6:m+1<=n:=by omega
    go_wp2_with fail
    go_fit (zxl (N:=150) (s.extract (m+1) n) _ (by have:=(uh HFN).2;omega) (by decide) (uh HFN).1)
    rintro e W6 ⟨⟨v6,rfl,hN6⟩,hb6⟩
    obtain ⟨q0,q1,q2,q3,rfl⟩:=hN6.shape
    have hst6:=(hst5.keep (zqa W5 _)).keep hb6
    have hnum6:=(hnum5.keep (zqa W5 _)).keep hb6
    have hden6:=(hden5.keep (zqa W5 _)).keep hb6
    clear hst5 hnum5 hden5 hb6 hlt l0
    have d0:0<=dv s (m+1) n:=((uh HFN).bound).1
    obtain ⟨DN,-,-,-,-,hlen,hz0,hz1⟩:=hN6.places d0
    have hnum7:=hnum6.beside hden6.box (by omega) (.bool q0) (.slice q1 q2 q3)
    have hden7:=hden6.stored hN6
    have hst7:=hst6.beside (q:=db) (by omega) (.bool q0) (.slice q1 q2 q3)
    have b0:=hden6.c0
    have b1:=hden6.c1
    obtain ⟨_,_,bf⟩:=hden6.box.cells
    have lb:=hden6.lt
    obtain ⟨⟨x0,g0⟩,⟨a0,n0,c0,g1⟩,⟨x1,g2⟩,⟨a1,n1,c1,g3⟩,gf⟩:=hst6.qb.cells
    obtain ⟨⟨y0,k0⟩,⟨y1,k1⟩,kf⟩:=hst6.fb.cells
    have hlt:=hst6.lt
    have l0:w.heap.size<W6.heap.size:=by omega
    by_cases hz:dv s (m+1) n=0
    ·obtain rfl:q2=0:=hz0 hz
     have HS9:=qh ((uh HSD).trans (if_pos hz))
     go_wp2
     obtain ⟨t0,t1,t2,t3,t4,t5,hB⟩:=hst7.out (.bool false) (.slice none 0 0) (.bool false) (.slice none 0 0) (.int .i64 3) (.int .i64 ((m:Int)+1))
     exact bodyPost_ret (v:=.tuple #[.agg #[.bool false,.slice none 0 0,.bool false,.slice none 0 0],.agg #[.int .i64 3,.int .i64 ((m:Int)+1)]]) (by simp [results,Tryz.results36,go_sem,t0,t1,t2,t3,t4,t5]) rfl ⟨Or.inl ⟨3,m+1,uh HS9,by first | decide | omega,by first | decide | omega,rfl⟩,by first | exact hB | exact hB.drew⟩
    ·have HS9:=qh ((uh HSD).trans (if_neg hz))
     have hq2:((q2:Int) == 0)=false:=by have:=hz1 hz;simp;omega
     clear hz0 hz1 hlen
     go_upto_region 20 with fail
     obtain ⟨W7,hW7⟩:∃ W7,W7=(W6.setCell ⟨db,0,none⟩ (.bool q0)).setCell ⟨db,1,none⟩ (.slice q1 q2 q3):=⟨_,rfl⟩
     rw [<- hW7] at hnum7 hden7 hst7 ⊢
     clear hW7 b0 b1 bf lb g0 g1 g2 g3 gf k0 k1 kf hlt l0 hnum6 hden6 hst6 hN6
     have e1:=hnum7.c1
     have f0:=hden7.c0
     have f1:=hden7.c1
     obtain ⟨DD,hsD,hPD,hlD,hvD,-,-,-⟩:=hnum7.nr.places z0
     have HVD:=qh hvD
     clear hvD
     go_region_held3 (fun w'=>Below w.heap.size w w'/\w'.cell? ⟨nb,1,none⟩=some (.slice p1 p2 p3)/\w'.cell? ⟨db,0,none⟩=some (.bool q0)/\w'.cell? ⟨db,1,none⟩=some (.slice q1 q2 q3))
      (first | with_reducible exact uh S2 | with_reducible exact uh S1 | with_reducible exact sq_q4 (uh S2) l2 l3 | with_reducible exact sq_f2 (uh S2) l2 l3 | with_reducible exact sq_f2 (sq_q4 (uh S2) l2 l3) l2 l3 | with_reducible exact sq_q4 (sq_f2 (uh S2) l2 l3) l2 l3 | exact ⟨hst7.below.drew,e1,f0,f1⟩)
      (first | (go_at_call 84;go_fit (zks mi _ DD 150 _ (show Sl W7.drew _ _ from hsD) hPD hlD);rintro e q1 ⟨⟨v1,rfl,hM1⟩,hb1⟩;obtain ⟨i1,i2,i3,i4,rfl⟩:=hM1.shape;have S1:=qh (sq_keep hb1 ⟨hst7.below.drew,e1,f0,f1⟩)) | (go_at_call 83;go_fit (over_any (N:=362) _ (hM1.mono (by omega)) (((show Nr _ W7.drew _ _ from hden7.nr).later hb1).mono (by omega)) hz (by omega));rintro e q2 ⟨⟨v2,P,D,rfl,hQ2,hE⟩,hb2⟩;have HE:=qh hE;clear hE;obtain ⟨i5,i6,i7,i8,i9,i10,i11,i12,rfl,hP3,hD3,D0,hG3⟩:=hQ2;have HG3:=qh hG3;clear hG3;have S2:=qh (sq_keep hb2 (uh S1));have hst8:=(hst7.drew.keep hb1).keep hb2;obtain ⟨⟨x0,g0⟩,⟨a0,n0,c0,g1⟩,⟨x1,g2⟩,⟨a1,n1,c1,g3⟩,gf⟩:=hst8.qb.cells;obtain ⟨⟨y0,k0⟩,⟨y1,k1⟩,kf⟩:=hst8.fb.cells;have hlt:=hst8.lt;have l0:w.heap.size<q2.heap.size:=by omega))
     have hst8:=(hst7.drew.keep hb1).keep hb2
     go_wp2
     obtain ⟨t0,t1,t2,t3,t4,t5,hB⟩:=hst8.out (.bool i5) (.slice i6 i7 i8) (.bool i9) (.slice i10 i11 i12) (.int .i64 0) (.int .i64 (-1))
     exact bodyPost_ret (v:=.tuple #[.agg #[.bool i5,.slice i6 i7 i8,.bool i9,.slice i10 i11 i12],.agg #[.int .i64 0,.int .i64 (-1)]]) (by simp [results,Tryz.results36,go_sem,t0,t1,t2,t3,t4,t5]) rfl ⟨Or.inr ⟨_,_,_,P,D,uh HS9,(by have h8:0<=dv s (m+1) n:=d0;omega),rfl,⟨_,_,_,_,_,_,_,_,rfl,hst8.nr hP3 _ _ _ _ _ _,hst8.nr hD3 _ _ _ _ _ _,D0,uh HG3⟩,by have h9:=uh HE;rw [show v4 DD=_ from uh HVD] at h9;exact h9⟩,hB⟩
theorem rq_point_bad (s:ByteArray) (w:World) (hs:s.size<=9223372036854775807) (hh2:(bAt s (runEnd s (atOf s)) 46=true/\(runEnd s (runEnd s (atOf s)+1)=runEnd s (atOf s)+1\/runEnd s (atOf s)+1+300<runEnd s (runEnd s (atOf s)+1)))) (hh:atOf s<runEnd s (atOf s)/\runEnd s (atOf s)<=atOf s+300/\bAt s (runEnd s (atOf s)) 47=false) :
 Calls Tryz.prog 36 #[.string s,.int .i64 300] w fun e w'=>QRP s e w'/\Below w.heap.size w w':=by
 have HH2:=qh hh2
 have HH:=qh hh
 clear hh hh2
 have hal:=atOf_le s
 have h3:(¬ (0:Int)<s.size/\minusOf s=false/\atOf s=0)\/(∃ h:0<s.size,(((s[0]'h).toNat:Int) == 45)=true/\minusOf s=true/\atOf s=1)\/(∃ h:0<s.size,(((s[0]'h).toNat:Int) == 45)=false/\minusOf s=false/\atOf s=0):=by
  rcases zqu s 0 45 with ⟨h0,h1⟩ | ⟨h0,h1,h2⟩ | ⟨h0,h1,h2⟩
  ·exact Or.inl ⟨h0,zqx (fun g=>by have:=zql g;rw [h1] at this;exact absurd this (by decide))⟩
  ·exact Or.inr (Or.inl ⟨h0,h1,zkp (zkh.1 h2)⟩)
  ·exact Or.inr (Or.inr ⟨h0,h1,zqx (fun g=>by have:=zql g;rw [h2] at this;exact absurd this (by decide))⟩)
 obtain ⟨a,HA⟩:∃ a,Hid (atOf s=a):=⟨_,rfl⟩
 obtain ⟨mi,HMI⟩:∃ b,Hid (minusOf s=b):=⟨_,rfl⟩
 rw [show atOf s=a from uh HA] at hal h3
 rw [show minusOf s=mi from uh HMI] at h3
 have H3:=qh h3
 clear h3
 have hst:=QK.start w
 go_enter Tryz.func36,Tryz.ntmps36
 go_upto_region 2 with fail
 obtain ⟨W0,hW0⟩:∃ W0,W0=(w.alloc (.cells #[.bool false,.slice none 0 0,.bool false,.slice none 0 0] 59)).alloc (.cells #[.int .i64 0,.int .i64 0] 61):=⟨_,rfl⟩
 rw [<- hW0] at hst ⊢
 clear hW0
 go_cut [7] (fun b wx=>b=.bool mi/\W0=wx)
 case first =>
  as_aux_lemma =>
   rcases uh H3 with ⟨hz,hm,_⟩ | ⟨hz,h1,hm,_⟩ | ⟨hz,h1,hm,_⟩
   ·go_wp2
    go_meet
    exact ⟨by rw [hm],rfl⟩
   ·have hzi:(0:Int)<s.size:=by omega
    go_wp2
    go_meet
    exact ⟨by rw [hm],rfl⟩
   ·have hzi:(0:Int)<s.size:=by omega
    go_wp2
    go_meet
    exact ⟨by rw [hm],rfl⟩
 case rest =>
 obtain ⟨rfl,rfl⟩:=hcut
 go_upto_if 31 with fail
 have hma:(mi=false/\a=0)\/(mi=true/\a=1):=by
  rcases uh H3 with ⟨_,hm,ha⟩ | ⟨_,_,hm,ha⟩ | ⟨_,_,hm,ha⟩
  ·exact Or.inl ⟨hm,ha⟩
  ·exact Or.inr ⟨hm,ha⟩
  ·exact Or.inl ⟨hm,ha⟩
 go_cut [6,7] (fun v b wx=>v=.int .i64 a/\b=.bool mi/\W0=wx)
 case first =>
  as_aux_lemma =>
   rcases hma with ⟨rfl,rfl⟩ | ⟨rfl,rfl⟩
   ·go_wp2
    go_meet
    exact ⟨rfl,rfl,rfl⟩
   ·go_wp2
    go_meet
    exact ⟨rfl,rfl,rfl⟩
 case rest =>
 obtain ⟨rfl,rfl,rfl⟩:=hcut
 clear hma H3
 go_wp2_with fail
 go_fit (rrun_any s a _ (by omega) hal)
 rintro e W1 ⟨hc,hb1⟩
 have hst1:=hst.keep hb1
 clear hst hb1
 obtain ⟨⟨x0,g0⟩,⟨a0,n0,c0,g1⟩,⟨x1,g2⟩,⟨a1,n1,c1,g3⟩,gf⟩:=hst1.qb.cells
 obtain ⟨⟨y0,k0⟩,⟨y1,k1⟩,kf⟩:=hst1.fb.cells
 have hlt:=hst1.lt
 have l0:w.heap.size<W1.heap.size:=by omega
 rcases hc with ⟨hr,rfl⟩ | ⟨hr,rfl⟩ | ⟨m,m0,m1,m2,hr,rfl⟩
 ·exfalso
  have h9:=uh HH
  rw [show atOf s=a from uh HA] at h9
  omega
 ·exfalso
  have h9:=uh HH
  rw [show atOf s=a from uh HA] at h9
  omega
 have hF:=Figs.run hal m1 hr
 have HR:=qh hr
 have HF:=qh hF
 clear hr hF g0 g1 g2 g3 gf k0 k1 kf
 have hle1:(a:Int)<=m:=by omega
 have hle2:(m:Int)<=s.size:=by omega
 have hle3:a<=m:=by omega
 go_wp2_with fail
 go_fit (zxl (N:=150) (s.extract a m) _ (by have:=(uh HF).2;omega) (by decide) (uh HF).1)
 rintro e W2 ⟨⟨v2,rfl,hN2⟩,hb2⟩
 obtain ⟨p0,p1,p2,p3,rfl⟩:=hN2.shape
 have hst2:=(hst1.keep (zqa W1 _)).keep hb2
 have hnum:=NB.new hN2
 clear hb2 hst1 hlt l0 hN2
 go_wp2_with fail
 go_fit (zxn 1 _ (by decide) (by decide))
 rintro e W3 ⟨⟨v3,rfl,hN3⟩,hb3⟩
 obtain ⟨r0,r1,r2,r3,rfl⟩:=hN3.shape
 have hnum3:=(hnum.keep hb3).keep (zqa W3 (.cells #[.bool r0,.slice r1 r2 r3] 57))
 have hden3:=NB.new hN3
 have hst3:=((hst2.keep (zqa W2 (.cells #[.bool p0,.slice p1 p2 p3] 57))).keep hb3).keep (zqa W3 (.cells #[.bool r0,.slice r1 r2 r3] 57))
 have l2:=hst2.lt
 have l3:=(hnum.keep hb3).lt
 clear hb3 hnum hN3 hst2
 go_upto_region 11 with fail
 obtain ⟨W4,hW4⟩:∃ W4,W4=W3.alloc (.cells #[.bool r0,.slice r1 r2 r3] 57):=⟨_,rfl⟩
 rw [<- hW4] at hnum3 hden3 hst3 ⊢
 clear hW4
 generalize W2.heap.size=nb at hnum3 l2 l3 ⊢
 generalize W3.heap.size=db at hden3 l3 ⊢
 have z0:0<=dv s a m:=((uh HF).bound).1
 obtain ⟨sl,HSL⟩:∃ b,Hid (bAt s m 47=b):=⟨_,rfl⟩
 go_cut [60] (fun b wx=>b=.bool sl/\W4=wx)
 case first =>
  as_aux_lemma =>
   rcases zqu s m 47 with ⟨hz,hm⟩ | ⟨hz,h1,hm⟩ | ⟨hz,h1,hm⟩
   ·rw [show bAt s m 47=sl from uh HSL] at hm
    go_wp2
    go_meet
    exact ⟨by rw [hm],rfl⟩
   ·rw [show bAt s m 47=sl from uh HSL] at hm
    have hzi:(m:Int)<s.size:=by omega
    go_wp2
    go_meet
    exact ⟨by rw [hm];exact congrArg Value.bool h1,rfl⟩
   ·rw [show bAt s m 47=sl from uh HSL] at hm
    have hzi:(m:Int)<s.size:=by omega
    go_wp2
    go_meet
    exact ⟨by rw [hm];exact congrArg Value.bool h1,rfl⟩
 case rest =>
 obtain ⟨rfl,rfl⟩:=hcut
 cases sl
 ·have HSO:=qh (said_dec (uh HMI) (uh HA) m0 m1 (uh HR) (fun g=>by have h9:=zql g;rw [show bAt s m 47=false from uh HSL] at h9;exact absurd h9 (by decide)))
  go_upto_region 22 with fail
  obtain ⟨pt,HPT⟩:∃ b,Hid (bAt s m 46=b):=⟨_,rfl⟩
  go_cut [111] (fun b wx=>b=.bool pt/\W4=wx)
  case first =>
   as_aux_lemma =>
    rcases zqu s m 46 with ⟨hz,hm⟩ | ⟨hz,h1,hm⟩ | ⟨hz,h1,hm⟩
    ·rw [show bAt s m 46=pt from uh HPT] at hm
     go_wp2
     go_meet
     exact ⟨by rw [hm],rfl⟩
    ·rw [show bAt s m 46=pt from uh HPT] at hm
     have hzi:(m:Int)<s.size:=by omega
     go_wp2
     go_meet
     exact ⟨by rw [hm];exact congrArg Value.bool h1,rfl⟩
    ·rw [show bAt s m 46=pt from uh HPT] at hm
     have hzi:(m:Int)<s.size:=by omega
     go_wp2
     go_meet
     exact ⟨by rw [hm];exact congrArg Value.bool h1,rfl⟩
  case rest =>
  obtain ⟨rfl,rfl⟩:=hcut
  go_upto_if 111 with fail
  go_cut [8,15] (fun _ _ _=>False)
  case first =>
   cases pt
   ·exfalso
    have h9:=(uh HH2).1
    rw [show atOf s=a from uh HA,show runEnd s a=m from uh HR] at h9
    rw [show bAt s m 46=false from uh HPT] at h9
    exact absurd h9 (by decide)
   ·have hpt:=zkh.1 (uh HPT)
    have hml:=hpt.1
    have hmi:(m:Int)<s.size:=by omega
    go_wp2_with fail
    go_fit (rrun_v s (m+1) ((m:Int)+1) (by omega) _ (by omega) (by omega))
    rintro e W5 ⟨hc,hb5⟩
    have hst5:=hst3.keep hb5
    have hnum5:=hnum3.keep hb5
    have hden5:=hden3.keep hb5
    clear hb5
    obtain ⟨⟨x0,g0⟩,⟨a0,n0,c0,g1⟩,⟨x1,g2⟩,⟨a1,n1,c1,g3⟩,gf⟩:=hst5.qb.cells
    obtain ⟨⟨y0,k0⟩,⟨y1,k1⟩,kf⟩:=hst5.fb.cells
    have hlt:=hst5.lt
    have l0:w.heap.size<W5.heap.size:=by omega
    rcases hc with ⟨hr,rfl⟩ | ⟨hr,rfl⟩ | ⟨n,n0,n1,n2,hr,rfl⟩
    ·have HSD:=qh ((uh HSO).trans (dec_point_none hpt hr))
     clear hr hpt
     go_wp2
     go_region
     all_goals go_wp2
     obtain ⟨t0,t1,t2,t3,t4,t5,hB⟩:=hst5.out1 (.bool false) (.slice none 0 0) (.bool false) (.slice none 0 0) (.int .i64 1) (.int .i64 ((m:Int)+1)) (.cells #[.int .i64 1,.int .i64 ((m:Int)+1)] 61)
     exact bodyPost_ret (v:=.tuple #[.agg #[.bool false,.slice none 0 0,.bool false,.slice none 0 0],.agg #[.int .i64 1,.int .i64 ((m:Int)+1)]]) (by simp [results,Tryz.results36,go_sem,t0,t1,t2,t3,t4,t5]) rfl ⟨Or.inl ⟨1,m+1,uh HSD,by first | decide | omega,by first | decide | omega,rfl⟩,by first | exact hB | exact hB.drew⟩
    ·have HSD:=qh ((uh HSO).trans (dec_point_many hpt hr))
     clear hr hpt
     go_wp2
     go_region
     all_goals go_wp2
     obtain ⟨t0,t1,t2,t3,t4,t5,hB⟩:=hst5.out1 (.bool false) (.slice none 0 0) (.bool false) (.slice none 0 0) (.int .i64 2) (.int .i64 ((m:Int)+1+300)) (.cells #[.int .i64 2,.int .i64 ((m:Int)+1+300)] 61)
     exact bodyPost_ret (v:=.tuple #[.agg #[.bool false,.slice none 0 0,.bool false,.slice none 0 0],.agg #[.int .i64 2,.int .i64 ((m:Int)+1+300)]]) (by simp [results,Tryz.results36,go_sem,t0,t1,t2,t3,t4,t5]) rfl ⟨Or.inl ⟨2,m+1+300,uh HSD,by first | decide | omega,by first | decide | omega,rfl⟩,by first | exact hB | exact hB.drew⟩
    ·exfalso
     have h9:=(uh HH2).2
     rw [show atOf s=a from uh HA,show runEnd s a=m from uh HR] at h9
     omega
  case rest=>exact hcut.elim
 ·exfalso
  have h9:=(uh HH).2.2
  rw [show atOf s=a from uh HA,show runEnd s a=m from uh HR,show bAt s m 47=_ from uh HSL] at h9
  exact absurd h9 (by decide)
end Go.Proofs.YtkdobjmhammhbaaGreatDoor
