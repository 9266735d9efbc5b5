import Derived.Test.YtkdobjmhammhbaaGreatDoorMTA
namespace Go.Proofs.YtkdobjmhammhbaaGreatDoor
set_option maxHeartbeats 16000000
set_option maxRecDepth 8000
open Go.RowKit
theorem rq_exp_bad (s:ByteArray) (w:World) (hs:s.size<=9223372036854775807) (hh2:(∃ x,said s=.inl x)/\¬ (bAt s (runEnd s (atOf s)) 46=true/\(runEnd s (runEnd s (atOf s)+1)=runEnd s (atOf s)+1\/runEnd s (atOf s)+1+300<runEnd s (runEnd s (atOf s)+1)))) (hh:atOf s<runEnd s (atOf s)/\runEnd s (atOf s)<=atOf s+300/\bAt s (runEnd s (atOf s)) 47=false) :
 Calls Tryz.prog 36 #[.string s,.int .i64 300] w fun e w'=>QRP s e w'/\Below w.heap.size w w':=by
 have HH2:=qh hh2
 have HH:=qh hh
 clear hh hh2
 have hal:=atOf_le s
 have h3:(¬ (0:Int)<s.size/\minusOf s=false/\atOf s=0)\/(∃ h:0<s.size,(((s[0]'h).toNat:Int) == 45)=true/\minusOf s=true/\atOf s=1)\/(∃ h:0<s.size,(((s[0]'h).toNat:Int) == 45)=false/\minusOf s=false/\atOf s=0):=by
  rcases zqu s 0 45 with ⟨h0,h1⟩ | ⟨h0,h1,h2⟩ | ⟨h0,h1,h2⟩
  ·exact Or.inl ⟨h0,zqx (fun g=>by have:=zql g;rw [h1] at this;exact absurd this (by decide))⟩
  ·exact Or.inr (Or.inl ⟨h0,h1,zkp (zkh.1 h2)⟩)
  ·exact Or.inr (Or.inr ⟨h0,h1,zqx (fun g=>by have:=zql g;rw [h2] at this;exact absurd this (by decide))⟩)
 obtain ⟨a,HA⟩:∃ a,Hid (atOf s=a):=⟨_,rfl⟩
 obtain ⟨mi,HMI⟩:∃ b,Hid (minusOf s=b):=⟨_,rfl⟩
 rw [show atOf s=a from uh HA] at hal h3
 rw [show minusOf s=mi from uh HMI] at h3
 have H3:=qh h3
 clear h3
 have hst:=QK.start w
 go_enter Tryz.func36,Tryz.ntmps36
 go_upto_region 2 with fail
 obtain ⟨W0,hW0⟩:∃ W0,W0=(w.alloc (.cells #[.bool false,.slice none 0 0,.bool false,.slice none 0 0] 59)).alloc (.cells #[.int .i64 0,.int .i64 0] 61):=⟨_,rfl⟩
 rw [<- hW0] at hst ⊢
 clear hW0
 go_cut [7] (fun b wx=>b=.bool mi/\W0=wx)
 case first =>
  as_aux_lemma =>
   rcases uh H3 with ⟨hz,hm,_⟩ | ⟨hz,h1,hm,_⟩ | ⟨hz,h1,hm,_⟩
   ·go_wp2
    go_meet
    exact ⟨by rw [hm],rfl⟩
   ·have hzi:(0:Int)<s.size:=by omega
    go_wp2
    go_meet
    exact ⟨by rw [hm],rfl⟩
   ·have hzi:(0:Int)<s.size:=by omega
    go_wp2
    go_meet
    exact ⟨by rw [hm],rfl⟩
 case rest =>
 obtain ⟨rfl,rfl⟩:=hcut
 go_upto_if 31 with fail
 have hma:(mi=false/\a=0)\/(mi=true/\a=1):=by
  rcases uh H3 with ⟨_,hm,ha⟩ | ⟨_,_,hm,ha⟩ | ⟨_,_,hm,ha⟩
  ·exact Or.inl ⟨hm,ha⟩
  ·exact Or.inr ⟨hm,ha⟩
  ·exact Or.inl ⟨hm,ha⟩
 go_cut [6,7] (fun v b wx=>v=.int .i64 a/\b=.bool mi/\W0=wx)
 case first =>
  as_aux_lemma =>
   rcases hma with ⟨rfl,rfl⟩ | ⟨rfl,rfl⟩
   ·go_wp2
    go_meet
    exact ⟨rfl,rfl,rfl⟩
   ·go_wp2
    go_meet
    exact ⟨rfl,rfl,rfl⟩
 case rest =>
 obtain ⟨rfl,rfl,rfl⟩:=hcut
 clear hma H3
 go_wp2_with fail
 go_fit (rrun_any s a _ (by omega) hal)
 rintro e W1 ⟨hc,hb1⟩
 have hst1:=hst.keep hb1
 clear hst hb1
 obtain ⟨⟨x0,g0⟩,⟨a0,n0,c0,g1⟩,⟨x1,g2⟩,⟨a1,n1,c1,g3⟩,gf⟩:=hst1.qb.cells
 obtain ⟨⟨y0,k0⟩,⟨y1,k1⟩,kf⟩:=hst1.fb.cells
 have hlt:=hst1.lt
 have l0:w.heap.size<W1.heap.size:=by omega
 rcases hc with ⟨hr,rfl⟩ | ⟨hr,rfl⟩ | ⟨m,m0,m1,m2,hr,rfl⟩
 ·exfalso
  have h9:=uh HH
  rw [show atOf s=a from uh HA] at h9
  omega
 ·exfalso
  have h9:=uh HH
  rw [show atOf s=a from uh HA] at h9
  omega
 have hF:=Figs.run hal m1 hr
 have HR:=qh hr
 have HF:=qh hF
 clear hr hF g0 g1 g2 g3 gf k0 k1 kf
 have hle1:(a:Int)<=m:=by omega
 have hle2:(m:Int)<=s.size:=by omega
 have hle3:a<=m:=by omega
 go_wp2_with fail
 go_fit (zxl (N:=150) (s.extract a m) _ (by have:=(uh HF).2;omega) (by decide) (uh HF).1)
 rintro e W2 ⟨⟨v2,rfl,hN2⟩,hb2⟩
 obtain ⟨p0,p1,p2,p3,rfl⟩:=hN2.shape
 have hst2:=(hst1.keep (zqa W1 _)).keep hb2
 have hnum:=NB.new hN2
 clear hb2 hst1 hlt l0 hN2
 go_wp2_with fail
 go_fit (zxn 1 _ (by decide) (by decide))
 rintro e W3 ⟨⟨v3,rfl,hN3⟩,hb3⟩
 obtain ⟨r0,r1,r2,r3,rfl⟩:=hN3.shape
 have hnum3:=(hnum.keep hb3).keep (zqa W3 (.cells #[.bool r0,.slice r1 r2 r3] 57))
 have hden3:=NB.new hN3
 have hst3:=((hst2.keep (zqa W2 (.cells #[.bool p0,.slice p1 p2 p3] 57))).keep hb3).keep (zqa W3 (.cells #[.bool r0,.slice r1 r2 r3] 57))
 have l2:=hst2.lt
 have l3:=(hnum.keep hb3).lt
 clear hb3 hnum hN3 hst2
 go_upto_region 11 with fail
 obtain ⟨W4,hW4⟩:∃ W4,W4=W3.alloc (.cells #[.bool r0,.slice r1 r2 r3] 57):=⟨_,rfl⟩
 rw [<- hW4] at hnum3 hden3 hst3 ⊢
 clear hW4
 generalize W2.heap.size=nb at hnum3 l2 l3 ⊢
 generalize W3.heap.size=db at hden3 l3 ⊢
 have z0:0<=dv s a m:=((uh HF).bound).1
 obtain ⟨sl,HSL⟩:∃ b,Hid (bAt s m 47=b):=⟨_,rfl⟩
 go_cut [60] (fun b wx=>b=.bool sl/\W4=wx)
 case first =>
  as_aux_lemma =>
   rcases zqu s m 47 with ⟨hz,hm⟩ | ⟨hz,h1,hm⟩ | ⟨hz,h1,hm⟩
   ·rw [show bAt s m 47=sl from uh HSL] at hm
    go_wp2
    go_meet
    exact ⟨by rw [hm],rfl⟩
   ·rw [show bAt s m 47=sl from uh HSL] at hm
    have hzi:(m:Int)<s.size:=by omega
    go_wp2
    go_meet
    exact ⟨by rw [hm];exact congrArg Value.bool h1,rfl⟩
   ·rw [show bAt s m 47=sl from uh HSL] at hm
    have hzi:(m:Int)<s.size:=by omega
    go_wp2
    go_meet
    exact ⟨by rw [hm];exact congrArg Value.bool h1,rfl⟩
 case rest =>
 obtain ⟨rfl,rfl⟩:=hcut
 cases sl
 ·have HSO:=qh (said_dec (uh HMI) (uh HA) m0 m1 (uh HR) (fun g=>by have h9:=zql g;rw [show bAt s m 47=false from uh HSL] at h9;exact absurd h9 (by decide)))
  go_upto_region 22 with fail
  obtain ⟨pt,HPT⟩:∃ b,Hid (bAt s m 46=b):=⟨_,rfl⟩
  go_cut [111] (fun b wx=>b=.bool pt/\W4=wx)
  case first =>
   as_aux_lemma =>
    rcases zqu s m 46 with ⟨hz,hm⟩ | ⟨hz,h1,hm⟩ | ⟨hz,h1,hm⟩
    ·rw [show bAt s m 46=pt from uh HPT] at hm
     go_wp2
     go_meet
     exact ⟨by rw [hm],rfl⟩
    ·rw [show bAt s m 46=pt from uh HPT] at hm
     have hzi:(m:Int)<s.size:=by omega
     go_wp2
     go_meet
     exact ⟨by rw [hm];exact congrArg Value.bool h1,rfl⟩
    ·rw [show bAt s m 46=pt from uh HPT] at hm
     have hzi:(m:Int)<s.size:=by omega
     go_wp2
     go_meet
     exact ⟨by rw [hm];exact congrArg Value.bool h1,rfl⟩
  case rest =>
  obtain ⟨rfl,rfl⟩:=hcut
  go_upto_if 111 with fail
  go_cut [8,15] (fun tv pv wx=>∃ (k pl:Nat) (x:Bool) (b:Option Addr) (n c:Nat) (z:Int),tv=.int .i64 k/\pv=.int .i64 pl/\k<=s.size/\pl<=300/\0<=z/\NB wx nb x b n c 150 z/\NB wx db r0 r1 r2 r3 1 1/\QK w wx/\Hid (said s=saidExp s (signed mi z) pl k))
  case first =>
   as_aux_lemma =>
    cases pt
    ·have HSX:=qh ((uh HSO).trans (dec_plain (fun g=>by have h9:=zql g;rw [show bAt s m 46=false from uh HPT] at h9;exact absurd h9 (by decide))))
     go_wp2
     go_meet
     exact ⟨m,0,p0,p1,p2,p3,dv s a m,rfl,rfl,m2,by omega,z0,hnum3,hden3,hst3,HSX⟩
    ·have hpt:=zkh.1 (uh HPT)
     have hml:=hpt.1
     have hmi:(m:Int)<s.size:=by omega
     go_wp2_with fail
     go_fit (rrun_v s (m+1) ((m:Int)+1) (by omega) _ (by omega) (by omega))
     rintro e W5 ⟨hc,hb5⟩
     have hst5:=hst3.keep hb5
     have hnum5:=hnum3.keep hb5
     have hden5:=hden3.keep hb5
     clear hb5
     obtain ⟨⟨x0,g0⟩,⟨a0,n0,c0,g1⟩,⟨x1,g2⟩,⟨a1,n1,c1,g3⟩,gf⟩:=hst5.qb.cells
     obtain ⟨⟨y0,k0⟩,⟨y1,k1⟩,kf⟩:=hst5.fb.cells
     have hlt:=hst5.lt
     have l0:w.heap.size<W5.heap.size:=by omega
     rcases hc with ⟨hr,rfl⟩ | ⟨hr,rfl⟩ | ⟨n,n0,n1,n2,hr,rfl⟩
     ·exfalso
      apply (uh HH2).2
      rw [show atOf s=a from uh HA,show runEnd s a=m from uh HR]
      exact ⟨uh HPT,Or.inl hr⟩
     ·exfalso
      apply (uh HH2).2
      rw [show atOf s=a from uh HA,show runEnd s a=m from uh HR]
      exact ⟨uh HPT,Or.inr hr⟩
     ·have HRN:=qh hr
      have HFN:=qh (Figs.run (a:=m+1) (by omega) n1 hr)
      have HSX:=qh ((uh HSO).trans (dec_point hpt hr n0 n1))
      clear hr hpt g0 g1 g2 g3 gf k0 k1 kf
      have hle4:(m:Int)+1<=n:=by omega
      have hle5:(n:Int)<=s.size:=by omega
      have hle6:m+1<=n:=by omega
      have hll:¬ 9223372036854775807<(s.extract a m).size+(s.extract (m+1) n).size:=by have:=(uh HF).2;have:=(uh HFN).2;omega
      go_wp2_with fail
      go_fit (zxl (N:=150) (s.extract a m++s.extract (m+1) n) _ (by rw [ByteArray.size_append];have:=(uh HF).2;have:=(uh HFN).2;omega) (by decide) (dig_join (uh HF).1 (uh HFN).1))
      rintro e W6 ⟨⟨v6,rfl,hN6⟩,hb6⟩
      rw [dec_join n2] at hN6
      obtain ⟨q0,q1,q2,q3,rfl⟩:=hN6.shape
      have hst6:=(hst5.keep (zqa W5 _)).keep hb6
      have hnum6:=(hnum5.keep (zqa W5 _)).keep hb6
      have hden6:=(hden5.keep (zqa W5 _)).keep hb6
      clear hst5 hnum5 hden5 hb6 hlt l0
      have d0:0<=dv s (m+1) n:=((uh HFN).bound).1
      have d1:=zki (n - (m+1))
      have d2:0<=dv s a m*10 ^ (n - (m+1))+dv s (m+1) n:=by have:=Int.mul_nonneg z0 (Int.le_of_lt d1);omega
      have D2:=qh d2
      clear d0 d1 d2
      have b0:=hnum6.c0
      have b1:=hnum6.c1
      obtain ⟨_,_,bf⟩:=hnum6.box.cells
      have lb:=hnum6.lt
      go_wp2
      go_meet
      exact ⟨n,n - (m+1),q0,q1,q2,q3,_,rfl,by go_num,n2,by omega,uh D2,hnum6.stored hN6,hden6.beside hnum6.box (by omega) _ _,hst6.beside (by omega) _ _,HSX⟩
  case rest =>
  obtain ⟨k,pl,x,b,n,c,z,rfl,rfl,hk,hpl,hz0,hnum,hden,hst,HSE⟩:=hcut
  obtain ⟨W8,rfl⟩:∃ X,X=wc:=⟨_,rfl⟩
  clear hnum3 hden3 hst3 HSO HPT
  go_upto_region 30 with fail
  obtain ⟨ex,HEX⟩:∃ b,Hid (bAt s k 101=b):=⟨_,rfl⟩
  go_cut [147] (fun b wx=>b=.bool ex/\W8=wx)
  case first =>
   as_aux_lemma =>
    rcases zqu s k 101 with ⟨hz,hm⟩ | ⟨hz,h1,hm⟩ | ⟨hz,h1,hm⟩
    ·rw [show bAt s k 101=ex from uh HEX] at hm
     go_wp2
     go_meet
     exact ⟨by rw [hm],rfl⟩
    ·rw [show bAt s k 101=ex from uh HEX] at hm
     have hzi:(k:Int)<s.size:=by omega
     go_wp2
     go_meet
     exact ⟨by rw [hm];exact congrArg Value.bool h1,rfl⟩
    ·rw [show bAt s k 101=ex from uh HEX] at hm
     have hzi:(k:Int)<s.size:=by omega
     go_wp2
     go_meet
     exact ⟨by rw [hm];exact congrArg Value.bool h1,rfl⟩
  case rest =>
  obtain ⟨rfl,rfl⟩:=hcut
  go_upto_if 147 with fail
  go_cut [8,18] (fun tv uv wx=>∃ (k2:Nat) (up:Int),tv=.int .i64 k2/\uv=.int .i64 up/\k2<=s.size /\ -60<=up/\up<=60/\NB wx nb x b n c 150 z/\NB wx db r0 r1 r2 r3 1 1/\QK w wx/\Hid (said s=saidEnd s k2 (.inr (upSaid (signed mi z) pl up))))
  case first =>
   cases ex
   ·have HSX:Hid (said s=saidEnd s k (.inr (upSaid (signed mi z) pl 0))):=by
     show _=_
     rw [show said s=_ from uh HSE,up_none]
     unfold saidExp
     rw [if_neg (by rw [show bAt s k 101=false from uh HEX];decide)]
    go_wp2
    go_meet
    exact ⟨k,0,rfl,rfl,hk,by omega,by omega,hnum,hden,hst,HSX⟩
   ·have hex:=zkh.1 (uh HEX)
    have hkl:=hex.1
    have hki:(k:Int)<s.size:=by omega
    have HX2:=qh hex
    clear hex
    go_wp2_with fail
    go_fit (rpower_v s k ((k:Int)+1) (by omega) _ (by omega) hkl)
    rintro e W9 ⟨hc,hb9⟩
    have hst9:=hst.keep hb9
    have hnum9:=hnum.keep hb9
    have hden9:=hden.keep hb9
    clear hb9
    obtain ⟨⟨x0,g0⟩,⟨a0,n0,c0,g1⟩,⟨x1,g2⟩,⟨a1,n1,c1,g3⟩,gf⟩:=hst9.qb.cells
    obtain ⟨⟨y0,k0⟩,⟨y1,k1⟩,kf⟩:=hst9.fb.cells
    have hlt:=hst9.lt
    have l0:w.heap.size<W9.heap.size:=by omega
    rcases pow_said (signed mi z) pl (uh HX2) hc with ⟨cc,tt,kk,hsd,hc1,hc2,rfl⟩ | ⟨m9,up,hsd,hm9,u1,u2,rfl⟩
    ·have HSD:=qh ((uh HSE).trans hsd)
     clear hsd hc
     have hci:(0:Int)<cc:=by omega
     go_wp2
     go_region
     all_goals go_wp2
     obtain ⟨t0,t1,t2,t3,t4,t5,hB⟩:=hst9.out1 (.bool false) (.slice none 0 0) (.bool false) (.slice none 0 0) (.int .i64 cc) (.int .i64 kk) (.cells #[.int .i64 cc,.int .i64 kk] 61)
     exact bodyPost_ret (v:=.tuple #[.agg #[.bool false,.slice none 0 0,.bool false,.slice none 0 0],.agg #[.int .i64 cc,.int .i64 kk]]) (by simp [results,Tryz.results36,go_sem,t0,t1,t2,t3,t4,t5]) rfl ⟨Or.inl ⟨cc,kk,uh HSD,by first | decide | omega,by first | decide | omega,rfl⟩,by first | exact hB | exact hB.drew⟩
    ·have HSX:=qh ((uh HSE).trans hsd)
     clear hsd hc
     go_wp2
     go_meet
     exact ⟨m9,up,rfl,rfl,hm9,u1,u2,hnum9.keep (zqa W9 _),hden9.keep (zqa W9 _),hst9.keep (zqa W9 _),HSX⟩
  case rest =>
  clear hnum hden hst HSE
  obtain ⟨k2,up,rfl,rfl,hk2,up1,up2,hnum,hden,hst,HSU⟩:=hcut
  obtain ⟨W10,rfl⟩:∃ X,X=wc:=⟨_,rfl⟩
  by_cases hke:k2<s.size
  ·obtain ⟨⟨x0,g0⟩,⟨a0,n0,c0,g1⟩,⟨x1,g2⟩,⟨a1,n1,c1,g3⟩,gf⟩:=hst.qb.cells
   obtain ⟨⟨y0,k0⟩,⟨y1,k1⟩,kf⟩:=hst.fb.cells
   have hlt:=hst.lt
   have l0:w.heap.size<W10.heap.size:=by omega
   have hki:(k2:Int)<s.size:=by omega
   have HSD:=qh ((uh HSU).trans (zjc hke))
   go_wp2
   obtain ⟨t0,t1,t2,t3,t4,t5,hB⟩:=hst.out (.bool false) (.slice none 0 0) (.bool false) (.slice none 0 0) (.int .i64 1) (.int .i64 k2)
   exact bodyPost_ret (v:=.tuple #[.agg #[.bool false,.slice none 0 0,.bool false,.slice none 0 0],.agg #[.int .i64 1,.int .i64 k2]]) (by simp [results,Tryz.results36,go_sem,t0,t1,t2,t3,t4,t5]) rfl ⟨Or.inl ⟨1,k2,uh HSD,by first | decide | omega,by first | decide | omega,rfl⟩,by first | exact hB | exact hB.drew⟩
  ·have hki:¬ (k2:Int)<s.size:=by omega
   have HSV:=qh ((uh HSU).trans (zjp (by omega)))
   exfalso
   obtain ⟨x9,hx9⟩:=(uh HH2).1
   rw [show said s=_ from uh HSV] at hx9
   exact absurd hx9 (by simp)
 ·exfalso
  have h9:=(uh HH).2.2
  rw [show atOf s=a from uh HA,show runEnd s a=m from uh HR,show bAt s m 47=_ from uh HSL] at h9
  exact absurd h9 (by decide)
theorem rq_dec_good (s:ByteArray) (w:World) (hs:s.size<=9223372036854775807) (hh2:∃ x,said s=.inr x) (hh:atOf s<runEnd s (atOf s)/\runEnd s (atOf s)<=atOf s+300/\bAt s (runEnd s (atOf s)) 47=false) :
 Calls Tryz.prog 36 #[.string s,.int .i64 300] w fun e w'=>QRP s e w'/\Below w.heap.size w w':=by
 have HH2:=qh hh2
 have HH:=qh hh
 clear hh hh2
 have hal:=atOf_le s
 have h3:(¬ (0:Int)<s.size/\minusOf s=false/\atOf s=0)\/(∃ h:0<s.size,(((s[0]'h).toNat:Int) == 45)=true/\minusOf s=true/\atOf s=1)\/(∃ h:0<s.size,(((s[0]'h).toNat:Int) == 45)=false/\minusOf s=false/\atOf s=0):=by
  rcases zqu s 0 45 with ⟨h0,h1⟩ | ⟨h0,h1,h2⟩ | ⟨h0,h1,h2⟩
  ·exact Or.inl ⟨h0,zqx (fun g=>by have:=zql g;rw [h1] at this;exact absurd this (by decide))⟩
  ·exact Or.inr (Or.inl ⟨h0,h1,zkp (zkh.1 h2)⟩)
  ·exact Or.inr (Or.inr ⟨h0,h1,zqx (fun g=>by have:=zql g;rw [h2] at this;exact absurd this (by decide))⟩)
 obtain ⟨a,HA⟩:∃ a,Hid (atOf s=a):=⟨_,rfl⟩
 obtain ⟨mi,HMI⟩:∃ b,Hid (minusOf s=b):=⟨_,rfl⟩
 rw [show atOf s=a from uh HA] at hal h3
 rw [show minusOf s=mi from uh HMI] at h3
 have H3:=qh h3
 clear h3
 have hst:=QK.start w
 go_enter Tryz.func36,Tryz.ntmps36
 go_upto_region 2 with fail
 obtain ⟨W0,hW0⟩:∃ W0,W0=(w.alloc (.cells #[.bool false,.slice none 0 0,.bool false,.slice none 0 0] 59)).alloc (.cells #[.int .i64 0,.int .i64 0] 61):=⟨_,rfl⟩
 rw [<- hW0] at hst ⊢
 clear hW0
 go_cut [7] (fun b wx=>b=.bool mi/\W0=wx)
 case first =>
  as_aux_lemma =>
   rcases uh H3 with ⟨hz,hm,_⟩ | ⟨hz,h1,hm,_⟩ | ⟨hz,h1,hm,_⟩
   ·go_wp2
    go_meet
    exact ⟨by rw [hm],rfl⟩
   ·have hzi:(0:Int)<s.size:=by omega
    go_wp2
    go_meet
    exact ⟨by rw [hm],rfl⟩
   ·have hzi:(0:Int)<s.size:=by omega
    go_wp2
    go_meet
    exact ⟨by rw [hm],rfl⟩
 case rest =>
 obtain ⟨rfl,rfl⟩:=hcut
 go_upto_if 31 with fail
 have hma:(mi=false/\a=0)\/(mi=true/\a=1):=by
  rcases uh H3 with ⟨_,hm,ha⟩ | ⟨_,_,hm,ha⟩ | ⟨_,_,hm,ha⟩
  ·exact Or.inl ⟨hm,ha⟩
  ·exact Or.inr ⟨hm,ha⟩
  ·exact Or.inl ⟨hm,ha⟩
 go_cut [6,7] (fun v b wx=>v=.int .i64 a/\b=.bool mi/\W0=wx)
 case first =>
  as_aux_lemma =>
   rcases hma with ⟨rfl,rfl⟩ | ⟨rfl,rfl⟩
   ·go_wp2
    go_meet
    exact ⟨rfl,rfl,rfl⟩
   ·go_wp2
    go_meet
    exact ⟨rfl,rfl,rfl⟩
 case rest =>
 obtain ⟨rfl,rfl,rfl⟩:=hcut
 clear hma H3
 go_wp2_with fail
 go_fit (rrun_any s a _ (by omega) hal)
 rintro e W1 ⟨hc,hb1⟩
 have hst1:=hst.keep hb1
 clear hst hb1
 obtain ⟨⟨x0,g0⟩,⟨a0,n0,c0,g1⟩,⟨x1,g2⟩,⟨a1,n1,c1,g3⟩,gf⟩:=hst1.qb.cells
 obtain ⟨⟨y0,k0⟩,⟨y1,k1⟩,kf⟩:=hst1.fb.cells
 have hlt:=hst1.lt
 have l0:w.heap.size<W1.heap.size:=by omega
 rcases hc with ⟨hr,rfl⟩ | ⟨hr,rfl⟩ | ⟨m,m0,m1,m2,hr,rfl⟩
 ·exfalso
  have h9:=uh HH
  rw [show atOf s=a from uh HA] at h9
  omega
 ·exfalso
  have h9:=uh HH
  rw [show atOf s=a from uh HA] at h9
  omega
 have hF:=Figs.run hal m1 hr
 have HR:=qh hr
 have HF:=qh hF
 clear hr hF g0 g1 g2 g3 gf k0 k1 kf
 have hle1:(a:Int)<=m:=by omega
 have hle2:(m:Int)<=s.size:=by omega
 have hle3:a<=m:=by omega
 go_wp2_with fail
 go_fit (zxl (N:=150) (s.extract a m) _ (by have:=(uh HF).2;omega) (by decide) (uh HF).1)
 rintro e W2 ⟨⟨v2,rfl,hN2⟩,hb2⟩
 obtain ⟨p0,p1,p2,p3,rfl⟩:=hN2.shape
 have hst2:=(hst1.keep (zqa W1 _)).keep hb2
 have hnum:=NB.new hN2
 clear hb2 hst1 hlt l0 hN2
 go_wp2_with fail
 go_fit (zxn 1 _ (by decide) (by decide))
 rintro e W3 ⟨⟨v3,rfl,hN3⟩,hb3⟩
 obtain ⟨r0,r1,r2,r3,rfl⟩:=hN3.shape
 have hnum3:=(hnum.keep hb3).keep (zqa W3 (.cells #[.bool r0,.slice r1 r2 r3] 57))
 have hden3:=NB.new hN3
 have hst3:=((hst2.keep (zqa W2 (.cells #[.bool p0,.slice p1 p2 p3] 57))).keep hb3).keep (zqa W3 (.cells #[.bool r0,.slice r1 r2 r3] 57))
 have l2:=hst2.lt
 have l3:=(hnum.keep hb3).lt
 clear hb3 hnum hN3 hst2
 go_upto_region 11 with fail
 obtain ⟨W4,hW4⟩:∃ W4,W4=W3.alloc (.cells #[.bool r0,.slice r1 r2 r3] 57):=⟨_,rfl⟩
 rw [<- hW4] at hnum3 hden3 hst3 ⊢
 clear hW4
 generalize W2.heap.size=nb at hnum3 l2 l3 ⊢
 generalize W3.heap.size=db at hden3 l3 ⊢
 have z0:0<=dv s a m:=((uh HF).bound).1
 obtain ⟨sl,HSL⟩:∃ b,Hid (bAt s m 47=b):=⟨_,rfl⟩
 go_cut [60] (fun b wx=>b=.bool sl/\W4=wx)
 case first =>
  as_aux_lemma =>
   rcases zqu s m 47 with ⟨hz,hm⟩ | ⟨hz,h1,hm⟩ | ⟨hz,h1,hm⟩
   ·rw [show bAt s m 47=sl from uh HSL] at hm
    go_wp2
    go_meet
    exact ⟨by rw [hm],rfl⟩
   ·rw [show bAt s m 47=sl from uh HSL] at hm
    have hzi:(m:Int)<s.size:=by omega
    go_wp2
    go_meet
    exact ⟨by rw [hm];exact congrArg Value.bool h1,rfl⟩
   ·rw [show bAt s m 47=sl from uh HSL] at hm
    have hzi:(m:Int)<s.size:=by omega
    go_wp2
    go_meet
    exact ⟨by rw [hm];exact congrArg Value.bool h1,rfl⟩
 case rest =>
 obtain ⟨rfl,rfl⟩:=hcut
 cases sl
 ·have HSO:=qh (said_dec (uh HMI) (uh HA) m0 m1 (uh HR) (fun g=>by have h9:=zql g;rw [show bAt s m 47=false from uh HSL] at h9;exact absurd h9 (by decide)))
  go_upto_region 22 with fail
  obtain ⟨pt,HPT⟩:∃ b,Hid (bAt s m 46=b):=⟨_,rfl⟩
  go_cut [111] (fun b wx=>b=.bool pt/\W4=wx)
  case first =>
   as_aux_lemma =>
    rcases zqu s m 46 with ⟨hz,hm⟩ | ⟨hz,h1,hm⟩ | ⟨hz,h1,hm⟩
    ·rw [show bAt s m 46=pt from uh HPT] at hm
     go_wp2
     go_meet
     exact ⟨by rw [hm],rfl⟩
    ·rw [show bAt s m 46=pt from uh HPT] at hm
     have hzi:(m:Int)<s.size:=by omega
     go_wp2
     go_meet
     exact ⟨by rw [hm];exact congrArg Value.bool h1,rfl⟩
    ·rw [show bAt s m 46=pt from uh HPT] at hm
     have hzi:(m:Int)<s.size:=by omega
     go_wp2
     go_meet
     exact ⟨by rw [hm];exact congrArg Value.bool h1,rfl⟩
  case rest =>
  obtain ⟨rfl,rfl⟩:=hcut
  go_upto_if 111 with fail
  go_cut [8,15] (fun tv pv wx=>∃ (k pl:Nat) (x:Bool) (b:Option Addr) (n c:Nat) (z:Int),tv=.int .i64 k/\pv=.int .i64 pl/\k<=s.size/\pl<=300/\0<=z/\NB wx nb x b n c 150 z/\NB wx db r0 r1 r2 r3 1 1/\QK w wx/\Hid (said s=saidExp s (signed mi z) pl k))
  case first =>
   as_aux_lemma =>
    cases pt
    ·have HSX:=qh ((uh HSO).trans (dec_plain (fun g=>by have h9:=zql g;rw [show bAt s m 46=false from uh HPT] at h9;exact absurd h9 (by decide))))
     go_wp2
     go_meet
     exact ⟨m,0,p0,p1,p2,p3,dv s a m,rfl,rfl,m2,by omega,z0,hnum3,hden3,hst3,HSX⟩
    ·have hpt:=zkh.1 (uh HPT)
     have hml:=hpt.1
     have hmi:(m:Int)<s.size:=by omega
     go_wp2_with fail
     go_fit (rrun_v s (m+1) ((m:Int)+1) (by omega) _ (by omega) (by omega))
     rintro e W5 ⟨hc,hb5⟩
     have hst5:=hst3.keep hb5
     have hnum5:=hnum3.keep hb5
     have hden5:=hden3.keep hb5
     clear hb5
     obtain ⟨⟨x0,g0⟩,⟨a0,n0,c0,g1⟩,⟨x1,g2⟩,⟨a1,n1,c1,g3⟩,gf⟩:=hst5.qb.cells
     obtain ⟨⟨y0,k0⟩,⟨y1,k1⟩,kf⟩:=hst5.fb.cells
     have hlt:=hst5.lt
     have l0:w.heap.size<W5.heap.size:=by omega
     rcases hc with ⟨hr,rfl⟩ | ⟨hr,rfl⟩ | ⟨n,n0,n1,n2,hr,rfl⟩
     ·have HSD:=qh ((uh HSO).trans (dec_point_none hpt hr))
      clear hr hpt
      exfalso
      obtain ⟨x9,hx9⟩:=uh HH2
      rw [show said s=_ from uh HSD] at hx9
      exact absurd hx9 (by simp)
     ·have HSD:=qh ((uh HSO).trans (dec_point_many hpt hr))
      clear hr hpt
      exfalso
      obtain ⟨x9,hx9⟩:=uh HH2
      rw [show said s=_ from uh HSD] at hx9
      exact absurd hx9 (by simp)
     ·have HRN:=qh hr
      have HFN:=qh (Figs.run (a:=m+1) (by omega) n1 hr)
      have HSX:=qh ((uh HSO).trans (dec_point hpt hr n0 n1))
      clear hr hpt g0 g1 g2 g3 gf k0 k1 kf
      have hle4:(m:Int)+1<=n:=by omega
      have hle5:(n:Int)<=s.size:=by omega
      have hle6:m+1<=n:=by omega
      have hll:¬ 9223372036854775807<(s.extract a m).size+(s.extract (m+1) n).size:=by have:=(uh HF).2;have:=(uh HFN).2;omega
      go_wp2_with fail
      go_fit (zxl (N:=150) (s.extract a m++s.extract (m+1) n) _ (by rw [ByteArray.size_append];have:=(uh HF).2;have:=(uh HFN).2;omega) (by decide) (dig_join (uh HF).1 (uh HFN).1))
      rintro e W6 ⟨⟨v6,rfl,hN6⟩,hb6⟩
      rw [dec_join n2] at hN6
      obtain ⟨q0,q1,q2,q3,rfl⟩:=hN6.shape
      have hst6:=(hst5.keep (zqa W5 _)).keep hb6
      have hnum6:=(hnum5.keep (zqa W5 _)).keep hb6
      have hden6:=(hden5.keep (zqa W5 _)).keep hb6
      clear hst5 hnum5 hden5 hb6 hlt l0
      have d0:0<=dv s (m+1) n:=((uh HFN).bound).1
      have d1:=zki (n - (m+1))
      have d2:0<=dv s a m*10 ^ (n - (m+1))+dv s (m+1) n:=by have:=Int.mul_nonneg z0 (Int.le_of_lt d1);omega
      have D2:=qh d2
      clear d0 d1 d2
      have b0:=hnum6.c0
      have b1:=hnum6.c1
      obtain ⟨_,_,bf⟩:=hnum6.box.cells
      have lb:=hnum6.lt
      go_wp2
      go_meet
      exact ⟨n,n - (m+1),q0,q1,q2,q3,_,rfl,by go_num,n2,by omega,uh D2,hnum6.stored hN6,hden6.beside hnum6.box (by omega) _ _,hst6.beside (by omega) _ _,HSX⟩
  case rest =>
  obtain ⟨k,pl,x,b,n,c,z,rfl,rfl,hk,hpl,hz0,hnum,hden,hst,HSE⟩:=hcut
  obtain ⟨W8,rfl⟩:∃ X,X=wc:=⟨_,rfl⟩
  clear hnum3 hden3 hst3 HSO HPT
  go_upto_region 30 with fail
  obtain ⟨ex,HEX⟩:∃ b,Hid (bAt s k 101=b):=⟨_,rfl⟩
  go_cut [147] (fun b wx=>b=.bool ex/\W8=wx)
  case first =>
   as_aux_lemma =>
    rcases zqu s k 101 with ⟨hz,hm⟩ | ⟨hz,h1,hm⟩ | ⟨hz,h1,hm⟩
    ·rw [show bAt s k 101=ex from uh HEX] at hm
     go_wp2
     go_meet
     exact ⟨by rw [hm],rfl⟩
    ·rw [show bAt s k 101=ex from uh HEX] at hm
     have hzi:(k:Int)<s.size:=by omega
     go_wp2
     go_meet
     exact ⟨by rw [hm];exact congrArg Value.bool h1,rfl⟩
    ·rw [show bAt s k 101=ex from uh HEX] at hm
     have hzi:(k:Int)<s.size:=by omega
     go_wp2
     go_meet
     exact ⟨by rw [hm];exact congrArg Value.bool h1,rfl⟩
  case rest =>
  obtain ⟨rfl,rfl⟩:=hcut
  go_upto_if 147 with fail
  go_cut [8,18] (fun tv uv wx=>∃ (k2:Nat) (up:Int),tv=.int .i64 k2/\uv=.int .i64 up/\k2<=s.size /\ -60<=up/\up<=60/\NB wx nb x b n c 150 z/\NB wx db r0 r1 r2 r3 1 1/\QK w wx/\Hid (said s=saidEnd s k2 (.inr (upSaid (signed mi z) pl up))))
  case first =>
   as_aux_lemma =>
    cases ex
    ·have HSX:Hid (said s=saidEnd s k (.inr (upSaid (signed mi z) pl 0))):=by
      show _=_
      rw [show said s=_ from uh HSE,up_none]
      unfold saidExp
      rw [if_neg (by rw [show bAt s k 101=false from uh HEX];decide)]
     go_wp2
     go_meet
     exact ⟨k,0,rfl,rfl,hk,by omega,by omega,hnum,hden,hst,HSX⟩
    ·have hex:=zkh.1 (uh HEX)
     have hkl:=hex.1
     have hki:(k:Int)<s.size:=by omega
     have HX2:=qh hex
     clear hex
     go_wp2_with fail
     go_fit (rpower_v s k ((k:Int)+1) (by omega) _ (by omega) hkl)
     rintro e W9 ⟨hc,hb9⟩
     have hst9:=hst.keep hb9
     have hnum9:=hnum.keep hb9
     have hden9:=hden.keep hb9
     clear hb9
     obtain ⟨⟨x0,g0⟩,⟨a0,n0,c0,g1⟩,⟨x1,g2⟩,⟨a1,n1,c1,g3⟩,gf⟩:=hst9.qb.cells
     obtain ⟨⟨y0,k0⟩,⟨y1,k1⟩,kf⟩:=hst9.fb.cells
     have hlt:=hst9.lt
     have l0:w.heap.size<W9.heap.size:=by omega
     rcases pow_said (signed mi z) pl (uh HX2) hc with ⟨cc,tt,kk,hsd,hc1,hc2,rfl⟩ | ⟨m9,up,hsd,hm9,u1,u2,rfl⟩
     ·have HSD:=qh ((uh HSE).trans hsd)
      clear hsd hc
      have hci:(0:Int)<cc:=by omega
      exfalso
      obtain ⟨x9,hx9⟩:=uh HH2
      rw [show said s=_ from uh HSD] at hx9
      exact absurd hx9 (by simp)
     ·have HSX:=qh ((uh HSE).trans hsd)
      clear hsd hc
      go_wp2
      go_meet
      exact ⟨m9,up,rfl,rfl,hm9,u1,u2,hnum9.keep (zqa W9 _),hden9.keep (zqa W9 _),hst9.keep (zqa W9 _),HSX⟩
  case rest =>
  clear hnum hden hst HSE
  obtain ⟨k2,up,rfl,rfl,hk2,up1,up2,hnum,hden,hst,HSU⟩:=hcut
  obtain ⟨W10,rfl⟩:∃ X,X=wc:=⟨_,rfl⟩
  by_cases hke:k2<s.size
  ·obtain ⟨⟨x0,g0⟩,⟨a0,n0,c0,g1⟩,⟨x1,g2⟩,⟨a1,n1,c1,g3⟩,gf⟩:=hst.qb.cells
   obtain ⟨⟨y0,k0⟩,⟨y1,k1⟩,kf⟩:=hst.fb.cells
   have hlt:=hst.lt
   have l0:w.heap.size<W10.heap.size:=by omega
   have hki:(k2:Int)<s.size:=by omega
   have HSD:=qh ((uh HSU).trans (zjc hke))
   exfalso
   obtain ⟨x9,hx9⟩:=uh HH2
   rw [show said s=_ from uh HSD] at hx9
   exact absurd hx9 (by simp)
  ·have hki:¬ (k2:Int)<s.size:=by omega
   have HSV:=qh ((uh HSU).trans (zjp (by omega)))
   clear HSU
   go_wp2_with fail
   go_fit (rten_any pl _ (by omega))
   rintro e V1 ⟨⟨v1,rfl,hN1⟩,hb1⟩
   obtain ⟨q0,q1,q2,q3,rfl⟩:=hN1.shape
   have hst1:=hst.keep hb1
   have hnum1:=hnum.keep hb1
   have hden1:=hden.keep hb1
   clear hb1 hst hnum hden
   have b0:=hden1.c0
   have b1:=hden1.c1
   obtain ⟨_,_,bf⟩:=hden1.box.cells
   have lb:=hden1.lt
   have lv:=hst1.lt
   have hst2:=(hst1.beside (q:=db) (by omega) (.bool q0) (.slice q1 q2 q3)).keep (zqa _ (.cells #[.bool q0,.slice q1 q2 q3] 57))
   have hnum2:=(hnum1.beside hden1.box (by omega) (.bool q0) (.slice q1 q2 q3)).keep (zqa _ (.cells #[.bool q0,.slice q1 q2 q3] 57))
   have hden2:=(hden1.stored hN1).keep (zqa _ (.cells #[.bool q0,.slice q1 q2 q3] 57))
   have ht2:=NB.new (hN1.stored hden1.box (.bool q0) (.slice q1 q2 q3))
   rw [show ((V1.setCell ⟨db,0,none⟩ (.bool q0)).setCell ⟨db,1,none⟩ (.slice q1 q2 q3)).heap.size=V1.heap.size by simp [World.setCell]] at ht2
   go_upto_if 174 with fail
   obtain ⟨V2,hV2⟩:∃ X,X=((V1.setCell ⟨db,0,none⟩ (.bool q0)).setCell ⟨db,1,none⟩ (.slice q1 q2 q3)).alloc (.cells #[.bool q0,.slice q1 q2 q3] 57):=⟨_,rfl⟩
   rw [<- hV2] at hst2 hnum2 hden2 ht2 ⊢
   clear hV2 b0 b1 bf hst1 hnum1 hden1 hN1
   generalize V1.heap.size=tb at ht2 lb lv ⊢
   go_cut [] (fun wx=>∃ x b n c z2 r0 r1 r2 r3 o2,NB wx nb x b n c 362 z2/\NB wx db r0 r1 r2 r3 362 o2/\QK w wx/\0<=z2/\0<o2/\Hid (said s=.inr (signed mi z2,o2)))
   case first =>
    as_aux_lemma =>
     by_cases hu:0<up
     ·obtain ⟨u,rfl⟩:∃ u:Nat,up=u:=⟨up.toNat,by omega⟩
      have hui:(0:Int)<u:=by omega
      have c0:=ht2.c0
      have c1:=ht2.c1
      go_wp2_with fail
      go_fit (rten_any u _ (by omega))
      rintro e V3 ⟨⟨v3,rfl,hN3⟩,hb3⟩
      obtain ⟨y0,y1,y2,y3,rfl⟩:=hN3.shape
      have ht3:=ht2.keep hb3
      have hst3:=hst2.keep hb3
      have hnum3:=hnum2.keep hb3
      have hden3:=hden2.keep hb3
      clear hb3 c0 c1 ht2 hst2 hnum2 hden2
      have c0:=ht3.c0
      have c1:=ht3.c1
      obtain ⟨_,_,cf⟩:=ht3.box.cells
      have lt3:=ht3.lt
      have ht4:=ht3.stored hN3
      have hst4:=hst3.beside (q:=tb) (by omega) (.bool y0) (.slice y1 y2 y3)
      have hnum4:=hnum3.beside ht3.box (by omega) (.bool y0) (.slice y1 y2 y3)
      have hden4:=hden3.beside ht3.box (by omega) (.bool y0) (.slice y1 y2 y3)
      have e0:=hnum3.c0
      have e1:=hnum3.c1
      have f0:=hden3.c0
      have f1:=hden3.c1
      go_wp2_with fail
      go_fit (zjh (N:=150) (M:=u+1) _ hnum4.nr ht4.nr (by omega))
      rintro e V5 ⟨⟨v5,rfl,hN5⟩,hb5⟩
      obtain ⟨j0,j1,j2,j3,rfl⟩:=hN5.shape
      have hst5:=hst4.keep hb5
      have hnum5:=hnum4.keep hb5
      have hden5:=hden4.keep hb5
      clear hb5 c0 c1 cf e0 e1 f0 f1 ht3 hst3 hnum3 hden3 hst4 hnum4 hden4 ht4 lt3
      have e0:=hnum5.c0
      have e1:=hnum5.c1
      obtain ⟨_,_,ef⟩:=hnum5.box.cells
      have lt5:=hnum5.lt
      have HSW:Hid (said s=.inr (signed mi (z*10 ^ u),10 ^ pl)):=by
       show _=_
       rw [show said s=_ from uh HSV,up_plus _ _ (by omega),signed_mul];simp
      go_wp2
      go_meet
      exact ⟨_,_,_,_,_,_,_,_,_,_,(hnum5.stored (hN5.mono (by omega))),⟨(hden5.beside hnum5.box (by omega) _ _).c0,(hden5.beside hnum5.box (by omega) _ _).c1,(hden5.beside hnum5.box (by omega) _ _).box,(hden5.beside hnum5.box (by omega) _ _).nr.mono (by omega)⟩,hst5.beside (by omega) _ _,Int.mul_nonneg hz0 (Int.le_of_lt (zki u)),zki pl,HSW⟩
     ·obtain ⟨u,rfl⟩:∃ u:Nat,up = -(u:Int):=⟨(-up).toNat,by omega⟩
      have hui:¬ (0:Int) < -(u:Int):=by omega
      have c0:=ht2.c0
      have c1:=ht2.c1
      go_wp2_with fail
      go_fit (rten_any u _ (by omega))
      rintro e V3 ⟨⟨v3,rfl,hN3⟩,hb3⟩
      obtain ⟨y0,y1,y2,y3,rfl⟩:=hN3.shape
      have ht3:=ht2.keep hb3
      have hst3:=hst2.keep hb3
      have hnum3:=hnum2.keep hb3
      have hden3:=hden2.keep hb3
      clear hb3 c0 c1 ht2 hst2 hnum2 hden2
      have c0:=ht3.c0
      have c1:=ht3.c1
      obtain ⟨_,_,cf⟩:=ht3.box.cells
      have lt3:=ht3.lt
      have ht4:=ht3.stored hN3
      have hst4:=hst3.beside (q:=tb) (by omega) (.bool y0) (.slice y1 y2 y3)
      have hnum4:=hnum3.beside ht3.box (by omega) (.bool y0) (.slice y1 y2 y3)
      have hden4:=hden3.beside ht3.box (by omega) (.bool y0) (.slice y1 y2 y3)
      have e0:=hnum3.c0
      have e1:=hnum3.c1
      have f0:=hden3.c0
      have f1:=hden3.c1
      go_wp2_with fail
      go_fit (zjh (N:=pl+1) (M:=u+1) _ hden4.nr ht4.nr (by omega))
      rintro e V5 ⟨⟨v5,rfl,hN5⟩,hb5⟩
      obtain ⟨j0,j1,j2,j3,rfl⟩:=hN5.shape
      have hst5:=hst4.keep hb5
      have hnum5:=hnum4.keep hb5
      have hden5:=hden4.keep hb5
      clear hb5 c0 c1 cf e0 e1 f0 f1 ht3 hst3 hnum3 hden3 hst4 hnum4 hden4 ht4 lt3
      have e0:=hden5.c0
      have e1:=hden5.c1
      obtain ⟨_,_,ef⟩:=hden5.box.cells
      have lt5:=hden5.lt
      have HSW:Hid (said s=.inr (signed mi z,10 ^ pl*10 ^ u)):=by
       show _=_
       rw [show said s=_ from uh HSV,up_minus _ _ (by omega)];simp
      go_wp2
      go_meet
      exact ⟨_,_,_,_,_,_,_,_,_,_,⟨(hnum5.beside hden5.box (by omega) _ _).c0,(hnum5.beside hden5.box (by omega) _ _).c1,(hnum5.beside hden5.box (by omega) _ _).box,(hnum5.beside hden5.box (by omega) _ _).nr.mono (by omega)⟩,(hden5.stored (hN5.mono (by omega))),hst5.beside (by omega) _ _,hz0,Int.mul_pos (zki pl) (zki u),HSW⟩
   case rest =>
   clear hst2 hnum2 hden2 ht2 HSV
   obtain ⟨p0,p1,p2,p3,z2,q0,q1,q2,q3,o2,hnum,hden,hst,z20,o20,HSW⟩:=hcut
   obtain ⟨W7,rfl⟩:∃ X,X=wc:=⟨_,rfl⟩
   go_upto_region 45 with fail
   have e1:=hnum.c1
   have f0:=hden.c0
   have f1:=hden.c1
   obtain ⟨DD,hsD,hPD,hlD,hvD,-,-,-⟩:=hnum.nr.places z20
   have HVD:=qh hvD
   clear hvD
   go_region_held3 (fun w'=>Below w.heap.size w w'/\w'.cell? ⟨nb,1,none⟩=some (.slice p1 p2 p3)/\w'.cell? ⟨db,0,none⟩=some (.bool q0)/\w'.cell? ⟨db,1,none⟩=some (.slice q1 q2 q3))
    (first | with_reducible exact uh S2 | with_reducible exact uh S1 | with_reducible exact sq_q4 (uh S2) l2 l3 | with_reducible exact sq_f2 (uh S2) l2 l3 | with_reducible exact sq_f2 (sq_q4 (uh S2) l2 l3) l2 l3 | with_reducible exact sq_q4 (sq_f2 (uh S2) l2 l3) l2 l3 | exact ⟨hst.below.drew,e1,f0,f1⟩)
    (first | (go_at_call 84;go_fit (zks mi _ DD 362 _ (show Sl W7.drew _ _ from hsD) hPD hlD);rintro e q1 ⟨⟨v1,rfl,hM1⟩,hb1⟩;obtain ⟨i1,i2,i3,i4,rfl⟩:=hM1.shape;have S1:=qh (sq_keep hb1 ⟨hst.below.drew,e1,f0,f1⟩)) | (go_at_call 83;go_fit (over_any (N:=362) _ (hM1.mono (by omega)) (((show Nr _ W7.drew _ _ from hden.nr).later hb1).mono (by omega)) (Int.ne_of_gt o20) (by omega));rintro e q2 ⟨⟨v2,P,D,rfl,hQ2,hE⟩,hb2⟩;have HE:=qh hE;clear hE;obtain ⟨i5,i6,i7,i8,i9,i10,i11,i12,rfl,hP3,hD3,D0,hG3⟩:=hQ2;have HG3:=qh hG3;clear hG3;have S2:=qh (sq_keep hb2 (uh S1));have hst8:=(hst.drew.keep hb1).keep hb2;obtain ⟨⟨x0,g0⟩,⟨a0,n0,c0,g1⟩,⟨x1,g2⟩,⟨a1,n1,c1,g3⟩,gf⟩:=hst8.qb.cells;obtain ⟨⟨y0,k0⟩,⟨y1,k1⟩,kf⟩:=hst8.fb.cells;have hlt:=hst8.lt;have l0:w.heap.size<q2.heap.size:=by omega))
   have hst8:=(hst.drew.keep hb1).keep hb2
   go_wp2
   obtain ⟨t0,t1,t2,t3,t4,t5,hB⟩:=hst8.out (.bool i5) (.slice i6 i7 i8) (.bool i9) (.slice i10 i11 i12) (.int .i64 0) (.int .i64 (-1))
   exact bodyPost_ret (v:=.tuple #[.agg #[.bool i5,.slice i6 i7 i8,.bool i9,.slice i10 i11 i12],.agg #[.int .i64 0,.int .i64 (-1)]]) (by simp [results,Tryz.results36,go_sem,t0,t1,t2,t3,t4,t5]) rfl ⟨Or.inr ⟨_,_,_,P,D,uh HSW,o20,rfl,⟨_,_,_,_,_,_,_,_,rfl,hst8.nr hP3 _ _ _ _ _ _,hst8.nr hD3 _ _ _ _ _ _,D0,uh HG3⟩,by have h9:=uh HE;rw [show v4 DD=_ from uh HVD] at h9;exact h9⟩,hB⟩
 ·exfalso
  have h9:=(uh HH).2.2
  rw [show atOf s=a from uh HA,show runEnd s a=m from uh HR,show bAt s m 47=_ from uh HSL] at h9
  exact absurd h9 (by decide)
end Go.Proofs.YtkdobjmhammhbaaGreatDoor
