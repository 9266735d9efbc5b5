import Derived.Test.YtkdobjmhammhbaaGreatDoorMJQ
import Derived.Test.YtkdobjmhammhbaaGreatDoorMI2
namespace Go.Proofs.YtkdobjmhammhbaaGreatDoor
open Go.RowKit
def Pst (w:World) (p:World→Prop):Prop:=∀ W,Below w.heap.size w W→p W
theorem Pst.up {w w':World}{p:World→Prop} (h:Pst w p) (hb:Below w.heap.size w w'):Pst w' p:=fun W h1=>h W (bk h1 hb)
theorem Pst.now {w:World}{p:World→Prop} (h:Pst w p):p w:=h w (Below.refl _ _)
theorem Pst.and {w:World}{p q:World→Prop} (h:Pst w p) (h':Pst w q):Pst w fun W=>p W∧q W:=fun W hb=>⟨h W hb,h' W hb⟩
theorem arcsP_D {l:List (Int×Int×ByteArray×ByteArray)}{e:Ending}{W:World} (h:ArcsP l e W):∃ vm ok,e=.returned (.tuple #[vm,.bool ok])∧(ok=true→arcsOf l=some (arcsD l))∧Pst W fun W=>ok=true→Rows 10 (ArE (QE 362)) W vm (arcsD l):=by
 rcases h with ⟨_,rfl⟩ | ⟨L,v,hL,rfl,hr⟩
 · exact ⟨_,false,rfl,(fun h=>by cases h),fun _ _ h=>by cases h⟩
 · have e:arcsD l=L:=by unfold arcsD;rw [hL];rfl
   exact ⟨v,true,rfl,(fun _=>by rw [e];exact hL),fun W' hb _=>by rw [e];exact hr.later (ArE.stays (QE.stays 362 NoWord (e:=0) (by decide))) hb⟩
theorem numsP_D {l:List ByteArray}{e:Ending}{W:World} (h:NumsP l e W):∃ vm ok,e=.returned (.tuple #[vm,.bool ok])∧(ok=true→nums l=some (numsD l))∧Pst W fun W=>ok=true→Rows 4 (QE 362) W vm (numsD l):=by
 rcases h with ⟨_,rfl⟩ | ⟨L,v,hL,rfl,hr⟩
 · exact ⟨_,false,rfl,(fun h=>by cases h),fun _ _ h=>by cases h⟩
 · have e:numsD l=L:=by unfold numsD;rw [hL];rfl
   exact ⟨v,true,rfl,(fun _=>by rw [e];exact hL),fun W' hb _=>by rw [e];exact hr.later (QE.stays 362 NoWord (e:=0) (by decide)) hb⟩
theorem qrp_D {s:ByteArray}{e:Ending}{W:World} (h:QRP s e W):∃ (x:F8 Bool) (code pl:Int),e=.returned (.tuple #[.agg #[.bool x.a,.slice x.b x.c x.d,.bool x.e,.slice x.f x.g x.h],.agg #[.int .i64 code,.int .i64 pl]])∧0≤code∧(code=0→num s=some (numD s))∧Pst W fun W=>code=0→Qr 362 W (vq x) (numD s).1 (numD s).2:=by
 obtain ⟨j1,j2,j3,j4,j5,j6,j7,j8,code,pl,rfl,hn⟩:=h.num
 rcases uh hn with ⟨h0,h1⟩ | ⟨rfl,y,h1,h2⟩
 · exact ⟨⟨j1,j2,j3,j4,j5,j6,j7,j8⟩,code,pl,rfl,by omega,(fun h=>by omega),fun _ _ h=>by omega⟩
 · have e:numD s=y:=by unfold numD;rw [h1];rfl
   exact ⟨⟨j1,j2,j3,j4,j5,j6,j7,j8⟩,0,pl,rfl,by omega,(fun _=>by rw [e];exact h1),fun W' hb _=>by rw [e];exact h2.later hb⟩
theorem txt2_new (w:World) (t:TypeId) (a b:ByteArray) (ha:a.size≤maxLen) (hb:b.size≤maxLen):Rows 1 TE (w.alloc (.cells #[.string a,.string b] t)) (.slice (some ⟨w.heap.size,0,none⟩) 2 2) [a,b]:=by
 refine ⟨_,2,rfl,Nat.le_refl _,by unfold maxLen;omega,Or.inr ⟨w.heap.size,0,rfl,fun i x hx => ?_⟩⟩
 have hi:i<2:=(List.getElem?_eq_some_iff.1 hx).1
 rcases (by omega:i=0∨i=1) with rfl | rfl
 · obtain rfl:=Option.some.inj hx
   exact ⟨[.string a],rfl,fun j u hu=>by rw [nc rfl];obtain rfl:j=0:=by { have:=(List.getElem?_eq_some_iff.1 hu).1;simp at this;omega };exact hu,rfl,ha⟩
 · obtain rfl:=Option.some.inj hx
   exact ⟨[.string b],rfl,fun j u hu=>by rw [nc rfl];obtain rfl:j=0:=by { have:=(List.getElem?_eq_some_iff.1 hu).1;simp at this;omega };exact hu,rfl,hb⟩
theorem alloc_size (w:World) (o:Obj):(w.alloc o).heap.size=w.heap.size+1:=by simp
theorem pln_new (w:World) (g:Nat) (hg:g=w.heap.size) (nn:Bool) (fa:Option Addr) (fn fc:Nat) (pa:Option Addr) (pn pc:Nat) (sa:Option Addr) (sn sc:Nat) (x:F8 Int):PlnR (w.alloc (.cells #[.bool nn,.slice fa fn fc,.slice pa pn pc,.slice sa sn sc,.int .i64 x.a,.slice x.b x.c x.d,.int .i64 x.e,.slice x.f x.g x.h] 48)) g nn fa fn fc pa pn pc sa sn sc x:=by
 subst hg
 have h:∀ k u,(#[Value.bool nn,.slice fa fn fc,.slice pa pn pc,.slice sa sn sc,.int .i64 x.a,.slice x.b x.c x.d,.int .i64 x.e,.slice x.f x.g x.h])[k]? = some u→(w.alloc (.cells #[.bool nn,.slice fa fn fc,.slice pa pn pc,.slice sa sn sc,.int .i64 x.a,.slice x.b x.c x.d,.int .i64 x.e,.slice x.f x.g x.h] 48)).cell? ⟨w.heap.size,k,none⟩=some u:=fun k u hu=>by rw [nc rfl];exact hu
 exact ⟨h 0 _ rfl,h 1 _ rfl,h 2 _ rfl,h 3 _ rfl,⟨h 4 _ rfl,h 5 _ rfl,h 6 _ rfl,h 7 _ rfl⟩⟩
def VfR (w:World) (g:Nat) (x:F8 Bool) (c p:Int):Prop:=Q4 w g 0 x∧w.cell? ⟨g+1,0,none⟩=some (.int .i64 c)∧w.cell? ⟨g+1,1,none⟩=some (.int .i64 p)
theorem vf_new (w:World) (g:Nat) (hg:g=w.heap.size) (x:F8 Bool) (c p:Int):Pst ((w.alloc (.cells #[.bool x.a,.slice x.b x.c x.d,.bool x.e,.slice x.f x.g x.h] 59)).alloc (.cells #[.int .i64 c,.int .i64 p] 61)) fun W=>VfR W g x c p:=by
 subst hg
 intro W hb
 have h:∀ k u,(#[Value.bool x.a,.slice x.b x.c x.d,.bool x.e,.slice x.f x.g x.h])[k]? = some u→W.cell? ⟨w.heap.size,k,none⟩=some u:=fun k u hu=>ck hb (ck (zqa _ _) (by rw [nc rfl];exact hu))
 have h':∀ k u,(#[Value.int .i64 c,.int .i64 p])[k]? = some u→W.cell? ⟨w.heap.size+1,k,none⟩=some u:=fun k u hu=>ck hb (by rw [← alloc_size w (.cells #[.bool x.a,.slice x.b x.c x.d,.bool x.e,.slice x.f x.g x.h] 59),nc rfl];exact hu)
 exact ⟨⟨h 0 _ rfl,h 1 _ rfl,h 2 _ rfl,h 3 _ rfl⟩,h' 0 _ rfl,h' 1 _ rfl⟩
def WyR (w:World) (g:Nat) (nn:Bool) (fv pv sv:Value) (co:ByteArray):Prop:=w.cell? ⟨g,0,none⟩=some (.bool nn)∧w.cell? ⟨g,1,none⟩=some fv∧w.cell? ⟨g,2,none⟩=some pv∧w.cell? ⟨g,3,none⟩=some sv∧w.cell? ⟨g,4,none⟩=some (.string co)
theorem way_new (w:World) (nn:Bool) (fv pv sv:Value) (co:ByteArray) (t:TypeId):Pst (w.alloc (.cells #[.bool nn,fv,pv,sv,.string co] t)) fun W=>w.heap.size<W.heap.size∧WyR W w.heap.size nn fv pv sv co:=by
 intro W hb
 refine ⟨by have h:=hb.size;rw [alloc_size] at h;omega,?_⟩
 have h:∀ k u,(#[Value.bool nn,fv,pv,sv,.string co])[k]? = some u→W.cell? ⟨w.heap.size,k,none⟩=some u:=fun k u hu=>ck hb (by rw [nc rfl];exact hu)
 exact ⟨h 0 _ rfl,h 1 _ rfl,h 2 _ rfl,h 3 _ rfl,h 4 _ rfl⟩
theorem zkp:(1:Int)=dens (numL [(0,1,(2,1),(1,1)),(0,1,(3,1),(4,1))] [(3,1),(-3,1)] [(2,1),(1,1)] [(0,1),(4,1)] (6,1))∧Dn TT 1∧Dn TT (1*1)∧ShB TT (MM*1) [(0,1,2,1),(0,1,3,4)] [3,-3] [2,1] [0,4]:=by
 obtain ⟨D,hD,h1,h2,h3⟩:=lone_says.over
 have e:D=1:=by rw [hD];decide
 subst e
 exact ⟨hD,h1,h2,h3⟩
theorem coded3_at (A:Nat→Addr) (w:World) (hS:Sents w A) :
   Calls Tryz.prog 18 #[.iface 324 (.pointer (some (A 3))),.int .i64 4] w fun e w'=>e=.returned (.bool true)∧Below w.heap.size w w':=coded3 A w 3 (by decide) hS
theorem coded1_at (A:Nat→Addr) (w:World) (hS:Sents w A) :
   Calls Tryz.prog 18 #[.iface 324 (.pointer (some (A 1))),.int .i64 2] w fun e w'=>e=.returned (.bool true)∧Below w.heap.size w w':=coded3 A w 1 (by decide) hS
set_option maxHeartbeats 16000000 in
set_option maxRecDepth 8000 in
theorem netsChecks_law {A:Nat→Addr}{n:Int}{lv sv:Value}{nn:Bool}{fa pa sa:Option Addr}{fn fc pn pc sn sc:Nat}{co:ByteArray}{l:List (Int×Int×ByteArray×ByteArray)}{sup fl pr:List ByteArray}{side:List Bool} (w:World) (hA:Env A w) (hS:Sents w A) (h:Rows 4 SpE w lv l) (hk:Rows 1 TE w sv sup) (hf:Rows 1 TE w (.slice fa fn fc) fl) (hp:Rows 1 TE w (.slice pa pn pc) pr) (hs:Rows 1 BE w (.slice sa sn sc) side) (hc:co.size≤maxLen) (hl:l.length≤100000000∧sup.length≤100000000∧fl.length≤100000000∧pr.length≤100000000) :
   Calls Tryz.prog 4 #[.int .i64 n,lv,sv,.agg #[.bool nn,.slice fa fn fc,.slice pa pn pc,.slice sa sn sc,.string co]] w fun e w'=>e=.returned (.bool true)∧Below w.heap.size w w':=by
 have sl3:=hs.small
 unfold maxLen at sl3
 obtain rfl:=hs.len
 obtain rfl:=hf.len
 obtain rfl:=hp.len
 obtain ⟨la,lc,rfl⟩:=h.shape
 obtain ⟨ka,kc,rfl⟩:=hk.shape
 have HSZ:Hid (co.size≤9223372036854775807):=qh (by unfold maxLen at hc;omega)
 have HLN:=qh hl
 have hp0:Pst w fun W=>Env A W∧Sents W A∧Rows 4 SpE W (.slice la l.length lc) l∧Rows 1 TE W (.slice ka sup.length kc) sup∧Rows 1 TE W (.slice fa fl.length fc) fl∧Rows 1 TE W (.slice pa pr.length pc) pr∧Rows 1 BE W (.slice sa side.length sc) side∧Below w.heap.size w W:=fun W hb=>⟨hA.later hb,hS.later hb,h.later (SpE.stays NoWord 0) hb,hk.later (TE.stays NoWord 0) hb,hf.later (TE.stays NoWord 0) hb,hp.later (TE.stays NoWord 0) hb,hs.later (BE.stays NoWord 0) hb,hb⟩
 have HP0:=qh hp0
 have HP:=qh ((hp0.up (zqa _ _)).and (way_new w nn (.slice fa fl.length fc) (.slice pa pr.length pc) (.slice sa side.length sc) co 28))
 clear hA hS h hk hf hp hs hc hl hp0
 obtain ⟨ll,hll⟩:∃ n,n=l.length:=⟨_,rfl⟩
 obtain ⟨kl,hkl⟩:∃ n,n=sup.length:=⟨_,rfl⟩
 obtain ⟨ffl,hffl⟩:∃ n,n=fl.length:=⟨_,rfl⟩
 obtain ⟨ppl,hppl⟩:∃ n,n=pr.length:=⟨_,rfl⟩
 rw [← hll,← hkl,← hffl,← hppl] at HP HP0
 rw [← hll,← hkl,← hffl,← hppl]
 clear hll hkl hffl hppl
 go_enter Tryz.func4,Tryz.ntmps4
 go_wp2_with fail
 go_fit (lone_any _)
 rintro e W1 ⟨⟨v1,rfl,h1⟩,B1⟩
 have HP:=qh ((uh HP).up B1)
 have H1:=qh h1
 obtain ⟨va,vc,hva⟩:=h1.shape
 obtain ⟨vl,hvl⟩:∃ n,n=loneL.length:=⟨_,rfl⟩
 rw [← hvl] at hva
 subst hva
 clear B1 h1 hvl
 go_wp2_with fail
 go_fit (parcs_any _ (uh HP).now.1.1 (uh H1) (by decide) lone_says.m)
 rintro e W2 ⟨⟨v2,rfl,h2⟩,B2⟩
 have HP:=qh ((uh HP).up B2)
 have H2:=qh h2
 clear B2 h2 H1
 go_wp2_with fail
 go_fit (pnumbers_any _ ((uh HP).up (zqa _ _)).now.1.1 (txt2_new _ _ _ _ (by unfold maxLen;decide) (by unfold maxLen;decide)) (by decide) lone_says.s)
 rintro e W3 ⟨⟨v3,rfl,h3⟩,B3⟩
 have B3:=bk B3 (zqa _ _)
 have HP:=qh ((uh HP).up B3)
 have H2:=qh ((uh H2).later (ArE.stays (RE.stays 78 0 nww)) B3)
 have H3:=qh h3
 clear B3 h3
 go_wp2_with fail
 go_fit (pnumbers_any _ ((uh HP).up (zqa _ _)).now.1.1 (txt2_new _ _ _ _ (by unfold maxLen;decide) (by unfold maxLen;decide)) (by decide) lone_says.f)
 rintro e W4 ⟨⟨v4,rfl,h4⟩,B4⟩
 have B4:=bk B4 (zqa _ _)
 have HP:=qh ((uh HP).up B4)
 have H2:=qh ((uh H2).later (ArE.stays (RE.stays 78 0 nww)) B4)
 have H3:=qh ((uh H3).later (RE.stays 78 0 nww) B4)
 have H4:=qh h4
 clear B4 h4
 go_wp2_with fail
 go_fit (pnumbers_any _ ((uh HP).up (zqa _ _)).now.1.1 (txt2_new _ _ _ _ (by unfold maxLen;decide) (by unfold maxLen;decide)) (by decide) lone_says.p)
 rintro e W5 ⟨⟨v5,rfl,h5⟩,B5⟩
 have B5:=bk B5 (zqa _ _)
 have HP:=qh ((uh HP).up B5)
 have H2:=qh ((uh H2).later (ArE.stays (RE.stays 78 0 nww)) B5)
 have H3:=qh ((uh H3).later (RE.stays 78 0 nww) B5)
 have H4:=qh ((uh H4).later (RE.stays 78 0 nww) B5)
 have H5:=qh h5
 clear B5 h5
 go_wp2_with fail
 go_fit (zjl _ _ (uh HP).now.1.1 (by decide) lone_says.c)
 rintro e W6 ⟨⟨v6,rfl,h6⟩,B6⟩
 have HP:=qh ((uh HP).up B6)
 have g2:=rows_rarcs zkp.1 ((uh H2).later (ArE.stays (RE.stays 78 0 nww)) B6) (fun x hx=>⟨mem_cap hx,mem_cost hx⟩)
 have g3:=zjf zkp.1 ((uh H3).later (RE.stays 78 0 nww) B6) (fun x hx=>mem_s hx)
 have g4:=zjf zkp.1 ((uh H4).later (RE.stays 78 0 nww) B6) (fun x hx=>mem_f hx)
 have g5:=zjf zkp.1 ((uh H5).later (RE.stays 78 0 nww) B6) (fun x hx=>mem_p hx)
 have g6:=num_r zkp.1 h6 mem_c
 rw [show List.map (sclA 1) [(0,1,(2,1),(1,1)),(0,1,(3,1),(4,1))]=[(0,1,2,1),(0,1,3,4)] by decide] at g2
 rw [show List.map (scl 1) [(3,1),(-3,1)]=[3,-3] by decide] at g3
 rw [show List.map (scl 1) [(2,1),(1,1)]=[2,1] by decide] at g4
 rw [show List.map (scl 1) [(0,1),(4,1)]=[0,4] by decide] at g5
 rw [show scl 1 (6,1)=6 by decide] at g6
 obtain ⟨a2,c2,rfl⟩:=g2.shape
 obtain ⟨a3,c3,rfl⟩:=g3.shape
 obtain ⟨a4,c4,rfl⟩:=g4.shape
 obtain ⟨a5,c5,rfl⟩:=g5.shape
 obtain ⟨x6,rfl⟩:=g6.sh
 obtain ⟨gc,hgc⟩:∃ g,g=W6.heap.size:=⟨_,rfl⟩
 have hge:w.heap.size<gc:=by rw [hgc];exact (uh HP).now.2.1
 have G2:=qh g2
 have G3:=qh g3
 have G4:=qh g4
 have G5:=qh g5
 have G6:=qh g6
 clear B6 g2 g3 g4 g5 g6 h6 H2 H3 H4 H5
 have k6:=zqa W6 (.cells #[.int .i64 x6.a,.slice x6.b x6.c x6.d,.int .i64 x6.e,.slice x6.f x6.g x6.h] 39)
 have r6:=zjb W6 x6.a x6.b x6.c x6.d x6.e x6.f x6.g x6.h
 rw [← hgc] at r6
 have HRB:=qh r6
 have K6:=qh k6
 clear k6 r6
 go_wp2_with fail
 go_fit (ncheck_any (K:=1649) (N:=7590) (T:=TT) (D:=1) (B:=MM*1) (side:=[]) _ ((uh HP).up (bk (zqa _ _) (uh K6))).now.1.2.1 bigTT zkp.2.1 zkp.2.2.1 ((uh HP).up (bk (zqa _ _) (uh K6))).now.1.1.t64 ((uh G2).later (ArE.stays (RsE.stays _ _ 0 nww)) (bk (zqa _ _) (uh K6))) ((uh G3).later (RsE.stays _ _ 0 nww) (bk (zqa _ _) (uh K6))) (pln_new _ _ (alloc_size _ _).symm _ _ _ _ _ _ _ _ _ _ x6) ((uh G4).later (RsE.stays _ _ 0 nww) (bk (zqa _ _) (uh K6))) ((uh G5).later (RsE.stays _ _ 0 nww) (bk (zqa _ _) (uh K6))) (rows_nil _) ((uh G6).later (bk (zqa _ _) (uh K6))) zkp.2.2.2)
 rintro e W7 ⟨⟨b7,rfl,_,h7⟩,B7⟩
 obtain rfl:b7=true:=(h7 lone_suit).2 lone_chk
 have HP:=qh ((uh HP).up (bk B7 (bk (zqa _ _) (uh K6))))
 have HRB:=qh (show Pst W7 (fun W=>RBox W gc∧gc<W.heap.size) from fun W hb=>⟨(((uh HRB).later (zqa _ _)).later B7).later hb,by have h1:=hb.size;have h2:=B7.size;rw [alloc_size,alloc_size] at h2;omega⟩)
 rw [← hgc]
 clear K6 hgc
 rw [lone_suit,show errV A 0=.nilIface from rfl]
 clear B7 h7 G2 G3 G4 G5 G6
 obtain ⟨p0,p1,p2,p3,p4⟩:=(uh HP).now.2.2
 go_wp2_with fail
 go_fit (rarcs_any _ (uh HP).now.1.2.2.1 (by have:=uh HLN;omega))
 clear p0 p1 p2 p3 p4
 rintro e W8 ⟨h8,B8⟩
 obtain ⟨vm,ok,rfl,hm1,hm2⟩:=arcsP_D h8
 have HP:=qh ((uh HP).up B8)
 have HRB:=qh ((uh HRB).up B8)
 have HD:=qh hm2
 have HM:=qh hm1
 clear B8 h8 hm1 hm2
 obtain ⟨p0,p1,p2,p3,p4⟩:=(uh HP).now.2.2
 go_wp2_with fail
 go_fit (rnumbers_any _ (uh HP).now.1.2.2.2.1 (by have:=uh HLN;omega))
 clear p0 p1 p2 p3 p4
 rintro e W9 ⟨h9,B9⟩
 obtain ⟨vk,ok1,rfl,hk1,hk2⟩:=numsP_D h9
 have HP:=qh ((uh HP).up B9)
 have HRB:=qh ((uh HRB).up B9)
 have HD:=qh (((uh HD).up B9).and hk2)
 have HK:=qh hk1
 clear B9 h9 hk1 hk2
 obtain ⟨p0,p1,p2,p3,p4⟩:=(uh HP).now.2.2
 go_wp2_with fail
 go_fit (rnumbers_any _ (uh HP).now.1.2.2.2.2.1 (by have:=uh HLN;omega))
 clear p0 p1 p2 p3 p4
 rintro e W10 ⟨h10,B10⟩
 obtain ⟨vf,ok2,rfl,hf1,hf2⟩:=numsP_D h10
 have HP:=qh ((uh HP).up B10)
 have HRB:=qh ((uh HRB).up B10)
 have HD:=qh (((uh HD).up B10).and hf2)
 have HF:=qh hf1
 clear B10 h10 hf1 hf2
 obtain ⟨p0,p1,p2,p3,p4⟩:=(uh HP).now.2.2
 go_wp2_with fail
 go_fit (rnumbers_any _ (uh HP).now.1.2.2.2.2.2.1 (by have:=uh HLN;omega))
 clear p0 p1 p2 p3 p4
 rintro e W11 ⟨h11,B11⟩
 obtain ⟨vp,ok3,rfl,hp1,hp2⟩:=numsP_D h11
 have HP:=qh ((uh HP).up B11)
 have HRB:=qh ((uh HRB).up B11)
 have HD:=qh (((uh HD).up B11).and hp2)
 have HPR:=qh hp1
 clear B11 h11 hp1 hp2
 obtain ⟨p0,p1,p2,p3,p4⟩:=(uh HP).now.2.2
 go_wp2_with fail
 go_fit (rqread_any co _ (uh HSZ))
 clear p0 p1 p2 p3 p4
 rintro e W12 ⟨h12,B12⟩
 obtain ⟨xq,code,pl,rfl,hc0,hc1,hc2⟩:=qrp_D h12
 have HP:=qh ((uh HP).up B12)
 have HRB:=qh ((uh HRB).up B12)
 have HD:=qh (((uh HD).up B12).and hc2)
 have HC:=qh (And.intro hc0 hc1)
 obtain ⟨gq,hgq⟩:∃ g,g=W12.heap.size:=⟨_,rfl⟩
 have hgs:gc<gq:=by have:=(uh HRB).now.2;omega
 have HV:=qh (vf_new W12 gq hgq xq code pl)
 have kk:=bk (zqa (W12.alloc (.cells #[.bool xq.a,.slice xq.b xq.c xq.d,.bool xq.e,.slice xq.f xq.g xq.h] 59)) (.cells #[.int .i64 code,.int .i64 pl] 61)) (zqa W12 _)
 obtain ⟨V12,hV12⟩:∃ V,V=(W12.alloc (.cells #[.bool xq.a,.slice xq.b xq.c xq.d,.bool xq.e,.slice xq.f xq.g xq.h] 59)).alloc (.cells #[.int .i64 code,.int .i64 pl] 61):=⟨_,rfl⟩
 rw [← hV12] at HV kk
 have HP:=qh ((uh HP).up kk)
 have HD:=qh ((uh HD).up kk)
 have HRB:=qh ((uh HRB).up kk)
 clear B12 h12 hc0 hc1 hc2 kk
 go_upto_region 14 with fail
 rw [← hV12,← hgq]
 clear hV12 hgq
 obtain ⟨p0,p1,p2,p3,p4⟩:=(uh HP).now.2.2
 go_wp2_with fail
 go_fit (shortA_any _ (uh HP).now.1.2.2.1)
 clear p0 p1 p2 p3 p4
 rintro e W13 ⟨⟨b1,rfl,hb1⟩,rfl⟩
 have HS1:=qh hb1
 clear hb1
 obtain ⟨p0,p1,p2,p3,p4⟩:=(uh HP).now.2.2
 go_wp2_with fail
 go_fit (shortT_any _ (uh HP).now.1.2.2.2.1)
 clear p0 p1 p2 p3 p4
 rintro e W14 ⟨⟨b2,rfl,hb2⟩,rfl⟩
 have HS2:=qh hb2
 clear hb2
 obtain ⟨p0,p1,p2,p3,p4⟩:=(uh HP).now.2.2
 go_wp2_with fail
 go_fit (shortT_any _ (uh HP).now.1.2.2.2.2.1)
 clear p0 p1 p2 p3 p4
 rintro e W15 ⟨⟨b3,rfl,hb3⟩,rfl⟩
 have HS3:=qh hb3
 clear hb3
 obtain ⟨p0,p1,p2,p3,p4⟩:=(uh HP).now.2.2
 go_wp2_with fail
 go_fit (shortT_any _ (uh HP).now.1.2.2.2.2.2.1)
 clear p0 p1 p2 p3 p4
 rintro e W16 ⟨⟨b4,rfl,hb4⟩,rfl⟩
 have HS4:=qh hb4
 clear hb4
 rcases ok with _ | _
 · obtain ⟨p0,p1,p2,p3,p4⟩:=(uh HP).now.2.2
   obtain ⟨_,q0,q1⟩:=(uh HV).now
   go_wp2
   go_ret
   exact ⟨rfl,(uh HP).now.1.2.2.2.2.2.2.2⟩
 rcases ok1 with _ | _
 · obtain ⟨p0,p1,p2,p3,p4⟩:=(uh HP).now.2.2
   obtain ⟨_,q0,q1⟩:=(uh HV).now
   go_wp2
   go_ret
   exact ⟨rfl,(uh HP).now.1.2.2.2.2.2.2.2⟩
 rcases ok2 with _ | _
 · obtain ⟨p0,p1,p2,p3,p4⟩:=(uh HP).now.2.2
   obtain ⟨_,q0,q1⟩:=(uh HV).now
   go_wp2
   go_ret
   exact ⟨rfl,(uh HP).now.1.2.2.2.2.2.2.2⟩
 rcases ok3 with _ | _
 · obtain ⟨p0,p1,p2,p3,p4⟩:=(uh HP).now.2.2
   obtain ⟨_,q0,q1⟩:=(uh HV).now
   go_wp2
   go_ret
   exact ⟨rfl,(uh HP).now.1.2.2.2.2.2.2.2⟩
 by_cases hcd:(0:Int)<code
 · obtain ⟨p0,p1,p2,p3,p4⟩:=(uh HP).now.2.2
   obtain ⟨_,q0,q1⟩:=(uh HV).now
   go_wp2
   go_ret
   exact ⟨rfl,(uh HP).now.1.2.2.2.2.2.2.2⟩
 rcases b1 with _ | _
 · obtain ⟨p0,p1,p2,p3,p4⟩:=(uh HP).now.2.2
   obtain ⟨_,q0,q1⟩:=(uh HV).now
   go_wp2
   go_ret
   exact ⟨rfl,(uh HP).now.1.2.2.2.2.2.2.2⟩
 rcases b2 with _ | _
 · obtain ⟨p0,p1,p2,p3,p4⟩:=(uh HP).now.2.2
   obtain ⟨_,q0,q1⟩:=(uh HV).now
   go_wp2
   go_ret
   exact ⟨rfl,(uh HP).now.1.2.2.2.2.2.2.2⟩
 rcases b3 with _ | _
 · obtain ⟨p0,p1,p2,p3,p4⟩:=(uh HP).now.2.2
   obtain ⟨_,q0,q1⟩:=(uh HV).now
   go_wp2
   go_ret
   exact ⟨rfl,(uh HP).now.1.2.2.2.2.2.2.2⟩
 rcases b4 with _ | _
 · obtain ⟨p0,p1,p2,p3,p4⟩:=(uh HP).now.2.2
   obtain ⟨_,q0,q1⟩:=(uh HV).now
   go_wp2
   go_ret
   exact ⟨rfl,(uh HP).now.1.2.2.2.2.2.2.2⟩
 by_cases h24:(24:Int)<(co.size:Int)
 · obtain ⟨p0,p1,p2,p3,p4⟩:=(uh HP).now.2.2
   obtain ⟨_,q0,q1⟩:=(uh HV).now
   go_wp2
   go_ret
   exact ⟨rfl,(uh HP).now.1.2.2.2.2.2.2.2⟩
 by_cases h100:(100:Int)<(side.length:Int)
 · obtain ⟨p0,p1,p2,p3,p4⟩:=(uh HP).now.2.2
   obtain ⟨_,q0,q1⟩:=(uh HV).now
   go_wp2
   go_ret
   exact ⟨rfl,(uh HP).now.1.2.2.2.2.2.2.2⟩
 obtain rfl:code=0:=by have:=(uh HC).1;omega
 have hsy:Says l sup fl pr co (arcsD l) (numsD sup) (numsD fl) (numsD pr) (numD co):=⟨uh HM rfl,uh HK rfl,uh HF rfl,uh HPR rfl,(uh HC).2 rfl,uh HS1 rfl,uh HS2 rfl,uh HS3 rfl,uh HS4 rfl,by omega⟩
 obtain ⟨D,L,S,F,P,c,hN⟩:=hsy.net
 have HSY:=qh hsy
 have HN:=qh hN
 have HG:=qh (show Pst W16 fun W=>Rows 10 (ArE (QsE 7590 D)) W vm L∧Rows 4 (QsE 7590 D) W vk S∧Rows 4 (QsE 7590 D) W vf F∧Rows 4 (QsE 7590 D) W vp P∧Qs 7590 D W (vq xq) c from fun W hb=>by
   obtain ⟨⟨⟨⟨h1,h2⟩,h3⟩,h4⟩,h5⟩:=uh HD W hb
   exact ⟨hN.qa (h1 rfl),hN.qs (h2 rfl),hN.qf (h3 rfl),hN.qp (h4 rfl),hN.qc (h5 rfl)⟩)
 clear HM HK HF HPR HC HS1 HS2 HS3 HS4 hsy hN HD
 obtain ⟨_,q0,q1⟩:=(uh HV).now
 obtain ⟨p0,p1,p2,p3,p4⟩:=(uh HP).now.2.2
 go_wp2_with fail
 go_fit (parcs_hi _ (uh HP).now.1.1 (uh HP).now.1.2.2.1 (by have:=uh HLN;omega) (uh HSY).m)
 clear p0 p1 p2 p3 p4 q0 q1
 rintro e W17 ⟨⟨u2,rfl,h17,i17⟩,B17⟩
 have HI:=qh (show Hi (gc+1) u2 from fun b o n c e=>by have h1:=i17 b o n c e;have h2:=(uh HRB).now.2;omega)
 have HP:=qh ((uh HP).up B17)
 have HRB:=qh ((uh HRB).up B17)
 have HV:=qh ((uh HV).up B17)
 have HG:=qh ((uh HG).up B17)
 have HR:=qh (show Pst W17 fun W=>Rows 10 (ArE (RsE 1649 D)) W u2 L from fun W hb=>(uh HN).ra (h17.later (ArE.stays (RE.stays 78 0 nww)) hb))
 clear B17 h17 i17
 obtain ⟨p0,p1,p2,p3,p4⟩:=(uh HP).now.2.2
 go_wp2_with fail
 go_fit (pnumbers_hi _ (uh HP).now.1.1 (uh HP).now.1.2.2.2.1 (by have:=uh HLN;omega) (uh HSY).s)
 clear p0 p1 p2 p3 p4
 rintro e W18 ⟨⟨u3,rfl,h18,i18⟩,B18⟩
 have HI:=qh (And.intro (uh HI) (show Hi (gc+1) u3 from fun b o n c e=>by have h1:=i18 b o n c e;have h2:=(uh HRB).now.2;omega))
 have HP:=qh ((uh HP).up B18)
 have HRB:=qh ((uh HRB).up B18)
 have HV:=qh ((uh HV).up B18)
 have HG:=qh ((uh HG).up B18)
 have HR:=qh (((uh HR).up B18).and (show Pst W18 fun W=>Rows 4 (RsE 1649 D) W u3 S from fun W hb=>(uh HN).rs (h18.later (RE.stays 78 0 nww) hb)))
 clear B18 h18 i18
 obtain ⟨p0,p1,p2,p3,p4⟩:=(uh HP).now.2.2
 go_wp2_with fail
 go_fit (pnumbers_hi _ (uh HP).now.1.1 (uh HP).now.1.2.2.2.2.1 (by have:=uh HLN;omega) (uh HSY).f)
 clear p0 p1 p2 p3 p4
 rintro e W19 ⟨⟨u4,rfl,h19,i19⟩,B19⟩
 have HI:=qh (And.intro (uh HI) (show Hi (gc+1) u4 from fun b o n c e=>by have h1:=i19 b o n c e;have h2:=(uh HRB).now.2;omega))
 have HP:=qh ((uh HP).up B19)
 have HRB:=qh ((uh HRB).up B19)
 have HV:=qh ((uh HV).up B19)
 have HG:=qh ((uh HG).up B19)
 have HR:=qh (((uh HR).up B19).and (show Pst W19 fun W=>Rows 4 (RsE 1649 D) W u4 F from fun W hb=>(uh HN).rf (h19.later (RE.stays 78 0 nww) hb)))
 clear B19 h19 i19
 obtain ⟨p0,p1,p2,p3,p4⟩:=(uh HP).now.2.2
 go_wp2_with fail
 go_fit (pnumbers_hi _ (uh HP).now.1.1 (uh HP).now.1.2.2.2.2.2.1 (by have:=uh HLN;omega) (uh HSY).p)
 clear p0 p1 p2 p3 p4
 rintro e W20 ⟨⟨u5,rfl,h20,i20⟩,B20⟩
 have HI:=qh (And.intro (uh HI) (show Hi (gc+1) u5 from fun b o n c e=>by have h1:=i20 b o n c e;have h2:=(uh HRB).now.2;omega))
 have HP:=qh ((uh HP).up B20)
 have HRB:=qh ((uh HRB).up B20)
 have HV:=qh ((uh HV).up B20)
 have HG:=qh ((uh HG).up B20)
 have HR:=qh (((uh HR).up B20).and (show Pst W20 fun W=>Rows 4 (RsE 1649 D) W u5 P from fun W hb=>(uh HN).rp (h20.later (RE.stays 78 0 nww) hb)))
 clear B20 h20 i20
 obtain ⟨p0,p1,p2,p3,p4⟩:=(uh HP).now.2.2
 go_wp2_with fail
 go_fit (zjl _ _ (uh HP).now.1.1 (uh HSZ) (uh HSY).c)
 clear p0 p1 p2 p3 p4
 rintro e W21 ⟨⟨u6,rfl,h21⟩,B21⟩
 have HRB:=qh ((uh HRB).up B21)
 have h6:=(uh HN).rc h21
 have HP:=qh ((uh HP).up B21)
 have HV:=qh ((uh HV).up B21)
 have HG:=qh ((uh HG).up B21)
 have HR:=qh ((uh HR).up B21)
 obtain ⟨x6,rfl⟩:=h6.sh
 have H6:=qh h6
 clear B21 h21 h6
 obtain ⟨⟨y0,g0⟩,⟨y1,y2,y3,g1⟩,⟨y4,g2⟩,⟨y5,y6,y7,g3⟩,gf⟩:=(uh HRB).now.1.cells
 obtain ⟨Y,hY⟩:∃ Y,Y=(((W21.setCell ⟨gc,0,none⟩ (.int .i64 x6.a)).setCell ⟨gc,1,none⟩ (.slice x6.b x6.c x6.d)).setCell ⟨gc,2,none⟩ (.int .i64 x6.e)).setCell ⟨gc,3,none⟩ (.slice x6.f x6.g x6.h):=⟨_,rfl⟩
 have hst:=(uh HRB).now.1.stored (.int .i64 x6.a) (.slice x6.b x6.c x6.d) (.int .i64 x6.e) (.slice x6.f x6.g x6.h)
 have hel:=else4 (q:=gc) W21 (.int .i64 x6.a) (.slice x6.b x6.c x6.d) (.int .i64 x6.e) (.slice x6.f x6.g x6.h)
 rw [← hY] at hst hel
 have HST:=qh hst
 have HCW:=qh ((uh HRB).now.1.chgW hel)
 have HCF:=qh ((uh HRB).now.1.chgF hel)
 have HEL:=qh hel
 clear hst hel
 have hbY:Below w.heap.size w Y:=by rw [hY];exact zqd (uh HP).now.1.2.2.2.2.2.2.2 (by omega) _ _ _ _
 have hsY:w.heap.size<Y.heap.size:=by rw [hY];simpa using (uh HP).now.2.1
 have HPY:=qh (show Pst Y fun W=>(Env A W∧Sents W A∧Rows 4 SpE W (.slice la ll lc) l∧Rows 1 TE W (.slice ka kl kc) sup∧Rows 1 TE W (.slice fa ffl fc) fl∧Rows 1 TE W (.slice pa ppl pc) pr∧Rows 1 BE W (.slice sa side.length sc) side∧Below w.heap.size w W)∧WyR W w.heap.size nn (.slice fa ffl fc) (.slice pa ppl pc) (.slice sa side.length sc) co from fun W hb=>⟨uh HP0 W (bk hb hbY),by
   obtain ⟨_,h0,h1,h2,h3,h4⟩:=(uh HP).now.2
   have hne:w.heap.size≠gc:=by omega
   exact ⟨ck hb ((uh HEL).cell hne h0),ck hb ((uh HEL).cell hne h1),ck hb ((uh HEL).cell hne h2),ck hb ((uh HEL).cell hne h3),ck hb ((uh HEL).cell hne h4)⟩⟩)
 have HVY:=qh (show Pst Y fun W=>Q4 W gq 0 xq from fun W hb=>by
   obtain ⟨⟨h0,h1,h2,h3⟩,_⟩:=(uh HV).now
   have hne:gq≠gc:=by omega
   exact ⟨ck hb ((uh HEL).cell hne h0),ck hb ((uh HEL).cell hne h1),ck hb ((uh HEL).cell hne h2),ck hb ((uh HEL).cell hne h3)⟩)
 have HDY:=qh (show Pst Y fun W=>Rows 10 (ArE (QsE 7590 D)) W vm L∧Rows 4 (QsE 7590 D) W vk S∧Rows 4 (QsE 7590 D) W vf F∧Rows 4 (QsE 7590 D) W vp P∧Qs 7590 D W (vq xq) c from fun W hb=>by
   obtain ⟨h1,h2,h3,h4,h5⟩:=(uh HG).now
   have hs:=QsE.stays 7590 D NoWord (e:=0) (by decide)
   exact ⟨(h1.qflagA (uh HCF)).later (ArE.stays hs) hb,(h2.qflag (uh HCF)).later hs hb,(h3.qflag (uh HCF)).later hs hb,(h4.qflag (uh HCF)).later hs hb,(h5.flag (uh HCF)).later hb⟩)
 have HRY:=qh (show Pst Y fun W=>Rows 10 (ArE (RsE 1649 D)) W u2 L∧Rows 4 (RsE 1649 D) W u3 S∧Rows 4 (RsE 1649 D) W u4 F∧Rows 4 (RsE 1649 D) W u5 P∧Rs 1649 D W (vr x6) c from fun W hb=>by
   obtain ⟨⟨⟨h1,h2⟩,h3⟩,h4⟩:=(uh HR).now
   obtain ⟨⟨⟨i1,i2⟩,i3⟩,i4⟩:=uh HI
   have hs:=RsE.stays 1649 D 0 nww
   have hs2:=fun cs x h=>RsE.stays 1649 D 39 nww W21 Y cs x h (uh HCW)
   have hs3:=fun cs x h=>ArE.stays (RsE.stays 1649 D 39 nww) W21 Y cs x h (uh HCW)
   refine ⟨(h1.aside i1 (by omega) (uh HEL) hs3).later (ArE.stays hs) hb,(h2.aside i2 (by omega) (uh HEL) hs2).later hs hb,(h3.aside i3 (by omega) (uh HEL) hs2).later hs hb,(h4.aside i4 (by omega) (uh HEL) hs2).later hs hb,?_⟩
   refine Rs.later ?_ hb
   rw [hY]
   exact (uh H6).stored (uh HRB).now.1 _ _ _ _)
 go_upto_region 27 with fail
 rw [← hY]
 clear hY g0 g1 g2 g3 gf hbY HP HV HG HR H6 HI HCW HCF HRB HP0
 have HP:=HPY
 have HV:=HVY
 have HG:=HDY
 have HR:=HRY
 clear HPY HVY HDY HRY HEL
 obtain ⟨p0,p1,p2,p3,p4⟩:=(uh HP).now.2
 obtain ⟨s0,s1,s2,s3⟩:=uh HST
 obtain ⟨ua,uc,rfl⟩:=(uh HR).now.1.shape
 obtain ⟨a3,c3,rfl⟩:=(uh HR).now.2.1.shape
 obtain ⟨a4,c4,rfl⟩:=(uh HR).now.2.2.1.shape
 obtain ⟨a5,c5,rfl⟩:=(uh HR).now.2.2.2.1.shape
 go_wp2_with fail
 go_fit (ncheck_any (K:=1649) (N:=7590) (T:=TT) (D:=D) (B:=MM*D) _ ((uh HP).up (zqa _ _)).now.1.2.1 bigTT (uh HN).dn (uh HN).dd ((uh HP).up (zqa _ _)).now.1.1.t64 ((uh HR).up (zqa _ _)).now.1 ((uh HR).up (zqa _ _)).now.2.1 (pln_new _ _ rfl _ _ _ _ _ _ _ _ _ _ x6) ((uh HR).up (zqa _ _)).now.2.2.1 ((uh HR).up (zqa _ _)).now.2.2.2.1 ((uh HP).up (zqa _ _)).now.1.2.2.2.2.2.2.1 ((uh HR).up (zqa _ _)).now.2.2.2.2 (uh HN).b)
 clear p0 p1 p2 p3 p4 s0 s1 s2 s3
 rintro e W22 ⟨⟨b,rfl,hb1,hb2⟩,B22⟩
 have HP:=qh ((uh HP).up (bk B22 (zqa _ _)))
 have HG:=qh ((uh HG).up (bk B22 (zqa _ _)))
 have HV:=qh ((uh HV).up (bk B22 (zqa _ _)))
 clear B22 HR HSY
 by_cases h0:suitV n L S=0
 rotate_left
 · obtain rfl:b=false:=hb1 h0
   obtain ⟨ka',kc',rfl⟩:=(uh HG).now.2.1.shape
   clear hb1 hb2
   rcases netV_codes n L with e0 | e0 | e0
   · have hln:(S.length:Int)≠n:=fun h1=>h0 (by unfold suitV;rw [if_pos e0,if_pos h1])
     have e4:suitV n L S=4:=by unfold suitV;rw [if_pos e0,if_neg hln]
     have hln':((S.length:Int) != n)=true:=by simpa using hln
     have HE:=qh e0
     rw [e4,show errV A 4=.iface 324 (.pointer (some (A 3))) from rfl]
     clear e4 h0 e0 hln
     obtain ⟨p0,p1,p2,p3,p4⟩:=(uh HP).now.2
     go_wp2_with fail
     go_fit (rnetv_any _ (uh HN).dn.1 (uh HG).now.1)
     clear p0 p1 p2 p3 p4
     rintro e W23 ⟨rfl,B23⟩
     have HP:=qh ((uh HP).up B23)
     have HV:=qh ((uh HV).up B23)
     rw [uh HE]
     clear B23
     obtain ⟨p0,p1,p2,p3,p4⟩:=(uh HP).now.2
     go_wp2_with fail
     go_fit (coded3_at A _ (uh HP).now.1.2.1)
     clear p0 p1 p2 p3 p4
     rintro e W24 ⟨rfl,B24⟩
     have HP:=qh ((uh HP).up B24)
     clear B24
     obtain ⟨p0,p1,p2,p3,p4⟩:=(uh HP).now.2
     go_wp2
     go_ret
     exact ⟨rfl,(uh HP).now.1.2.2.2.2.2.2.2⟩
   · have e4:suitV n L S=2:=by unfold suitV;rw [e0,if_neg (by decide)]
     have HE:=qh e0
     rw [e4,show errV A 2=.iface 324 (.pointer (some (A 1))) from rfl]
     clear e4 h0 e0
     obtain ⟨p0,p1,p2,p3,p4⟩:=(uh HP).now.2
     go_wp2_with fail
     go_fit (rnetv_any _ (uh HN).dn.1 (uh HG).now.1)
     clear p0 p1 p2 p3 p4
     rintro e W23 ⟨rfl,B23⟩
     have HP:=qh ((uh HP).up B23)
     have HV:=qh ((uh HV).up B23)
     rw [uh HE]
     clear B23
     obtain ⟨p0,p1,p2,p3,p4⟩:=(uh HP).now.2
     go_wp2_with fail
     go_fit (coded1_at A _ (uh HP).now.1.2.1)
     clear p0 p1 p2 p3 p4
     rintro e W24 ⟨rfl,B24⟩
     have HP:=qh ((uh HP).up B24)
     clear B24
     obtain ⟨p0,p1,p2,p3,p4⟩:=(uh HP).now.2
     go_wp2
     go_ret
     exact ⟨rfl,(uh HP).now.1.2.2.2.2.2.2.2⟩
   · have e4:suitV n L S=4:=by unfold suitV;rw [e0,if_neg (by decide)]
     have HE:=qh e0
     rw [e4,show errV A 4=.iface 324 (.pointer (some (A 3))) from rfl]
     clear e4 h0 e0
     obtain ⟨p0,p1,p2,p3,p4⟩:=(uh HP).now.2
     go_wp2_with fail
     go_fit (rnetv_any _ (uh HN).dn.1 (uh HG).now.1)
     clear p0 p1 p2 p3 p4
     rintro e W23 ⟨rfl,B23⟩
     have HP:=qh ((uh HP).up B23)
     have HV:=qh ((uh HV).up B23)
     rw [uh HE]
     clear B23
     obtain ⟨p0,p1,p2,p3,p4⟩:=(uh HP).now.2
     go_wp2_with fail
     go_fit (coded3_at A _ (uh HP).now.1.2.1)
     clear p0 p1 p2 p3 p4
     rintro e W24 ⟨rfl,B24⟩
     have HP:=qh ((uh HP).up B24)
     clear B24
     obtain ⟨p0,p1,p2,p3,p4⟩:=(uh HP).now.2
     go_wp2
     go_ret
     exact ⟨rfl,(uh HP).now.1.2.2.2.2.2.2.2⟩
 · obtain ⟨hbd,hbad,hSn⟩:=suit_of h0
   obtain ⟨m,rfl⟩:∃ m:Nat,n=(m:Int):=⟨n.toNat,by omega⟩
   have hb3:=hb2 h0
   have hnv:netV (m:Int) L=0:=by
     have h1:=h0
     unfold suitV at h1
     by_cases h2:netV (m:Int) L=0
     · exact h2
     · rw [if_neg h2] at h1;exact absurd h1 h2
   have HE:=qh hnv
   have HFN:=qh (And.intro hbad (show S.length=m∧m≤60∧1≤m∧L.length≤300 by omega))
   rw [h0,show errV A 0=.nilIface from rfl]
   rw [Int.toNat_natCast] at hb3
   have HBB:=qh hb3
   have hln':((S.length:Int) != (m:Int))=false:=by simp;omega
   obtain ⟨ka',kc',rfl⟩:=(uh HG).now.2.1.shape
   obtain ⟨fa',fc',rfl⟩:=(uh HG).now.2.2.1.shape
   obtain ⟨pa',pc',rfl⟩:=(uh HG).now.2.2.2.1.shape
   clear hb1 hb2 hb3 h0 hbd hbad hSn hnv
   obtain ⟨p0,p1,p2,p3,p4⟩:=(uh HP).now.2
   go_wp2_with fail
   go_fit (rnetv_any _ (uh HN).dn.1 (uh HG).now.1)
   clear p0 p1 p2 p3 p4
   rintro e W23 ⟨rfl,B23⟩
   have HP:=qh ((uh HP).up B23)
   have HG:=qh ((uh HG).up B23)
   have HV:=qh ((uh HV).up B23)
   obtain ⟨q0,q1,q2,q3⟩:=(uh HV).now
   rw [uh HE]
   clear B23
   rcases nn with _ | _
   · obtain ⟨p0,p1,p2,p3,p4⟩:=(uh HP).now.2
     go_wp2_with fail
     go_fit (rship_some (K:=1649) _ bigTT (uh HN).dn (uh HN).dd (uh HG).now.1 (uh HG).now.2.1 (uh HG).now.2.2.1 (uh HG).now.2.2.2.1 (uh HG).now.2.2.2.2 (uh HFN).1 (uh HFN).2.2.2.2 (uh HFN).2.2.1 (uh HN).b)
     clear p0 p1 p2 p3 p4
     rintro e W24 ⟨⟨b',rfl,hb'⟩,B24⟩
     have HP:=qh ((uh HP).up B24)
     have hbb:b=b':=by
       have h1:=uh HBB
       unfold chk at h1
       rw [if_neg (by simp)] at h1
       have h2:=h1.trans hb'.symm
       cases b <;> cases b' <;> simp_all
     subst hbb
     clear B24 hb'
     rcases b with _ | _
     all_goals
       obtain ⟨p0,p1,p2,p3,p4⟩:=(uh HP).now.2
       go_wp2
       go_ret
       exact ⟨rfl,(uh HP).now.1.2.2.2.2.2.2.2⟩
   · obtain ⟨p0,p1,p2,p3,p4⟩:=(uh HP).now.2
     go_wp2_with fail
     go_fit (rship_none (K:=1649) (B:=MM*D) _ bigTT (uh HN).dn (uh HG).now.1 (uh HG).now.2.1 (uh HFN).2.1 (uh HP).now.1.2.2.2.2.2.2.1 (uh HFN).1 (uh HFN).2.2.2.2 (uh HFN).2.2.1 (fun x hx=>((uh HN).b.l x hx).1) (uh HN).b.s (uh HN).b.b (uh HN).b.t)
     clear p0 p1 p2 p3 p4
     rintro e W24 ⟨⟨b',rfl,hb'⟩,B24⟩
     have HP:=qh ((uh HP).up B24)
     have hbb:b=b':=by
       have h1:=uh HBB
       unfold chk at h1
       rw [if_pos rfl] at h1
       have h2:=h1.trans hb'.symm
       cases b <;> cases b' <;> simp_all
     subst hbb
     clear B24 hb'
     rcases b with _ | _
     all_goals
       obtain ⟨p0,p1,p2,p3,p4⟩:=(uh HP).now.2
       go_wp2
       go_ret
       exact ⟨rfl,(uh HP).now.1.2.2.2.2.2.2.2⟩
end Go.Proofs.YtkdobjmhammhbaaGreatDoor
