import Derived.Test.YtkdobjmhammhbaaGreatDoorMCH
import Derived.Test.YtkdobjmhammhbaaGreatDoorMPK
namespace Go.Proofs.YtkdobjmhammhbaaGreatDoor
open Go.RowKit
def numK (T W:List (Int×Int)) (c:Int×Int):List (Int×Int):=T++(W++[c])
structure SaysC (ts ws:List ByteArray) (co:ByteArray) (T W:List (Int×Int)) (c:Int×Int):Prop where
 t:nums ts=some T
 w:nums ws=some W
 c:num co=some c
 s:shortT ts∧shortT ws∧co.size≤24
theorem mm_12:2000000000000≤MM:=by decide +kernel
theorem tt_cut {D:Int}{k:Nat} (hk:k≤81) (D0:0<D) (hD:D≤MM ^ k):Dn TT D∧D≤MM*D∧1000000000000*(MM*D)<TT:=by
 have h0:=mm_12
 have hM:(1:Int)≤MM:=by omega
 obtain ⟨t1,_⟩:=tt_of (show k≤161 by omega) D0 hD
 have h1:D≤MM ^ 81:=Int.le_trans hD (ipow_up hM hk)
 have hB:MM*D≤MM ^ 82:=by
   rw [show (82:Nat)=81+1 from rfl,Int.pow_succ,Int.mul_comm]
   exact Int.mul_le_mul_of_nonneg_right h1 (by omega)
 have h2:MM*MM ^ 82≤TT:=by
   rw [Int.mul_comm,← Int.pow_succ]
   exact ipow_up hM (by decide)
 have h3:1*D≤MM*D:=Int.mul_le_mul_of_nonneg_right hM (by omega)
 have p:0<MM ^ 82:=Int.pow_pos (by omega)
 have h4:2000000000000*MM ^ 82≤MM*MM ^ 82:=Int.mul_le_mul_of_nonneg_right h0 (by omega)
 generalize MM ^ 82=a at *
 generalize TT=t at *
 generalize MM*a=c at *
 generalize MM*D=b at *
 exact ⟨t1,by omega,by omega⟩
section
variable {ts ws:List ByteArray}{co:ByteArray}{T W:List (Int×Int)}{c:Int×Int}
theorem SaysC.mod (h:SaysC ts ws co T W c):(numK T W c).length≤81∧∀ x ∈ numK T W c,Mod MM x:=by
 obtain ⟨t1,t2⟩:=nums_mod h.t h.s.1
 obtain ⟨w1,w2⟩:=nums_mod h.w h.s.2.1
 refine ⟨by simp only [numK,List.length_append,List.length_cons,List.length_nil];omega,fun x hx => ?_⟩
 simp only [numK,List.mem_append,List.mem_singleton] at hx
 rcases hx with hx | hx | rfl
 · exact t2 x hx
 · exact w2 x hx
 · exact num_in (by have:=h.s.2.2;omega) h.c
theorem memK_t {x:Int×Int} (h:x ∈ T):x ∈ numK T W c:=by simp only [numK,List.mem_append];exact Or.inl h
theorem memK_w {x:Int×Int} (h:x ∈ W):x ∈ numK T W c:=by simp only [numK,List.mem_append];exact Or.inr (Or.inl h)
theorem memK_c:c ∈ numK T W c:=by simp [numK]
theorem SaysC.over (h:SaysC ts ws co T W c):∃ D,D=dens (numK T W c)∧Dn TT D∧CtB D (MM*D) TT (T.map (scl D)) (W.map (scl D)) (scl D c):=by
 obtain ⟨h1,h2⟩:=h.mod
 have hM:=mm_ge
 obtain ⟨d0,d1⟩:=dens_in h2 (by omega)
 obtain ⟨t1,t2,t3⟩:=tt_cut h1 d0 d1
 have key:∀ x ∈ numK T W c,-(MM*dens (numK T W c))≤scl (dens (numK T W c)) x∧scl (dens (numK T W c)) x≤MM*dens (numK T W c):=fun x hx=>scl_in (h2 x hx) d0 (dens_dvd hx)
 refine ⟨_,rfl,t1,fun x hx => ?_,fun x hx => ?_,key _ memK_c,⟨d0,t2⟩,t3⟩
 · obtain ⟨y,hy,rfl⟩:=List.mem_map.1 hx
   exact key _ (memK_t hy)
 · obtain ⟨y,hy,rfl⟩:=List.mem_map.1 hx
   exact key _ (memK_w hy)
end
structure CutD (ts ws:List ByteArray) (co:ByteArray) (D:Int) (T W:List Int) (c:Int):Prop where
 dn:Dn TT D
 b:CtB D (MM*D) TT T W c
 lt:T.length≤40
 qt:∀ {w:World}{v:Value},Rows 4 (QE 362) w v (numsD ts)→Rows 4 (QsE 7590 D) w v T
 rt:∀ {w:World}{v:Value},Rows 4 (RE 78) w v (numsD ts)→Rows 4 (RsE 1649 D) w v T
 qw:∀ {w:World}{v:Value},Rows 4 (QE 362) w v (numsD ws)→Rows 4 (QsE 7590 D) w v W
 rw:∀ {w:World}{v:Value},Rows 4 (RE 78) w v (numsD ws)→Rows 4 (RsE 1649 D) w v W
 qc:∀ {w:World}{v:Value},Qr 362 w v (numD co).1 (numD co).2→Qs 7590 D w v c
 rc:∀ {w:World}{v:Value},Rr 78 w v (numD co).1 (numD co).2→Rs 1649 D w v c
theorem SaysC.cut {ts ws:List ByteArray}{co:ByteArray} (h:SaysC ts ws co (numsD ts) (numsD ws) (numD co)):∃ D T W c,CutD ts ws co D T W c:=by
 obtain ⟨D,hd,h1,h2⟩:=h.over
 exact ⟨D,_,_,_,h1,h2,by rw [List.length_map];exact (nums_mod h.t h.s.1).1,fun h=>rows_qnums hd h fun x hx=>memK_t hx,fun h=>rows_rnums hd h fun x hx=>memK_t hx,fun h=>rows_qnums hd h fun x hx=>memK_w hx,fun h=>rows_rnums hd h fun x hx=>memK_w hx,fun h=>num_q hd h memK_c,fun h=>num_r hd h memK_c⟩
theorem num12:num ⟨#[49,47,50]⟩=some (1,2):=by decide +kernel
theorem lone_sayc:SaysC [⟨#[49]⟩] [⟨#[49,47,50]⟩] ⟨#[49]⟩ [(1,1)] [(1,2)] (1,1) :=
 ⟨by simp [nums,allOf,num1],by simp [nums,allOf,num12],num1,by unfold shortT;decide⟩
theorem lone_cut:cutP 2 10 [(5,2)] [[2]] [2] [1] 2:=by
 refine ⟨⟨⟨rfl,rfl⟩,fun p hp => ?_,by decide,by decide⟩,⟨fun i x hx => ?_,by decide⟩,by decide,by decide +kernel⟩
 · obtain rfl:p=[2]:=by simpa using hp
   exact ⟨rfl,by decide,by decide⟩
 · have hi:i<1:=(List.getElem?_eq_some_iff.1 hx).1
   obtain rfl:i=0:=by omega
   obtain rfl:=Option.some.inj hx
   decide
theorem lone_stock:stockV 10 [(5,2)]=0:=by decide
theorem lone_overc:(2:Int)=dens (numK [(1,1)] [(1,2)] (1,1))∧Dn TT 2∧CtB 2 (MM*2) TT [2] [1] 2:=by
 obtain ⟨D,hD,h1,h2⟩:=lone_sayc.over
 have e:D=2:=by rw [hD];decide
 subst e
 exact ⟨hD,h1,h2⟩
def Pst (w:World) (p:World→Prop):Prop:=∀ W,Below w.heap.size w W→p W
theorem Pst.up {w w':World}{p:World→Prop} (h:Pst w p) (hb:Below w.heap.size w w'):Pst w' p:=fun W h1=>h W (bk h1 hb)
theorem Pst.now {w:World}{p:World→Prop} (h:Pst w p):p w:=h w (Below.refl _ _)
theorem Pst.and {w:World}{p q:World→Prop} (h:Pst w p) (h':Pst w q):Pst w fun W=>p W∧q W:=fun W hb=>⟨h W hb,h' W hb⟩
theorem numsP_D {l:List ByteArray}{e:Ending}{W:World} (h:NumsP l e W):∃ vm ok,e=.returned (.tuple #[vm,.bool ok])∧(ok=true→nums l=some (numsD l))∧Pst W fun W=>ok=true→Rows 4 (QE 362) W vm (numsD l):=by
 rcases h with ⟨_,rfl⟩ | ⟨L,v,hL,rfl,hr⟩
 · exact ⟨_,false,rfl,(fun h=>by cases h),fun _ _ h=>by cases h⟩
 · have e:numsD l=L:=by unfold numsD;rw [hL];rfl
   exact ⟨v,true,rfl,(fun _=>by rw [e];exact hL),fun W' hb _=>by rw [e];exact hr.later (QE.stays 362 NoWord (e:=0) (by decide)) hb⟩
theorem qrp_D {s:ByteArray}{e:Ending}{W:World} (h:QRP s e W):∃ (x:F8 Bool) (code pl:Int),e=.returned (.tuple #[.agg #[.bool x.a,.slice x.b x.c x.d,.bool x.e,.slice x.f x.g x.h],.agg #[.int .i64 code,.int .i64 pl]])∧0≤code∧(code=0→num s=some (numD s))∧Pst W fun W=>code=0→Qr 362 W (vq x) (numD s).1 (numD s).2:=by
 obtain ⟨j1,j2,j3,j4,j5,j6,j7,j8,code,pl,rfl,hn⟩:=h.num
 rcases uh hn with ⟨h0,h1⟩ | ⟨rfl,y,h1,h2⟩
 · exact ⟨⟨j1,j2,j3,j4,j5,j6,j7,j8⟩,code,pl,rfl,by omega,(fun h=>by omega),fun _ _ h=>by omega⟩
 · have e:numD s=y:=by unfold numD;rw [h1];rfl
   exact ⟨⟨j1,j2,j3,j4,j5,j6,j7,j8⟩,0,pl,rfl,by omega,(fun _=>by rw [e];exact h1),fun W' hb _=>by rw [e];exact h2.later hb⟩
theorem zki (w:World) (o:Obj):(w.alloc o).heap.size=w.heap.size+1:=by simp
def VfR (w:World) (g:Nat) (x:F8 Bool) (c p:Int):Prop:=Q4 w g 0 x∧w.cell? ⟨g+1,0,none⟩=some (.int .i64 c)∧w.cell? ⟨g+1,1,none⟩=some (.int .i64 p)
theorem vf_new (w:World) (g:Nat) (hg:g=w.heap.size) (x:F8 Bool) (c p:Int):Pst ((w.alloc (.cells #[.bool x.a,.slice x.b x.c x.d,.bool x.e,.slice x.f x.g x.h] 59)).alloc (.cells #[.int .i64 c,.int .i64 p] 61)) fun W=>VfR W g x c p:=by
 subst hg
 intro W hb
 have h:∀ k u,(#[Value.bool x.a,.slice x.b x.c x.d,.bool x.e,.slice x.f x.g x.h])[k]? = some u→W.cell? ⟨w.heap.size,k,none⟩=some u:=fun k u hu=>ck hb (ck (zqa _ _) (by rw [zqe rfl];exact hu))
 have h':∀ k u,(#[Value.int .i64 c,.int .i64 p])[k]? = some u→W.cell? ⟨w.heap.size+1,k,none⟩=some u:=fun k u hu=>ck hb (by rw [← zki w (.cells #[.bool x.a,.slice x.b x.c x.d,.bool x.e,.slice x.f x.g x.h] 59),zqe rfl];exact hu)
 exact ⟨⟨h 0 _ rfl,h 1 _ rfl,h 2 _ rfl,h 3 _ rfl⟩,h' 0 _ rfl,h' 1 _ rfl⟩
theorem coded3_at (A:Nat→Addr) (w:World) (hS:Sents w A) :
   Calls Tryz.prog 18 #[.iface 324 (.pointer (some (A 3))),.int .i64 4] w fun e w'=>e=.returned (.bool true)∧Below w.heap.size w w':=coded3 A w 3 (by decide) hS
theorem coded1_at (A:Nat→Addr) (w:World) (hS:Sents w A) :
   Calls Tryz.prog 18 #[.iface 324 (.pointer (some (A 1))),.int .i64 2] w fun e w'=>e=.returned (.bool true)∧Below w.heap.size w w':=coded3 A w 1 (by decide) hS
theorem txt1_new (w:World) (t:TypeId) (a:ByteArray) (ha:a.size≤maxLen):Rows 1 TE (w.alloc (.cells #[.string a] t)) (.slice (some ⟨w.heap.size,0,none⟩) 1 1) [a]:=by
 refine ⟨_,1,rfl,Nat.le_refl _,by unfold maxLen;omega,Or.inr ⟨w.heap.size,0,rfl,fun i x hx => ?_⟩⟩
 have hi:i<1:=(List.getElem?_eq_some_iff.1 hx).1
 obtain rfl:i=0:=by omega
 obtain rfl:=Option.some.inj hx
 exact ⟨[.string a],rfl,fun j u hu=>by rw [zqe rfl];obtain rfl:j=0:=by { have:=(List.getElem?_eq_some_iff.1 hu).1;simp at this;omega };exact hu,rfl,ha⟩
theorem ct_new (w:World) (g:Nat) (hg:g=w.heap.size) (pa:Option Addr) (pn pc:Nat) (ta:Option Addr) (tn tc:Nat) (wa:Option Addr) (wn wc:Nat) (x:F8 Int):CutR (w.alloc (.cells #[.slice pa pn pc,.slice ta tn tc,.slice wa wn wc,.int .i64 x.a,.slice x.b x.c x.d,.int .i64 x.e,.slice x.f x.g x.h] 79)) g pa pn pc ta tn tc wa wn wc x:=by
 subst hg
 have h:∀ k u,(#[Value.slice pa pn pc,.slice ta tn tc,.slice wa wn wc,.int .i64 x.a,.slice x.b x.c x.d,.int .i64 x.e,.slice x.f x.g x.h])[k]? = some u→(w.alloc (.cells #[.slice pa pn pc,.slice ta tn tc,.slice wa wn wc,.int .i64 x.a,.slice x.b x.c x.d,.int .i64 x.e,.slice x.f x.g x.h] 79)).cell? ⟨w.heap.size,k,none⟩=some u:=fun k u hu=>by rw [zqe rfl];exact hu
 exact ⟨h 0 _ rfl,h 1 _ rfl,h 2 _ rfl,⟨h 3 _ rfl,h 4 _ rfl,h 5 _ rfl,h 6 _ rfl⟩⟩
theorem live_new (w:World) (g:Nat) (hg:g=w.heap.size) (t1 t2 t3:TypeId):Pst (((w.alloc (.cells #[.int .i64 5,.int .i64 2] t1)).alloc (.cells #[.int .i64 2] t2)).alloc (.cells #[.slice (some ⟨g+1,0,none⟩) 1 1] t3)) fun W=>Rows 2 SzE W (.slice (some ⟨g,0,none⟩) 1 1) [(5,2)]∧Rows 1 (LE 1 JE) W (.slice (some ⟨g+2,0,none⟩) 1 1) [[2]]:=by
 intro W hb
 subst hg
 have e1:=zki w (.cells #[.int .i64 5,.int .i64 2] t1)
 have e2:=zki (w.alloc (.cells #[.int .i64 5,.int .i64 2] t1)) (.cells #[.int .i64 2] t2)
 rw [e1] at e2
 have k2:=bk hb (zqa ((w.alloc (.cells #[.int .i64 5,.int .i64 2] t1)).alloc (.cells #[.int .i64 2] t2)) _)
 have k1:=bk k2 (zqa (w.alloc (.cells #[.int .i64 5,.int .i64 2] t1)) _)
 have h:∀ k u,(#[Value.int .i64 5,.int .i64 2])[k]? = some u→W.cell? ⟨w.heap.size,k,none⟩=some u:=fun k u hu=>ck k1 (by rw [zqe rfl];exact hu)
 have h':W.cell? ⟨w.heap.size+1,0,none⟩=some (.int .i64 2):=ck k2 (by rw [← e1,zqe rfl];rfl)
 have h'':W.cell? ⟨w.heap.size+2,0,none⟩=some (.slice (some ⟨w.heap.size+1,0,none⟩) 1 1):=ck hb (by rw [show w.heap.size+2=((w.alloc (.cells #[.int .i64 5,.int .i64 2] t1)).alloc (.cells #[.int .i64 2] t2)).heap.size from e2.symm,zqe rfl];rfl)
 refine ⟨⟨_,1,rfl,Nat.le_refl _,by unfold maxLen;omega,Or.inr ⟨w.heap.size,0,rfl,fun i x hx => ?_⟩⟩,⟨_,1,rfl,Nat.le_refl _,by unfold maxLen;omega,Or.inr ⟨w.heap.size+2,0,rfl,fun i x hx => ?_⟩⟩⟩
 · have hi:i<1:=(List.getElem?_eq_some_iff.1 hx).1
   obtain rfl:i=0:=by omega
   obtain rfl:=Option.some.inj hx
   refine ⟨[.int .i64 5,.int .i64 2],rfl,fun j u hu => ?_,rfl,(show I64 5 by unfold I64;omega),(show I64 2 by unfold I64;omega)⟩
   simpa using h j u (by simpa using hu)
 · have hi:i<1:=(List.getElem?_eq_some_iff.1 hx).1
   obtain rfl:i=0:=by omega
   obtain rfl:=Option.some.inj hx
   refine ⟨[.slice (some ⟨w.heap.size+1,0,none⟩) 1 1],rfl,fun j u hu => ?_,_,rfl,⟨_,1,rfl,Nat.le_refl _,by unfold maxLen;omega,Or.inr ⟨w.heap.size+1,0,rfl,fun i x hx => ?_⟩⟩⟩
   · have hj:j<1:=(List.getElem?_eq_some_iff.1 hu).1
     obtain rfl:j=0:=by omega
     obtain rfl:=Option.some.inj hu
     exact h''
   · have hi:i<1:=(List.getElem?_eq_some_iff.1 hx).1
     obtain rfl:i=0:=by omega
     obtain rfl:=Option.some.inj hx
     refine ⟨[.int .i64 2],rfl,fun j u hu => ?_,rfl,by omega,by omega⟩
     have hj:j<1:=(List.getElem?_eq_some_iff.1 hu).1
     obtain rfl:j=0:=by omega
     obtain rfl:=Option.some.inj hu
     exact h'
set_option maxHeartbeats 16000000 in
set_option maxRecDepth 8000 in
theorem planChecks_law {A:Nat→Addr}{r:Int}{lv pv tv wv:Value}{L:List (Int×Int)}{Pt:List (List Int)}{ts ws:List ByteArray}{co:ByteArray} (w:World) (hA:Env A w) (hS:Sents w A) (h:Rows 2 SzE w lv L) (hp:Rows 1 (LE 1 JE) w pv Pt) (ht:Rows 1 TE w tv ts) (hw:Rows 1 TE w wv ws) (hc:co.size≤maxLen) (hl:ts.length≤100000000∧ws.length≤100000000) :
   Calls Tryz.prog 5 #[.int .i64 r,lv,pv,tv,wv,.string co] w fun e w'=>e=.returned (.bool true)∧Below w.heap.size w w':=by
 obtain ⟨la,lc,rfl⟩:=h.shape
 obtain ⟨pa,pc,rfl⟩:=hp.shape
 obtain ⟨ta,tc,rfl⟩:=ht.shape
 obtain ⟨wa,wc,rfl⟩:=hw.shape
 have HSZ:Hid (co.size≤9223372036854775807):=qh (by unfold maxLen at hc;omega)
 have HLN:=qh hl
 have hp0:Pst w fun W=>Env A W∧Sents W A∧Rows 2 SzE W (.slice la L.length lc) L∧Rows 1 (LE 1 JE) W (.slice pa Pt.length pc) Pt∧Rows 1 TE W (.slice ta ts.length tc) ts∧Rows 1 TE W (.slice wa ws.length wc) ws∧Below w.heap.size w W:=fun W hb=>⟨hA.later hb,hS.later hb,h.later (SzE.stays NoWord 0) hb,hp.later (LE.stays (JE.stays IsSl 0) JE.other) hb,ht.later (TE.stays NoWord 0) hb,hw.later (TE.stays NoWord 0) hb,hb⟩
 have HP0:=qh hp0
 have HP:=qh hp0
 clear hA hS h hp ht hw hc hl hp0
 obtain ⟨ll,hll⟩:∃ n,n=L.length:=⟨_,rfl⟩
 obtain ⟨pl,hpl⟩:∃ n,n=Pt.length:=⟨_,rfl⟩
 obtain ⟨tl,htl⟩:∃ n,n=ts.length:=⟨_,rfl⟩
 obtain ⟨wl,hwl⟩:∃ n,n=ws.length:=⟨_,rfl⟩
 rw [← hll,← hpl,← htl,← hwl] at HP HP0
 rw [← hll,← hpl,← htl,← hwl]
 clear hll hpl htl hwl
 go_enter Tryz.func5,Tryz.ntmps5
 go_wp2_with fail
 go_fit (pnumbers_any _ ((uh HP).up (zqa _ _)).now.1 (txt1_new _ _ _ (by unfold maxLen;decide)) (by decide) lone_sayc.t)
 rintro e W1 ⟨⟨v1,rfl,h1⟩,B1⟩
 have B1:=bk B1 (zqa _ _)
 have HP:=qh ((uh HP).up B1)
 have H1:=qh h1
 clear B1 h1
 go_wp2_with fail
 go_fit (pnumbers_any _ ((uh HP).up (zqa _ _)).now.1 (txt1_new _ _ _ (by unfold maxLen;decide)) (by decide) lone_sayc.w)
 rintro e W2 ⟨⟨v2,rfl,h2⟩,B2⟩
 have B2:=bk B2 (zqa _ _)
 have HP:=qh ((uh HP).up B2)
 have H1:=qh ((uh H1).later (RE.stays 78 0 nww) B2)
 have H2:=qh h2
 clear B2 h2
 go_wp2_with fail
 go_fit (pnumber_any _ _ (uh HP).now.1 (by decide) lone_sayc.c)
 rintro e W3 ⟨⟨v3,rfl,h3⟩,B3⟩
 have HP:=qh ((uh HP).up B3)
 have g1:=rows_rnums lone_overc.1 ((uh H1).later (RE.stays 78 0 nww) B3) (fun x hx=>memK_t hx)
 have g2:=rows_rnums lone_overc.1 ((uh H2).later (RE.stays 78 0 nww) B3) (fun x hx=>memK_w hx)
 have g3:=num_r lone_overc.1 h3 memK_c
 rw [show List.map (scl 2) [(1,1)]=[2] by decide] at g1
 rw [show List.map (scl 2) [(1,2)]=[1] by decide] at g2
 rw [show scl 2 (1,1)=2 by decide] at g3
 obtain ⟨a1,c1,rfl⟩:=g1.shape
 obtain ⟨a2,c2,rfl⟩:=g2.shape
 obtain ⟨x3,rfl⟩:=g3.sh
 obtain ⟨gc,hgc⟩:∃ g,g=W3.heap.size:=⟨_,rfl⟩
 have hge:w.heap.size≤gc:=by rw [hgc];exact (uh HP).now.2.2.2.2.2.2.size
 have G1:=qh g1
 have G2:=qh g2
 have G3:=qh g3
 clear B3 g1 g2 g3 h3 H1 H2
 have k3:=zqa W3 (.cells #[.int .i64 x3.a,.slice x3.b x3.c x3.d,.int .i64 x3.e,.slice x3.f x3.g x3.h] 39)
 have r3:=zjc W3 x3.a x3.b x3.c x3.d x3.e x3.f x3.g x3.h
 rw [← hgc] at r3
 have HRB:=qh r3
 have K3:=qh k3
 clear k3 r3
 go_wp2_with fail
 rw [← hgc]
 obtain ⟨V,hV⟩:∃ V,V=((((W3.alloc (.cells #[.int .i64 x3.a,.slice x3.b x3.c x3.d,.int .i64 x3.e,.slice x3.f x3.g x3.h] 39)).alloc (.cells #[.int .i64 5,.int .i64 2] 76)).alloc (.cells #[.int .i64 2] 3)).alloc (.cells #[.slice (some ⟨gc+1+1,0,none⟩) 1 1] 55)).alloc (.cells #[.slice (some ⟨gc+1+1+1,0,none⟩) 1 1,.slice a1 1 c1,.slice a2 1 c2,.int .i64 x3.a,.slice x3.b x3.c x3.d,.int .i64 x3.e,.slice x3.f x3.g x3.h] 79):=⟨_,rfl⟩
 have hv1:=zki W3 (.cells #[.int .i64 x3.a,.slice x3.b x3.c x3.d,.int .i64 x3.e,.slice x3.f x3.g x3.h] 39)
 rw [← hgc] at hv1
 have hlv:=(live_new _ (gc+1) hv1.symm 76 3 55).up (zqa _ (.cells #[.slice (some ⟨gc+1+1+1,0,none⟩) 1 1,.slice a1 1 c1,.slice a2 1 c2,.int .i64 x3.a,.slice x3.b x3.c x3.d,.int .i64 x3.e,.slice x3.f x3.g x3.h] 79))
 have hcv:=ct_new ((((W3.alloc (.cells #[.int .i64 x3.a,.slice x3.b x3.c x3.d,.int .i64 x3.e,.slice x3.f x3.g x3.h] 39)).alloc (.cells #[.int .i64 5,.int .i64 2] 76)).alloc (.cells #[.int .i64 2] 3)).alloc (.cells #[.slice (some ⟨gc+1+1,0,none⟩) 1 1] 55)) (gc+1+1+1+1) (by rw [zki,zki,zki,zki,hgc]) (some ⟨gc+1+1+1,0,none⟩) 1 1 a1 1 c1 a2 1 c2 x3
 have kv:=bk (zqa _ (.cells #[.slice (some ⟨gc+1+1+1,0,none⟩) 1 1,.slice a1 1 c1,.slice a2 1 c2,.int .i64 x3.a,.slice x3.b x3.c x3.d,.int .i64 x3.e,.slice x3.f x3.g x3.h] 79)) (bk (zqa _ (.cells #[.slice (some ⟨gc+1+1,0,none⟩) 1 1] 55)) (bk (zqa _ (.cells #[.int .i64 2] 3)) (bk (zqa _ (.cells #[.int .i64 5,.int .i64 2] 76)) (Below.refl _ (W3.alloc (.cells #[.int .i64 x3.a,.slice x3.b x3.c x3.d,.int .i64 x3.e,.slice x3.f x3.g x3.h] 39))))))
 rw [← hV] at hlv hcv kv ⊢
 have KV:=qh (bk kv (uh K3))
 have HRB:=qh (show Pst V (fun W=>RBox W gc∧gc<W.heap.size) from fun W hb=>⟨((uh HRB).later kv).later hb,by have h1:=hb.size;have h2:=kv.size;omega⟩)
 have HP:=qh ((uh HP).up (uh KV))
 have HLV:=qh hlv
 have HCV:=qh hcv
 clear hV hlv hcv kv hv1 K3
 go_fit (pcheck_any (K:=1649) (N:=7590) (T':=TT) (D:=2) (B:=MM*2) _ (uh HP).now.2.1 bigTT lone_overc.2.1 (uh HP).now.1.t64 (uh HLV).now.1 (uh HCV) (uh HLV).now.2 ((uh G1).later (RsE.stays _ _ 0 nww) (uh KV)) ((uh G2).later (RsE.stays _ _ 0 nww) (uh KV)) ((uh G3).later (uh KV)) (by decide) lone_overc.2.2)
 rintro e W4 ⟨⟨b4,rfl,_,h4⟩,B4⟩
 obtain rfl:b4=true:=(h4 lone_stock).2 lone_cut
 have HP:=qh ((uh HP).up B4)
 have HRB:=qh ((uh HRB).up B4)
 rw [lone_stock,show errV A 0=.nilIface from rfl]
 clear B4 h4 G1 G2 G3 HLV HCV KV hgc
 go_wp2_with fail
 go_fit (rnumbers_any _ (uh HP).now.2.2.2.2.1 (by have:=uh HLN;omega))
 rintro e W5 ⟨h5,B5⟩
 obtain ⟨vt,ok,rfl,ht1,ht2⟩:=numsP_D h5
 have HP:=qh ((uh HP).up B5)
 have HRB:=qh ((uh HRB).up B5)
 have HD:=qh ht2
 have HM:=qh ht1
 clear B5 h5 ht1 ht2
 go_wp2_with fail
 go_fit (rnumbers_any _ (uh HP).now.2.2.2.2.2.1 (by have:=uh HLN;omega))
 rintro e W6 ⟨h6,B6⟩
 obtain ⟨vw,ok1,rfl,hw1,hw2⟩:=numsP_D h6
 have HP:=qh ((uh HP).up B6)
 have HRB:=qh ((uh HRB).up B6)
 have HD:=qh (((uh HD).up B6).and hw2)
 have HK:=qh hw1
 clear B6 h6 hw1 hw2
 go_wp2_with fail
 go_fit (rqread_any co _ (uh HSZ))
 rintro e W7 ⟨h7,B7⟩
 obtain ⟨xq,code,pc',rfl,hc0,hc1,hc2⟩:=qrp_D h7
 have HP:=qh ((uh HP).up B7)
 have HRB:=qh ((uh HRB).up B7)
 have HD:=qh (((uh HD).up B7).and hc2)
 have HC:=qh (And.intro hc0 hc1)
 obtain ⟨gq,hgq⟩:∃ g,g=W7.heap.size:=⟨_,rfl⟩
 have hgs:gc<gq:=by have:=(uh HRB).now.2;omega
 have HV:=qh (vf_new W7 gq hgq xq code pc')
 have kk:=bk (zqa (W7.alloc (.cells #[.bool xq.a,.slice xq.b xq.c xq.d,.bool xq.e,.slice xq.f xq.g xq.h] 59)) (.cells #[.int .i64 code,.int .i64 pc'] 61)) (zqa W7 _)
 obtain ⟨V7,hV7⟩:∃ V,V=(W7.alloc (.cells #[.bool xq.a,.slice xq.b xq.c xq.d,.bool xq.e,.slice xq.f xq.g xq.h] 59)).alloc (.cells #[.int .i64 code,.int .i64 pc'] 61):=⟨_,rfl⟩
 rw [← hV7] at HV kk
 have HP:=qh ((uh HP).up kk)
 have HD:=qh ((uh HD).up kk)
 have HRB:=qh ((uh HRB).up kk)
 clear B7 h7 hc0 hc1 hc2 kk
 go_upto_region 10 with fail
 rw [← hV7,← hgq]
 clear hV7 hgq
 go_wp2_with fail
 go_fit (shortT_any _ (uh HP).now.2.2.2.2.1)
 rintro e W8 ⟨⟨b1,rfl,hb1⟩,rfl⟩
 have HS1:=qh hb1
 clear hb1
 go_wp2_with fail
 go_fit (shortT_any _ (uh HP).now.2.2.2.2.2.1)
 rintro e W9 ⟨⟨b2,rfl,hb2⟩,rfl⟩
 have HS2:=qh hb2
 clear hb2
 obtain ⟨_,q0,q1⟩:=(uh HV).now
 rcases ok with _ | _
 · go_wp2
   go_ret
   exact ⟨rfl,(uh HP).now.2.2.2.2.2.2⟩
 rcases ok1 with _ | _
 · go_wp2
   go_ret
   exact ⟨rfl,(uh HP).now.2.2.2.2.2.2⟩
 by_cases hcd:(0:Int)<code
 · go_wp2
   go_ret
   exact ⟨rfl,(uh HP).now.2.2.2.2.2.2⟩
 rcases b1 with _ | _
 · go_wp2
   go_ret
   exact ⟨rfl,(uh HP).now.2.2.2.2.2.2⟩
 rcases b2 with _ | _
 · go_wp2
   go_ret
   exact ⟨rfl,(uh HP).now.2.2.2.2.2.2⟩
 by_cases h24:(24:Int)<(co.size:Int)
 · go_wp2
   go_ret
   exact ⟨rfl,(uh HP).now.2.2.2.2.2.2⟩
 by_cases h14:(14:Int)<(ll:Int)
 · go_wp2
   go_ret
   exact ⟨rfl,(uh HP).now.2.2.2.2.2.2⟩
 by_cases h40:(40:Int)<(pl:Int)
 · go_wp2
   go_ret
   exact ⟨rfl,(uh HP).now.2.2.2.2.2.2⟩
 obtain rfl:code=0:=by have:=(uh HC).1;omega
 have hsy:SaysC ts ws co (numsD ts) (numsD ws) (numD co):=⟨uh HM rfl,uh HK rfl,(uh HC).2 rfl,uh HS1 rfl,uh HS2 rfl,by omega⟩
 obtain ⟨D,T,W',c,hN⟩:=hsy.cut
 have HSY:=qh hsy
 have HN:=qh hN
 have HG:=qh (show Pst W9 fun W=>Rows 4 (QsE 7590 D) W vt T∧Rows 4 (QsE 7590 D) W vw W'∧Qs 7590 D W (vq xq) c from fun W hb=>by
   obtain ⟨⟨h1,h2⟩,h3⟩:=uh HD W hb
   exact ⟨hN.qt (h1 rfl),hN.qw (h2 rfl),hN.qc (h3 rfl)⟩)
 clear HM HK HC HS1 HS2 hsy hN HD
 go_wp2_with fail
 go_fit (pnumbers_hi _ (uh HP).now.1 (uh HP).now.2.2.2.2.1 (by have:=uh HLN;omega) (uh HSY).t)
 clear q0 q1
 rintro e W10 ⟨⟨u2,rfl,h10,i10⟩,B10⟩
 have HI:=qh (show Hi (gc+1) u2 from fun b o n c e=>by have h1:=i10 b o n c e;have h2:=(uh HRB).now.2;omega)
 have HP:=qh ((uh HP).up B10)
 have HRB:=qh ((uh HRB).up B10)
 have HV:=qh ((uh HV).up B10)
 have HG:=qh ((uh HG).up B10)
 have HR:=qh (show Pst W10 fun W=>Rows 4 (RsE 1649 D) W u2 T from fun W hb=>(uh HN).rt (h10.later (RE.stays 78 0 nww) hb))
 clear B10 h10 i10
 go_wp2_with fail
 go_fit (pnumbers_hi _ (uh HP).now.1 (uh HP).now.2.2.2.2.2.1 (by have:=uh HLN;omega) (uh HSY).w)
 rintro e W11 ⟨⟨u3,rfl,h11,i11⟩,B11⟩
 have HI:=qh (And.intro (uh HI) (show Hi (gc+1) u3 from fun b o n c e=>by have h1:=i11 b o n c e;have h2:=(uh HRB).now.2;omega))
 have HP:=qh ((uh HP).up B11)
 have HRB:=qh ((uh HRB).up B11)
 have HV:=qh ((uh HV).up B11)
 have HG:=qh ((uh HG).up B11)
 have HR:=qh (((uh HR).up B11).and (show Pst W11 fun W=>Rows 4 (RsE 1649 D) W u3 W' from fun W hb=>(uh HN).rw (h11.later (RE.stays 78 0 nww) hb)))
 clear B11 h11 i11
 go_wp2_with fail
 go_fit (pnumber_any _ _ (uh HP).now.1 (uh HSZ) (uh HSY).c)
 rintro e W12 ⟨⟨u4,rfl,h12⟩,B12⟩
 have HRB:=qh ((uh HRB).up B12)
 have h6:=(uh HN).rc h12
 have HP:=qh ((uh HP).up B12)
 have HV:=qh ((uh HV).up B12)
 have HG:=qh ((uh HG).up B12)
 have HR:=qh ((uh HR).up B12)
 obtain ⟨x6,rfl⟩:=h6.sh
 have H6:=qh h6
 clear B12 h12 h6
 obtain ⟨⟨y0,g0⟩,⟨y1,y2,y3,g1⟩,⟨y4,g2⟩,⟨y5,y6,y7,g3⟩,gf⟩:=(uh HRB).now.1.cells
 obtain ⟨Y,hY⟩:∃ Y,Y=(((W12.setCell ⟨gc,0,none⟩ (.int .i64 x6.a)).setCell ⟨gc,1,none⟩ (.slice x6.b x6.c x6.d)).setCell ⟨gc,2,none⟩ (.int .i64 x6.e)).setCell ⟨gc,3,none⟩ (.slice x6.f x6.g x6.h):=⟨_,rfl⟩
 have hst:=(uh HRB).now.1.stored (.int .i64 x6.a) (.slice x6.b x6.c x6.d) (.int .i64 x6.e) (.slice x6.f x6.g x6.h)
 have hel:=else4 (q:=gc) W12 (.int .i64 x6.a) (.slice x6.b x6.c x6.d) (.int .i64 x6.e) (.slice x6.f x6.g x6.h)
 rw [← hY] at hst hel
 have HST:=qh hst
 have HCW:=qh ((uh HRB).now.1.chgW hel)
 have HCF:=qh ((uh HRB).now.1.chgF hel)
 have HEL:=qh hel
 clear hst hel
 have hbY:Below w.heap.size w Y:=by rw [hY];exact zqf (uh HP).now.2.2.2.2.2.2 (by omega) _ _ _ _
 have HPY:=qh ((uh HP0).up hbY)
 have HVY:=qh (show Pst Y fun W=>Q4 W gq 0 xq from fun W hb=>by
   obtain ⟨⟨h0,h1,h2,h3⟩,_⟩:=(uh HV).now
   have hne:gq≠gc:=by omega
   exact ⟨ck hb ((uh HEL).cell hne h0),ck hb ((uh HEL).cell hne h1),ck hb ((uh HEL).cell hne h2),ck hb ((uh HEL).cell hne h3)⟩)
 have HDY:=qh (show Pst Y fun W=>Rows 4 (QsE 7590 D) W vt T∧Rows 4 (QsE 7590 D) W vw W'∧Qs 7590 D W (vq xq) c from fun W hb=>by
   obtain ⟨h1,h2,h3⟩:=(uh HG).now
   have hs:=QsE.stays 7590 D NoWord (e:=0) (by decide)
   exact ⟨(h1.qflag (uh HCF)).later hs hb,(h2.qflag (uh HCF)).later hs hb,(h3.flag (uh HCF)).later hb⟩)
 have HRY:=qh (show Pst Y fun W=>Rows 4 (RsE 1649 D) W u2 T∧Rows 4 (RsE 1649 D) W u3 W'∧Rs 1649 D W (vr x6) c from fun W hb=>by
   obtain ⟨h1,h2⟩:=(uh HR).now
   obtain ⟨i1,i2⟩:=uh HI
   have hs:=RsE.stays 1649 D 0 nww
   have hs2:=fun cs x h=>RsE.stays 1649 D 39 nww W12 Y cs x h (uh HCW)
   refine ⟨(h1.aside i1 (by omega) (uh HEL) hs2).later hs hb,(h2.aside i2 (by omega) (uh HEL) hs2).later hs hb,?_⟩
   refine Rs.later ?_ hb
   rw [hY]
   exact (uh H6).stored (uh HRB).now.1 _ _ _ _)
 go_upto_region 17 with fail
 rw [← hY]
 clear hY g0 g1 g2 g3 gf hbY HP HV HG HR H6 HI HCW HCF HRB HP0
 have HP:=HPY
 have HV:=HVY
 have HG:=HDY
 have HR:=HRY
 clear HPY HVY HDY HRY HEL
 obtain ⟨s0,s1,s2,s3⟩:=uh HST
 obtain ⟨ua,uc,rfl⟩:=(uh HR).now.1.shape
 obtain ⟨wa',wc',rfl⟩:=(uh HR).now.2.1.shape
 go_wp2_with fail
 go_fit (pcheck_any (K:=1649) (N:=7590) (T':=TT) (D:=D) (B:=MM*D) _ ((uh HP).up (zqa _ _)).now.2.1 bigTT (uh HN).dn ((uh HP).up (zqa _ _)).now.1.t64 ((uh HP).up (zqa _ _)).now.2.2.1 (ct_new _ _ rfl _ _ _ _ _ _ _ _ _ x6) ((uh HP).up (zqa _ _)).now.2.2.2.1 ((uh HR).up (zqa _ _)).now.1 ((uh HR).up (zqa _ _)).now.2.1 ((uh HR).up (zqa _ _)).now.2.2 (uh HN).lt (uh HN).b)
 clear s0 s1 s2 s3
 rintro e W13 ⟨⟨b,rfl,hb1,hb2⟩,B13⟩
 have HP:=qh ((uh HP).up (bk B13 (zqa _ _)))
 have HG:=qh ((uh HG).up (bk B13 (zqa _ _)))
 have HV:=qh ((uh HV).up (bk B13 (zqa _ _)))
 have HB1:=qh hb1
 have HB2:=qh hb2
 clear B13 HR HSY hb1 hb2
 rcases stock_codes r L with ⟨e0,hr1,hr2,hl,hL⟩ | e2 | e4
 rotate_left
 · obtain rfl:b=false:=uh HB1 (by omega)
   have HE:=qh e2
   rw [e2,show errV A 2=.iface 324 (.pointer (some (A 1))) from rfl]
   clear e2 HB1 HB2
   go_wp2_with fail
   go_fit (rstock_any _ (uh HP).now.2.2.1)
   rintro e W14 ⟨rfl,rfl⟩
   rw [uh HE]
   go_wp2_with fail
   go_fit (coded1_at A _ (uh HP).now.2.1)
   rintro e W15 ⟨rfl,B15⟩
   have HP:=qh ((uh HP).up B15)
   clear B15
   go_wp2
   go_ret
   exact ⟨rfl,(uh HP).now.2.2.2.2.2.2⟩
 · obtain rfl:b=false:=uh HB1 (by omega)
   have HE:=qh e4
   rw [e4,show errV A 4=.iface 324 (.pointer (some (A 3))) from rfl]
   clear e4 HB1 HB2
   go_wp2_with fail
   go_fit (rstock_any _ (uh HP).now.2.2.1)
   rintro e W14 ⟨rfl,rfl⟩
   rw [uh HE]
   go_wp2_with fail
   go_fit (coded3_at A _ (uh HP).now.2.1)
   rintro e W15 ⟨rfl,B15⟩
   have HP:=qh ((uh HP).up B15)
   clear B15
   go_wp2
   go_ret
   exact ⟨rfl,(uh HP).now.2.2.2.2.2.2⟩
 obtain ⟨m,rfl⟩:∃ m:Nat,r=(m:Int):=⟨r.toNat,by omega⟩
 have hbb:=uh HB2 e0
 have HBB:=qh hbb
 have HE:=qh e0
 have HRR:=qh (And.intro (And.intro hr1 hr2) hl)
 have HL:=qh hL
 rw [e0,show errV A 0=.nilIface from rfl]
 clear e0 hr1 hr2 hl hL HB1 HB2 hbb
 go_wp2_with fail
 go_fit (rstock_any _ (uh HP).now.2.2.1)
 rintro e W14 ⟨rfl,rfl⟩
 rw [uh HE]
 obtain ⟨q0,q1,q2,q3⟩:=(uh HV).now
 obtain ⟨ta',tc',rfl⟩:=(uh HG).now.1.shape
 obtain ⟨wa'',wc'',rfl⟩:=(uh HG).now.2.1.shape
 go_wp2_with fail
 go_fit (rcut_any (K:=1649) (N:=7590) (T':=TT) (D:=D) (B:=MM*D) _ bigTT (uh HN).dn (uh HP).now.2.2.1 (uh HP).now.2.2.2.1 (uh HG).now.1 (uh HG).now.2.1 (uh HG).now.2.2 (by have:=(uh HRR).1;omega) (uh HRR).2 (uh HL) (uh HN).lt (uh HN).b)
 clear q0 q1 q2 q3
 rintro e W15 ⟨⟨b',rfl,hb'⟩,B15⟩
 have HP:=qh ((uh HP).up B15)
 have hbb:b=b':=by
   have h2:=(uh HBB).trans hb'.symm
   cases b <;> cases b' <;> simp_all
 subst hbb
 clear B15 hb'
 rcases b with _ | _
 all_goals
   go_wp2
   go_ret
   exact ⟨rfl,(uh HP).now.2.2.2.2.2.2⟩
end Go.Proofs.YtkdobjmhammhbaaGreatDoor
