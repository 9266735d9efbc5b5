import Derived.Test.YtkdobjmhammhbaaGreatDoorMRE
namespace Go.Proofs.YtkdobjmhammhbaaGreatDoor
set_option maxHeartbeats 4000000
set_option maxRecDepth 8000
open Go.RowKit
structure N4 (w:World) (x:Bool) (s:Value) (y:Bool) (t:Value) (wr:World):Prop where
 below:Below w.heap.size w wr
 box:NBox wr (w.heap.size+2)
 box3:NBox wr (w.heap.size+3)
 c0:wr.cell? ⟨w.heap.size,0,none⟩=some (.bool x)
 c1:wr.cell? ⟨w.heap.size,1,none⟩=some s
 d0:wr.cell? ⟨w.heap.size+1,0,none⟩=some (.bool y)
 d1:wr.cell? ⟨w.heap.size+1,1,none⟩=some t
theorem N4.keep {w wr w1:World}{x y:Bool}{s t:Value} (h:N4 w x s y t wr) (hb:Below wr.heap.size wr w1):N4 w x s y t w1 :=
 ⟨bk hb h.below,h.box.later hb,h.box3.later hb,ck hb h.c0,ck hb h.c1,ck hb h.d0,ck hb h.d1⟩
theorem N4.start (w:World) (x y:Bool) (s t:Value):N4 w x s y t ((((w.alloc (.cells #[.bool x,s] 57)).alloc (.cells #[.bool y,t] 57)).alloc (.cells #[.bool false,.slice none 0 0] 57)).alloc (.cells #[.bool false,.slice none 0 0] 57)):=by
 have h:=N2.start w x y s t
 have k:=zqa (((w.alloc (.cells #[.bool x,s] 57)).alloc (.cells #[.bool y,t] 57)).alloc (.cells #[.bool false,.slice none 0 0] 57)) (.cells #[.bool false,.slice none 0 0] 57)
 have hn:=zji (((w.alloc (.cells #[.bool x,s] 57)).alloc (.cells #[.bool y,t] 57)).alloc (.cells #[.bool false,.slice none 0 0] 57)) false none 0 0
 refine ⟨bk k h.below,h.box.later k,?_,ck k h.c0,ck k h.c1,ck k h.d0,ck k h.d1⟩
 simpa using hn
theorem N4.lt {w wr:World}{x y:Bool}{s t:Value} (h:N4 w x s y t wr):w.heap.size+3<wr.heap.size:=by
 obtain ⟨x,a,n,c,h⟩:=h.box3
 exact (Array.getElem?_eq_some_iff.1 h).1
structure NB (w:World) (b:Nat) (x:Bool) (a:Option Addr) (n c N:Nat) (z:Int):Prop where
 c0:w.cell? ⟨b,0,none⟩=some (.bool x)
 c1:w.cell? ⟨b,1,none⟩=some (.slice a n c)
 box:NBox w b
 nr:Nr N w (.agg #[.bool x,.slice a n c]) z
theorem NB.keep {w w1:World}{b:Nat}{x:Bool}{a:Option Addr}{n c N:Nat}{z:Int} (h:NB w b x a n c N z) (hb:Below w.heap.size w w1):NB w1 b x a n c N z:=⟨ck hb h.c0,ck hb h.c1,h.box.later hb,h.nr.later hb⟩
theorem NB.drew {w:World}{b:Nat}{x:Bool}{a:Option Addr}{n c N:Nat}{z:Int} (h:NB w b x a n c N z):NB w.drew b x a n c N z:=⟨h.c0,h.c1,h.box,h.nr⟩
theorem NB.new {w:World}{x:Bool}{a:Option Addr}{n c N:Nat}{z:Int} (h:Nr N w (.agg #[.bool x,.slice a n c]) z):NB (w.alloc (.cells #[.bool x,.slice a n c] 57)) w.heap.size x a n c N z :=
 ⟨by rw [zqe rfl];rfl,by rw [zqe rfl];rfl,zji _ _ _ _ _,h.later (zqa w _)⟩
theorem NB.stored {w:World}{b:Nat}{x:Bool}{a:Option Addr}{n c N:Nat}{z:Int} (h:NB w b x a n c N z) {y:Bool}{a':Option Addr}{n' c' M:Nat}{o:Int} (ho:Nr M w (.agg #[.bool y,.slice a' n' c']) o) :
 NB ((w.setCell ⟨b,0,none⟩ (.bool y)).setCell ⟨b,1,none⟩ (.slice a' n' c')) b y a' n' c' M o:=by
 obtain ⟨s0,s1⟩:=h.box.stored (.bool y) (.slice a' n' c')
 refine ⟨s0,s1,?_,ho.stored h.box _ _⟩
 obtain ⟨x0,a0,n0,c0,hb⟩:=h.box
 simp only [NBox,World.setCell,Array.getElem?_modify]
 simp [hb]
theorem NB.beside {w:World}{b:Nat}{x:Bool}{a:Option Addr}{n c N:Nat}{z:Int} (h:NB w b x a n c N z) {q:Nat} (hq:NBox w q) (hne:b≠q) (u u':Value):NB ((w.setCell ⟨q,0,none⟩ u).setCell ⟨q,1,none⟩ u') b x a n c N z:=by
 refine ⟨?_,?_,?_,h.nr.stored hq _ _⟩
 ·rw [zqb _ _ _ _ _ _ (by omega),zqb _ _ _ _ _ _ (by omega)];exact h.c0
 ·rw [zqb _ _ _ _ _ _ (by omega),zqb _ _ _ _ _ _ (by omega)];exact h.c1
 ·obtain ⟨x0,a0,n0,c0,hb⟩:=h.box
  exact ⟨x0,a0,n0,c0,by rw [Below.heap_setCell _ _ _ _ hne,Below.heap_setCell _ _ _ _ hne];exact hb⟩
theorem NB.lt {w:World}{b:Nat}{x:Bool}{a:Option Addr}{n c N:Nat}{z:Int} (h:NB w b x a n c N z):b<w.heap.size:=World.block_lt_of_cell? w _ h.c0
theorem NBox.beside {w:World}{b q:Nat} (h:NBox w b) (hne:b≠q) (u u':Value):NBox ((w.setCell ⟨q,0,none⟩ u).setCell ⟨q,1,none⟩ u') b:=by
 obtain ⟨x0,a0,n0,c0,hb⟩:=h
 exact ⟨x0,a0,n0,c0,by rw [Below.heap_setCell _ _ _ _ hne,Below.heap_setCell _ _ _ _ hne];exact hb⟩
theorem N4.beside {w wr:World}{x y:Bool}{s t:Value} (h:N4 w x s y t wr) {q:Nat} (hq:w.heap.size+3<q) (u u':Value):N4 w x s y t ((wr.setCell ⟨q,0,none⟩ u).setCell ⟨q,1,none⟩ u'):=by
 refine ⟨zqc h.below (by omega) _ _,h.box.beside (by omega) _ _,h.box3.beside (by omega) _ _,?_,?_,?_,?_⟩
 ·rw [zqb _ _ _ _ _ _ (by omega),zqb _ _ _ _ _ _ (by omega)];exact h.c0
 ·rw [zqb _ _ _ _ _ _ (by omega),zqb _ _ _ _ _ _ (by omega)];exact h.c1
 ·rw [zqb _ _ _ _ _ _ (by omega),zqb _ _ _ _ _ _ (by omega)];exact h.d0
 ·rw [zqb _ _ _ _ _ _ (by omega),zqb _ _ _ _ _ _ (by omega)];exact h.d1
theorem Nr.sign {N:Nat}{w:World}{x:Bool}{s:Value}{z:Int} (h:Nr N w (.agg #[.bool x,s]) z):(x=true/\z<0)\/(x=false/\0<=z):=by
 obtain ⟨neg,sl,D,e,_,hP,hT,_,hn,rfl⟩:=h
 obtain ⟨rfl,rfl⟩:x=neg/\s=sl:=by simpa using e
 cases x
 ·exact Or.inr ⟨rfl,by simpa using zqr hP⟩
 ·refine Or.inl ⟨rfl,?_⟩
  have:=v4_pos hP hT (fun e=>by simpa using hn e)
  simp;omega
theorem share_signs {na nb:Bool}{a b q r z o:Int} (hz:z=if na then -a else a) (ho:o=if nb then -b else b) (e:a=q*b+r):z=(if (!(na == nb)) then -q else q)*o+(if na then -r else r):=by
 rw [hz,ho]
 cases na <;> cases nb <;> simp [Int.neg_mul,Int.mul_neg,e] <;> omega
def DivP (N:Nat) (z o:Int) (e:Ending) (w':World):Prop :=
 (o=0/\e=.returned (.tuple #[.agg #[.bool false,.slice none 0 0],.agg #[.bool false,.slice none 0 0],.bool false]))\/(o≠0/\∃ v1 v2 q r,e=.returned (.tuple #[v1,v2,.bool true])/\Nr N w' v1 q/\Nr N w' v2 r/\z=q*o+r/\0<=r/\r<iabs o)
theorem rdivMod_any {N:Nat}{v u:Value}{z o:Int} (w:World) (hz:Nr N w v z) (ho:Nr N w u o) (hN:N<=80000) :
 Calls Tryz.prog 147 #[v,u] w fun e w'=>DivP (N+1) z o e w'/\Below w.heap.size w w':=by
 obtain ⟨na,sa,A,rfl,hsa,hPa,hTa,hla,hna,hzv⟩:=hz
 obtain ⟨nb,sb,B,rfl,hsb,hPb,hTb,hlb,hnb,hov⟩:=ho
 obtain ⟨a1,n1,c1,rfl⟩:=hsa.shape
 obtain ⟨a2,n2,c2,rfl⟩:=hsb.shape
 have HZ:=qh hzv
 have HO:=qh hov
 have hl2:=hsb.nonempty
 have hst:=N4.start w na nb (.slice a1 n1 c1) (.slice a2 n2 c2)
 by_cases hB0:B=[]
 ·subst hB0
  obtain rfl:nb=false:=hnb rfl
  have ho0:o=0:=by rw [hov];simp [v4]
  obtain rfl:n2=0:=by simpa using hl2.symm
  have HO0:=qh ho0
  have hbl:=hst.below
  clear hzv hov ho0 hl2
  go_enter Tryz.func147,Tryz.ntmps147
  go_wp2
  exact bodyPost_ret (v:=.tuple #[.agg #[.bool false,.slice none 0 0],.agg #[.bool false,.slice none 0 0],.bool false]) (by simp [results,Tryz.results147,go_sem]) rfl ⟨Or.inl ⟨uh HO0,rfl⟩,by first | exact hbl | exact hbl.drew⟩
 ·have hpos:=v4_pos hPb hTb hB0
  have ho0:o≠0:=by rw [hov];split <;> omega
  have hne:((n2:Int) == 0)=false:=by have:=List.length_pos_iff.2 hB0;simp;omega
  have HO0:=qh ho0
  have HL2:=qh hl2
  clear hzv hov ho0 hl2
  go_enter Tryz.func147,Tryz.ntmps147
  go_wp2_with fail
  obtain ⟨W0,hW0⟩:∃ W0,W0=(((w.alloc (.cells #[.bool na,.slice a1 n1 c1] 57)).alloc (.cells #[.bool nb,.slice a2 n2 c2] 57)).alloc (.cells #[.bool false,.slice none 0 0] 57)).alloc (.cells #[.bool false,.slice none 0 0] 57):=⟨_,rfl⟩
  rw [<- hW0] at hst ⊢
  clear hW0
  go_fit (rshare_any _ (hsa.later hst.below) (hsb.later hst.below) hPa hPb hTb hpos (by omega) (by omega))
  rintro e W1 ⟨⟨v1,v2,D1,D2,rfl,s1,q1,t1,s2,q2,t2,es,ls⟩,hb1⟩
  obtain ⟨f1,f2,f3,rfl⟩:=s1.shape
  obtain ⟨f4,f5,f6,rfl⟩:=s2.shape
  have hst:=hst.keep hb1
  have HES:=qh (share_signs (uh HZ) (uh HO) es)
  have HLS:=qh ls
  have HQ:Hid (v4 D1<10000 ^ N):=by
   show _<_
   have h1:=v4_lt hPa
   have h2:=p4_mono hla
   have h3:=zqr q2
   have h4:=zqr q1
   have h5:v4 D1*1<=v4 D1*v4 B:=Int.mul_le_mul_of_nonneg_left (by omega) h4
   omega
  clear hb1 es ls
  have e1:=hst.c0
  have e2:=hst.d0
  go_wp2_with fail
  go_fit (zks (!(na == nb)) _ D1 D1.length _ s1 q1 (Nat.le_refl _))
  rintro e W2 ⟨⟨v3,rfl,hN3⟩,hb2⟩
  obtain ⟨x3,a3,n3,c3,rfl⟩:=hN3.shape
  have k2:=zqa W2 (.cells #[.bool x3,.slice a3 n3 c3] 57)
  have hst:=hst.keep hb2
  have hlt9:=hst.lt
  have hst:=hst.keep k2
  have hQ:=NB.new hN3
  have s2:=(s2.later hb2).later k2
  clear hb2 k2 e1 e2 s1 t1 hN3
  have e1:=hst.c0
  go_wp2_with fail
  go_fit (zks na _ D2 D2.length _ s2 q2 (Nat.le_refl _))
  rintro e W3 ⟨⟨v4',rfl,hN4⟩,hb3⟩
  obtain ⟨x4,a4,n4,c4,rfl⟩:=hN4.shape
  have k3:=zqa W3 (.cells #[.bool x4,.slice a4 n4 c4] 57)
  have hst:=(hst.keep hb3).keep k3
  have hQ:=hQ.keep hb3
  have hlt10:=hQ.lt
  have hQ:=hQ.keep k3
  have hR:=NB.new hN4
  have hsg:=hN4.sign
  clear hb3 k3 e1 s2 hN4
  obtain ⟨Wc,hWc⟩:∃ Wc,Wc=W3.alloc (.cells #[.bool x4,.slice a4 n4 c4] 57):=⟨_,rfl⟩
  obtain ⟨q',HQ'⟩:∃ q',Hid (q'=if (!(na == nb)) then -v4 D1 else v4 D1):=⟨_,rfl⟩
  obtain ⟨r',HR'⟩:∃ r',Hid (r'=if na then -v4 D2 else v4 D2):=⟨_,rfl⟩
  rw [<- uh HQ'] at hQ
  rw [<- uh HR'] at hR hsg
  have HE:Hid (z=q'*o+r'):=by show _=_;rw [uh HQ',uh HR'];exact uh HES
  have hq9:-10000 ^ N<q'/\q'<10000 ^ N:=by
   have h1:=uh HQ
   have h2:=zqr q1
   have h3:=p4_pos N
   rw [uh HQ'];split <;> omega
  have hoB:iabs o=v4 B:=by rw [uh HO];unfold iabs;cases nb <;> simp <;> omega
  have hBN:v4 B<10000 ^ N:=by have h1:=v4_lt hPb;have h2:=p4_mono hlb;omega
  have hr9:-v4 B<r'/\r'<v4 B:=by
   have h1:=uh HLS
   have h2:=zqr q2
   rw [uh HR'];split <;> omega
  have hp1:(10000:Int) ^ (N+1)=10000*10000 ^ N:=by rw [Int.pow_succ];omega
  have hpN:=p4_pos N
  have H9:=qh (And.intro hq9 (And.intro hr9 (And.intro hoB (And.intro hBN (And.intro hp1 hpN)))))
  have hQc:NB Wc W2.heap.size x3 a3 n3 c3 N q':=by rw [hWc];exact ⟨hQ.c0,hQ.c1,hQ.box,hQ.nr.fit hq9.1 hq9.2⟩
  have hRc:NB Wc W3.heap.size x4 a4 n4 c4 N r':=by rw [hWc];exact ⟨hR.c0,hR.c1,hR.box,hR.nr.fit (by omega) (by omega)⟩
  have HWC:=qh hWc
  clear hWc hQ hR
  clear hq9 hr9 hoB hBN hp1 hpN HQ' HR' HES HLS HQ
  rcases hsg with ⟨rfl,hr0⟩ | ⟨rfl,hr0⟩
  ·have hNB:Nr N Wc (.agg #[.bool false,.slice a2 n2 c2]) (v4 B):=by
    refine ⟨false,_,B,rfl,?_,hPb,hTb,hlb,fun _=>rfl,by simp⟩
    rw [show Wc=_ from uh HWC];exact hsb.later hst.below
   have e2:=hst.d1
   go_wp2_with fail
   rw [<- show Wc=_ from uh HWC] at hst e2 ⊢
   clear HWC
   go_fit (radd_any (N:=N) _ hRc.nr hNB (by omega))
   rintro e W5 ⟨⟨v5,rfl,hN5⟩,hb5⟩
   obtain ⟨x5,a5,n5,c5,rfl⟩:=hN5.shape
   have hst:=hst.keep hb5
   have hQ:=hQc.keep hb5
   have hR:=hRc.keep hb5
   obtain ⟨⟨y0,g0⟩,⟨y1,y2,y3,g1⟩,gf⟩:=hR.box.cells
   have l10:=hR.lt
   have hst6:=hst.beside (q:=W3.heap.size) (by omega) (.bool x5) (.slice a5 n5 c5)
   have hQ6:=hQ.beside (q:=W3.heap.size) hR.box (by omega) (.bool x5) (.slice a5 n5 c5)
   have hR6:=hR.stored hN5
   have e5:=hst6.d0
   have e6:=hst.d0
   clear hb5 hN5 e2 hNB
   obtain ⟨Wd,hWd⟩:∃ Wd,Wd=(W5.setCell ⟨W3.heap.size,0,none⟩ (.bool x5)).setCell ⟨W3.heap.size,1,none⟩ (.slice a5 n5 c5):=⟨_,rfl⟩
   have HWD:=qh hWd
   clear hWd hst hQ hR hQc hRc
   cases nb
   ·go_wp2_with fail
    rw [<- show Wd=_ from uh HWD] at hst6 hQ6 hR6 ⊢
    clear HWD e5 e6 g0 g1 gf
    have hst:=hst6
    have hQ:=hQ6
    have hR:=hR6
    clear hst6 hQ6 hR6
    have e5:=hst.d0
    have hQd:NB Wd.drew W2.heap.size x3 a3 n3 c3 N q':=hQ.drew
    have hRd:NB Wd.drew W3.heap.size x5 a5 n5 c5 (N+1) (r'+v4 B):=hR.drew
    have hstd:N4 w na (.slice a1 n1 c1) false (.slice a2 n2 c2) Wd.drew:=⟨hst.below.drew,hst.box,hst.box3,hst.c0,hst.c1,hst.d0,hst.d1⟩
    have m0:=hQ.c0
    have m1:=hQ.c1
    go_region_with (first | (go_at_call 82;go_fit (zxn 1 _ (by decide) (by decide));rintro e W7 ⟨⟨v7,rfl,hN7⟩,hb7⟩;obtain ⟨x7,a7,n7,c7,rfl⟩:=hN7.shape;have hQ7:=hQd.keep hb7;have hR7:=hRd.keep hb7;have hst7:=hstd.keep hb7;have p0:=hQ7.c0;have p1:=hQ7.c1) | (go_at_call 191;go_fit (rsub_any (N:=N+1) _ (hQ7.nr.mono (by omega)) (hN7.mono (by omega)) (by omega));rintro e W8 ⟨⟨v8,rfl,hN8⟩,hb8⟩;obtain ⟨x8,a8,n8,c8,rfl⟩:=hN8.shape;have hQ8:=hQ7.keep hb8;have hR8:=hR7.keep hb8;have hst8:=hst7.keep hb8;obtain ⟨⟨u0,r0⟩,⟨u1,u2,u3,r1⟩,rf⟩:=hQ8.box.cells;have lq8:=hQ8.lt))
    all_goals
     have hN8':Nr (N+1) W8 (.agg #[.bool x8,.slice a8 n8 c8]) (q' - 1):=hN8.fit (by have:=uh H9;omega) (by have:=uh H9;omega)
     have hQ:=hQ8.stored hN8'
     have hR:=hR8.beside (q:=W2.heap.size) hQ8.box (by omega) (.bool x8) (.slice a8 n8 c8)
     have hst:=hst8.beside (q:=W2.heap.size) hlt9 (.bool x8) (.slice a8 n8 c8)
     obtain ⟨We,hWe⟩:∃ We,We=(W8.setCell ⟨W2.heap.size,0,none⟩ (.bool x8)).setCell ⟨W2.heap.size,1,none⟩ (.slice a8 n8 c8):=⟨_,rfl⟩
     rw [<- hWe] at hQ hR hst ⊢
     clear hWe hQ8 hR8 hst8 hQ7 hR7 hst7 hQd hRd hstd hN8 hN8' hN7 hb7 hb8 r0 r1 rf p0 p1 m0 m1 e5 lq8
     obtain ⟨⟨y0,g0⟩,⟨y1,y2,y3,g1⟩,gf⟩:=hst.box.cells
     obtain ⟨⟨z0,j0⟩,⟨z1,z2,z3,j1⟩,jf⟩:=hst.box3.cells
     have l2:w.heap.size+2<We.heap.size:=by have:=hst.lt;omega
     have l3:w.heap.size+3<We.heap.size:=hst.lt
     have m0:=hQ.c0
     have m1:=hQ.c1
     have m2:=hR.c0
     have m3:=hR.c1
     have lq:=hQ.lt
     have lr:=hR.lt
     try go_wp2_with fail
     go_region
     all_goals
      go_wp2
      obtain ⟨st0,st1,st2,st3⟩:=four_stores hst.box.gb hst.box3.gb (by omega) (.bool x8) (.slice a8 n8 c8) (.bool x5) (.slice a5 n5 c5)
      have hb4:=hst.box3.beside (q:=w.heap.size+2) (by omega) (.bool x8) (.slice a8 n8 c8)
      exact bodyPost_ret (v:=.tuple #[.agg #[.bool x8,.slice a8 n8 c8],.agg #[.bool x5,.slice a5 n5 c5],.bool true]) (by simp [results,Tryz.results147,go_sem,st0,st1,st2,st3]) rfl ⟨Or.inr ⟨uh HO0,_,_,(q' - 1),(r'+v4 B),rfl,((hQ.nr.stored hst.box _ _).stored hb4 _ _).mono (by omega),((hR.nr.stored hst.box _ _).stored hb4 _ _).mono (by omega),by have h:=uh HE;have h2:=uh H9;have h3:=uh HO;simp at h3;rw [Int.sub_mul];omega,by have:=uh H9;omega,by have:=uh H9;omega⟩,by first | exact zqc (zqc hst.below (by omega) _ _) (by omega) _ _ | exact (zqc (zqc hst.below (by omega) _ _) (by omega) _ _).drew⟩
   ·go_wp2_with fail
    rw [<- show Wd=_ from uh HWD] at hst6 hQ6 hR6 ⊢
    clear HWD e5 e6 g0 g1 gf
    have hst:=hst6
    have hQ:=hQ6
    have hR:=hR6
    clear hst6 hQ6 hR6
    have e5:=hst.d0
    have hQd:NB Wd.drew W2.heap.size x3 a3 n3 c3 N q':=hQ.drew
    have hRd:NB Wd.drew W3.heap.size x5 a5 n5 c5 (N+1) (r'+v4 B):=hR.drew
    have hstd:N4 w na (.slice a1 n1 c1) true (.slice a2 n2 c2) Wd.drew:=⟨hst.below.drew,hst.box,hst.box3,hst.c0,hst.c1,hst.d0,hst.d1⟩
    have m0:=hQ.c0
    have m1:=hQ.c1
    go_region_with (first | (go_at_call 82;go_fit (zxn 1 _ (by decide) (by decide));rintro e W7 ⟨⟨v7,rfl,hN7⟩,hb7⟩;obtain ⟨x7,a7,n7,c7,rfl⟩:=hN7.shape;have hQ7:=hQd.keep hb7;have hR7:=hRd.keep hb7;have hst7:=hstd.keep hb7;have p0:=hQ7.c0;have p1:=hQ7.c1) | (go_at_call 91;go_fit (radd_any (N:=N+1) _ (hQ7.nr.mono (by omega)) (hN7.mono (by omega)) (by omega));rintro e W8 ⟨⟨v8,rfl,hN8⟩,hb8⟩;obtain ⟨x8,a8,n8,c8,rfl⟩:=hN8.shape;have hQ8:=hQ7.keep hb8;have hR8:=hR7.keep hb8;have hst8:=hst7.keep hb8;obtain ⟨⟨u0,r0⟩,⟨u1,u2,u3,r1⟩,rf⟩:=hQ8.box.cells;have lq8:=hQ8.lt))
    all_goals
     have hN8':Nr (N+1) W8 (.agg #[.bool x8,.slice a8 n8 c8]) (q'+1):=hN8.fit (by have:=uh H9;omega) (by have:=uh H9;omega)
     have hQ:=hQ8.stored hN8'
     have hR:=hR8.beside (q:=W2.heap.size) hQ8.box (by omega) (.bool x8) (.slice a8 n8 c8)
     have hst:=hst8.beside (q:=W2.heap.size) hlt9 (.bool x8) (.slice a8 n8 c8)
     obtain ⟨We,hWe⟩:∃ We,We=(W8.setCell ⟨W2.heap.size,0,none⟩ (.bool x8)).setCell ⟨W2.heap.size,1,none⟩ (.slice a8 n8 c8):=⟨_,rfl⟩
     rw [<- hWe] at hQ hR hst ⊢
     clear hWe hQ8 hR8 hst8 hQ7 hR7 hst7 hQd hRd hstd hN8 hN8' hN7 hb7 hb8 r0 r1 rf p0 p1 m0 m1 e5 lq8
     obtain ⟨⟨y0,g0⟩,⟨y1,y2,y3,g1⟩,gf⟩:=hst.box.cells
     obtain ⟨⟨z0,j0⟩,⟨z1,z2,z3,j1⟩,jf⟩:=hst.box3.cells
     have l2:w.heap.size+2<We.heap.size:=by have:=hst.lt;omega
     have l3:w.heap.size+3<We.heap.size:=hst.lt
     have m0:=hQ.c0
     have m1:=hQ.c1
     have m2:=hR.c0
     have m3:=hR.c1
     have lq:=hQ.lt
     have lr:=hR.lt
     try go_wp2_with fail
     go_region
     all_goals
      go_wp2
      obtain ⟨st0,st1,st2,st3⟩:=four_stores hst.box.gb hst.box3.gb (by omega) (.bool x8) (.slice a8 n8 c8) (.bool x5) (.slice a5 n5 c5)
      have hb4:=hst.box3.beside (q:=w.heap.size+2) (by omega) (.bool x8) (.slice a8 n8 c8)
      exact bodyPost_ret (v:=.tuple #[.agg #[.bool x8,.slice a8 n8 c8],.agg #[.bool x5,.slice a5 n5 c5],.bool true]) (by simp [results,Tryz.results147,go_sem,st0,st1,st2,st3]) rfl ⟨Or.inr ⟨uh HO0,_,_,(q'+1),(r'+v4 B),rfl,((hQ.nr.stored hst.box _ _).stored hb4 _ _).mono (by omega),((hR.nr.stored hst.box _ _).stored hb4 _ _).mono (by omega),by have h:=uh HE;have h2:=uh H9;have h3:=uh HO;simp at h3;rw [Int.add_mul];omega,by have:=uh H9;omega,by have:=uh H9;omega⟩,by first | exact zqc (zqc hst.below (by omega) _ _) (by omega) _ _ | exact (zqc (zqc hst.below (by omega) _ _) (by omega) _ _).drew⟩
  ·go_wp2_with fail
   rw [<- show Wc=_ from uh HWC] at hst ⊢
   clear HWC
   obtain ⟨⟨y0,g0⟩,⟨y1,y2,y3,g1⟩,gf⟩:=hst.box.cells
   obtain ⟨⟨z0,j0⟩,⟨z1,z2,z3,j1⟩,jf⟩:=hst.box3.cells
   have l2:w.heap.size+2<Wc.heap.size:=by have:=hst.lt;omega
   have l3:w.heap.size+3<Wc.heap.size:=hst.lt
   have m0:=hQc.c0
   have m1:=hQc.c1
   have m2:=hRc.c0
   have m3:=hRc.c1
   have lq:=hQc.lt
   have lr:=hRc.lt
   try go_wp2_with fail
   go_region
   all_goals
    go_wp2
    obtain ⟨st0,st1,st2,st3⟩:=four_stores hst.box.gb hst.box3.gb (by omega) (.bool x3) (.slice a3 n3 c3) (.bool false) (.slice a4 n4 c4)
    have hb4:=hst.box3.beside (q:=w.heap.size+2) (by omega) (.bool x3) (.slice a3 n3 c3)
    exact bodyPost_ret (v:=.tuple #[.agg #[.bool x3,.slice a3 n3 c3],.agg #[.bool false,.slice a4 n4 c4],.bool true]) (by simp [results,Tryz.results147,go_sem,st0,st1,st2,st3]) rfl ⟨Or.inr ⟨uh HO0,_,_,q',r',rfl,((hQc.nr.stored hst.box _ _).stored hb4 _ _).mono (by omega),((hRc.nr.stored hst.box _ _).stored hb4 _ _).mono (by omega),uh HE,hr0,by have:=uh H9;omega⟩,by first | exact zqc (zqc hst.below (by omega) _ _) (by omega) _ _ | exact (zqc (zqc hst.below (by omega) _ _) (by omega) _ _).drew⟩
end Go.Proofs.YtkdobjmhammhbaaGreatDoor
