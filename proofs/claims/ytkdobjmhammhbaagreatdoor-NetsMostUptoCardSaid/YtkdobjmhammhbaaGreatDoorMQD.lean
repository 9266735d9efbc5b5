import Derived.Test.YtkdobjmhammhbaaGreatDoorMQA
namespace Go.Proofs.YtkdobjmhammhbaaGreatDoor
set_option maxHeartbeats 2000000
open Go.RowKit
theorem qsign_any {N:Nat}{v:Value}{p d:Int} (w:World) (h:Rr N w v p d) :
 Calls Tryz.prog 72 #[v] w fun e w'=>e=.returned (.int .i64 (sgn p))/\Below w.heap.size w w':=by
 obtain ⟨x,a,n,c,y,b,m,k,e,rfl,h2,h3,d0,hg,hd⟩:=h
 have hst:=R1.start w x y a b n c m k
 go_enter Tryz.func72,Tryz.ntmps72
 go_wp2_with fail
 go_fit (sign_zr _ (h2.later hst.below))
 rintro e W1 ⟨rfl,hb1⟩
 have hB:=bk hb1 hst.below
 go_wp2
 go_ret
 exact ⟨rfl,hB⟩
structure RZ (w:World) (x:Int) (a:Option Addr) (n c:Nat) (y:Int) (b:Option Addr) (m k:Nat) (wr:World):Prop where
 below:Below w.heap.size w wr
 box:Box wr (w.heap.size+1)
 c0:wr.cell? ⟨w.heap.size,0,none⟩=some (.int .i64 x)
 c1:wr.cell? ⟨w.heap.size,1,none⟩=some (.slice a n c)
 c2:wr.cell? ⟨w.heap.size,2,none⟩=some (.int .i64 y)
 c3:wr.cell? ⟨w.heap.size,3,none⟩=some (.slice b m k)
theorem RZ.keep {w wr w1:World}{x y:Int}{a b:Option Addr}{n c m k:Nat} (h:RZ w x a n c y b m k wr) (hb:Below wr.heap.size wr w1):RZ w x a n c y b m k w1 :=
 ⟨bk hb h.below,h.box.later hb,ck hb h.c0,ck hb h.c1,ck hb h.c2,ck hb h.c3⟩
theorem RZ.start (w:World) (x y:Int) (a b:Option Addr) (n c m k:Nat):RZ w x a n c y b m k ((w.alloc (.cells #[.int .i64 x,.slice a n c,.int .i64 y,.slice b m k] 39)).alloc (.cells #[.int .i64 0,.slice none 0 0] 37)):=by
 have h:=R1.start w x y a b n c m k
 have k1:=zqa (w.alloc (.cells #[.int .i64 x,.slice a n c,.int .i64 y,.slice b m k] 39)) (.cells #[.int .i64 0,.slice none 0 0] 37)
 refine ⟨bk k1 h.below,?_,ck k1 h.c0,ck k1 h.c1,ck k1 h.c2,ck k1 h.c3⟩
 have:=zqy (w.alloc (.cells #[.int .i64 x,.slice a n c,.int .i64 y,.slice b m k] 39))
 simpa using this
theorem RZ.lt {w wr:World}{x y:Int}{a b:Option Addr}{n c m k:Nat} (h:RZ w x a n c y b m k wr):w.heap.size+1<wr.heap.size:=by
 obtain ⟨x,a,n,c,h⟩:=h.box
 exact (Array.getElem?_eq_some_iff.1 h).1
theorem num_any {N:Nat}{v:Value}{p d:Int} (w:World) (h:Rr N w v p d) :
 Calls Tryz.prog 160 #[v] w fun e w'=>(∃ v,e=.returned v/\Zr N w' v p)/\Below w.heap.size w w':=by
 obtain ⟨x,a,n,c,y,b,m,k,e,rfl,h2,h3,d0,hg,hd⟩:=h
 go_enter Tryz.func160,Tryz.ntmps160
 go_wp2
 exact bodyPost_ret (v:=.agg #[.int .i64 x,.slice a n c]) (by simp [results,Tryz.results160,go_sem]) rfl ⟨⟨_,rfl,h2.later (zqm w _ _)⟩,zqm w _ _⟩
theorem den_any {N:Nat}{v:Value}{p d:Int} (w:World) (h:Rr N w v p d) :
 Calls Tryz.prog 104 #[v] w fun e w'=>(∃ v,e=.returned v/\Zr N w' v d)/\Below w.heap.size w w':=by
 have h':=h
 obtain ⟨x,a,n,c,y,b,m,k,e,rfl,h2,h3,d0,hg,hd⟩:=h
 have hst:=RZ.start w x y a b n c m k
 go_enter Tryz.func104,Tryz.ntmps104
 go_wp2_with fail
 obtain ⟨W0,hW0⟩:∃ W0,W0=(w.alloc (.cells #[.int .i64 x,.slice a n c,.int .i64 y,.slice b m k] 39)).alloc (.cells #[.int .i64 0,.slice none 0 0] 37):=⟨_,rfl⟩
 rw [<- hW0] at hst ⊢
 clear hW0
 go_fit (isWhole_any _ (h'.later hst.below))
 rintro e W1 ⟨rfl,hb1⟩
 have hst:=hst.keep hb1
 clear hb1 h'
 by_cases h1:d=1
 ·subst h1
  go_wp2_with fail
  go_fit (of_any 1 _)
  rintro e W2 ⟨rfl,hb2⟩
  have hst:=hst.keep hb2
  obtain ⟨⟨x0,g0⟩,⟨a0,n0,c0,g1⟩,gf⟩:=hst.box.cells
  have hlt:=hst.lt
  clear hb2
  go_wp2
  obtain ⟨st0,st1⟩:=hst.box.stored (.int .i64 1) (.slice none 0 0)
  exact bodyPost_ret (v:=.agg #[.int .i64 1,.slice none 0 0]) (by simp [results,Tryz.results104,go_sem,st0,st1]) rfl ⟨⟨_,rfl,Zr.near _ (by decide) (by decide)⟩,zqc hst.below (by omega) _ _⟩
 ·have he:e=d:=by omega
  subst he
  have e3:=hst.c2
  have e4:=hst.c3
  obtain ⟨⟨x0,g0⟩,⟨a0,n0,c0,g1⟩,gf⟩:=hst.box.cells
  have hlt:=hst.lt
  go_wp2
  obtain ⟨st0,st1⟩:=hst.box.stored (.int .i64 y) (.slice b m k)
  exact bodyPost_ret (v:=.agg #[.int .i64 y,.slice b m k]) (by simp [results,Tryz.results104,go_sem,st0,st1]) rfl ⟨⟨_,rfl,(h3.later hst.below).stored hst.box _ _⟩,zqc hst.below (by omega) _ _⟩
structure RR (w:World) (x:Int) (a:Option Addr) (n c:Nat) (y:Int) (b:Option Addr) (m k:Nat) (wr:World):Prop where
 below:Below w.heap.size w wr
 box:RBox wr (w.heap.size+1)
 c0:wr.cell? ⟨w.heap.size,0,none⟩=some (.int .i64 x)
 c1:wr.cell? ⟨w.heap.size,1,none⟩=some (.slice a n c)
 c2:wr.cell? ⟨w.heap.size,2,none⟩=some (.int .i64 y)
 c3:wr.cell? ⟨w.heap.size,3,none⟩=some (.slice b m k)
theorem RR.keep {w wr w1:World}{x y:Int}{a b:Option Addr}{n c m k:Nat} (h:RR w x a n c y b m k wr) (hb:Below wr.heap.size wr w1):RR w x a n c y b m k w1 :=
 ⟨bk hb h.below,h.box.later hb,ck hb h.c0,ck hb h.c1,ck hb h.c2,ck hb h.c3⟩
theorem RR.start (w:World) (x y:Int) (a b:Option Addr) (n c m k:Nat):RR w x a n c y b m k ((w.alloc (.cells #[.int .i64 x,.slice a n c,.int .i64 y,.slice b m k] 39)).alloc (.cells #[.int .i64 0,.slice none 0 0,.int .i64 0,.slice none 0 0] 39)):=by
 have h:=R1.start w x y a b n c m k
 have k1:=zqa (w.alloc (.cells #[.int .i64 x,.slice a n c,.int .i64 y,.slice b m k] 39)) (.cells #[.int .i64 0,.slice none 0 0,.int .i64 0,.slice none 0 0] 39)
 refine ⟨bk k1 h.below,?_,ck k1 h.c0,ck k1 h.c1,ck k1 h.c2,ck k1 h.c3⟩
 have:=zkw (w.alloc (.cells #[.int .i64 x,.slice a n c,.int .i64 y,.slice b m k] 39)) 0 none 0 0 0 none 0 0
 simpa using this
theorem keepR4 {w w1 w2:World}{r b:Nat}{v0 v1 v2 v3:Value} (hb:Below w1.heap.size w1 w2) (h:Below w.heap.size w w1/\RBox w1 r/\w1.cell? ⟨b,0,none⟩=some v0/\w1.cell? ⟨b,1,none⟩=some v1/\w1.cell? ⟨b,2,none⟩=some v2/\w1.cell? ⟨b,3,none⟩=some v3):Below w.heap.size w w2/\RBox w2 r/\w2.cell? ⟨b,0,none⟩=some v0/\w2.cell? ⟨b,1,none⟩=some v1/\w2.cell? ⟨b,2,none⟩=some v2/\w2.cell? ⟨b,3,none⟩=some v3 :=
 ⟨bk hb h.1,h.2.1.later hb,ck hb h.2.2.1,ck hb h.2.2.2.1,ck hb h.2.2.2.2.1,ck hb h.2.2.2.2.2⟩
theorem storeR4 {w w1:World}{r b:Nat}{v0 v1 v2 v3:Value}{x y:Int}{a1 a2:Option Addr}{n c m k:Nat} (h:Below w.heap.size w w1/\RBox w1 r/\w1.cell? ⟨b,0,none⟩=some v0/\w1.cell? ⟨b,1,none⟩=some v1/\w1.cell? ⟨b,2,none⟩=some v2/\w1.cell? ⟨b,3,none⟩=some v3) (hr:w.heap.size<=r) (hb:b≠r) :
 let w2:=(((w1.setCell ⟨r,0,none⟩ (.int .i64 x)).setCell ⟨r,1,none⟩ (.slice a1 n c)).setCell ⟨r,2,none⟩ (.int .i64 y)).setCell ⟨r,3,none⟩ (.slice a2 m k)
 Below w.heap.size w w2/\RBox w2 r/\w2.cell? ⟨b,0,none⟩=some v0/\w2.cell? ⟨b,1,none⟩=some v1/\w2.cell? ⟨b,2,none⟩=some v2/\w2.cell? ⟨b,3,none⟩=some v3:=by
 intro w2
 obtain ⟨k1,k2,k3,k4,k5,k6⟩:=h
 have hc:∀ o v,w1.cell? ⟨b,o,none⟩=some v->w2.cell? ⟨b,o,none⟩=some v:=fun o v hv=>by
  show (World.setCell _ _ _).cell? _=_
  rw [zqb _ _ _ _ _ _ (by omega),zqb _ _ _ _ _ _ (by omega),zqb _ _ _ _ _ _ (by omega),zqb _ _ _ _ _ _ (by omega)]
  exact hv
 exact ⟨zqf k1 hr _ _ _ _,k2.stored' _ _ _ _ _ _ _ _,hc _ _ k3,hc _ _ k4,hc _ _ k5,hc _ _ k6⟩
theorem qneg_any {N:Nat}{v:Value}{p d:Int} (w:World) (h:Rr (N+1) w v p d) :
 Calls Tryz.prog 69 #[v] w fun e w'=>(∃ v,e=.returned v/\Rr (N+1) w' v (-p) d)/\Below w.heap.size w w':=by
 obtain ⟨x,a,n,c,y,b,m,k,e,rfl,h2,h3,d0,hg,hd⟩:=h
 have hst:=RR.start w x y a b n c m k
 have hg':Int.gcd (-p) d=1:=by rw [Int.neg_gcd];exact hg
 have HD:=qh hd
 clear hd hg
 go_enter Tryz.func69,Tryz.ntmps69
 go_wp2_with fail
 obtain ⟨W0,hW0⟩:∃ W0,W0=(w.alloc (.cells #[.int .i64 x,.slice a n c,.int .i64 y,.slice b m k] 39)).alloc (.cells #[.int .i64 0,.slice none 0 0,.int .i64 0,.slice none 0 0] 39):=⟨_,rfl⟩
 rw [<- hW0] at hst ⊢
 clear hW0
 have hB:=hst.below
 have hr:=hst.box
 have e0:=hst.c0
 have e1:=hst.c1
 have e2:=hst.c2
 have e3:=hst.c3
 go_region_held3 (fun w'=>Below w.heap.size w w'/\RBox w' (w.heap.size+1)/\w'.cell? ⟨w.heap.size,0,none⟩=some (.int .i64 x)/\w'.cell? ⟨w.heap.size,1,none⟩=some (.slice a n c)/\w'.cell? ⟨w.heap.size,2,none⟩=some (.int .i64 y)/\w'.cell? ⟨w.heap.size,3,none⟩=some (.slice b m k))
  (first | exact ⟨hB.drew,hr,e0,e1,e2,e3⟩ | exact keepR4 (by assumption) (by assumption) | exact storeR4 (by assumption) (by omega) (by omega))
  (first | (go_at_call 134;go_fit (neg_any (N:=N) _ (h2.later (And.left (by assumption))));rintro e q1 ⟨⟨v1,rfl,hN1⟩,hb1⟩;obtain ⟨x1,a1,n1,c1,rfl⟩:=hN1.shape;have hbx:=hr.later (w:=W0.drew) hb1;obtain ⟨⟨f0,g0⟩,⟨f1,f2,f3,g1⟩,⟨f4,g2⟩,⟨f5,f6,f7,g3⟩,gf⟩:=hbx.cells;have hlt:=hbx.lt))
 have hbx:=hr.later (w:=W0.drew) hb1
 have hB1:=bk hb1 hB.drew
 clear hst
 go_wp2
 obtain ⟨st0,st1,st2,st3⟩:=hbx.stored (.int .i64 x1) (.slice a1 n1 c1) (.int .i64 y) (.slice b m k)
 exact bodyPost_ret (v:=.agg #[.int .i64 x1,.slice a1 n1 c1,.int .i64 y,.slice b m k]) (by simp [results,Tryz.results69,go_sem,st0,st1,st2,st3]) rfl ⟨⟨_,rfl,_,_,_,_,_,_,_,_,e,rfl,hN1.rstored hbx _ _ _ _,(h3.later hB1).rstored hbx _ _ _ _,d0,hg',uh HD⟩,zqf hB1 (by omega) _ _ _ _⟩
structure RZZ (w:World) (x:Int) (a:Option Addr) (n c:Nat) (y:Int) (b:Option Addr) (m k:Nat) (u:Int) (a':Option Addr) (n' c':Nat) (wr:World):Prop where
 below:Below w.heap.size w wr
 box:Box wr (w.heap.size+2)
 c0:wr.cell? ⟨w.heap.size,0,none⟩=some (.int .i64 x)
 c1:wr.cell? ⟨w.heap.size,1,none⟩=some (.slice a n c)
 c2:wr.cell? ⟨w.heap.size,2,none⟩=some (.int .i64 y)
 c3:wr.cell? ⟨w.heap.size,3,none⟩=some (.slice b m k)
 d0:wr.cell? ⟨w.heap.size+1,0,none⟩=some (.int .i64 u)
 d1:wr.cell? ⟨w.heap.size+1,1,none⟩=some (.slice a' n' c')
theorem RZZ.keep {w wr w1:World}{x y u:Int}{a b a':Option Addr}{n c m k n' c':Nat} (h:RZZ w x a n c y b m k u a' n' c' wr) (hb:Below wr.heap.size wr w1):RZZ w x a n c y b m k u a' n' c' w1 :=
 ⟨bk hb h.below,h.box.later hb,ck hb h.c0,ck hb h.c1,ck hb h.c2,ck hb h.c3,ck hb h.d0,ck hb h.d1⟩
theorem RZZ.start (w:World) (x y u:Int) (a b a':Option Addr) (n c m k n' c':Nat):RZZ w x a n c y b m k u a' n' c' (((w.alloc (.cells #[.int .i64 x,.slice a n c,.int .i64 y,.slice b m k] 39)).alloc (.cells #[.int .i64 u,.slice a' n' c'] 37)).alloc (.cells #[.int .i64 0,.slice none 0 0] 37)):=by
 have h:=R1.start w x y a b n c m k
 have k1:=zqm (w.alloc (.cells #[.int .i64 x,.slice a n c,.int .i64 y,.slice b m k] 39)) (.cells #[.int .i64 u,.slice a' n' c'] 37) (.cells #[.int .i64 0,.slice none 0 0] 37)
 have k2:=zqa ((w.alloc (.cells #[.int .i64 x,.slice a n c,.int .i64 y,.slice b m k] 39)).alloc (.cells #[.int .i64 u,.slice a' n' c'] 37)) (.cells #[.int .i64 0,.slice none 0 0] 37)
 refine ⟨bk k1 h.below,?_,ck k1 h.c0,ck k1 h.c1,ck k1 h.c2,ck k1 h.c3,ck k2 ?_,ck k2 ?_⟩
 ·have:=zqy ((w.alloc (.cells #[.int .i64 x,.slice a n c,.int .i64 y,.slice b m k] 39)).alloc (.cells #[.int .i64 u,.slice a' n' c'] 37))
  simpa using this
 ·rw [zqe (by simp)];rfl
 ·rw [zqe (by simp)];rfl
theorem RZZ.lt {w wr:World}{x y u:Int}{a b a':Option Addr}{n c m k n' c':Nat} (h:RZZ w x a n c y b m k u a' n' c' wr):w.heap.size+2<wr.heap.size:=by
 obtain ⟨x,a,n,c,h⟩:=h.box
 exact (Array.getElem?_eq_some_iff.1 h).1
theorem two_R (w:World) (x y x' y':Int) (a b a' b':Option Addr) (n c m k n' c' m' k':Nat) :
 let W:=(w.alloc (.cells #[.int .i64 x,.slice a n c,.int .i64 y,.slice b m k] 39)).alloc (.cells #[.int .i64 x',.slice a' n' c',.int .i64 y',.slice b' m' k'] 39)
 Below w.heap.size w W/\W.cell? ⟨w.heap.size,0,none⟩=some (.int .i64 x)/\W.cell? ⟨w.heap.size,1,none⟩=some (.slice a n c)/\W.cell? ⟨w.heap.size,2,none⟩=some (.int .i64 y)/\W.cell? ⟨w.heap.size,3,none⟩=some (.slice b m k)/\W.cell? ⟨w.heap.size+1,0,none⟩=some (.int .i64 x')/\W.cell? ⟨w.heap.size+1,1,none⟩=some (.slice a' n' c')/\W.cell? ⟨w.heap.size+1,2,none⟩=some (.int .i64 y')/\W.cell? ⟨w.heap.size+1,3,none⟩=some (.slice b' m' k'):=by
 intro W
 have h:=R1.start w x y a b n c m k
 have k1:=zqa (w.alloc (.cells #[.int .i64 x,.slice a n c,.int .i64 y,.slice b m k] 39)) (.cells #[.int .i64 x',.slice a' n' c',.int .i64 y',.slice b' m' k'] 39)
 refine ⟨bk k1 h.below,ck k1 h.c0,ck k1 h.c1,ck k1 h.c2,ck k1 h.c3,?_,?_,?_,?_⟩ <;> (show (World.alloc _ _).cell? _=_;rw [zqe (by simp)];rfl)
theorem keepW8 {w w1 w2:World}{b1 b2:Nat}{v0 v1 v2 v3 u0 u1 u2 u3:Value} (hb:Below w1.heap.size w1 w2) (h:Below w.heap.size w w1/\w1.cell? ⟨b1,0,none⟩=some v0/\w1.cell? ⟨b1,1,none⟩=some v1/\w1.cell? ⟨b1,2,none⟩=some v2/\w1.cell? ⟨b1,3,none⟩=some v3/\w1.cell? ⟨b2,0,none⟩=some u0/\w1.cell? ⟨b2,1,none⟩=some u1/\w1.cell? ⟨b2,2,none⟩=some u2/\w1.cell? ⟨b2,3,none⟩=some u3) :
 Below w.heap.size w w2/\w2.cell? ⟨b1,0,none⟩=some v0/\w2.cell? ⟨b1,1,none⟩=some v1/\w2.cell? ⟨b1,2,none⟩=some v2/\w2.cell? ⟨b1,3,none⟩=some v3/\w2.cell? ⟨b2,0,none⟩=some u0/\w2.cell? ⟨b2,1,none⟩=some u1/\w2.cell? ⟨b2,2,none⟩=some u2/\w2.cell? ⟨b2,3,none⟩=some u3 :=
 ⟨bk hb h.1,ck hb h.2.1,ck hb h.2.2.1,ck hb h.2.2.2.1,ck hb h.2.2.2.2.1,ck hb h.2.2.2.2.2.1,ck hb h.2.2.2.2.2.2.1,ck hb h.2.2.2.2.2.2.2.1,ck hb h.2.2.2.2.2.2.2.2⟩
def W10 (w:World) (x:Int) (a:Option Addr) (n c:Nat) (y:Int) (b:Option Addr) (m k:Nat) (x':Int) (a':Option Addr) (n' c':Nat) (y':Int) (b':Option Addr) (m' k':Nat) (w1:World):Prop :=
 Below w.heap.size w w1/\RBox w1 (w.heap.size+2)/\w1.cell? ⟨w.heap.size,0,none⟩=some (.int .i64 x)/\w1.cell? ⟨w.heap.size,1,none⟩=some (.slice a n c)/\w1.cell? ⟨w.heap.size,2,none⟩=some (.int .i64 y)/\w1.cell? ⟨w.heap.size,3,none⟩=some (.slice b m k)/\w1.cell? ⟨w.heap.size+1,0,none⟩=some (.int .i64 x')/\w1.cell? ⟨w.heap.size+1,1,none⟩=some (.slice a' n' c')/\w1.cell? ⟨w.heap.size+1,2,none⟩=some (.int .i64 y')/\w1.cell? ⟨w.heap.size+1,3,none⟩=some (.slice b' m' k')
theorem W10.keep {w w1 w2:World}{x y x' y':Int}{a b a' b':Option Addr}{n c m k n' c' m' k':Nat} (hb:Below w1.heap.size w1 w2) (h:W10 w x a n c y b m k x' a' n' c' y' b' m' k' w1):W10 w x a n c y b m k x' a' n' c' y' b' m' k' w2:=by
 obtain ⟨h0,h1,h2,h3,h4,h5,h6,h7,h8,h9⟩:=h
 exact ⟨bk hb h0,h1.later hb,ck hb h2,ck hb h3,ck hb h4,ck hb h5,ck hb h6,ck hb h7,ck hb h8,ck hb h9⟩
theorem W10.start (w:World) (x y x' y':Int) (a b a' b':Option Addr) (n c m k n' c' m' k':Nat) :
 W10 w x a n c y b m k x' a' n' c' y' b' m' k' (((w.alloc (.cells #[.int .i64 x,.slice a n c,.int .i64 y,.slice b m k] 39)).alloc (.cells #[.int .i64 x',.slice a' n' c',.int .i64 y',.slice b' m' k'] 39)).alloc (.cells #[.int .i64 0,.slice none 0 0,.int .i64 0,.slice none 0 0] 39)):=by
 obtain ⟨hB,e0,e1,e2,e3,f0,f1,f2,f3⟩:=two_R w x y x' y' a b a' b' n c m k n' c' m' k'
 have k1:=zqa ((w.alloc (.cells #[.int .i64 x,.slice a n c,.int .i64 y,.slice b m k] 39)).alloc (.cells #[.int .i64 x',.slice a' n' c',.int .i64 y',.slice b' m' k'] 39)) (.cells #[.int .i64 0,.slice none 0 0,.int .i64 0,.slice none 0 0] 39)
 refine ⟨bk k1 hB,?_,ck k1 e0,ck k1 e1,ck k1 e2,ck k1 e3,ck k1 f0,ck k1 f1,ck k1 f2,ck k1 f3⟩
 have:=zkw ((w.alloc (.cells #[.int .i64 x,.slice a n c,.int .i64 y,.slice b m k] 39)).alloc (.cells #[.int .i64 x',.slice a' n' c',.int .i64 y',.slice b' m' k'] 39)) 0 none 0 0 0 none 0 0
 simpa using this
theorem W10.drew {w w1:World}{x y x' y':Int}{a b a' b':Option Addr}{n c m k n' c' m' k':Nat} (h:W10 w x a n c y b m k x' a' n' c' y' b' m' k' w1):W10 w x a n c y b m k x' a' n' c' y' b' m' k' w1.drew:=⟨h.1.drew,h.2⟩
theorem W10.lt {w w1:World}{x y x' y':Int}{a b a' b':Option Addr}{n c m k n' c' m' k':Nat} (h:W10 w x a n c y b m k x' a' n' c' y' b' m' k' w1):w.heap.size+2<w1.heap.size:=h.2.1.lt
theorem W10.store {w w1:World}{x y x' y':Int}{a b a' b':Option Addr}{n c m k n' c' m' k':Nat} (h:W10 w x a n c y b m k x' a' n' c' y' b' m' k' w1) {q:Nat} (hq:w.heap.size+2<q) (u u':Value):W10 w x a n c y b m k x' a' n' c' y' b' m' k' ((w1.setCell ⟨q,0,none⟩ u).setCell ⟨q,1,none⟩ u'):=by
 obtain ⟨h0,⟨r0,r1,r2,r3,r4,r5,r6,r7,hr⟩,h2,h3,h4,h5,h6,h7,h8,h9⟩:=h
 have hc:∀ b o v,b≠q->w1.cell? ⟨b,o,none⟩=some v->((w1.setCell ⟨q,0,none⟩ u).setCell ⟨q,1,none⟩ u').cell? ⟨b,o,none⟩=some v:=fun b o v hb hv=>by
  rw [zqb _ _ _ _ _ _ (by omega),zqb _ _ _ _ _ _ (by omega)];exact hv
 refine ⟨zqc h0 (by omega) _ _,⟨r0,r1,r2,r3,r4,r5,r6,r7,?_⟩,hc _ _ _ (by omega) h2,hc _ _ _ (by omega) h3,hc _ _ _ (by omega) h4,hc _ _ _ (by omega) h5,hc _ _ _ (by omega) h6,hc _ _ _ (by omega) h7,hc _ _ _ (by omega) h8,hc _ _ _ (by omega) h9⟩
 rw [Below.heap_setCell _ _ _ _ (by show w.heap.size+2≠q;omega),Below.heap_setCell _ _ _ _ (by show w.heap.size+2≠q;omega)];exact hr
theorem RBox.beside {w:World}{r q:Nat} (h:RBox w r) (hne:r≠q) (u u':Value):RBox ((w.setCell ⟨q,0,none⟩ u).setCell ⟨q,1,none⟩ u') r:=by
 obtain ⟨r0,r1,r2,r3,r4,r5,r6,r7,hr⟩:=h
 exact ⟨r0,r1,r2,r3,r4,r5,r6,r7,by rw [Below.heap_setCell _ _ _ _ (by exact hne),Below.heap_setCell _ _ _ _ (by exact hne)];exact hr⟩
theorem bx1 {q q':World} (hb:Below (q.alloc (.cells #[.int .i64 0,.slice none 0 0] 37)).heap.size (q.alloc (.cells #[.int .i64 0,.slice none 0 0] 37)) q'):Box q' q.heap.size:=(zqy q).later hb
end Go.Proofs.YtkdobjmhammhbaaGreatDoor
