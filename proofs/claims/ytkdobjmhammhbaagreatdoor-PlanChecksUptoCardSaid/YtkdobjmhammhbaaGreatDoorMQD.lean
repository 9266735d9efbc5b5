import Derived.Test.YtkdobjmhammhbaaGreatDoorMQA
namespace Go.Proofs.YtkdobjmhammhbaaGreatDoor
open Go.RowKit
set_option maxHeartbeats 1000000 in
theorem qsign_any {N:Nat}{v:Value}{p d:Int} (w:World) (h:Rr N w v p d) :
   Calls Tryz.prog 72 #[v] w fun e w'=>e=.returned (.int .i64 (sgn p))∧Below w.heap.size w w':=by
 obtain ⟨x,a,n,c,y,b,m,k,e,rfl,h2,h3,d0,hg,hd⟩:=h
 have hst:=R1.start w x y a b n c m k
 go_enter Tryz.func72,Tryz.ntmps72
 go_wp2_with fail
 go_fit (sign_zr _ (h2.later hst.below))
 rintro e W1 ⟨rfl,hb1⟩
 have hB:=bk hb1 hst.below
 go_wp2
 go_ret
 exact ⟨rfl,hB⟩
structure RZ (w:World) (x:Int) (a:Option Addr) (n c:Nat) (y:Int) (b:Option Addr) (m k:Nat) (wr:World):Prop where
 below:Below w.heap.size w wr
 box:Box wr (w.heap.size+1)
 c0:wr.cell? ⟨w.heap.size,0,none⟩=some (.int .i64 x)
 c1:wr.cell? ⟨w.heap.size,1,none⟩=some (.slice a n c)
 c2:wr.cell? ⟨w.heap.size,2,none⟩=some (.int .i64 y)
 c3:wr.cell? ⟨w.heap.size,3,none⟩=some (.slice b m k)
theorem RZ.keep {w wr w1:World}{x y:Int}{a b:Option Addr}{n c m k:Nat} (h:RZ w x a n c y b m k wr) (hb:Below wr.heap.size wr w1):RZ w x a n c y b m k w1 :=
 ⟨bk hb h.below,h.box.later hb,ck hb h.c0,ck hb h.c1,ck hb h.c2,ck hb h.c3⟩
theorem RZ.start (w:World) (x y:Int) (a b:Option Addr) (n c m k:Nat):RZ w x a n c y b m k ((w.alloc (.cells #[.int .i64 x,.slice a n c,.int .i64 y,.slice b m k] 39)).alloc (.cells #[.int .i64 0,.slice none 0 0] 37)):=by
 have h:=R1.start w x y a b n c m k
 have k1:=zqa (w.alloc (.cells #[.int .i64 x,.slice a n c,.int .i64 y,.slice b m k] 39)) (.cells #[.int .i64 0,.slice none 0 0] 37)
 refine ⟨bk k1 h.below,?_,ck k1 h.c0,ck k1 h.c1,ck k1 h.c2,ck k1 h.c3⟩
 have:=zxc (w.alloc (.cells #[.int .i64 x,.slice a n c,.int .i64 y,.slice b m k] 39))
 simpa using this
theorem RZ.lt {w wr:World}{x y:Int}{a b:Option Addr}{n c m k:Nat} (h:RZ w x a n c y b m k wr):w.heap.size+1<wr.heap.size:=by
 obtain ⟨x,a,n,c,h⟩:=h.box
 exact (Array.getElem?_eq_some_iff.1 h).1
set_option maxHeartbeats 1000000 in
theorem num_any {N:Nat}{v:Value}{p d:Int} (w:World) (h:Rr N w v p d) :
   Calls Tryz.prog 160 #[v] w fun e w'=>(∃ v,e=.returned v∧Zr N w' v p)∧Below w.heap.size w w':=by
 obtain ⟨x,a,n,c,y,b,m,k,e,rfl,h2,h3,d0,hg,hd⟩:=h
 go_enter Tryz.func160,Tryz.ntmps160
 go_wp2
 exact bodyPost_ret (v:=.agg #[.int .i64 x,.slice a n c]) (by simp [results,Tryz.results160,go_sem]) rfl ⟨⟨_,rfl,h2.later (zqg w _ _)⟩,zqg w _ _⟩
set_option maxHeartbeats 1000000 in
theorem den_any {N:Nat}{v:Value}{p d:Int} (w:World) (h:Rr N w v p d) :
   Calls Tryz.prog 104 #[v] w fun e w'=>(∃ v,e=.returned v∧Zr N w' v d)∧Below w.heap.size w w':=by
 have h':=h
 obtain ⟨x,a,n,c,y,b,m,k,e,rfl,h2,h3,d0,hg,hd⟩:=h
 have hst:=RZ.start w x y a b n c m k
 go_enter Tryz.func104,Tryz.ntmps104
 go_wp2_with fail
 obtain ⟨W0,hW0⟩:∃ W0,W0=(w.alloc (.cells #[.int .i64 x,.slice a n c,.int .i64 y,.slice b m k] 39)).alloc (.cells #[.int .i64 0,.slice none 0 0] 37):=⟨_,rfl⟩
 rw [← hW0] at hst ⊢
 clear hW0
 go_fit (zko _ (h'.later hst.below))
 rintro e W1 ⟨rfl,hb1⟩
 have hst:=hst.keep hb1
 clear hb1 h'
 by_cases h1:d=1
 · subst h1
   go_wp2_with fail
   go_fit (of_any 1 _)
   rintro e W2 ⟨rfl,hb2⟩
   have hst:=hst.keep hb2
   obtain ⟨⟨x0,g0⟩,⟨a0,n0,c0,g1⟩,gf⟩:=hst.box.cells
   have hlt:=hst.lt
   clear hb2
   go_wp2
   obtain ⟨st0,st1⟩:=hst.box.stored (.int .i64 1) (.slice none 0 0)
   exact bodyPost_ret (v:=.agg #[.int .i64 1,.slice none 0 0]) (by simp [results,Tryz.results104,go_sem,st0,st1]) rfl ⟨⟨_,rfl,Zr.near _ (by decide) (by decide)⟩,zqc hst.below (by omega) _ _⟩
 · have he:e=d:=by omega
   subst he
   have e3:=hst.c2
   have e4:=hst.c3
   obtain ⟨⟨x0,g0⟩,⟨a0,n0,c0,g1⟩,gf⟩:=hst.box.cells
   have hlt:=hst.lt
   go_wp2
   obtain ⟨st0,st1⟩:=hst.box.stored (.int .i64 y) (.slice b m k)
   exact bodyPost_ret (v:=.agg #[.int .i64 y,.slice b m k]) (by simp [results,Tryz.results104,go_sem,st0,st1]) rfl ⟨⟨_,rfl,(h3.later hst.below).stored hst.box _ _⟩,zqc hst.below (by omega) _ _⟩
structure RR (w:World) (x:Int) (a:Option Addr) (n c:Nat) (y:Int) (b:Option Addr) (m k:Nat) (wr:World):Prop where
 below:Below w.heap.size w wr
 box:RBox wr (w.heap.size+1)
 c0:wr.cell? ⟨w.heap.size,0,none⟩=some (.int .i64 x)
 c1:wr.cell? ⟨w.heap.size,1,none⟩=some (.slice a n c)
 c2:wr.cell? ⟨w.heap.size,2,none⟩=some (.int .i64 y)
 c3:wr.cell? ⟨w.heap.size,3,none⟩=some (.slice b m k)
theorem RR.keep {w wr w1:World}{x y:Int}{a b:Option Addr}{n c m k:Nat} (h:RR w x a n c y b m k wr) (hb:Below wr.heap.size wr w1):RR w x a n c y b m k w1 :=
 ⟨bk hb h.below,h.box.later hb,ck hb h.c0,ck hb h.c1,ck hb h.c2,ck hb h.c3⟩
theorem RR.start (w:World) (x y:Int) (a b:Option Addr) (n c m k:Nat):RR w x a n c y b m k ((w.alloc (.cells #[.int .i64 x,.slice a n c,.int .i64 y,.slice b m k] 39)).alloc (.cells #[.int .i64 0,.slice none 0 0,.int .i64 0,.slice none 0 0] 39)):=by
 have h:=R1.start w x y a b n c m k
 have k1:=zqa (w.alloc (.cells #[.int .i64 x,.slice a n c,.int .i64 y,.slice b m k] 39)) (.cells #[.int .i64 0,.slice none 0 0,.int .i64 0,.slice none 0 0] 39)
 refine ⟨bk k1 h.below,?_,ck k1 h.c0,ck k1 h.c1,ck k1 h.c2,ck k1 h.c3⟩
 have:=zjc (w.alloc (.cells #[.int .i64 x,.slice a n c,.int .i64 y,.slice b m k] 39)) 0 none 0 0 0 none 0 0
 simpa using this
theorem keepR4 {w w1 w2:World}{r b:Nat}{v0 v1 v2 v3:Value} (hb:Below w1.heap.size w1 w2) (h:Below w.heap.size w w1∧RBox w1 r∧w1.cell? ⟨b,0,none⟩=some v0∧w1.cell? ⟨b,1,none⟩=some v1∧w1.cell? ⟨b,2,none⟩=some v2∧w1.cell? ⟨b,3,none⟩=some v3):Below w.heap.size w w2∧RBox w2 r∧w2.cell? ⟨b,0,none⟩=some v0∧w2.cell? ⟨b,1,none⟩=some v1∧w2.cell? ⟨b,2,none⟩=some v2∧w2.cell? ⟨b,3,none⟩=some v3 :=
 ⟨bk hb h.1,h.2.1.later hb,ck hb h.2.2.1,ck hb h.2.2.2.1,ck hb h.2.2.2.2.1,ck hb h.2.2.2.2.2⟩
theorem storeR4 {w w1:World}{r b:Nat}{v0 v1 v2 v3:Value}{x y:Int}{a1 a2:Option Addr}{n c m k:Nat} (h:Below w.heap.size w w1∧RBox w1 r∧w1.cell? ⟨b,0,none⟩=some v0∧w1.cell? ⟨b,1,none⟩=some v1∧w1.cell? ⟨b,2,none⟩=some v2∧w1.cell? ⟨b,3,none⟩=some v3) (hr:w.heap.size≤r) (hb:b≠r) :
   let w2:=(((w1.setCell ⟨r,0,none⟩ (.int .i64 x)).setCell ⟨r,1,none⟩ (.slice a1 n c)).setCell ⟨r,2,none⟩ (.int .i64 y)).setCell ⟨r,3,none⟩ (.slice a2 m k)
   Below w.heap.size w w2∧RBox w2 r∧w2.cell? ⟨b,0,none⟩=some v0∧w2.cell? ⟨b,1,none⟩=some v1∧w2.cell? ⟨b,2,none⟩=some v2∧w2.cell? ⟨b,3,none⟩=some v3:=by
 intro w2
 obtain ⟨k1,k2,k3,k4,k5,k6⟩:=h
 have hc:∀ o v,w1.cell? ⟨b,o,none⟩=some v→w2.cell? ⟨b,o,none⟩=some v:=fun o v hv=>by
   show (World.setCell _ _ _).cell? _=_
   rw [zqb _ _ _ _ _ _ (by omega),zqb _ _ _ _ _ _ (by omega),zqb _ _ _ _ _ _ (by omega),zqb _ _ _ _ _ _ (by omega)]
   exact hv
 exact ⟨zqf k1 hr _ _ _ _,k2.stored' _ _ _ _ _ _ _ _,hc _ _ k3,hc _ _ k4,hc _ _ k5,hc _ _ k6⟩
set_option maxHeartbeats 2000000 in
theorem qneg_any {N:Nat}{v:Value}{p d:Int} (w:World) (h:Rr (N+1) w v p d) :
   Calls Tryz.prog 69 #[v] w fun e w'=>(∃ v,e=.returned v∧Rr (N+1) w' v (-p) d)∧Below w.heap.size w w':=by
 obtain ⟨x,a,n,c,y,b,m,k,e,rfl,h2,h3,d0,hg,hd⟩:=h
 have hst:=RR.start w x y a b n c m k
 have hg':Int.gcd (-p) d=1:=by rw [Int.neg_gcd];exact hg
 have HD:=qh hd
 clear hd hg
 go_enter Tryz.func69,Tryz.ntmps69
 go_wp2_with fail
 obtain ⟨W0,hW0⟩:∃ W0,W0=(w.alloc (.cells #[.int .i64 x,.slice a n c,.int .i64 y,.slice b m k] 39)).alloc (.cells #[.int .i64 0,.slice none 0 0,.int .i64 0,.slice none 0 0] 39):=⟨_,rfl⟩
 rw [← hW0] at hst ⊢
 clear hW0
 have hB:=hst.below
 have hr:=hst.box
 have e0:=hst.c0
 have e1:=hst.c1
 have e2:=hst.c2
 have e3:=hst.c3
 go_region_held3 (fun w'=>Below w.heap.size w w'∧RBox w' (w.heap.size+1)∧w'.cell? ⟨w.heap.size,0,none⟩=some (.int .i64 x)∧w'.cell? ⟨w.heap.size,1,none⟩=some (.slice a n c)∧w'.cell? ⟨w.heap.size,2,none⟩=some (.int .i64 y)∧w'.cell? ⟨w.heap.size,3,none⟩=some (.slice b m k))
   (first | exact ⟨hB.drew,hr,e0,e1,e2,e3⟩ | exact keepR4 (by assumption) (by assumption) | exact storeR4 (by assumption) (by omega) (by omega))
   (first | (go_at_call 134;go_fit (neg_any (N:=N) _ (h2.later (And.left (by assumption))));rintro e q1 ⟨⟨v1,rfl,hN1⟩,hb1⟩;obtain ⟨x1,a1,n1,c1,rfl⟩:=hN1.shape;have hbx:=hr.later (w:=W0.drew) hb1;obtain ⟨⟨f0,g0⟩,⟨f1,f2,f3,g1⟩,⟨f4,g2⟩,⟨f5,f6,f7,g3⟩,gf⟩:=hbx.cells;have hlt:=hbx.lt))
 have hbx:=hr.later (w:=W0.drew) hb1
 have hB1:=bk hb1 hB.drew
 clear hst
 go_wp2
 obtain ⟨st0,st1,st2,st3⟩:=hbx.stored (.int .i64 x1) (.slice a1 n1 c1) (.int .i64 y) (.slice b m k)
 exact bodyPost_ret (v:=.agg #[.int .i64 x1,.slice a1 n1 c1,.int .i64 y,.slice b m k]) (by simp [results,Tryz.results69,go_sem,st0,st1,st2,st3]) rfl ⟨⟨_,rfl,_,_,_,_,_,_,_,_,e,rfl,hN1.rstored hbx _ _ _ _,(h3.later hB1).rstored hbx _ _ _ _,d0,hg',uh HD⟩,zqf hB1 (by omega) _ _ _ _⟩
structure RZZ (w:World) (x:Int) (a:Option Addr) (n c:Nat) (y:Int) (b:Option Addr) (m k:Nat) (u:Int) (a':Option Addr) (n' c':Nat) (wr:World):Prop where
 below:Below w.heap.size w wr
 box:Box wr (w.heap.size+2)
 c0:wr.cell? ⟨w.heap.size,0,none⟩=some (.int .i64 x)
 c1:wr.cell? ⟨w.heap.size,1,none⟩=some (.slice a n c)
 c2:wr.cell? ⟨w.heap.size,2,none⟩=some (.int .i64 y)
 c3:wr.cell? ⟨w.heap.size,3,none⟩=some (.slice b m k)
 d0:wr.cell? ⟨w.heap.size+1,0,none⟩=some (.int .i64 u)
 d1:wr.cell? ⟨w.heap.size+1,1,none⟩=some (.slice a' n' c')
theorem RZZ.keep {w wr w1:World}{x y u:Int}{a b a':Option Addr}{n c m k n' c':Nat} (h:RZZ w x a n c y b m k u a' n' c' wr) (hb:Below wr.heap.size wr w1):RZZ w x a n c y b m k u a' n' c' w1 :=
 ⟨bk hb h.below,h.box.later hb,ck hb h.c0,ck hb h.c1,ck hb h.c2,ck hb h.c3,ck hb h.d0,ck hb h.d1⟩
theorem RZZ.start (w:World) (x y u:Int) (a b a':Option Addr) (n c m k n' c':Nat):RZZ w x a n c y b m k u a' n' c' (((w.alloc (.cells #[.int .i64 x,.slice a n c,.int .i64 y,.slice b m k] 39)).alloc (.cells #[.int .i64 u,.slice a' n' c'] 37)).alloc (.cells #[.int .i64 0,.slice none 0 0] 37)):=by
 have h:=R1.start w x y a b n c m k
 have k1:=zqg (w.alloc (.cells #[.int .i64 x,.slice a n c,.int .i64 y,.slice b m k] 39)) (.cells #[.int .i64 u,.slice a' n' c'] 37) (.cells #[.int .i64 0,.slice none 0 0] 37)
 have k2:=zqa ((w.alloc (.cells #[.int .i64 x,.slice a n c,.int .i64 y,.slice b m k] 39)).alloc (.cells #[.int .i64 u,.slice a' n' c'] 37)) (.cells #[.int .i64 0,.slice none 0 0] 37)
 refine ⟨bk k1 h.below,?_,ck k1 h.c0,ck k1 h.c1,ck k1 h.c2,ck k1 h.c3,ck k2 ?_,ck k2 ?_⟩
 · have:=zxc ((w.alloc (.cells #[.int .i64 x,.slice a n c,.int .i64 y,.slice b m k] 39)).alloc (.cells #[.int .i64 u,.slice a' n' c'] 37))
   simpa using this
 · rw [zqe (by simp)];rfl
 · rw [zqe (by simp)];rfl
theorem RZZ.lt {w wr:World}{x y u:Int}{a b a':Option Addr}{n c m k n' c':Nat} (h:RZZ w x a n c y b m k u a' n' c' wr):w.heap.size+2<wr.heap.size:=by
 obtain ⟨x,a,n,c,h⟩:=h.box
 exact (Array.getElem?_eq_some_iff.1 h).1
set_option maxHeartbeats 2000000 in
theorem qtimes_any {N:Nat}{v u:Value}{p d e' D:Int} (w:World) (h:Rr (N+1) w v p d) (hu:Zr (N+1) w u e') (hD:(D=1∧e'=0)∨(1<D∧e'=D)) (hN:N≤400000) :
   Calls Tryz.prog 78 #[v,u] w fun e w'=>(∃ v,e=.returned v∧Zr (N+1+(N+1)) w' v (p*D))∧Below w.heap.size w w':=by
 obtain ⟨x,a,n,c,y,b,m,k,e,rfl,h2,h3,d0,hg,hd⟩:=h
 obtain ⟨u',a',n',c',rfl⟩:=hu.shape
 have hst:=RZZ.start w x y u' a b a' n c m k n' c'
 go_enter Tryz.func78,Tryz.ntmps78
 go_wp2_with fail
 obtain ⟨W0,hW0⟩:∃ W0,W0=((w.alloc (.cells #[.int .i64 x,.slice a n c,.int .i64 y,.slice b m k] 39)).alloc (.cells #[.int .i64 u',.slice a' n' c'] 37)).alloc (.cells #[.int .i64 0,.slice none 0 0] 37):=⟨_,rfl⟩
 rw [← hW0] at hst ⊢
 clear hW0
 go_fit (sign_zr _ (hu.later hst.below))
 rintro e W1 ⟨rfl,hb1⟩
 have hst:=hst.keep hb1
 clear hb1
 have e0:=hst.c0
 have e1:=hst.c1
 have e2:=hst.d0
 have e3:=hst.d1
 rcases hD with ⟨rfl,he⟩ | ⟨hD,he⟩
 · rw [zxe he]
   obtain ⟨⟨x0,g0⟩,⟨a0,n0,c0,g1⟩,gf⟩:=hst.box.cells
   have hlt:=hst.lt
   go_wp2
   obtain ⟨st0,st1⟩:=hst.box.stored (.int .i64 x) (.slice a n c)
   exact bodyPost_ret (v:=.agg #[.int .i64 x,.slice a n c]) (by simp [results,Tryz.results78,go_sem,st0,st1]) rfl ⟨⟨_,rfl,(((h2.later hst.below).stored hst.box _ _).mono (by omega)).eq (by omega)⟩,zqc hst.below (by omega) _ _⟩
 · subst he
   rw [zqk (show 0<e' by omega)]
   go_wp2_with fail
   go_fit (zkm (N:=N) _ (h2.later hst.below) (hu.later hst.below) hN)
   rintro e W2 ⟨⟨v2,rfl,hZ2⟩,hb2⟩
   obtain ⟨x2,a2,n2,c2,rfl⟩:=hZ2.shape
   have hst:=hst.keep hb2
   obtain ⟨⟨x0,g0⟩,⟨a0,n0,c0,g1⟩,gf⟩:=hst.box.cells
   have hlt:=hst.lt
   clear hb2 e0 e1 e2 e3
   go_wp2
   obtain ⟨st0,st1⟩:=hst.box.stored (.int .i64 x2) (.slice a2 n2 c2)
   exact bodyPost_ret (v:=.agg #[.int .i64 x2,.slice a2 n2 c2]) (by simp [results,Tryz.results78,go_sem,st0,st1]) rfl ⟨⟨_,rfl,hZ2.stored hst.box _ _⟩,zqc hst.below (by omega) _ _⟩
theorem cmp_signs {p d p' d':Int} (d0:0<d) (d0':0<d') (h:sgn p≠sgn p'):sgn (sgn p - sgn p')=sgn (p*d' - p'*d):=by
 have key:∀ {p d:Int},0<d→(p<0→p*d<0)∧(p=0→p*d=0)∧(0<p→0<p*d):=fun {p d} hd=>⟨fun h=>Int.mul_neg_of_neg_of_pos h hd,fun h=>by rw [h,Int.zero_mul],fun h=>Int.mul_pos h hd⟩
 obtain ⟨k1,k2,k3⟩:=key (p:=p) d0'
 obtain ⟨k4,k5,k6⟩:=key (p:=p') d0
 rcases zqo p with ⟨a,b,c⟩ | ⟨a,b,c⟩ | ⟨a,b,c⟩ <;> rcases zqo p' with ⟨a',b',c'⟩ | ⟨a',b',c'⟩ | ⟨a',b',c'⟩ <;> rw [b,b'] at h ⊢
 · exact absurd rfl h
 · have:=k1 a;have:=k5 a';rw [zql (by omega),zql (by omega)]
 · have:=k1 a;have:=k6 a';rw [zql (by omega),zql (by omega)]
 · have:=k2 a;have:=k4 a';rw [zqk (by omega),zqk (by omega)]
 · exact absurd rfl h
 · have:=k2 a;have:=k6 a';rw [zql (by omega),zql (by omega)]
 · have:=k3 a;have:=k4 a';rw [zqk (by omega),zqk (by omega)]
 · have:=k3 a;have:=k5 a';rw [zqk (by omega),zqk (by omega)]
 · exact absurd rfl h
theorem two_R (w:World) (x y x' y':Int) (a b a' b':Option Addr) (n c m k n' c' m' k':Nat) :
   let W:=(w.alloc (.cells #[.int .i64 x,.slice a n c,.int .i64 y,.slice b m k] 39)).alloc (.cells #[.int .i64 x',.slice a' n' c',.int .i64 y',.slice b' m' k'] 39)
   Below w.heap.size w W∧W.cell? ⟨w.heap.size,0,none⟩=some (.int .i64 x)∧W.cell? ⟨w.heap.size,1,none⟩=some (.slice a n c)∧W.cell? ⟨w.heap.size,2,none⟩=some (.int .i64 y)∧W.cell? ⟨w.heap.size,3,none⟩=some (.slice b m k)∧W.cell? ⟨w.heap.size+1,0,none⟩=some (.int .i64 x')∧W.cell? ⟨w.heap.size+1,1,none⟩=some (.slice a' n' c')∧W.cell? ⟨w.heap.size+1,2,none⟩=some (.int .i64 y')∧W.cell? ⟨w.heap.size+1,3,none⟩=some (.slice b' m' k'):=by
 intro W
 have h:=R1.start w x y a b n c m k
 have k1:=zqa (w.alloc (.cells #[.int .i64 x,.slice a n c,.int .i64 y,.slice b m k] 39)) (.cells #[.int .i64 x',.slice a' n' c',.int .i64 y',.slice b' m' k'] 39)
 refine ⟨bk k1 h.below,ck k1 h.c0,ck k1 h.c1,ck k1 h.c2,ck k1 h.c3,?_,?_,?_,?_⟩ <;> (show (World.alloc _ _).cell? _=_;rw [zqe (by simp)];rfl)
theorem keepW8 {w w1 w2:World}{b1 b2:Nat}{v0 v1 v2 v3 u0 u1 u2 u3:Value} (hb:Below w1.heap.size w1 w2) (h:Below w.heap.size w w1∧w1.cell? ⟨b1,0,none⟩=some v0∧w1.cell? ⟨b1,1,none⟩=some v1∧w1.cell? ⟨b1,2,none⟩=some v2∧w1.cell? ⟨b1,3,none⟩=some v3∧w1.cell? ⟨b2,0,none⟩=some u0∧w1.cell? ⟨b2,1,none⟩=some u1∧w1.cell? ⟨b2,2,none⟩=some u2∧w1.cell? ⟨b2,3,none⟩=some u3) :
   Below w.heap.size w w2∧w2.cell? ⟨b1,0,none⟩=some v0∧w2.cell? ⟨b1,1,none⟩=some v1∧w2.cell? ⟨b1,2,none⟩=some v2∧w2.cell? ⟨b1,3,none⟩=some v3∧w2.cell? ⟨b2,0,none⟩=some u0∧w2.cell? ⟨b2,1,none⟩=some u1∧w2.cell? ⟨b2,2,none⟩=some u2∧w2.cell? ⟨b2,3,none⟩=some u3 :=
 ⟨bk hb h.1,ck hb h.2.1,ck hb h.2.2.1,ck hb h.2.2.2.1,ck hb h.2.2.2.2.1,ck hb h.2.2.2.2.2.1,ck hb h.2.2.2.2.2.2.1,ck hb h.2.2.2.2.2.2.2.1,ck hb h.2.2.2.2.2.2.2.2⟩
set_option maxHeartbeats 4000000 in
set_option maxRecDepth 8000 in
theorem qcmp_any {N:Nat}{v v':Value}{p d p' d':Int} (w:World) (h:Rr (N+1) w v p d) (h':Rr (N+1) w v' p' d') (hN:N≤100000) :
   Calls Tryz.prog 34 #[v,v'] w fun e w'=>e=.returned (.int .i64 (sgn (p*d' - p'*d)))∧Below w.heap.size w w':=by
 have h0:=h
 have h0':=h'
 obtain ⟨x,a,n,c,y,b,m,k,e,rfl,h2,h3,d0,hg,hd⟩:=h
 obtain ⟨x',a',n',c',y',b',m',k',e',rfl,h2',h3',d0',hg',hd'⟩:=h'
 obtain ⟨hB,e0,e1,e2,e3,f0,f1,f2,f3⟩:=two_R w x y x' y' a b a' b' n c m k n' c' m' k'
 have hs:-1≤sgn p∧sgn p≤1:=by rcases zqo p with ⟨a,b,c⟩ | ⟨a,b,c⟩ | ⟨a,b,c⟩ <;> omega
 have hs':-1≤sgn p'∧sgn p'≤1:=by rcases zqo p' with ⟨a,b,c⟩ | ⟨a,b,c⟩ | ⟨a,b,c⟩ <;> omega
 go_enter Tryz.func34,Tryz.ntmps34
 go_wp2_with fail
 obtain ⟨W0,hW0⟩:∃ W0,W0=(w.alloc (.cells #[.int .i64 x,.slice a n c,.int .i64 y,.slice b m k] 39)).alloc (.cells #[.int .i64 x',.slice a' n' c',.int .i64 y',.slice b' m' k'] 39):=⟨_,rfl⟩
 rw [← hW0] at hB e0 e1 e2 e3 f0 f1 f2 f3 ⊢
 clear hW0
 have tok1:True:=trivial
 go_region_held3 (fun w'=>Below w.heap.size w w'∧w'.cell? ⟨w.heap.size,0,none⟩=some (.int .i64 x)∧w'.cell? ⟨w.heap.size,1,none⟩=some (.slice a n c)∧w'.cell? ⟨w.heap.size,2,none⟩=some (.int .i64 y)∧w'.cell? ⟨w.heap.size,3,none⟩=some (.slice b m k)∧w'.cell? ⟨w.heap.size+1,0,none⟩=some (.int .i64 x')∧w'.cell? ⟨w.heap.size+1,1,none⟩=some (.slice a' n' c')∧w'.cell? ⟨w.heap.size+1,2,none⟩=some (.int .i64 y')∧w'.cell? ⟨w.heap.size+1,3,none⟩=some (.slice b' m' k'))
   (first | exact ⟨hB.drew,e0,e1,e2,e3,f0,f1,f2,f3⟩ | exact keepW8 (by assumption) (by assumption))
   (first | (go_at_call 72;have _t:=tok1;go_fit (qsign_any _ (h0.later (And.left (by assumption))));rintro e q1 ⟨rfl,hb1⟩;clear tok1) | (go_at_call 72;go_fit (qsign_any _ (h0'.later (And.left (by assumption))));rintro e q2 ⟨rfl,hb2⟩))
 have hS2:Below w.heap.size w q2∧q2.cell? ⟨w.heap.size,0,none⟩=some (.int .i64 x)∧q2.cell? ⟨w.heap.size,1,none⟩=some (.slice a n c)∧q2.cell? ⟨w.heap.size,2,none⟩=some (.int .i64 y)∧q2.cell? ⟨w.heap.size,3,none⟩=some (.slice b m k)∧q2.cell? ⟨w.heap.size+1,0,none⟩=some (.int .i64 x')∧q2.cell? ⟨w.heap.size+1,1,none⟩=some (.slice a' n' c')∧q2.cell? ⟨w.heap.size+1,2,none⟩=some (.int .i64 y')∧q2.cell? ⟨w.heap.size+1,3,none⟩=some (.slice b' m' k'):=keepW8 hb2 (keepW8 hb1 ⟨hB.drew,e0,e1,e2,e3,f0,f1,f2,f3⟩)
 clear hB e0 e1 e2 e3 f0 f1 f2 f3 hb1 hb2
 obtain ⟨hB,e0,e1,e2,e3,f0,f1,f2,f3⟩:=hS2
 by_cases hsg:sgn p=sgn p'
 · have hsn:(sgn p != sgn p')=false:=by simpa using hsg
   have HD:=qh hd
   have HD':=qh hd'
   have tok2:True:=trivial
   clear hd hd' hsg
   go_wp2_with fail
   go_region_held3 (fun w'=>Below w.heap.size w w'∧w'.cell? ⟨w.heap.size,0,none⟩=some (.int .i64 x)∧w'.cell? ⟨w.heap.size,1,none⟩=some (.slice a n c)∧w'.cell? ⟨w.heap.size,2,none⟩=some (.int .i64 y)∧w'.cell? ⟨w.heap.size,3,none⟩=some (.slice b m k)∧w'.cell? ⟨w.heap.size+1,0,none⟩=some (.int .i64 x')∧w'.cell? ⟨w.heap.size+1,1,none⟩=some (.slice a' n' c')∧w'.cell? ⟨w.heap.size+1,2,none⟩=some (.int .i64 y')∧w'.cell? ⟨w.heap.size+1,3,none⟩=some (.slice b' m' k'))
     (first | exact ⟨hB.drew,e0,e1,e2,e3,f0,f1,f2,f3⟩ | exact keepW8 (by assumption) (by assumption))
     (first | (go_at_call 78;have _t:=tok2;go_fit (qtimes_any (N:=N) (D:=d') _ (h0.later (And.left (by assumption))) (h3'.later (And.left (by assumption))) (uh HD') (by omega));rintro e q3 ⟨⟨v3,rfl,hZ3⟩,hb3⟩;clear tok2;obtain ⟨j1,j2,j3,j4,rfl⟩:=hZ3.shape) | (go_at_call 78;go_fit (qtimes_any (N:=N) (D:=d) _ (h0'.later (And.left (by assumption))) (h3.later (And.left (by assumption))) (uh HD) (by omega));rintro e q4 ⟨⟨v4,rfl,hZ4⟩,hb4⟩;obtain ⟨l1,l2,l3,l4,rfl⟩:=hZ4.shape) | (go_at_call 79;go_fit (cmp_any (N:=N+1+N) _ (hZ3.later hb4) hZ4 (by omega));rintro e q5 ⟨rfl,hb5⟩))
   have hBf:=bk hb5 (bk hb4 (bk hb3 hB.drew))
   go_wp2
   go_ret
   exact ⟨rfl,hBf⟩
 · have hsn:(sgn p != sgn p')=true:=by simpa using hsg
   have HCS:=qh (cmp_signs d0 d0' hsg)
   have tok2:True:=trivial
   go_wp2_with fail
   go_region_held3 (fun w'=>Below w.heap.size w w'∧w'.cell? ⟨w.heap.size,0,none⟩=some (.int .i64 x)∧w'.cell? ⟨w.heap.size,1,none⟩=some (.slice a n c)∧w'.cell? ⟨w.heap.size,2,none⟩=some (.int .i64 y)∧w'.cell? ⟨w.heap.size,3,none⟩=some (.slice b m k)∧w'.cell? ⟨w.heap.size+1,0,none⟩=some (.int .i64 x')∧w'.cell? ⟨w.heap.size+1,1,none⟩=some (.slice a' n' c')∧w'.cell? ⟨w.heap.size+1,2,none⟩=some (.int .i64 y')∧w'.cell? ⟨w.heap.size+1,3,none⟩=some (.slice b' m' k'))
     (first | exact ⟨hB.drew,e0,e1,e2,e3,f0,f1,f2,f3⟩ | exact keepW8 (by assumption) (by assumption) | assumption)
     (first | (go_at_call 72;have _t:=tok2;go_fit (qsign_any _ (h0.later (And.left (by assumption))));rintro e q3 ⟨rfl,hb3⟩;clear tok2) | (go_at_call 72;go_fit (qsign_any _ (h0'.later (And.left (by assumption))));rintro e q4 ⟨rfl,hb4⟩) | (go_at_call 77;go_fit (cmp_int _ _ _);rintro e q5 ⟨rfl,rfl⟩))
   have hBf:=bk hb4 (bk hb3 hB.drew)
   go_wp2
   go_ret
   exact ⟨zqx (uh HCS),hBf⟩
def W10 (w:World) (x:Int) (a:Option Addr) (n c:Nat) (y:Int) (b:Option Addr) (m k:Nat) (x':Int) (a':Option Addr) (n' c':Nat) (y':Int) (b':Option Addr) (m' k':Nat) (w1:World):Prop :=
 Below w.heap.size w w1∧RBox w1 (w.heap.size+2)∧w1.cell? ⟨w.heap.size,0,none⟩=some (.int .i64 x)∧w1.cell? ⟨w.heap.size,1,none⟩=some (.slice a n c)∧w1.cell? ⟨w.heap.size,2,none⟩=some (.int .i64 y)∧w1.cell? ⟨w.heap.size,3,none⟩=some (.slice b m k)∧w1.cell? ⟨w.heap.size+1,0,none⟩=some (.int .i64 x')∧w1.cell? ⟨w.heap.size+1,1,none⟩=some (.slice a' n' c')∧w1.cell? ⟨w.heap.size+1,2,none⟩=some (.int .i64 y')∧w1.cell? ⟨w.heap.size+1,3,none⟩=some (.slice b' m' k')
theorem W10.keep {w w1 w2:World}{x y x' y':Int}{a b a' b':Option Addr}{n c m k n' c' m' k':Nat} (hb:Below w1.heap.size w1 w2) (h:W10 w x a n c y b m k x' a' n' c' y' b' m' k' w1):W10 w x a n c y b m k x' a' n' c' y' b' m' k' w2:=by
 obtain ⟨h0,h1,h2,h3,h4,h5,h6,h7,h8,h9⟩:=h
 exact ⟨bk hb h0,h1.later hb,ck hb h2,ck hb h3,ck hb h4,ck hb h5,ck hb h6,ck hb h7,ck hb h8,ck hb h9⟩
theorem W10.start (w:World) (x y x' y':Int) (a b a' b':Option Addr) (n c m k n' c' m' k':Nat) :
   W10 w x a n c y b m k x' a' n' c' y' b' m' k' (((w.alloc (.cells #[.int .i64 x,.slice a n c,.int .i64 y,.slice b m k] 39)).alloc (.cells #[.int .i64 x',.slice a' n' c',.int .i64 y',.slice b' m' k'] 39)).alloc (.cells #[.int .i64 0,.slice none 0 0,.int .i64 0,.slice none 0 0] 39)):=by
 obtain ⟨hB,e0,e1,e2,e3,f0,f1,f2,f3⟩:=two_R w x y x' y' a b a' b' n c m k n' c' m' k'
 have k1:=zqa ((w.alloc (.cells #[.int .i64 x,.slice a n c,.int .i64 y,.slice b m k] 39)).alloc (.cells #[.int .i64 x',.slice a' n' c',.int .i64 y',.slice b' m' k'] 39)) (.cells #[.int .i64 0,.slice none 0 0,.int .i64 0,.slice none 0 0] 39)
 refine ⟨bk k1 hB,?_,ck k1 e0,ck k1 e1,ck k1 e2,ck k1 e3,ck k1 f0,ck k1 f1,ck k1 f2,ck k1 f3⟩
 have:=zjc ((w.alloc (.cells #[.int .i64 x,.slice a n c,.int .i64 y,.slice b m k] 39)).alloc (.cells #[.int .i64 x',.slice a' n' c',.int .i64 y',.slice b' m' k'] 39)) 0 none 0 0 0 none 0 0
 simpa using this
theorem W10.drew {w w1:World}{x y x' y':Int}{a b a' b':Option Addr}{n c m k n' c' m' k':Nat} (h:W10 w x a n c y b m k x' a' n' c' y' b' m' k' w1):W10 w x a n c y b m k x' a' n' c' y' b' m' k' w1.drew:=⟨h.1.drew,h.2⟩
theorem W10.lt {w w1:World}{x y x' y':Int}{a b a' b':Option Addr}{n c m k n' c' m' k':Nat} (h:W10 w x a n c y b m k x' a' n' c' y' b' m' k' w1):w.heap.size+2<w1.heap.size:=h.2.1.lt
theorem W10.store {w w1:World}{x y x' y':Int}{a b a' b':Option Addr}{n c m k n' c' m' k':Nat} (h:W10 w x a n c y b m k x' a' n' c' y' b' m' k' w1) {q:Nat} (hq:w.heap.size+2<q) (u u':Value):W10 w x a n c y b m k x' a' n' c' y' b' m' k' ((w1.setCell ⟨q,0,none⟩ u).setCell ⟨q,1,none⟩ u'):=by
 obtain ⟨h0,⟨r0,r1,r2,r3,r4,r5,r6,r7,hr⟩,h2,h3,h4,h5,h6,h7,h8,h9⟩:=h
 have hc:∀ b o v,b≠q→w1.cell? ⟨b,o,none⟩=some v→((w1.setCell ⟨q,0,none⟩ u).setCell ⟨q,1,none⟩ u').cell? ⟨b,o,none⟩=some v:=fun b o v hb hv=>by
   rw [zqb _ _ _ _ _ _ (by omega),zqb _ _ _ _ _ _ (by omega)];exact hv
 refine ⟨zqc h0 (by omega) _ _,⟨r0,r1,r2,r3,r4,r5,r6,r7,?_⟩,hc _ _ _ (by omega) h2,hc _ _ _ (by omega) h3,hc _ _ _ (by omega) h4,hc _ _ _ (by omega) h5,hc _ _ _ (by omega) h6,hc _ _ _ (by omega) h7,hc _ _ _ (by omega) h8,hc _ _ _ (by omega) h9⟩
 rw [Below.heap_setCell _ _ _ _ (by show w.heap.size+2≠q;omega),Below.heap_setCell _ _ _ _ (by show w.heap.size+2≠q;omega)];exact hr
theorem keepW10 {w w1 w2:World}{x y x' y':Int}{a b a' b':Option Addr}{n c m k n' c' m' k':Nat} (hb:Below w1.heap.size w1 w2) (h:Below w.heap.size w w1∧RBox w1 (w.heap.size+2)∧w1.cell? ⟨w.heap.size,0,none⟩=some (.int .i64 x)∧w1.cell? ⟨w.heap.size,1,none⟩=some (.slice a n c)∧w1.cell? ⟨w.heap.size,2,none⟩=some (.int .i64 y)∧w1.cell? ⟨w.heap.size,3,none⟩=some (.slice b m k)∧w1.cell? ⟨w.heap.size+1,0,none⟩=some (.int .i64 x')∧w1.cell? ⟨w.heap.size+1,1,none⟩=some (.slice a' n' c')∧w1.cell? ⟨w.heap.size+1,2,none⟩=some (.int .i64 y')∧w1.cell? ⟨w.heap.size+1,3,none⟩=some (.slice b' m' k')):Below w.heap.size w w2∧RBox w2 (w.heap.size+2)∧w2.cell? ⟨w.heap.size,0,none⟩=some (.int .i64 x)∧w2.cell? ⟨w.heap.size,1,none⟩=some (.slice a n c)∧w2.cell? ⟨w.heap.size,2,none⟩=some (.int .i64 y)∧w2.cell? ⟨w.heap.size,3,none⟩=some (.slice b m k)∧w2.cell? ⟨w.heap.size+1,0,none⟩=some (.int .i64 x')∧w2.cell? ⟨w.heap.size+1,1,none⟩=some (.slice a' n' c')∧w2.cell? ⟨w.heap.size+1,2,none⟩=some (.int .i64 y')∧w2.cell? ⟨w.heap.size+1,3,none⟩=some (.slice b' m' k'):=W10.keep hb h
theorem cop_part {p d l r:Int} (h:Int.gcd (p*l) (d*r)=1):Int.gcd p d=1:=by
 have h:Nat.Coprime (p*l).natAbs (d*r).natAbs:=h
 rw [Int.natAbs_mul,Int.natAbs_mul] at h
 exact (h.coprime_mul_right).coprime_mul_right_right
theorem cop_mul {p1 p2 d1 d2:Int} (a:Int.gcd p1 d1=1) (b:Int.gcd p1 d2=1) (c:Int.gcd p2 d1=1) (d:Int.gcd p2 d2=1):Int.gcd (p1*p2) (d1*d2)=1:=by
 show Nat.Coprime (p1*p2).natAbs (d1*d2).natAbs
 rw [Int.natAbs_mul,Int.natAbs_mul]
 exact Nat.Coprime.mul_left (Nat.Coprime.mul_right a b) (Nat.Coprime.mul_right c d)
theorem cross_lowest {p d p' d':Int} (d0:0<d) (d0':0<d') (hg:Int.gcd p d=1) (hg':Int.gcd p' d'=1) :
   ∃ l r p1 p2 d1 d2:Int,l=(Int.gcd p d':Int)∧r=(Int.gcd p' d:Int)∧0<l∧0<r∧p=p1*l∧d'=d2*l∧p'=p2*r∧d=d1*r∧0<d1∧0<d2∧Int.gcd (p1*p2) (d1*d2)=1:=by
 obtain ⟨l,p1,d2,hl,l0,e1,e2,k0,g1⟩:=zkv (p:=p) (d:=d') d0'
 obtain ⟨r,p2,d1,hr,r0,e3,e4,k1,g2⟩:=zkv (p:=p') (d:=d) d0
 refine ⟨l,r,p1,p2,d1,d2,hl,hr,l0,r0,e1,e2,e3,e4,k1,k0,?_⟩
 exact cop_mul (cop_part (l:=l) (r:=r) (by rw [← e1,← e4];exact hg)) g1 g2 (cop_part (l:=r) (r:=l) (by rw [← e3,← e2];exact hg'))
theorem RBox.beside {w:World}{r q:Nat} (h:RBox w r) (hne:r≠q) (u u':Value):RBox ((w.setCell ⟨q,0,none⟩ u).setCell ⟨q,1,none⟩ u') r:=by
 obtain ⟨r0,r1,r2,r3,r4,r5,r6,r7,hr⟩:=h
 exact ⟨r0,r1,r2,r3,r4,r5,r6,r7,by rw [Below.heap_setCell _ _ _ _ (by exact hne),Below.heap_setCell _ _ _ _ (by exact hne)];exact hr⟩
theorem storeW10 {w w1:World}{x y x' y':Int}{a b a' b':Option Addr}{n c m k n' c' m' k':Nat} (h:Below w.heap.size w w1∧RBox w1 (w.heap.size+2)∧w1.cell? ⟨w.heap.size,0,none⟩=some (.int .i64 x)∧w1.cell? ⟨w.heap.size,1,none⟩=some (.slice a n c)∧w1.cell? ⟨w.heap.size,2,none⟩=some (.int .i64 y)∧w1.cell? ⟨w.heap.size,3,none⟩=some (.slice b m k)∧w1.cell? ⟨w.heap.size+1,0,none⟩=some (.int .i64 x')∧w1.cell? ⟨w.heap.size+1,1,none⟩=some (.slice a' n' c')∧w1.cell? ⟨w.heap.size+1,2,none⟩=some (.int .i64 y')∧w1.cell? ⟨w.heap.size+1,3,none⟩=some (.slice b' m' k')) {q:Nat} (hq:w.heap.size+2<q)  (u u':Value):Below w.heap.size w ((w1.setCell ⟨q,0,none⟩ u).setCell ⟨q,1,none⟩ u')∧RBox ((w1.setCell ⟨q,0,none⟩ u).setCell ⟨q,1,none⟩ u') (w.heap.size+2)∧((w1.setCell ⟨q,0,none⟩ u).setCell ⟨q,1,none⟩ u').cell? ⟨w.heap.size,0,none⟩=some (.int .i64 x)∧((w1.setCell ⟨q,0,none⟩ u).setCell ⟨q,1,none⟩ u').cell? ⟨w.heap.size,1,none⟩=some (.slice a n c)∧((w1.setCell ⟨q,0,none⟩ u).setCell ⟨q,1,none⟩ u').cell? ⟨w.heap.size,2,none⟩=some (.int .i64 y)∧((w1.setCell ⟨q,0,none⟩ u).setCell ⟨q,1,none⟩ u').cell? ⟨w.heap.size,3,none⟩=some (.slice b m k)∧((w1.setCell ⟨q,0,none⟩ u).setCell ⟨q,1,none⟩ u').cell? ⟨w.heap.size+1,0,none⟩=some (.int .i64 x')∧((w1.setCell ⟨q,0,none⟩ u).setCell ⟨q,1,none⟩ u').cell? ⟨w.heap.size+1,1,none⟩=some (.slice a' n' c')∧((w1.setCell ⟨q,0,none⟩ u).setCell ⟨q,1,none⟩ u').cell? ⟨w.heap.size+1,2,none⟩=some (.int .i64 y')∧((w1.setCell ⟨q,0,none⟩ u).setCell ⟨q,1,none⟩ u').cell? ⟨w.heap.size+1,3,none⟩=some (.slice b' m' k'):=by
 have hc:∀ b o v,b≠q→w1.cell? ⟨b,o,none⟩=some v→((w1.setCell ⟨q,0,none⟩ u).setCell ⟨q,1,none⟩ u').cell? ⟨b,o,none⟩=some v:=fun b o v hb hv=>by
   rw [zqb _ _ _ _ _ _ (by omega),zqb _ _ _ _ _ _ (by omega)];exact hv
 exact ⟨zqc h.1 (by omega) _ _,RBox.beside h.2.1 (by omega) _ _,hc _ _ _ (by omega) h.2.2.1,hc _ _ _ (by omega) h.2.2.2.1,hc _ _ _ (by omega) h.2.2.2.2.1,hc _ _ _ (by omega) h.2.2.2.2.2.1,hc _ _ _ (by omega) h.2.2.2.2.2.2.1,hc _ _ _ (by omega) h.2.2.2.2.2.2.2.1,hc _ _ _ (by omega) h.2.2.2.2.2.2.2.2.1,hc _ _ _ (by omega) h.2.2.2.2.2.2.2.2.2⟩
theorem drewW10 {w w1:World}{x y x' y':Int}{a b a' b':Option Addr}{n c m k n' c' m' k':Nat}{o:Obj} (h:Below w.heap.size w w1.drew∧RBox w1.drew (w.heap.size+2)∧w1.drew.cell? ⟨w.heap.size,0,none⟩=some (.int .i64 x)∧w1.drew.cell? ⟨w.heap.size,1,none⟩=some (.slice a n c)∧w1.drew.cell? ⟨w.heap.size,2,none⟩=some (.int .i64 y)∧w1.drew.cell? ⟨w.heap.size,3,none⟩=some (.slice b m k)∧w1.drew.cell? ⟨w.heap.size+1,0,none⟩=some (.int .i64 x')∧w1.drew.cell? ⟨w.heap.size+1,1,none⟩=some (.slice a' n' c')∧w1.drew.cell? ⟨w.heap.size+1,2,none⟩=some (.int .i64 y')∧w1.drew.cell? ⟨w.heap.size+1,3,none⟩=some (.slice b' m' k')):Below w.heap.size w (w1.alloc o).drew∧RBox (w1.alloc o).drew (w.heap.size+2)∧(w1.alloc o).drew.cell? ⟨w.heap.size,0,none⟩=some (.int .i64 x)∧(w1.alloc o).drew.cell? ⟨w.heap.size,1,none⟩=some (.slice a n c)∧(w1.alloc o).drew.cell? ⟨w.heap.size,2,none⟩=some (.int .i64 y)∧(w1.alloc o).drew.cell? ⟨w.heap.size,3,none⟩=some (.slice b m k)∧(w1.alloc o).drew.cell? ⟨w.heap.size+1,0,none⟩=some (.int .i64 x')∧(w1.alloc o).drew.cell? ⟨w.heap.size+1,1,none⟩=some (.slice a' n' c')∧(w1.alloc o).drew.cell? ⟨w.heap.size+1,2,none⟩=some (.int .i64 y')∧(w1.alloc o).drew.cell? ⟨w.heap.size+1,3,none⟩=some (.slice b' m' k'):=keepW10 (w1:=w1.drew) (w2:=(w1.alloc o).drew) (zqa w1.drew o) h
theorem keepW14 {w w1 w2:World}{x y x' y':Int}{a b a' b':Option Addr}{n c m k n' c' m' k':Nat}{bl br:Nat}{l0 r0:Int}{l1 r1:Option Addr}{l2 l3 r2 r3:Nat} (hb:Below w1.heap.size w1 w2) (h:Below w.heap.size w w1∧RBox w1 (w.heap.size+2)∧w1.cell? ⟨w.heap.size,0,none⟩=some (.int .i64 x)∧w1.cell? ⟨w.heap.size,1,none⟩=some (.slice a n c)∧w1.cell? ⟨w.heap.size,2,none⟩=some (.int .i64 y)∧w1.cell? ⟨w.heap.size,3,none⟩=some (.slice b m k)∧w1.cell? ⟨w.heap.size+1,0,none⟩=some (.int .i64 x')∧w1.cell? ⟨w.heap.size+1,1,none⟩=some (.slice a' n' c')∧w1.cell? ⟨w.heap.size+1,2,none⟩=some (.int .i64 y')∧w1.cell? ⟨w.heap.size+1,3,none⟩=some (.slice b' m' k')∧w1.cell? ⟨bl,0,none⟩=some (.int .i64 l0)∧w1.cell? ⟨bl,1,none⟩=some (.slice l1 l2 l3)∧w1.cell? ⟨br,0,none⟩=some (.int .i64 r0)∧w1.cell? ⟨br,1,none⟩=some (.slice r1 r2 r3)):Below w.heap.size w w2∧RBox w2 (w.heap.size+2)∧w2.cell? ⟨w.heap.size,0,none⟩=some (.int .i64 x)∧w2.cell? ⟨w.heap.size,1,none⟩=some (.slice a n c)∧w2.cell? ⟨w.heap.size,2,none⟩=some (.int .i64 y)∧w2.cell? ⟨w.heap.size,3,none⟩=some (.slice b m k)∧w2.cell? ⟨w.heap.size+1,0,none⟩=some (.int .i64 x')∧w2.cell? ⟨w.heap.size+1,1,none⟩=some (.slice a' n' c')∧w2.cell? ⟨w.heap.size+1,2,none⟩=some (.int .i64 y')∧w2.cell? ⟨w.heap.size+1,3,none⟩=some (.slice b' m' k')∧w2.cell? ⟨bl,0,none⟩=some (.int .i64 l0)∧w2.cell? ⟨bl,1,none⟩=some (.slice l1 l2 l3)∧w2.cell? ⟨br,0,none⟩=some (.int .i64 r0)∧w2.cell? ⟨br,1,none⟩=some (.slice r1 r2 r3) :=
 ⟨bk hb h.1,RBox.later h.2.1 hb,ck hb h.2.2.1,ck hb h.2.2.2.1,ck hb h.2.2.2.2.1,ck hb h.2.2.2.2.2.1,ck hb h.2.2.2.2.2.2.1,ck hb h.2.2.2.2.2.2.2.1,ck hb h.2.2.2.2.2.2.2.2.1,ck hb h.2.2.2.2.2.2.2.2.2.1,ck hb h.2.2.2.2.2.2.2.2.2.2.1,ck hb h.2.2.2.2.2.2.2.2.2.2.2.1,ck hb h.2.2.2.2.2.2.2.2.2.2.2.2.1,ck hb h.2.2.2.2.2.2.2.2.2.2.2.2.2⟩
theorem storeW14 {w w1:World}{x y x' y':Int}{a b a' b':Option Addr}{n c m k n' c' m' k':Nat}{bl br:Nat}{l0 r0:Int}{l1 r1:Option Addr}{l2 l3 r2 r3:Nat} (h:Below w.heap.size w w1∧RBox w1 (w.heap.size+2)∧w1.cell? ⟨w.heap.size,0,none⟩=some (.int .i64 x)∧w1.cell? ⟨w.heap.size,1,none⟩=some (.slice a n c)∧w1.cell? ⟨w.heap.size,2,none⟩=some (.int .i64 y)∧w1.cell? ⟨w.heap.size,3,none⟩=some (.slice b m k)∧w1.cell? ⟨w.heap.size+1,0,none⟩=some (.int .i64 x')∧w1.cell? ⟨w.heap.size+1,1,none⟩=some (.slice a' n' c')∧w1.cell? ⟨w.heap.size+1,2,none⟩=some (.int .i64 y')∧w1.cell? ⟨w.heap.size+1,3,none⟩=some (.slice b' m' k')∧w1.cell? ⟨bl,0,none⟩=some (.int .i64 l0)∧w1.cell? ⟨bl,1,none⟩=some (.slice l1 l2 l3)∧w1.cell? ⟨br,0,none⟩=some (.int .i64 r0)∧w1.cell? ⟨br,1,none⟩=some (.slice r1 r2 r3)) {q:Nat} (hq:w.heap.size+2<q) (hl:bl≠q) (hr:br≠q) (u u':Value):Below w.heap.size w ((w1.setCell ⟨q,0,none⟩ u).setCell ⟨q,1,none⟩ u')∧RBox ((w1.setCell ⟨q,0,none⟩ u).setCell ⟨q,1,none⟩ u') (w.heap.size+2)∧((w1.setCell ⟨q,0,none⟩ u).setCell ⟨q,1,none⟩ u').cell? ⟨w.heap.size,0,none⟩=some (.int .i64 x)∧((w1.setCell ⟨q,0,none⟩ u).setCell ⟨q,1,none⟩ u').cell? ⟨w.heap.size,1,none⟩=some (.slice a n c)∧((w1.setCell ⟨q,0,none⟩ u).setCell ⟨q,1,none⟩ u').cell? ⟨w.heap.size,2,none⟩=some (.int .i64 y)∧((w1.setCell ⟨q,0,none⟩ u).setCell ⟨q,1,none⟩ u').cell? ⟨w.heap.size,3,none⟩=some (.slice b m k)∧((w1.setCell ⟨q,0,none⟩ u).setCell ⟨q,1,none⟩ u').cell? ⟨w.heap.size+1,0,none⟩=some (.int .i64 x')∧((w1.setCell ⟨q,0,none⟩ u).setCell ⟨q,1,none⟩ u').cell? ⟨w.heap.size+1,1,none⟩=some (.slice a' n' c')∧((w1.setCell ⟨q,0,none⟩ u).setCell ⟨q,1,none⟩ u').cell? ⟨w.heap.size+1,2,none⟩=some (.int .i64 y')∧((w1.setCell ⟨q,0,none⟩ u).setCell ⟨q,1,none⟩ u').cell? ⟨w.heap.size+1,3,none⟩=some (.slice b' m' k')∧((w1.setCell ⟨q,0,none⟩ u).setCell ⟨q,1,none⟩ u').cell? ⟨bl,0,none⟩=some (.int .i64 l0)∧((w1.setCell ⟨q,0,none⟩ u).setCell ⟨q,1,none⟩ u').cell? ⟨bl,1,none⟩=some (.slice l1 l2 l3)∧((w1.setCell ⟨q,0,none⟩ u).setCell ⟨q,1,none⟩ u').cell? ⟨br,0,none⟩=some (.int .i64 r0)∧((w1.setCell ⟨q,0,none⟩ u).setCell ⟨q,1,none⟩ u').cell? ⟨br,1,none⟩=some (.slice r1 r2 r3):=by
 have hc:∀ b o v,b≠q→w1.cell? ⟨b,o,none⟩=some v→((w1.setCell ⟨q,0,none⟩ u).setCell ⟨q,1,none⟩ u').cell? ⟨b,o,none⟩=some v:=fun b o v hb hv=>by
   rw [zqb _ _ _ _ _ _ (by omega),zqb _ _ _ _ _ _ (by omega)];exact hv
 exact ⟨zqc h.1 (by omega) _ _,RBox.beside h.2.1 (by omega) _ _,hc _ _ _ (by omega) h.2.2.1,hc _ _ _ (by omega) h.2.2.2.1,hc _ _ _ (by omega) h.2.2.2.2.1,hc _ _ _ (by omega) h.2.2.2.2.2.1,hc _ _ _ (by omega) h.2.2.2.2.2.2.1,hc _ _ _ (by omega) h.2.2.2.2.2.2.2.1,hc _ _ _ (by omega) h.2.2.2.2.2.2.2.2.1,hc _ _ _ (by omega) h.2.2.2.2.2.2.2.2.2.1,hc _ _ _ (by omega) h.2.2.2.2.2.2.2.2.2.2.1,hc _ _ _ (by omega) h.2.2.2.2.2.2.2.2.2.2.2.1,hc _ _ _ (by omega) h.2.2.2.2.2.2.2.2.2.2.2.2.1,hc _ _ _ (by omega) h.2.2.2.2.2.2.2.2.2.2.2.2.2⟩
theorem keepW16 {w w1 w2:World}{x y x' y':Int}{a b a' b':Option Addr}{n c m k n' c' m' k':Nat}{bl br:Nat}{l0 r0:Int}{l1 r1:Option Addr}{l2 l3 r2 r3:Nat}{bn:Nat}{t0:Int}{t1:Option Addr}{t2 t3:Nat} (hb:Below w1.heap.size w1 w2) (h:Below w.heap.size w w1∧RBox w1 (w.heap.size+2)∧w1.cell? ⟨w.heap.size,0,none⟩=some (.int .i64 x)∧w1.cell? ⟨w.heap.size,1,none⟩=some (.slice a n c)∧w1.cell? ⟨w.heap.size,2,none⟩=some (.int .i64 y)∧w1.cell? ⟨w.heap.size,3,none⟩=some (.slice b m k)∧w1.cell? ⟨w.heap.size+1,0,none⟩=some (.int .i64 x')∧w1.cell? ⟨w.heap.size+1,1,none⟩=some (.slice a' n' c')∧w1.cell? ⟨w.heap.size+1,2,none⟩=some (.int .i64 y')∧w1.cell? ⟨w.heap.size+1,3,none⟩=some (.slice b' m' k')∧w1.cell? ⟨bl,0,none⟩=some (.int .i64 l0)∧w1.cell? ⟨bl,1,none⟩=some (.slice l1 l2 l3)∧w1.cell? ⟨br,0,none⟩=some (.int .i64 r0)∧w1.cell? ⟨br,1,none⟩=some (.slice r1 r2 r3)∧w1.cell? ⟨bn,0,none⟩=some (.int .i64 t0)∧w1.cell? ⟨bn,1,none⟩=some (.slice t1 t2 t3)):Below w.heap.size w w2∧RBox w2 (w.heap.size+2)∧w2.cell? ⟨w.heap.size,0,none⟩=some (.int .i64 x)∧w2.cell? ⟨w.heap.size,1,none⟩=some (.slice a n c)∧w2.cell? ⟨w.heap.size,2,none⟩=some (.int .i64 y)∧w2.cell? ⟨w.heap.size,3,none⟩=some (.slice b m k)∧w2.cell? ⟨w.heap.size+1,0,none⟩=some (.int .i64 x')∧w2.cell? ⟨w.heap.size+1,1,none⟩=some (.slice a' n' c')∧w2.cell? ⟨w.heap.size+1,2,none⟩=some (.int .i64 y')∧w2.cell? ⟨w.heap.size+1,3,none⟩=some (.slice b' m' k')∧w2.cell? ⟨bl,0,none⟩=some (.int .i64 l0)∧w2.cell? ⟨bl,1,none⟩=some (.slice l1 l2 l3)∧w2.cell? ⟨br,0,none⟩=some (.int .i64 r0)∧w2.cell? ⟨br,1,none⟩=some (.slice r1 r2 r3)∧w2.cell? ⟨bn,0,none⟩=some (.int .i64 t0)∧w2.cell? ⟨bn,1,none⟩=some (.slice t1 t2 t3) :=
 ⟨bk hb h.1,RBox.later h.2.1 hb,ck hb h.2.2.1,ck hb h.2.2.2.1,ck hb h.2.2.2.2.1,ck hb h.2.2.2.2.2.1,ck hb h.2.2.2.2.2.2.1,ck hb h.2.2.2.2.2.2.2.1,ck hb h.2.2.2.2.2.2.2.2.1,ck hb h.2.2.2.2.2.2.2.2.2.1,ck hb h.2.2.2.2.2.2.2.2.2.2.1,ck hb h.2.2.2.2.2.2.2.2.2.2.2.1,ck hb h.2.2.2.2.2.2.2.2.2.2.2.2.1,ck hb h.2.2.2.2.2.2.2.2.2.2.2.2.2.1,ck hb h.2.2.2.2.2.2.2.2.2.2.2.2.2.2.1,ck hb h.2.2.2.2.2.2.2.2.2.2.2.2.2.2.2⟩
theorem outW16 {w w1:World}{x y x' y':Int}{a b a' b':Option Addr}{n c m k n' c' m' k':Nat}{bl br:Nat}{l0 r0:Int}{l1 r1:Option Addr}{l2 l3 r2 r3:Nat}{bn:Nat}{t0:Int}{t1:Option Addr}{t2 t3:Nat} (h:Below w.heap.size w w1∧RBox w1 (w.heap.size+2)∧w1.cell? ⟨w.heap.size,0,none⟩=some (.int .i64 x)∧w1.cell? ⟨w.heap.size,1,none⟩=some (.slice a n c)∧w1.cell? ⟨w.heap.size,2,none⟩=some (.int .i64 y)∧w1.cell? ⟨w.heap.size,3,none⟩=some (.slice b m k)∧w1.cell? ⟨w.heap.size+1,0,none⟩=some (.int .i64 x')∧w1.cell? ⟨w.heap.size+1,1,none⟩=some (.slice a' n' c')∧w1.cell? ⟨w.heap.size+1,2,none⟩=some (.int .i64 y')∧w1.cell? ⟨w.heap.size+1,3,none⟩=some (.slice b' m' k')∧w1.cell? ⟨bl,0,none⟩=some (.int .i64 l0)∧w1.cell? ⟨bl,1,none⟩=some (.slice l1 l2 l3)∧w1.cell? ⟨br,0,none⟩=some (.int .i64 r0)∧w1.cell? ⟨br,1,none⟩=some (.slice r1 r2 r3)∧w1.cell? ⟨bn,0,none⟩=some (.int .i64 t0)∧w1.cell? ⟨bn,1,none⟩=some (.slice t1 t2 t3)) (hl:w.heap.size+2<bl) (hr:w.heap.size+2<br) (hn:w.heap.size+2<bn) (u0:Int) (u1:Option Addr) (u2 u3:Nat) (u4:Int) (u5:Option Addr) (u6 u7:Nat):Below w.heap.size w ((((w1.setCell ⟨w.heap.size+2,0,none⟩ (.int .i64 u0)).setCell ⟨w.heap.size+2,1,none⟩ (.slice u1 u2 u3)).setCell ⟨w.heap.size+2,2,none⟩ (.int .i64 u4)).setCell ⟨w.heap.size+2,3,none⟩ (.slice u5 u6 u7))∧RBox ((((w1.setCell ⟨w.heap.size+2,0,none⟩ (.int .i64 u0)).setCell ⟨w.heap.size+2,1,none⟩ (.slice u1 u2 u3)).setCell ⟨w.heap.size+2,2,none⟩ (.int .i64 u4)).setCell ⟨w.heap.size+2,3,none⟩ (.slice u5 u6 u7)) (w.heap.size+2)∧((((w1.setCell ⟨w.heap.size+2,0,none⟩ (.int .i64 u0)).setCell ⟨w.heap.size+2,1,none⟩ (.slice u1 u2 u3)).setCell ⟨w.heap.size+2,2,none⟩ (.int .i64 u4)).setCell ⟨w.heap.size+2,3,none⟩ (.slice u5 u6 u7)).cell? ⟨w.heap.size,0,none⟩=some (.int .i64 x)∧((((w1.setCell ⟨w.heap.size+2,0,none⟩ (.int .i64 u0)).setCell ⟨w.heap.size+2,1,none⟩ (.slice u1 u2 u3)).setCell ⟨w.heap.size+2,2,none⟩ (.int .i64 u4)).setCell ⟨w.heap.size+2,3,none⟩ (.slice u5 u6 u7)).cell? ⟨w.heap.size,1,none⟩=some (.slice a n c)∧((((w1.setCell ⟨w.heap.size+2,0,none⟩ (.int .i64 u0)).setCell ⟨w.heap.size+2,1,none⟩ (.slice u1 u2 u3)).setCell ⟨w.heap.size+2,2,none⟩ (.int .i64 u4)).setCell ⟨w.heap.size+2,3,none⟩ (.slice u5 u6 u7)).cell? ⟨w.heap.size,2,none⟩=some (.int .i64 y)∧((((w1.setCell ⟨w.heap.size+2,0,none⟩ (.int .i64 u0)).setCell ⟨w.heap.size+2,1,none⟩ (.slice u1 u2 u3)).setCell ⟨w.heap.size+2,2,none⟩ (.int .i64 u4)).setCell ⟨w.heap.size+2,3,none⟩ (.slice u5 u6 u7)).cell? ⟨w.heap.size,3,none⟩=some (.slice b m k)∧((((w1.setCell ⟨w.heap.size+2,0,none⟩ (.int .i64 u0)).setCell ⟨w.heap.size+2,1,none⟩ (.slice u1 u2 u3)).setCell ⟨w.heap.size+2,2,none⟩ (.int .i64 u4)).setCell ⟨w.heap.size+2,3,none⟩ (.slice u5 u6 u7)).cell? ⟨w.heap.size+1,0,none⟩=some (.int .i64 x')∧((((w1.setCell ⟨w.heap.size+2,0,none⟩ (.int .i64 u0)).setCell ⟨w.heap.size+2,1,none⟩ (.slice u1 u2 u3)).setCell ⟨w.heap.size+2,2,none⟩ (.int .i64 u4)).setCell ⟨w.heap.size+2,3,none⟩ (.slice u5 u6 u7)).cell? ⟨w.heap.size+1,1,none⟩=some (.slice a' n' c')∧((((w1.setCell ⟨w.heap.size+2,0,none⟩ (.int .i64 u0)).setCell ⟨w.heap.size+2,1,none⟩ (.slice u1 u2 u3)).setCell ⟨w.heap.size+2,2,none⟩ (.int .i64 u4)).setCell ⟨w.heap.size+2,3,none⟩ (.slice u5 u6 u7)).cell? ⟨w.heap.size+1,2,none⟩=some (.int .i64 y')∧((((w1.setCell ⟨w.heap.size+2,0,none⟩ (.int .i64 u0)).setCell ⟨w.heap.size+2,1,none⟩ (.slice u1 u2 u3)).setCell ⟨w.heap.size+2,2,none⟩ (.int .i64 u4)).setCell ⟨w.heap.size+2,3,none⟩ (.slice u5 u6 u7)).cell? ⟨w.heap.size+1,3,none⟩=some (.slice b' m' k')∧((((w1.setCell ⟨w.heap.size+2,0,none⟩ (.int .i64 u0)).setCell ⟨w.heap.size+2,1,none⟩ (.slice u1 u2 u3)).setCell ⟨w.heap.size+2,2,none⟩ (.int .i64 u4)).setCell ⟨w.heap.size+2,3,none⟩ (.slice u5 u6 u7)).cell? ⟨bl,0,none⟩=some (.int .i64 l0)∧((((w1.setCell ⟨w.heap.size+2,0,none⟩ (.int .i64 u0)).setCell ⟨w.heap.size+2,1,none⟩ (.slice u1 u2 u3)).setCell ⟨w.heap.size+2,2,none⟩ (.int .i64 u4)).setCell ⟨w.heap.size+2,3,none⟩ (.slice u5 u6 u7)).cell? ⟨bl,1,none⟩=some (.slice l1 l2 l3)∧((((w1.setCell ⟨w.heap.size+2,0,none⟩ (.int .i64 u0)).setCell ⟨w.heap.size+2,1,none⟩ (.slice u1 u2 u3)).setCell ⟨w.heap.size+2,2,none⟩ (.int .i64 u4)).setCell ⟨w.heap.size+2,3,none⟩ (.slice u5 u6 u7)).cell? ⟨br,0,none⟩=some (.int .i64 r0)∧((((w1.setCell ⟨w.heap.size+2,0,none⟩ (.int .i64 u0)).setCell ⟨w.heap.size+2,1,none⟩ (.slice u1 u2 u3)).setCell ⟨w.heap.size+2,2,none⟩ (.int .i64 u4)).setCell ⟨w.heap.size+2,3,none⟩ (.slice u5 u6 u7)).cell? ⟨br,1,none⟩=some (.slice r1 r2 r3)∧((((w1.setCell ⟨w.heap.size+2,0,none⟩ (.int .i64 u0)).setCell ⟨w.heap.size+2,1,none⟩ (.slice u1 u2 u3)).setCell ⟨w.heap.size+2,2,none⟩ (.int .i64 u4)).setCell ⟨w.heap.size+2,3,none⟩ (.slice u5 u6 u7)).cell? ⟨bn,0,none⟩=some (.int .i64 t0)∧((((w1.setCell ⟨w.heap.size+2,0,none⟩ (.int .i64 u0)).setCell ⟨w.heap.size+2,1,none⟩ (.slice u1 u2 u3)).setCell ⟨w.heap.size+2,2,none⟩ (.int .i64 u4)).setCell ⟨w.heap.size+2,3,none⟩ (.slice u5 u6 u7)).cell? ⟨bn,1,none⟩=some (.slice t1 t2 t3):=by
 have hc:∀ b o v,b≠w.heap.size+2→w1.cell? ⟨b,o,none⟩=some v→((((w1.setCell ⟨w.heap.size+2,0,none⟩ (.int .i64 u0)).setCell ⟨w.heap.size+2,1,none⟩ (.slice u1 u2 u3)).setCell ⟨w.heap.size+2,2,none⟩ (.int .i64 u4)).setCell ⟨w.heap.size+2,3,none⟩ (.slice u5 u6 u7)).cell? ⟨b,o,none⟩=some v:=fun b o v hb hv=>by
   rw [zqb _ _ _ _ _ _ (by omega),zqb _ _ _ _ _ _ (by omega),zqb _ _ _ _ _ _ (by omega),zqb _ _ _ _ _ _ (by omega)];exact hv
 exact ⟨zqf h.1 (by omega) _ _ _ _,RBox.stored' h.2.1 _ _ _ _ _ _ _ _,hc _ _ _ (by omega) h.2.2.1,hc _ _ _ (by omega) h.2.2.2.1,hc _ _ _ (by omega) h.2.2.2.2.1,hc _ _ _ (by omega) h.2.2.2.2.2.1,hc _ _ _ (by omega) h.2.2.2.2.2.2.1,hc _ _ _ (by omega) h.2.2.2.2.2.2.2.1,hc _ _ _ (by omega) h.2.2.2.2.2.2.2.2.1,hc _ _ _ (by omega) h.2.2.2.2.2.2.2.2.2.1,hc _ _ _ (by omega) h.2.2.2.2.2.2.2.2.2.2.1,hc _ _ _ (by omega) h.2.2.2.2.2.2.2.2.2.2.2.1,hc _ _ _ (by omega) h.2.2.2.2.2.2.2.2.2.2.2.2.1,hc _ _ _ (by omega) h.2.2.2.2.2.2.2.2.2.2.2.2.2.1,hc _ _ _ (by omega) h.2.2.2.2.2.2.2.2.2.2.2.2.2.2.1,hc _ _ _ (by omega) h.2.2.2.2.2.2.2.2.2.2.2.2.2.2.2⟩
theorem drewW14 {w w1:World}{x y x' y':Int}{a b a' b':Option Addr}{n c m k n' c' m' k':Nat}{bl br:Nat}{l0 r0:Int}{l1 r1:Option Addr}{l2 l3 r2 r3:Nat}{o:Obj} (h:Below w.heap.size w w1.drew∧RBox w1.drew (w.heap.size+2)∧w1.drew.cell? ⟨w.heap.size,0,none⟩=some (.int .i64 x)∧w1.drew.cell? ⟨w.heap.size,1,none⟩=some (.slice a n c)∧w1.drew.cell? ⟨w.heap.size,2,none⟩=some (.int .i64 y)∧w1.drew.cell? ⟨w.heap.size,3,none⟩=some (.slice b m k)∧w1.drew.cell? ⟨w.heap.size+1,0,none⟩=some (.int .i64 x')∧w1.drew.cell? ⟨w.heap.size+1,1,none⟩=some (.slice a' n' c')∧w1.drew.cell? ⟨w.heap.size+1,2,none⟩=some (.int .i64 y')∧w1.drew.cell? ⟨w.heap.size+1,3,none⟩=some (.slice b' m' k')∧w1.drew.cell? ⟨bl,0,none⟩=some (.int .i64 l0)∧w1.drew.cell? ⟨bl,1,none⟩=some (.slice l1 l2 l3)∧w1.drew.cell? ⟨br,0,none⟩=some (.int .i64 r0)∧w1.drew.cell? ⟨br,1,none⟩=some (.slice r1 r2 r3)):Below w.heap.size w (w1.alloc o).drew∧RBox (w1.alloc o).drew (w.heap.size+2)∧(w1.alloc o).drew.cell? ⟨w.heap.size,0,none⟩=some (.int .i64 x)∧(w1.alloc o).drew.cell? ⟨w.heap.size,1,none⟩=some (.slice a n c)∧(w1.alloc o).drew.cell? ⟨w.heap.size,2,none⟩=some (.int .i64 y)∧(w1.alloc o).drew.cell? ⟨w.heap.size,3,none⟩=some (.slice b m k)∧(w1.alloc o).drew.cell? ⟨w.heap.size+1,0,none⟩=some (.int .i64 x')∧(w1.alloc o).drew.cell? ⟨w.heap.size+1,1,none⟩=some (.slice a' n' c')∧(w1.alloc o).drew.cell? ⟨w.heap.size+1,2,none⟩=some (.int .i64 y')∧(w1.alloc o).drew.cell? ⟨w.heap.size+1,3,none⟩=some (.slice b' m' k')∧(w1.alloc o).drew.cell? ⟨bl,0,none⟩=some (.int .i64 l0)∧(w1.alloc o).drew.cell? ⟨bl,1,none⟩=some (.slice l1 l2 l3)∧(w1.alloc o).drew.cell? ⟨br,0,none⟩=some (.int .i64 r0)∧(w1.alloc o).drew.cell? ⟨br,1,none⟩=some (.slice r1 r2 r3):=keepW14 (w1:=w1.drew) (w2:=(w1.alloc o).drew) (zqa w1.drew o) h
theorem two_in {W:World}{bl br:Nat} (hl:Box W bl) (hr:Box W br) (hne:bl≠br) {l0 r0:Int}{l1 r1:Option Addr}{l2 l3 r2 r3 N M:Nat}{l r:Int} (zl:Zr N W (.agg #[.int .i64 l0,.slice l1 l2 l3]) l) (zr:Zr M W (.agg #[.int .i64 r0,.slice r1 r2 r3]) r) :
   let W':=(((W.setCell ⟨bl,0,none⟩ (.int .i64 l0)).setCell ⟨bl,1,none⟩ (.slice l1 l2 l3)).setCell ⟨br,0,none⟩ (.int .i64 r0)).setCell ⟨br,1,none⟩ (.slice r1 r2 r3)
   Vr W' bl l0 l1 l2 l3 N l∧Vr W' br r0 r1 r2 r3 M r:=by
 intro W'
 have s1:=hl.stored (.int .i64 l0) (.slice l1 l2 l3)
 have v1:Vr ((W.setCell ⟨bl,0,none⟩ (.int .i64 l0)).setCell ⟨bl,1,none⟩ (.slice l1 l2 l3)) bl l0 l1 l2 l3 N l:=⟨s1.1,s1.2,hl.stored' _ _ _ _,zl.stored hl _ _⟩
 have hr1:Box ((W.setCell ⟨bl,0,none⟩ (.int .i64 l0)).setCell ⟨bl,1,none⟩ (.slice l1 l2 l3)) br:=(hr.other (Ne.symm hne) _).other (Ne.symm hne) _
 have s2:=hr1.stored (.int .i64 r0) (.slice r1 r2 r3)
 exact ⟨v1.other hr1 hne _ _ _ _,⟨s2.1,s2.2,hr1.stored' _ _ _ _,(zr.stored hl _ _).stored hr1 _ _⟩⟩
theorem two_new {W:World}{l0 r0:Int}{l1 r1:Option Addr}{l2 l3 r2 r3 N M:Nat}{l r:Int} (zl:Zr N W (.agg #[.int .i64 l0,.slice l1 l2 l3]) l) (zr:Zr M W (.agg #[.int .i64 r0,.slice r1 r2 r3]) r) :
   let W':=(W.alloc (.cells #[.int .i64 l0,.slice l1 l2 l3] 37)).alloc (.cells #[.int .i64 r0,.slice r1 r2 r3] 37)
   Vr W' W.heap.size l0 l1 l2 l3 N l∧Vr W' (W.heap.size+1) r0 r1 r2 r3 M r :=
 ⟨(Vr.new zl).keep (zqa _ _),Vr.second zr⟩
theorem size_two (W:World) (p q:Addr) (u v:Value):((W.setCell p u).setCell q v).heap.size=W.heap.size:=by simp [World.setCell]
theorem one_in {W:World}{bl:Nat} (hl:Box W bl) {l0 r0:Int}{l1 r1:Option Addr}{l2 l3 r2 r3 N M:Nat}{l r:Int} (zl:Zr N W (.agg #[.int .i64 l0,.slice l1 l2 l3]) l) (zr:Zr M W (.agg #[.int .i64 r0,.slice r1 r2 r3]) r) :
   let W':=((W.setCell ⟨bl,0,none⟩ (.int .i64 l0)).setCell ⟨bl,1,none⟩ (.slice l1 l2 l3)).alloc (.cells #[.int .i64 r0,.slice r1 r2 r3] 37)
   Vr W' bl l0 l1 l2 l3 N l∧Vr W' W.heap.size r0 r1 r2 r3 M r:=by
 intro W'
 have s1:=hl.stored (.int .i64 l0) (.slice l1 l2 l3)
 have v1:Vr ((W.setCell ⟨bl,0,none⟩ (.int .i64 l0)).setCell ⟨bl,1,none⟩ (.slice l1 l2 l3)) bl l0 l1 l2 l3 N l:=⟨s1.1,s1.2,hl.stored' _ _ _ _,zl.stored hl _ _⟩
 have v2:=Vr.new (zr.stored hl (.int .i64 l0) (.slice l1 l2 l3))
 rw [size_two] at v2
 exact ⟨v1.keep (zqa _ _),v2⟩
theorem mul_cross {p d p' d' l r p1 p2 d1 d2:Int} (ep:p=p1*l) (ed':d'=d2*l) (ep':p'=p2*r) (ed:d=d1*r):p1*p2*(d*d')=p*p'*(d1*d2):=by rw [ep,ed',ep',ed];grind
theorem Vr.in {W:World}{bl:Nat} (hl:Box W bl) {l0:Int}{l1:Option Addr}{l2 l3 N:Nat}{l:Int} (zl:Zr N W (.agg #[.int .i64 l0,.slice l1 l2 l3]) l):Vr ((W.setCell ⟨bl,0,none⟩ (.int .i64 l0)).setCell ⟨bl,1,none⟩ (.slice l1 l2 l3)) bl l0 l1 l2 l3 N l :=
 ⟨(hl.stored _ _).1,(hl.stored _ _).2,hl.stored' _ _ _ _,zl.stored hl _ _⟩
theorem zkw {w:World}{r:Nat} (h:Box w r):r<w.heap.size:=by
 obtain ⟨x,a,n,c,h⟩:=h
 exact (Array.getElem?_eq_some_iff.1 h).1
theorem bx1 {q q':World} (hb:Below (q.alloc (.cells #[.int .i64 0,.slice none 0 0] 37)).heap.size (q.alloc (.cells #[.int .i64 0,.slice none 0 0] 37)) q'):Box q' q.heap.size:=(zxc q).later hb
theorem bx1d {q q':World} (hb:Below (q.alloc (.cells #[.int .i64 0,.slice none 0 0] 37)).drew.heap.size (q.alloc (.cells #[.int .i64 0,.slice none 0 0] 37)).drew q'):Box q' q.heap.size:=Box.later (w:=(q.alloc (.cells #[.int .i64 0,.slice none 0 0] 37)).drew) (zxc q) hb
theorem bx2a {q q':World} (hb:Below ((q.alloc (.cells #[.int .i64 0,.slice none 0 0] 37)).alloc (.cells #[.int .i64 0,.slice none 0 0] 37)).heap.size ((q.alloc (.cells #[.int .i64 0,.slice none 0 0] 37)).alloc (.cells #[.int .i64 0,.slice none 0 0] 37)) q'):Box q' q.heap.size:=((zxc q).later (zqa _ _)).later hb
theorem bx2ad {q q':World} (hb:Below ((q.alloc (.cells #[.int .i64 0,.slice none 0 0] 37)).alloc (.cells #[.int .i64 0,.slice none 0 0] 37)).drew.heap.size ((q.alloc (.cells #[.int .i64 0,.slice none 0 0] 37)).alloc (.cells #[.int .i64 0,.slice none 0 0] 37)).drew q'):Box q' q.heap.size:=Box.later (w:=((q.alloc (.cells #[.int .i64 0,.slice none 0 0] 37)).alloc (.cells #[.int .i64 0,.slice none 0 0] 37)).drew) (show Box ((q.alloc (.cells #[.int .i64 0,.slice none 0 0] 37)).alloc (.cells #[.int .i64 0,.slice none 0 0] 37)) _ from (zxc q).later (zqa (q.alloc (.cells #[.int .i64 0,.slice none 0 0] 37)) (.cells #[.int .i64 0,.slice none 0 0] 37))) hb
theorem bx2b {q q':World} (hb:Below ((q.alloc (.cells #[.int .i64 0,.slice none 0 0] 37)).alloc (.cells #[.int .i64 0,.slice none 0 0] 37)).heap.size ((q.alloc (.cells #[.int .i64 0,.slice none 0 0] 37)).alloc (.cells #[.int .i64 0,.slice none 0 0] 37)) q'):Box q' (q.heap.size+1):=by
 have h:=zxc (q.alloc (.cells #[.int .i64 0,.slice none 0 0] 37))
 rw [show (q.alloc (.cells #[.int .i64 0,.slice none 0 0] 37)).heap.size=q.heap.size+1 by simp] at h
 exact h.later hb
theorem bx2bd {q q':World} (hb:Below ((q.alloc (.cells #[.int .i64 0,.slice none 0 0] 37)).alloc (.cells #[.int .i64 0,.slice none 0 0] 37)).drew.heap.size ((q.alloc (.cells #[.int .i64 0,.slice none 0 0] 37)).alloc (.cells #[.int .i64 0,.slice none 0 0] 37)).drew q'):Box q' (q.heap.size+1):=by
 have h:=zxc (q.alloc (.cells #[.int .i64 0,.slice none 0 0] 37))
 rw [show (q.alloc (.cells #[.int .i64 0,.slice none 0 0] 37)).heap.size=q.heap.size+1 by simp] at h
 exact Box.later (w:=((q.alloc (.cells #[.int .i64 0,.slice none 0 0] 37)).alloc (.cells #[.int .i64 0,.slice none 0 0] 37)).drew) h hb
def MulCut (w:World) (x:Int) (a:Option Addr) (n c:Nat) (y:Int) (b:Option Addr) (m k:Nat) (x':Int) (a':Option Addr) (n' c':Nat) (y':Int) (b':Option Addr) (m' k':Nat) (M:Nat) (l r:Int) (lv rv:Value) (wx:World):Prop :=
 ∃ bl br l0 l1 l2 l3 r0 r1 r2 r3,lv=.pointer (some ⟨bl,0,none⟩)∧rv=.pointer (some ⟨br,0,none⟩)∧bl≠br∧w.heap.size+2<bl∧w.heap.size+2<br∧Vr wx bl l0 l1 l2 l3 M l∧Vr wx br r0 r1 r2 r3 M r∧W10 w x a n c y b m k x' a' n' c' y' b' m' k' wx
def NumCut (w:World) (x:Int) (a:Option Addr) (n c:Nat) (y:Int) (b:Option Addr) (m k:Nat) (x':Int) (a':Option Addr) (n' c':Nat) (y':Int) (b':Option Addr) (m' k':Nat) (bl br:Nat) (l0:Int) (l1:Option Addr) (l2 l3:Nat) (r0:Int) (r1:Option Addr) (r2 r3:Nat) (K:Nat) (t:Int) (tv:Value) (wx:World):Prop :=
 ∃ bn t0 t1 t2 t3,tv=.pointer (some ⟨bn,0,none⟩)∧bl≠bn∧br≠bn∧w.heap.size+2<bn∧Vr wx bn t0 t1 t2 t3 K t∧(Below w.heap.size w wx∧RBox wx (w.heap.size+2)∧wx.cell? ⟨w.heap.size,0,none⟩=some (.int .i64 x)∧wx.cell? ⟨w.heap.size,1,none⟩=some (.slice a n c)∧wx.cell? ⟨w.heap.size,2,none⟩=some (.int .i64 y)∧wx.cell? ⟨w.heap.size,3,none⟩=some (.slice b m k)∧wx.cell? ⟨w.heap.size+1,0,none⟩=some (.int .i64 x')∧wx.cell? ⟨w.heap.size+1,1,none⟩=some (.slice a' n' c')∧wx.cell? ⟨w.heap.size+1,2,none⟩=some (.int .i64 y')∧wx.cell? ⟨w.heap.size+1,3,none⟩=some (.slice b' m' k')∧wx.cell? ⟨bl,0,none⟩=some (.int .i64 l0)∧wx.cell? ⟨bl,1,none⟩=some (.slice l1 l2 l3)∧wx.cell? ⟨br,0,none⟩=some (.int .i64 r0)∧wx.cell? ⟨br,1,none⟩=some (.slice r1 r2 r3))
set_option maxHeartbeats 8000000 in
set_option maxRecDepth 8000 in
theorem qmul_any {N:Nat}{v v':Value}{p d p' d':Int} (w:World) (h:Rr (N+1) w v p d) (h':Rr (N+1) w v' p' d') (hN:N≤10000) (hT:Tab64 w) :
   Calls Tryz.prog 76 #[v,v'] w fun e w'=>(∃ v P D,e=.returned v∧Rr (4*N+10) w' v P D∧P*(d*d')=(p*p')*D)∧Below w.heap.size w w':=by
 have h0:=h
 have h0':=h'
 obtain ⟨x,a,n,c,y,b,m,k,e,rfl,h2,h3,d0,hg,hd⟩:=h
 obtain ⟨x',a',n',c',y',b',m',k',e',rfl,h2',h3',d0',hg',hd'⟩:=h'
 have hst:=W10.start w x y x' y' a b a' b' n c m k n' c' m' k'
 obtain ⟨l,r,p1,p2,d1,d2,hl,hrr,l0,r0,ep,ed',ep',ed,k1,k2,hgc⟩:=cross_lowest d0 d0' hg hg'
 have HL:=qh hl
 have HRR:=qh hrr
 have HE:=qh (And.intro ep (And.intro ed' (And.intro ep' ed)))
 have HGC:=qh hgc
 have HL0:=qh (And.intro l0 (And.intro r0 (And.intro k1 k2)))
 have HT:=qh hT
 clear hl hrr ep ed' ep' ed hgc hd hd' hg hg' l0 r0 k1 k2 hT
 obtain ⟨bw,HBW⟩:∃ bw,Hid (decide (d=1∧d'=1)=bw):=⟨_,rfl⟩
 go_enter Tryz.func76,Tryz.ntmps76
 go_upto_region 1 with fail
 obtain ⟨W0,hW0⟩:∃ W0,W0=((w.alloc (.cells #[.int .i64 x,.slice a n c,.int .i64 y,.slice b m k] 39)).alloc (.cells #[.int .i64 x',.slice a' n' c',.int .i64 y',.slice b' m' k'] 39)).alloc (.cells #[.int .i64 0,.slice none 0 0,.int .i64 0,.slice none 0 0] 39):=⟨_,rfl⟩
 rw [← hW0] at hst
 first | rw [← hW0] | (change Code.wp _ _ _ _ (((w.alloc (.cells #[.int .i64 x,.slice a n c,.int .i64 y,.slice b m k] 39)).alloc (.cells #[.int .i64 x',.slice a' n' c',.int .i64 y',.slice b' m' k'] 39)).alloc (.cells #[.int .i64 0,.slice none 0 0,.int .i64 0,.slice none 0 0] 39));rw [← hW0])
 clear hW0
 go_cut [13] (fun bv wx=>bv=.bool bw∧W10 w x a n c y b m k x' a' n' c' y' b' m' k' wx)
 case first =>
   obtain ⟨hB,hr,e0,e1,e2,e3,f0,f1,f2,f3⟩:=hst
   go_wp2_with fail
   go_fit (zko _ (h0.later hB))
   rintro e W1 ⟨rfl,hb1⟩
   have hst:=W10.keep hb1 ⟨hB,hr,e0,e1,e2,e3,f0,f1,f2,f3⟩
   clear hb1 hB hr e0 e1 e2 e3 f0 f1 f2 f3
   by_cases hw1:d=1
   · subst hw1
     obtain ⟨hB,hr,e0,e1,e2,e3,f0,f1,f2,f3⟩:=hst
     go_wp2_with fail
     go_fit (zko _ (h0'.later hB))
     rintro e W2 ⟨rfl,hb2⟩
     have hst:=W10.keep hb2 ⟨hB,hr,e0,e1,e2,e3,f0,f1,f2,f3⟩
     clear hB hr e0 e1 e2 e3 f0 f1 f2 f3 hb2
     go_wp2
     go_meet
     exact ⟨by rw [← uh HBW];simp,hst⟩
   · obtain ⟨hB,hr,e0,e1,e2,e3,f0,f1,f2,f3⟩:=hst
     go_wp2
     go_meet
     exact ⟨by rw [← uh HBW];simp [hw1],⟨hB,hr,e0,e1,e2,e3,f0,f1,f2,f3⟩⟩
 case rest =>
   obtain ⟨rfl,hst⟩:=hcut
   obtain ⟨W1,rfl⟩:∃ X,X=wc:=⟨_,rfl⟩
   rcases bw with _ | _
   rotate_left
   · have hw:d=1∧d'=1:=of_decide_eq_true (uh HBW)
     obtain ⟨hB,hr,e0,e1,e2,e3,f0,f1,f2,f3⟩:=hst
     go_wp2_with fail
     go_fit (zkm (N:=N) _ (h2.later hB) (h2'.later hB) (by omega))
     rintro e W3 ⟨⟨v3,rfl,hZ3⟩,hb3⟩
     obtain ⟨u3,a3,n3,c3,rfl⟩:=hZ3.shape
     have hbx:=hr.later hb3
     have hB3:=bk hb3 hB
     obtain ⟨⟨j0,g0⟩,⟨j1,j2,j3,g1⟩,⟨j4,g2⟩,⟨j5,j6,j7,g3⟩,gf⟩:=hbx.cells
     have hlt:=hbx.lt
     clear hB hr e0 e1 e2 e3 f0 f1 f2 f3 hb3
     go_wp2
     obtain ⟨st0,st1,st2,st3⟩:=hbx.stored (.int .i64 u3) (.slice a3 n3 c3) (.int .i64 0) (.slice none 0 0)
     exact bodyPost_ret (v:=.agg #[.int .i64 u3,.slice a3 n3 c3,.int .i64 0,.slice none 0 0]) (by simp [results,Tryz.results76,go_sem,st0,st1,st2,st3]) rfl ⟨⟨_,p*p',1,rfl,⟨_,_,_,_,_,_,_,_,0,rfl,(hZ3.rstored hbx _ _ _ _).mono (by omega),Zr.near _ (by decide) (by decide),by decide,by simp,Or.inl ⟨rfl,rfl⟩⟩,by rw [hw.1,hw.2];simp⟩,zqf hB3 (by omega) _ _ _ _⟩
   · go_upto_region 3 with fail
     go_cut [5,6] (fun lv rv wx=>MulCut w x a n c y b m k x' a' n' c' y' b' m' k' (2*(N+1)+1) l r lv rv wx)
     case first =>
       have hst0:=W10.lt hst
       obtain ⟨hB,hr,e0,e1,e2,e3,f0,f1,f2,f3⟩:=hst
       have tok1:True:=trivial
       have tok2:True:=trivial
       have S0:=qh (show Below w.heap.size w W1.drew∧RBox W1.drew (w.heap.size+2)∧W1.drew.cell? ⟨w.heap.size,0,none⟩=some (.int .i64 x)∧W1.drew.cell? ⟨w.heap.size,1,none⟩=some (.slice a n c)∧W1.drew.cell? ⟨w.heap.size,2,none⟩=some (.int .i64 y)∧W1.drew.cell? ⟨w.heap.size,3,none⟩=some (.slice b m k)∧W1.drew.cell? ⟨w.heap.size+1,0,none⟩=some (.int .i64 x')∧W1.drew.cell? ⟨w.heap.size+1,1,none⟩=some (.slice a' n' c')∧W1.drew.cell? ⟨w.heap.size+1,2,none⟩=some (.int .i64 y')∧W1.drew.cell? ⟨w.heap.size+1,3,none⟩=some (.slice b' m' k') from ⟨hB.drew,hr,e0,e1,e2,e3,f0,f1,f2,f3⟩)
       go_region_held3 (fun w'=>Below w.heap.size w w'∧RBox w' (w.heap.size+2)∧w'.cell? ⟨w.heap.size,0,none⟩=some (.int .i64 x)∧w'.cell? ⟨w.heap.size,1,none⟩=some (.slice a n c)∧w'.cell? ⟨w.heap.size,2,none⟩=some (.int .i64 y)∧w'.cell? ⟨w.heap.size,3,none⟩=some (.slice b m k)∧w'.cell? ⟨w.heap.size+1,0,none⟩=some (.int .i64 x')∧w'.cell? ⟨w.heap.size+1,1,none⟩=some (.slice a' n' c')∧w'.cell? ⟨w.heap.size+1,2,none⟩=some (.int .i64 y')∧w'.cell? ⟨w.heap.size+1,3,none⟩=some (.slice b' m' k'))
         (first | with_reducible exact uh S4 | with_reducible exact uh S3 | with_reducible exact uh S2 | with_reducible exact uh S1 | with_reducible exact uh S0 | with_reducible exact keepW10 (zqa _ _) (by assumption) | with_reducible exact drewW10 (by assumption) | with_reducible exact storeW10 (uh S4) qa _ _ | with_reducible exact storeW10 (uh S4) qb _ _ | with_reducible exact storeW10 (storeW10 (uh S4) qa _ _) qb _ _ | with_reducible exact storeW10 (storeW10 (uh S4) qb _ _) qa _ _ | with_reducible exact keepW10 (zqa _ _) (uh S4) | with_reducible exact keepW10 (zqg _ _ _) (uh S4) | with_reducible exact keepW10 (zqa _ _) (storeW10 (uh S4) qa _ _))
         (first
           | (go_at_call 104;have _t:=tok1;go_fit (den_any _ (h0'.later (And.left (by assumption))));rintro e q1 ⟨⟨v1,rfl,hD1⟩,hb1⟩;clear tok1;obtain ⟨i1,i2,i3,i4,rfl⟩:=hD1.shape;have S1:=qh (keepW10 hb1 (by assumption));have hq1:=bk hb1 (show Below W1.heap.size W1 _ from (by first | exact (Below.refl _ _).drew | exact (zqa _ _).drew | exact (zqg _ _ _).drew));(first | (have BXa:Hid (Box q1 W1.heap.size):=(by with_reducible exact qh (bx2ad hb1));have BXb:Hid (Box q1 (W1.heap.size+1)):=(by with_reducible exact qh (bx2bd hb1));have qa:w.heap.size+2<W1.heap.size:=hst0;have qb:w.heap.size+2<W1.heap.size+1:=Nat.lt_succ_of_lt qa;have hab:W1.heap.size<W1.heap.size+1:=Nat.lt_succ_self _) | (have hab:=zkw (uh BXa);have BXb:Hid (Box q1 W1.heap.size):=(by with_reducible exact qh (bx1d hb1));have qb:w.heap.size+2<W1.heap.size:=hst0;replace BXa:=qh ((uh BXa).later hq1)) | (have BXa:Hid (Box q1 W1.heap.size):=(by with_reducible exact qh (bx1d hb1));have qa:w.heap.size+2<W1.heap.size:=hst0) | (replace BXa:=qh ((uh BXa).later hq1);replace BXb:=qh ((uh BXb).later hq1)) | (replace BXa:=qh ((uh BXa).later hq1)) | skip);clear hb1 hq1)
           | (go_at_call 135;have _t:=tok2;go_fit (gcd_any (N:=N) _ (h2.later (And.left (by assumption))) (hD1.later (by first | exact Below.refl _ _ | exact zqa _ _ | exact zqg _ _ _)) (by omega) ((uh HT).later (And.left (by assumption))));rintro e q2 ⟨⟨v2,rfl,hG2⟩,hb2⟩;clear tok2;obtain ⟨i5,i6,i7,i8,rfl⟩:=hG2.shape;have S2:=qh (keepW10 hb2 (by assumption));have hq2:=bk hb2 (show Below q1.heap.size q1 _ from (by first | exact Below.refl _ _ | exact zqa _ _ | exact zqg _ _ _));(first | (have BXa:Hid (Box q2 q1.heap.size):=(by with_reducible exact qh (bx2a hb2));have BXb:Hid (Box q2 (q1.heap.size+1)):=(by with_reducible exact qh (bx2b hb2));have qa:w.heap.size+2<q1.heap.size:=W10.lt (uh S1);have qb:w.heap.size+2<q1.heap.size+1:=Nat.lt_succ_of_lt qa;have hab:q1.heap.size<q1.heap.size+1:=Nat.lt_succ_self _) | (have hab:=zkw (uh BXa);have BXb:Hid (Box q2 q1.heap.size):=(by with_reducible exact qh (bx1 hb2));have qb:w.heap.size+2<q1.heap.size:=W10.lt (uh S1);replace BXa:=qh ((uh BXa).later hq2)) | (have BXa:Hid (Box q2 q1.heap.size):=(by with_reducible exact qh (bx1 hb2));have qa:w.heap.size+2<q1.heap.size:=W10.lt (uh S1)) | (replace BXa:=qh ((uh BXa).later hq2);replace BXb:=qh ((uh BXb).later hq2)) | (replace BXa:=qh ((uh BXa).later hq2)) | skip);clear hb2 hq2 hD1)
           | (go_at_call 104;go_fit (den_any _ (h0.later (And.left (by assumption))));rintro e q3 ⟨⟨v3,rfl,hD3⟩,hb3⟩;obtain ⟨i9,i10,i11,i12,rfl⟩:=hD3.shape;have S3:=qh (keepW10 hb3 (by assumption));have hq3:=bk hb3 (show Below q2.heap.size q2 _ from (by first | exact Below.refl _ _ | exact zqa _ _ | exact zqg _ _ _));(first | (have BXa:Hid (Box q3 q2.heap.size):=(by with_reducible exact qh (bx2a hb3));have BXb:Hid (Box q3 (q2.heap.size+1)):=(by with_reducible exact qh (bx2b hb3));have qa:w.heap.size+2<q2.heap.size:=W10.lt (uh S2);have qb:w.heap.size+2<q2.heap.size+1:=Nat.lt_succ_of_lt qa;have hab:q2.heap.size<q2.heap.size+1:=Nat.lt_succ_self _) | (have hab:=zkw (uh BXa);have BXb:Hid (Box q3 q2.heap.size):=(by with_reducible exact qh (bx1 hb3));have qb:w.heap.size+2<q2.heap.size:=W10.lt (uh S2);replace BXa:=qh ((uh BXa).later hq3)) | (have BXa:Hid (Box q3 q2.heap.size):=(by with_reducible exact qh (bx1 hb3));have qa:w.heap.size+2<q2.heap.size:=W10.lt (uh S2)) | (replace BXa:=qh ((uh BXa).later hq3);replace BXb:=qh ((uh BXb).later hq3)) | (replace BXa:=qh ((uh BXa).later hq3)) | skip);replace hG2:=hG2.later hq3;clear hb3 hq3)
           | (go_at_call 135;go_fit (gcd_any (N:=N) _ (h2'.later (And.left (by assumption))) (hD3.later (by first | exact Below.refl _ _ | exact zqa _ _ | exact zqg _ _ _)) (by omega) ((uh HT).later (And.left (by assumption))));rintro e q4 ⟨⟨v4,rfl,hG4⟩,hb4⟩;obtain ⟨i13,i14,i15,i16,rfl⟩:=hG4.shape;have S4:=qh (keepW10 hb4 (by assumption));have hq4:=bk hb4 (show Below q3.heap.size q3 _ from (by first | exact Below.refl _ _ | exact zqa _ _ | exact zqg _ _ _));(first | (have BXa:Hid (Box q4 q3.heap.size):=(by with_reducible exact qh (bx2a hb4));have BXb:Hid (Box q4 (q3.heap.size+1)):=(by with_reducible exact qh (bx2b hb4));have qa:w.heap.size+2<q3.heap.size:=W10.lt (uh S3);have qb:w.heap.size+2<q3.heap.size+1:=Nat.lt_succ_of_lt qa;have hab:q3.heap.size<q3.heap.size+1:=Nat.lt_succ_self _) | (have hab:=zkw (uh BXa);have BXb:Hid (Box q4 q3.heap.size):=(by with_reducible exact qh (bx1 hb4));have qb:w.heap.size+2<q3.heap.size:=W10.lt (uh S3);replace BXa:=qh ((uh BXa).later hq4)) | (have BXa:Hid (Box q4 q3.heap.size):=(by with_reducible exact qh (bx1 hb4));have qa:w.heap.size+2<q3.heap.size:=W10.lt (uh S3)) | (replace BXa:=qh ((uh BXa).later hq4);replace BXb:=qh ((uh BXb).later hq4)) | (replace BXa:=qh ((uh BXa).later hq4)) | skip);have ZL:=qh (hG2.later hq4);have ZR:=qh hG4;have q4s:=W10.lt (uh S4);(first | (obtain ⟨⟨z0,zz0⟩,⟨z1,z2,z3,zz1⟩,zzf⟩:=(uh BXa).cells;obtain ⟨⟨y0,yy0⟩,⟨y1,y2,y3,yy1⟩,yyf⟩:=(uh BXb).cells;have hlb:=zkw (uh BXa);have hrb:=zkw (uh BXb);have hn1:=Nat.ne_of_lt hab;have hn2:=Nat.ne_of_gt hab) | (obtain ⟨⟨z0,zz0⟩,⟨z1,z2,z3,zz1⟩,zzf⟩:=(uh BXa).cells;have hlb:=zkw (uh BXa);have hn1:=Nat.ne_of_lt hlb;have hn2:=Nat.ne_of_gt hlb) | skip);clear hb4 hq4 hD3 hG2 hG4))
       all_goals
         go_wp2
         go_meet
         first
           | (have hv:=two_new (uh ZL) (uh ZR);exact ⟨_,_,_,_,_,_,_,_,_,_,rfl,rfl,by omega,q4s,Nat.lt_succ_of_lt q4s,⟨hv.1.c0,hv.1.c1,hv.1.box,hv.1.zr.eq (uh HL).symm⟩,⟨hv.2.c0,hv.2.c1,hv.2.box,hv.2.zr.eq (uh HRR).symm⟩,keepW10 (zqg _ _ _) (uh S4)⟩)
           | (have hv:=two_new (uh ZR) (uh ZL);exact ⟨_,_,_,_,_,_,_,_,_,_,rfl,rfl,by omega,Nat.lt_succ_of_lt q4s,q4s,⟨hv.2.c0,hv.2.c1,hv.2.box,hv.2.zr.eq (uh HL).symm⟩,⟨hv.1.c0,hv.1.c1,hv.1.box,hv.1.zr.eq (uh HRR).symm⟩,keepW10 (zqg _ _ _) (uh S4)⟩)
           | (have hv:=one_in (uh BXa) (uh ZL) (uh ZR);exact ⟨_,_,_,_,_,_,_,_,_,_,rfl,rfl,by omega,qa,q4s,⟨hv.1.c0,hv.1.c1,hv.1.box,hv.1.zr.eq (uh HL).symm⟩,⟨hv.2.c0,hv.2.c1,hv.2.box,hv.2.zr.eq (uh HRR).symm⟩,keepW10 (zqa _ _) (storeW10 (uh S4) qa _ _)⟩)
           | (have hv:=one_in (uh BXa) (uh ZR) (uh ZL);exact ⟨_,_,_,_,_,_,_,_,_,_,rfl,rfl,by omega,q4s,qa,⟨hv.2.c0,hv.2.c1,hv.2.box,hv.2.zr.eq (uh HL).symm⟩,⟨hv.1.c0,hv.1.c1,hv.1.box,hv.1.zr.eq (uh HRR).symm⟩,keepW10 (zqa _ _) (storeW10 (uh S4) qa _ _)⟩)
           | (have hv:=two_in (uh BXa) (uh BXb) hn1 (uh ZL) (uh ZR);exact ⟨_,_,_,_,_,_,_,_,_,_,rfl,rfl,by omega,qa,qb,⟨hv.1.c0,hv.1.c1,hv.1.box,hv.1.zr.eq (uh HL).symm⟩,⟨hv.2.c0,hv.2.c1,hv.2.box,hv.2.zr.eq (uh HRR).symm⟩,storeW10 (storeW10 (uh S4) qa _ _) qb _ _⟩)
           | (have hv:=two_in (uh BXb) (uh BXa) hn2 (uh ZL) (uh ZR);exact ⟨_,_,_,_,_,_,_,_,_,_,rfl,rfl,by omega,qb,qa,⟨hv.1.c0,hv.1.c1,hv.1.box,hv.1.zr.eq (uh HL).symm⟩,⟨hv.2.c0,hv.2.c1,hv.2.box,hv.2.zr.eq (uh HRR).symm⟩,storeW10 (storeW10 (uh S4) qb _ _) qa _ _⟩)
     case rest =>
       obtain ⟨bl,br,l0,l1,l2,l3,r0,r1,r2,r3,rfl,rfl,hne,qbl,qbr,hvl,hvr,hst⟩:=hcut
       obtain ⟨W2,rfl⟩:∃ X,X=wc:=⟨_,rfl⟩
       obtain ⟨hB,hr,e0,e1,e2,e3,f0,f1,f2,f3⟩:=hst
       have lc0:=hvl.c0
       have lc1:=hvl.c1
       have rc0:=hvr.c0
       have rc1:=hvr.c1
       have lbl:=hvl.lt
       have lbr:=hvr.lt
       have hlt2:=hr.lt
       have ZL:=qh hvl.zr
       have ZR:=qh hvr.zr
       clear hvl hvr
       go_upto_region 4 with fail
       go_cut [7] (fun tv wx=>NumCut w x a n c y b m k x' a' n' c' y' b' m' k' bl br l0 l1 l2 l3 r0 r1 r2 r3 (4*N+10) (p1*p2) tv wx∧Hid (Zr (2*(N+1)+1) wx (.agg #[.int .i64 l0,.slice l1 l2 l3]) l)∧Hid (Zr (2*(N+1)+1) wx (.agg #[.int .i64 r0,.slice r1 r2 r3]) r))
       case first =>
         have tok1:True:=trivial
         have S0:=qh (show Below w.heap.size w W2.drew∧RBox W2.drew (w.heap.size+2)∧W2.drew.cell? ⟨w.heap.size,0,none⟩=some (.int .i64 x)∧W2.drew.cell? ⟨w.heap.size,1,none⟩=some (.slice a n c)∧W2.drew.cell? ⟨w.heap.size,2,none⟩=some (.int .i64 y)∧W2.drew.cell? ⟨w.heap.size,3,none⟩=some (.slice b m k)∧W2.drew.cell? ⟨w.heap.size+1,0,none⟩=some (.int .i64 x')∧W2.drew.cell? ⟨w.heap.size+1,1,none⟩=some (.slice a' n' c')∧W2.drew.cell? ⟨w.heap.size+1,2,none⟩=some (.int .i64 y')∧W2.drew.cell? ⟨w.heap.size+1,3,none⟩=some (.slice b' m' k')∧W2.drew.cell? ⟨bl,0,none⟩=some (.int .i64 l0)∧W2.drew.cell? ⟨bl,1,none⟩=some (.slice l1 l2 l3)∧W2.drew.cell? ⟨br,0,none⟩=some (.int .i64 r0)∧W2.drew.cell? ⟨br,1,none⟩=some (.slice r1 r2 r3) from ⟨hB.drew,hr,e0,e1,e2,e3,f0,f1,f2,f3,lc0,lc1,rc0,rc1⟩)
         go_region_held3 (fun w'=>Below w.heap.size w w'∧RBox w' (w.heap.size+2)∧w'.cell? ⟨w.heap.size,0,none⟩=some (.int .i64 x)∧w'.cell? ⟨w.heap.size,1,none⟩=some (.slice a n c)∧w'.cell? ⟨w.heap.size,2,none⟩=some (.int .i64 y)∧w'.cell? ⟨w.heap.size,3,none⟩=some (.slice b m k)∧w'.cell? ⟨w.heap.size+1,0,none⟩=some (.int .i64 x')∧w'.cell? ⟨w.heap.size+1,1,none⟩=some (.slice a' n' c')∧w'.cell? ⟨w.heap.size+1,2,none⟩=some (.int .i64 y')∧w'.cell? ⟨w.heap.size+1,3,none⟩=some (.slice b' m' k')∧w'.cell? ⟨bl,0,none⟩=some (.int .i64 l0)∧w'.cell? ⟨bl,1,none⟩=some (.slice l1 l2 l3)∧w'.cell? ⟨br,0,none⟩=some (.int .i64 r0)∧w'.cell? ⟨br,1,none⟩=some (.slice r1 r2 r3))
           (first | with_reducible exact uh S3 | with_reducible exact uh S2 | with_reducible exact uh S1 | with_reducible exact uh S0 | with_reducible exact keepW14 (zqa _ _) (by assumption) | with_reducible exact drewW14 (by assumption) | with_reducible exact storeW14 (uh S3) qa nl nr _ _ | with_reducible exact keepW14 (zqa _ _) (uh S3))
           (first
             | (go_at_call 136;have _t:=tok1;go_fit (zkd (N:=2*N+2) (q:=p1) _ ((h2.later (And.left (by assumption))).mono (by omega)) ((uh ZL).later (by first | exact (Below.refl _ _).drew | exact (zqa _ _).drew)) (uh HL0).1 (uh HE).1 (by omega));rintro e q1 ⟨⟨v1,rfl,hP1⟩,hb1⟩;clear tok1;obtain ⟨i1,i2,i3,i4,rfl⟩:=hP1.shape;have S1:=qh (keepW14 hb1 (by assumption));have hq1:=bk hb1 (show Below W2.heap.size W2 _ from (by first | exact (Below.refl _ _).drew | exact (zqa _ _).drew));(first | (have BXa:Hid (Box q1 W2.heap.size):=(by with_reducible exact qh (bx1d hb1));have qa:w.heap.size+2<W2.heap.size:=hlt2;have qs:W2.heap.size≤W2.heap.size:=Nat.le_refl _) | (replace BXa:=qh ((uh BXa).later hq1)) | skip);replace ZL:=qh ((uh ZL).later hq1);replace ZR:=qh ((uh ZR).later hq1);have sz1:=hq1.size;clear hb1 hq1)
             | (go_at_call 136;go_fit (zkd (N:=2*N+2) (q:=p2) _ ((h2'.later (And.left (by assumption))).mono (by omega)) ((uh ZR).later (by first | exact Below.refl _ _ | exact zqa _ _)) (uh HL0).2.1 (uh HE).2.2.1 (by omega));rintro e q2 ⟨⟨v2,rfl,hP2⟩,hb2⟩;obtain ⟨i5,i6,i7,i8,rfl⟩:=hP2.shape;have S2:=qh (keepW14 hb2 (by assumption));have hq2:=bk hb2 (show Below q1.heap.size q1 _ from (by first | exact Below.refl _ _ | exact zqa _ _));(first | (have BXa:Hid (Box q2 q1.heap.size):=(by with_reducible exact qh (bx1 hb2));have qa:w.heap.size+2<q1.heap.size:=(uh S1).2.1.lt;have qs:W2.heap.size≤q1.heap.size:=sz1) | (replace BXa:=qh ((uh BXa).later hq2)) | skip);replace ZL:=qh ((uh ZL).later hq2);replace ZR:=qh ((uh ZR).later hq2);replace hP1:=hP1.later hq2;have sz2:=Nat.le_trans sz1 hq2.size;clear hb2 hq2)
             | (go_at_call 132;go_fit (zkm (N:=2*N+4) _ (hP1.later (by first | exact Below.refl _ _ | exact zqa _ _)) (hP2.later (by first | exact Below.refl _ _ | exact zqa _ _)) (by omega));rintro e q3 ⟨⟨v3,rfl,hM3⟩,hb3⟩;obtain ⟨i9,i10,i11,i12,rfl⟩:=hM3.shape;have S3:=qh (keepW14 hb3 (by assumption));have hq3:=bk hb3 (show Below q2.heap.size q2 _ from (by first | exact Below.refl _ _ | exact zqa _ _));(first | (have BXa:Hid (Box q3 q2.heap.size):=(by with_reducible exact qh (bx1 hb3));have qa:w.heap.size+2<q2.heap.size:=(uh S2).2.1.lt;have qs:W2.heap.size≤q2.heap.size:=sz2) | (replace BXa:=qh ((uh BXa).later hq3)) | skip);replace ZL:=qh ((uh ZL).later hq3);replace ZR:=qh ((uh ZR).later hq3);have sz3:=Nat.le_trans sz2 hq3.size;have q3s:=(uh S3).2.1.lt;have HM3:=qh hM3;(first | (obtain ⟨⟨z0,zz0⟩,⟨z1,z2,z3,zz1⟩,zzf⟩:=(uh BXa).cells;have hlb:=zkw (uh BXa);have nl:=Nat.ne_of_lt (Nat.lt_of_lt_of_le lbl qs);have nr:=Nat.ne_of_lt (Nat.lt_of_lt_of_le lbr qs)) | skip);clear hb3 hq3 hP1 hP2 hM3))
         all_goals
           go_wp2
           go_meet
           first
             | exact ⟨⟨_,_,_,_,_,rfl,Nat.ne_of_lt (Nat.lt_of_lt_of_le lbl sz3),Nat.ne_of_lt (Nat.lt_of_lt_of_le lbr sz3),q3s,(Vr.new (uh HM3)).mono (by omega),keepW14 (zqa _ _) (uh S3)⟩,qh ((uh ZL).later (zqa _ _)),qh ((uh ZR).later (zqa _ _))⟩
             | exact ⟨⟨_,_,_,_,_,rfl,nl,nr,qa,(Vr.in (uh BXa) (uh HM3)).mono (by omega),storeW14 (uh S3) qa nl nr _ _⟩,qh ((uh ZL).stored (uh BXa) _ _),qh ((uh ZR).stored (uh BXa) _ _)⟩
       case rest =>
         obtain ⟨⟨bn,t0,t1,t2,t3,rfl,hnl,hnr,qbn,hvn,hst⟩,ZL,ZR⟩:=hcut
         obtain ⟨W3,rfl⟩:∃ X,X=wc:=⟨_,rfl⟩
         clear e0 e1 e2 e3 f0 f1 f2 f3 hB hr lc0 lc1 rc0 rc1 lbl lbr hlt2
         obtain ⟨hB,hr,e0,e1,e2,e3,f0,f1,f2,f3,lc0,lc1,rc0,rc1⟩:=hst
         have nc0:=hvn.c0
         have nc1:=hvn.c1
         have ZN:=qh hvn.zr
         clear hvn
         go_wp2_with fail
         have tok1:True:=trivial
         have tok2:True:=trivial
         have S0:=qh (show Below w.heap.size w W3.drew∧RBox W3.drew (w.heap.size+2)∧W3.drew.cell? ⟨w.heap.size,0,none⟩=some (.int .i64 x)∧W3.drew.cell? ⟨w.heap.size,1,none⟩=some (.slice a n c)∧W3.drew.cell? ⟨w.heap.size,2,none⟩=some (.int .i64 y)∧W3.drew.cell? ⟨w.heap.size,3,none⟩=some (.slice b m k)∧W3.drew.cell? ⟨w.heap.size+1,0,none⟩=some (.int .i64 x')∧W3.drew.cell? ⟨w.heap.size+1,1,none⟩=some (.slice a' n' c')∧W3.drew.cell? ⟨w.heap.size+1,2,none⟩=some (.int .i64 y')∧W3.drew.cell? ⟨w.heap.size+1,3,none⟩=some (.slice b' m' k')∧W3.drew.cell? ⟨bl,0,none⟩=some (.int .i64 l0)∧W3.drew.cell? ⟨bl,1,none⟩=some (.slice l1 l2 l3)∧W3.drew.cell? ⟨br,0,none⟩=some (.int .i64 r0)∧W3.drew.cell? ⟨br,1,none⟩=some (.slice r1 r2 r3)∧W3.drew.cell? ⟨bn,0,none⟩=some (.int .i64 t0)∧W3.drew.cell? ⟨bn,1,none⟩=some (.slice t1 t2 t3) from ⟨hB.drew,hr,e0,e1,e2,e3,f0,f1,f2,f3,lc0,lc1,rc0,rc1,nc0,nc1⟩)
         go_region_held3 (fun w'=>Below w.heap.size w w'∧RBox w' (w.heap.size+2)∧w'.cell? ⟨w.heap.size,0,none⟩=some (.int .i64 x)∧w'.cell? ⟨w.heap.size,1,none⟩=some (.slice a n c)∧w'.cell? ⟨w.heap.size,2,none⟩=some (.int .i64 y)∧w'.cell? ⟨w.heap.size,3,none⟩=some (.slice b m k)∧w'.cell? ⟨w.heap.size+1,0,none⟩=some (.int .i64 x')∧w'.cell? ⟨w.heap.size+1,1,none⟩=some (.slice a' n' c')∧w'.cell? ⟨w.heap.size+1,2,none⟩=some (.int .i64 y')∧w'.cell? ⟨w.heap.size+1,3,none⟩=some (.slice b' m' k')∧w'.cell? ⟨bl,0,none⟩=some (.int .i64 l0)∧w'.cell? ⟨bl,1,none⟩=some (.slice l1 l2 l3)∧w'.cell? ⟨br,0,none⟩=some (.int .i64 r0)∧w'.cell? ⟨br,1,none⟩=some (.slice r1 r2 r3)∧w'.cell? ⟨bn,0,none⟩=some (.int .i64 t0)∧w'.cell? ⟨bn,1,none⟩=some (.slice t1 t2 t3))
           (first | with_reducible exact uh S6 | with_reducible exact uh S5 | with_reducible exact uh S4 | with_reducible exact uh S3 | with_reducible exact uh S2 | with_reducible exact uh S1 | with_reducible exact uh S0 | with_reducible exact outW16 (uh S6) qbl qbr qbn _ _ _ _ _ _ _ _)
           (first
             | (go_at_call 104;have _t:=tok1;go_fit (den_any _ (h0.later (And.left (by assumption))));rintro e q1 ⟨⟨v1,rfl,hD1⟩,hb1⟩;clear tok1;obtain ⟨i1,i2,i3,i4,rfl⟩:=hD1.shape;have S1:=qh (keepW16 hb1 (uh S0));replace ZL:=qh (Zr.later (w:=W3.drew) (uh ZL) hb1);replace ZR:=qh (Zr.later (w:=W3.drew) (uh ZR) hb1);replace ZN:=qh (Zr.later (w:=W3.drew) (uh ZN) hb1);clear hb1)
             | (go_at_call 136;have _t:=tok2;go_fit (zkd (N:=2*N+2) (q:=d1) _ (hD1.mono (by omega)) (uh ZR) (uh HL0).2.1 (uh HE).2.2.2 (by omega));rintro e q2 ⟨⟨v2,rfl,hP2⟩,hb2⟩;clear tok2;obtain ⟨i5,i6,i7,i8,rfl⟩:=hP2.shape;have S2:=qh (keepW16 hb2 (uh S1));replace ZL:=qh ((uh ZL).later hb2);replace ZN:=qh ((uh ZN).later hb2);clear hb2 ZR)
             | (go_at_call 104;go_fit (den_any _ (h0'.later (And.left (by assumption))));rintro e q3 ⟨⟨v3,rfl,hD3⟩,hb3⟩;obtain ⟨i9,i10,i11,i12,rfl⟩:=hD3.shape;have S3:=qh (keepW16 hb3 (uh S2));replace ZL:=qh ((uh ZL).later hb3);replace ZN:=qh ((uh ZN).later hb3);replace hP2:=hP2.later hb3;clear hb3)
             | (go_at_call 136;go_fit (zkd (N:=2*N+2) (q:=d2) _ (hD3.mono (by omega)) (uh ZL) (uh HL0).1 (uh HE).2.1 (by omega));rintro e q4 ⟨⟨v4,rfl,hP4⟩,hb4⟩;obtain ⟨i13,i14,i15,i16,rfl⟩:=hP4.shape;have S4:=qh (keepW16 hb4 (uh S3));replace ZN:=qh ((uh ZN).later hb4);replace hP2:=hP2.later hb4;clear hb4 ZL)
             | (go_at_call 132;go_fit (zkm (N:=2*N+4) _ hP2 hP4 (by omega));rintro e q5 ⟨⟨v5,rfl,hM5⟩,hb5⟩;obtain ⟨i17,i18,i19,i20,rfl⟩:=hM5.shape;have S5:=qh (keepW16 hb5 (uh S4));replace ZN:=qh ((uh ZN).later hb5);clear hb5)
             | (go_at_call 137;go_fit (lowest_any (N:=4*N+9) _ (uh ZN) (hM5.mono (by omega)) (Int.mul_pos (uh HL0).2.2.1 (uh HL0).2.2.2) (uh HGC) (by omega));rintro e q6 ⟨⟨v6,rfl,hR6⟩,hb6⟩;obtain ⟨u0,u1,u2,u3,u4,u5,u6,u7,e9,rfl,hP6,hD6,D0,hG6,hE6⟩:=hR6;have HG6:=qh hG6;have HD6:=qh hE6;clear hG6 hE6;have S6:=qh (keepW16 hb6 (uh S5));have hbx:=(uh S6).2.1;obtain ⟨⟨j0,g0⟩,⟨j1,j2,j3,g1⟩,⟨j4,g2⟩,⟨j5,j6,j7,g3⟩,gf⟩:=hbx.cells;have hlt:=hbx.lt;clear hb6))
         have hB3:=(uh S6).1
         have hbx:=(uh S6).2.1
         go_wp2
         obtain ⟨st0,st1,st2,st3⟩:=hbx.stored (.int .i64 u0) (.slice u1 u2 u3) (.int .i64 u4) (.slice u5 u6 u7)
         exact bodyPost_ret (v:=.agg #[.int .i64 u0,.slice u1 u2 u3,.int .i64 u4,.slice u5 u6 u7]) (by simp [results,Tryz.results76,go_sem,st0,st1,st2,st3]) rfl ⟨⟨_,p1*p2,d1*d2,rfl,⟨_,_,_,_,_,_,_,_,e9,rfl,hP6.rstored hbx _ _ _ _,hD6.rstored hbx _ _ _ _,D0,uh HG6,uh HD6⟩,mul_cross (uh HE).1 (uh HE).2.1 (uh HE).2.2.1 (uh HE).2.2.2⟩,zqf hB3 (by omega) _ _ _ _⟩
theorem cop_lin {p t q o:Int} (h1:Int.gcd p o=1) (h2:Int.gcd t o=1):Int.gcd (p*t+q*o) o=1:=by
 rw [Int.gcd_comm,Int.add_comm,Int.gcd_mul_right_add_right,Int.gcd_comm]
 have:=cop_mul (p1:=p) (p2:=t) (d1:=o) (d2:=1) h1 (by simp) h2 (by simp)
 rwa [Int.mul_one] at this
theorem cop_right {p a b:Int} (h1:Int.gcd p a=1) (h2:Int.gcd p b=1):Int.gcd p (a*b)=1:=by
 have:=cop_mul (p1:=p) (p2:=1) (d1:=a) (d2:=b) h1 h2 (by simp) (by simp)
 rwa [Int.mul_one] at this
theorem le_times {a b:Int} (a0:0<a) (b0:0<b):a≤a*b:=by
 have h:a*1≤a*b:=Int.mul_le_mul_of_nonneg_left (by omega) (by omega)
 omega
theorem sum_lowest {p d p' d':Int} (d0:0<d) (d0':0<d') (hg:Int.gcd p d=1) (hg':Int.gcd p' d'=1) :
   ∃ g o t e T x:Int,g=(Int.gcd d d':Int)∧0<g∧d=o*g∧d'=t*g∧0<o∧0<t∧e=(Int.gcd (p*t+p'*o) g:Int)∧0<e∧p*t+p'*o=T*e∧d'=x*e∧0<o*x∧Int.gcd T (o*x)=1∧T*(d*d')=(p*d'+p'*d)*(o*x)∧g≤d∧o≤d∧t≤d'∧e≤d:=by
 obtain ⟨g,o,t,h1,g0,e1,e2,t0,ho⟩:=zkv (p:=d) (d:=d') d0'
 have o0:0<o:=Int.pos_of_mul_pos_left (by rw [← e1];exact d0) g0
 obtain ⟨e,T,ge,h2,e0,e3,e4,ge0,hT⟩:=zkv (p:=p*t+p'*o) (d:=g) g0
 have c1:Int.gcd p o=1:=cop_part (l:=1) (r:=g) (by rw [Int.mul_one,← e1];exact hg)
 have c2:Int.gcd p' t=1:=cop_part (l:=1) (r:=g) (by rw [Int.mul_one,← e2];exact hg')
 have c3:Int.gcd (p*t+p'*o) o=1:=cop_lin c1 (by rw [Int.gcd_comm];exact ho)
 have c4:Int.gcd (p*t+p'*o) t=1:=by rw [Int.add_comm];exact cop_lin c2 ho
 have c5:Int.gcd T o=1:=cop_part (l:=e) (r:=1) (by rw [← e3,Int.mul_one];exact c3)
 have c6:Int.gcd T t=1:=cop_part (l:=e) (r:=1) (by rw [← e3,Int.mul_one];exact c4)
 have m1:=le_times o0 g0
 have m2:=le_times t0 g0
 have m3:=le_times g0 o0
 have m4:=le_times e0 ge0
 rw [Int.mul_comm] at m3 m4
 refine ⟨g,o,t,e,T,t*ge,h1,g0,e1,e2,o0,t0,h2,e0,e3,by rw [Int.mul_assoc,← e4];exact e2,Int.mul_pos o0 (Int.mul_pos t0 ge0),cop_right c5 (cop_right c6 hT),?_,by omega,by omega,by omega,by omega⟩
 have e5:p*d'+p'*d=(p*t+p'*o)*g:=by rw [e1,e2];grind
 rw [e5,e3,e1,e2]
 have e6:T*e*g*(o*(t*ge))=T*g*o*t*(ge*e):=by grind
 rw [e6,← e4]
 grind
theorem cop_whole {p d p':Int} (h:Int.gcd p d=1):Int.gcd (p+p'*d) d=1:=by
 rw [Int.gcd_comm,Int.add_comm,Int.gcd_mul_right_add_right,Int.gcd_comm];exact h
theorem Zr.inside {N:Nat}{w:World}{v:Value}{z:Int} (h:Zr (N+1) w v z):-pw (N+1)<z∧z<pw (N+1):=by
 have p1:=zka N
 have p2:=zxq N
 rcases h with ⟨_,h0,h1⟩ | ⟨s,b,off,cap,l,h1,h2,h3,h4,h5,h6,h7,h8⟩
 · omega
 · have k1:=zjk h3
   have k2:=pw_mono h7
   have k3:=zqh h3
   rcases h2 with rfl | rfl <;> omega
theorem Zr.down {N M:Nat}{w:World}{v:Value}{z y:Int} (h:Zr M w v z) (z0:0<z) (hy:z≤y) (hb:y<pw (N+1)):Zr (N+1) w v z:=h.fit (by have:=zka (N+1);omega) (by omega)
theorem Zr.two {W:World}{bl br:Nat}{N:Nat}{g:Int}{v:Value} (h:Zr N W v g) (hl:Box W bl) (hr:Box W br) (hne:bl≠br) (l0:Int) (l1:Option Addr) (l2 l3:Nat) (r0:Int) (r1:Option Addr) (r2 r3:Nat) :
   Zr N ((((W.setCell ⟨bl,0,none⟩ (.int .i64 l0)).setCell ⟨bl,1,none⟩ (.slice l1 l2 l3)).setCell ⟨br,0,none⟩ (.int .i64 r0)).setCell ⟨br,1,none⟩ (.slice r1 r2 r3)) v g :=
 (h.stored hl _ _).stored ((hr.other (Ne.symm hne) _).other (Ne.symm hne) _) _ _
theorem keepW12 {w w1 w2:World}{x y x' y':Int}{a b a' b':Option Addr}{n c m k n' c' m' k':Nat}{bn:Nat}{t0:Int}{t1:Option Addr}{t2 t3:Nat} (hb:Below w1.heap.size w1 w2) (h:Below w.heap.size w w1∧RBox w1 (w.heap.size+2)∧w1.cell? ⟨w.heap.size,0,none⟩=some (.int .i64 x)∧w1.cell? ⟨w.heap.size,1,none⟩=some (.slice a n c)∧w1.cell? ⟨w.heap.size,2,none⟩=some (.int .i64 y)∧w1.cell? ⟨w.heap.size,3,none⟩=some (.slice b m k)∧w1.cell? ⟨w.heap.size+1,0,none⟩=some (.int .i64 x')∧w1.cell? ⟨w.heap.size+1,1,none⟩=some (.slice a' n' c')∧w1.cell? ⟨w.heap.size+1,2,none⟩=some (.int .i64 y')∧w1.cell? ⟨w.heap.size+1,3,none⟩=some (.slice b' m' k')∧w1.cell? ⟨bn,0,none⟩=some (.int .i64 t0)∧w1.cell? ⟨bn,1,none⟩=some (.slice t1 t2 t3)):Below w.heap.size w w2∧RBox w2 (w.heap.size+2)∧w2.cell? ⟨w.heap.size,0,none⟩=some (.int .i64 x)∧w2.cell? ⟨w.heap.size,1,none⟩=some (.slice a n c)∧w2.cell? ⟨w.heap.size,2,none⟩=some (.int .i64 y)∧w2.cell? ⟨w.heap.size,3,none⟩=some (.slice b m k)∧w2.cell? ⟨w.heap.size+1,0,none⟩=some (.int .i64 x')∧w2.cell? ⟨w.heap.size+1,1,none⟩=some (.slice a' n' c')∧w2.cell? ⟨w.heap.size+1,2,none⟩=some (.int .i64 y')∧w2.cell? ⟨w.heap.size+1,3,none⟩=some (.slice b' m' k')∧w2.cell? ⟨bn,0,none⟩=some (.int .i64 t0)∧w2.cell? ⟨bn,1,none⟩=some (.slice t1 t2 t3) :=
 ⟨bk hb h.1,RBox.later h.2.1 hb,ck hb h.2.2.1,ck hb h.2.2.2.1,ck hb h.2.2.2.2.1,ck hb h.2.2.2.2.2.1,ck hb h.2.2.2.2.2.2.1,ck hb h.2.2.2.2.2.2.2.1,ck hb h.2.2.2.2.2.2.2.2.1,ck hb h.2.2.2.2.2.2.2.2.2.1,ck hb h.2.2.2.2.2.2.2.2.2.2.1,ck hb h.2.2.2.2.2.2.2.2.2.2.2⟩
theorem storeW12 {w w1:World}{x y x' y':Int}{a b a' b':Option Addr}{n c m k n' c' m' k':Nat}{bn:Nat}{t0:Int}{t1:Option Addr}{t2 t3:Nat} (h:Below w.heap.size w w1∧RBox w1 (w.heap.size+2)∧w1.cell? ⟨w.heap.size,0,none⟩=some (.int .i64 x)∧w1.cell? ⟨w.heap.size,1,none⟩=some (.slice a n c)∧w1.cell? ⟨w.heap.size,2,none⟩=some (.int .i64 y)∧w1.cell? ⟨w.heap.size,3,none⟩=some (.slice b m k)∧w1.cell? ⟨w.heap.size+1,0,none⟩=some (.int .i64 x')∧w1.cell? ⟨w.heap.size+1,1,none⟩=some (.slice a' n' c')∧w1.cell? ⟨w.heap.size+1,2,none⟩=some (.int .i64 y')∧w1.cell? ⟨w.heap.size+1,3,none⟩=some (.slice b' m' k')∧w1.cell? ⟨bn,0,none⟩=some (.int .i64 t0)∧w1.cell? ⟨bn,1,none⟩=some (.slice t1 t2 t3)) {q:Nat} (hq:w.heap.size+2<q) (hn:bn≠q) (u u':Value):Below w.heap.size w ((w1.setCell ⟨q,0,none⟩ u).setCell ⟨q,1,none⟩ u')∧RBox ((w1.setCell ⟨q,0,none⟩ u).setCell ⟨q,1,none⟩ u') (w.heap.size+2)∧((w1.setCell ⟨q,0,none⟩ u).setCell ⟨q,1,none⟩ u').cell? ⟨w.heap.size,0,none⟩=some (.int .i64 x)∧((w1.setCell ⟨q,0,none⟩ u).setCell ⟨q,1,none⟩ u').cell? ⟨w.heap.size,1,none⟩=some (.slice a n c)∧((w1.setCell ⟨q,0,none⟩ u).setCell ⟨q,1,none⟩ u').cell? ⟨w.heap.size,2,none⟩=some (.int .i64 y)∧((w1.setCell ⟨q,0,none⟩ u).setCell ⟨q,1,none⟩ u').cell? ⟨w.heap.size,3,none⟩=some (.slice b m k)∧((w1.setCell ⟨q,0,none⟩ u).setCell ⟨q,1,none⟩ u').cell? ⟨w.heap.size+1,0,none⟩=some (.int .i64 x')∧((w1.setCell ⟨q,0,none⟩ u).setCell ⟨q,1,none⟩ u').cell? ⟨w.heap.size+1,1,none⟩=some (.slice a' n' c')∧((w1.setCell ⟨q,0,none⟩ u).setCell ⟨q,1,none⟩ u').cell? ⟨w.heap.size+1,2,none⟩=some (.int .i64 y')∧((w1.setCell ⟨q,0,none⟩ u).setCell ⟨q,1,none⟩ u').cell? ⟨w.heap.size+1,3,none⟩=some (.slice b' m' k')∧((w1.setCell ⟨q,0,none⟩ u).setCell ⟨q,1,none⟩ u').cell? ⟨bn,0,none⟩=some (.int .i64 t0)∧((w1.setCell ⟨q,0,none⟩ u).setCell ⟨q,1,none⟩ u').cell? ⟨bn,1,none⟩=some (.slice t1 t2 t3):=by
 have hc:∀ b o v,b≠q→w1.cell? ⟨b,o,none⟩=some v→((w1.setCell ⟨q,0,none⟩ u).setCell ⟨q,1,none⟩ u').cell? ⟨b,o,none⟩=some v:=fun b o v hb hv=>by
   rw [zqb _ _ _ _ _ _ (by omega),zqb _ _ _ _ _ _ (by omega)];exact hv
 exact ⟨zqc h.1 (by omega) _ _,RBox.beside h.2.1 (by omega) _ _,hc _ _ _ (by omega) h.2.2.1,hc _ _ _ (by omega) h.2.2.2.1,hc _ _ _ (by omega) h.2.2.2.2.1,hc _ _ _ (by omega) h.2.2.2.2.2.1,hc _ _ _ (by omega) h.2.2.2.2.2.2.1,hc _ _ _ (by omega) h.2.2.2.2.2.2.2.1,hc _ _ _ (by omega) h.2.2.2.2.2.2.2.2.1,hc _ _ _ (by omega) h.2.2.2.2.2.2.2.2.2.1,hc _ _ _ (by omega) h.2.2.2.2.2.2.2.2.2.2.1,hc _ _ _ (by omega) h.2.2.2.2.2.2.2.2.2.2.2⟩
theorem drewW12 {w w1:World}{x y x' y':Int}{a b a' b':Option Addr}{n c m k n' c' m' k':Nat}{bn:Nat}{t0:Int}{t1:Option Addr}{t2 t3:Nat}{o:Obj} (h:Below w.heap.size w w1.drew∧RBox w1.drew (w.heap.size+2)∧w1.drew.cell? ⟨w.heap.size,0,none⟩=some (.int .i64 x)∧w1.drew.cell? ⟨w.heap.size,1,none⟩=some (.slice a n c)∧w1.drew.cell? ⟨w.heap.size,2,none⟩=some (.int .i64 y)∧w1.drew.cell? ⟨w.heap.size,3,none⟩=some (.slice b m k)∧w1.drew.cell? ⟨w.heap.size+1,0,none⟩=some (.int .i64 x')∧w1.drew.cell? ⟨w.heap.size+1,1,none⟩=some (.slice a' n' c')∧w1.drew.cell? ⟨w.heap.size+1,2,none⟩=some (.int .i64 y')∧w1.drew.cell? ⟨w.heap.size+1,3,none⟩=some (.slice b' m' k')∧w1.drew.cell? ⟨bn,0,none⟩=some (.int .i64 t0)∧w1.drew.cell? ⟨bn,1,none⟩=some (.slice t1 t2 t3)):Below w.heap.size w (w1.alloc o).drew∧RBox (w1.alloc o).drew (w.heap.size+2)∧(w1.alloc o).drew.cell? ⟨w.heap.size,0,none⟩=some (.int .i64 x)∧(w1.alloc o).drew.cell? ⟨w.heap.size,1,none⟩=some (.slice a n c)∧(w1.alloc o).drew.cell? ⟨w.heap.size,2,none⟩=some (.int .i64 y)∧(w1.alloc o).drew.cell? ⟨w.heap.size,3,none⟩=some (.slice b m k)∧(w1.alloc o).drew.cell? ⟨w.heap.size+1,0,none⟩=some (.int .i64 x')∧(w1.alloc o).drew.cell? ⟨w.heap.size+1,1,none⟩=some (.slice a' n' c')∧(w1.alloc o).drew.cell? ⟨w.heap.size+1,2,none⟩=some (.int .i64 y')∧(w1.alloc o).drew.cell? ⟨w.heap.size+1,3,none⟩=some (.slice b' m' k')∧(w1.alloc o).drew.cell? ⟨bn,0,none⟩=some (.int .i64 t0)∧(w1.alloc o).drew.cell? ⟨bn,1,none⟩=some (.slice t1 t2 t3):=keepW12 (w1:=w1.drew) (w2:=(w1.alloc o).drew) (zqa w1.drew o) h
theorem storeW16 {w w1:World}{x y x' y':Int}{a b a' b':Option Addr}{n c m k n' c' m' k':Nat}{bl br:Nat}{l0 r0:Int}{l1 r1:Option Addr}{l2 l3 r2 r3:Nat}{bn:Nat}{t0:Int}{t1:Option Addr}{t2 t3:Nat} (h:Below w.heap.size w w1∧RBox w1 (w.heap.size+2)∧w1.cell? ⟨w.heap.size,0,none⟩=some (.int .i64 x)∧w1.cell? ⟨w.heap.size,1,none⟩=some (.slice a n c)∧w1.cell? ⟨w.heap.size,2,none⟩=some (.int .i64 y)∧w1.cell? ⟨w.heap.size,3,none⟩=some (.slice b m k)∧w1.cell? ⟨w.heap.size+1,0,none⟩=some (.int .i64 x')∧w1.cell? ⟨w.heap.size+1,1,none⟩=some (.slice a' n' c')∧w1.cell? ⟨w.heap.size+1,2,none⟩=some (.int .i64 y')∧w1.cell? ⟨w.heap.size+1,3,none⟩=some (.slice b' m' k')∧w1.cell? ⟨bl,0,none⟩=some (.int .i64 l0)∧w1.cell? ⟨bl,1,none⟩=some (.slice l1 l2 l3)∧w1.cell? ⟨br,0,none⟩=some (.int .i64 r0)∧w1.cell? ⟨br,1,none⟩=some (.slice r1 r2 r3)∧w1.cell? ⟨bn,0,none⟩=some (.int .i64 t0)∧w1.cell? ⟨bn,1,none⟩=some (.slice t1 t2 t3)) {q:Nat} (hq:w.heap.size+2<q) (hl:bl≠q) (hr:br≠q) (hn:bn≠q) (u u':Value):Below w.heap.size w ((w1.setCell ⟨q,0,none⟩ u).setCell ⟨q,1,none⟩ u')∧RBox ((w1.setCell ⟨q,0,none⟩ u).setCell ⟨q,1,none⟩ u') (w.heap.size+2)∧((w1.setCell ⟨q,0,none⟩ u).setCell ⟨q,1,none⟩ u').cell? ⟨w.heap.size,0,none⟩=some (.int .i64 x)∧((w1.setCell ⟨q,0,none⟩ u).setCell ⟨q,1,none⟩ u').cell? ⟨w.heap.size,1,none⟩=some (.slice a n c)∧((w1.setCell ⟨q,0,none⟩ u).setCell ⟨q,1,none⟩ u').cell? ⟨w.heap.size,2,none⟩=some (.int .i64 y)∧((w1.setCell ⟨q,0,none⟩ u).setCell ⟨q,1,none⟩ u').cell? ⟨w.heap.size,3,none⟩=some (.slice b m k)∧((w1.setCell ⟨q,0,none⟩ u).setCell ⟨q,1,none⟩ u').cell? ⟨w.heap.size+1,0,none⟩=some (.int .i64 x')∧((w1.setCell ⟨q,0,none⟩ u).setCell ⟨q,1,none⟩ u').cell? ⟨w.heap.size+1,1,none⟩=some (.slice a' n' c')∧((w1.setCell ⟨q,0,none⟩ u).setCell ⟨q,1,none⟩ u').cell? ⟨w.heap.size+1,2,none⟩=some (.int .i64 y')∧((w1.setCell ⟨q,0,none⟩ u).setCell ⟨q,1,none⟩ u').cell? ⟨w.heap.size+1,3,none⟩=some (.slice b' m' k')∧((w1.setCell ⟨q,0,none⟩ u).setCell ⟨q,1,none⟩ u').cell? ⟨bl,0,none⟩=some (.int .i64 l0)∧((w1.setCell ⟨q,0,none⟩ u).setCell ⟨q,1,none⟩ u').cell? ⟨bl,1,none⟩=some (.slice l1 l2 l3)∧((w1.setCell ⟨q,0,none⟩ u).setCell ⟨q,1,none⟩ u').cell? ⟨br,0,none⟩=some (.int .i64 r0)∧((w1.setCell ⟨q,0,none⟩ u).setCell ⟨q,1,none⟩ u').cell? ⟨br,1,none⟩=some (.slice r1 r2 r3)∧((w1.setCell ⟨q,0,none⟩ u).setCell ⟨q,1,none⟩ u').cell? ⟨bn,0,none⟩=some (.int .i64 t0)∧((w1.setCell ⟨q,0,none⟩ u).setCell ⟨q,1,none⟩ u').cell? ⟨bn,1,none⟩=some (.slice t1 t2 t3):=by
 have hc:∀ b o v,b≠q→w1.cell? ⟨b,o,none⟩=some v→((w1.setCell ⟨q,0,none⟩ u).setCell ⟨q,1,none⟩ u').cell? ⟨b,o,none⟩=some v:=fun b o v hb hv=>by
   rw [zqb _ _ _ _ _ _ (by omega),zqb _ _ _ _ _ _ (by omega)];exact hv
 exact ⟨zqc h.1 (by omega) _ _,RBox.beside h.2.1 (by omega) _ _,hc _ _ _ (by omega) h.2.2.1,hc _ _ _ (by omega) h.2.2.2.1,hc _ _ _ (by omega) h.2.2.2.2.1,hc _ _ _ (by omega) h.2.2.2.2.2.1,hc _ _ _ (by omega) h.2.2.2.2.2.2.1,hc _ _ _ (by omega) h.2.2.2.2.2.2.2.1,hc _ _ _ (by omega) h.2.2.2.2.2.2.2.2.1,hc _ _ _ (by omega) h.2.2.2.2.2.2.2.2.2.1,hc _ _ _ (by omega) h.2.2.2.2.2.2.2.2.2.2.1,hc _ _ _ (by omega) h.2.2.2.2.2.2.2.2.2.2.2.1,hc _ _ _ (by omega) h.2.2.2.2.2.2.2.2.2.2.2.2.1,hc _ _ _ (by omega) h.2.2.2.2.2.2.2.2.2.2.2.2.2.1,hc _ _ _ (by omega) h.2.2.2.2.2.2.2.2.2.2.2.2.2.2.1,hc _ _ _ (by omega) h.2.2.2.2.2.2.2.2.2.2.2.2.2.2.2⟩
theorem drewW16 {w w1:World}{x y x' y':Int}{a b a' b':Option Addr}{n c m k n' c' m' k':Nat}{bl br:Nat}{l0 r0:Int}{l1 r1:Option Addr}{l2 l3 r2 r3:Nat}{bn:Nat}{t0:Int}{t1:Option Addr}{t2 t3:Nat}{o:Obj} (h:Below w.heap.size w w1.drew∧RBox w1.drew (w.heap.size+2)∧w1.drew.cell? ⟨w.heap.size,0,none⟩=some (.int .i64 x)∧w1.drew.cell? ⟨w.heap.size,1,none⟩=some (.slice a n c)∧w1.drew.cell? ⟨w.heap.size,2,none⟩=some (.int .i64 y)∧w1.drew.cell? ⟨w.heap.size,3,none⟩=some (.slice b m k)∧w1.drew.cell? ⟨w.heap.size+1,0,none⟩=some (.int .i64 x')∧w1.drew.cell? ⟨w.heap.size+1,1,none⟩=some (.slice a' n' c')∧w1.drew.cell? ⟨w.heap.size+1,2,none⟩=some (.int .i64 y')∧w1.drew.cell? ⟨w.heap.size+1,3,none⟩=some (.slice b' m' k')∧w1.drew.cell? ⟨bl,0,none⟩=some (.int .i64 l0)∧w1.drew.cell? ⟨bl,1,none⟩=some (.slice l1 l2 l3)∧w1.drew.cell? ⟨br,0,none⟩=some (.int .i64 r0)∧w1.drew.cell? ⟨br,1,none⟩=some (.slice r1 r2 r3)∧w1.drew.cell? ⟨bn,0,none⟩=some (.int .i64 t0)∧w1.drew.cell? ⟨bn,1,none⟩=some (.slice t1 t2 t3)):Below w.heap.size w (w1.alloc o).drew∧RBox (w1.alloc o).drew (w.heap.size+2)∧(w1.alloc o).drew.cell? ⟨w.heap.size,0,none⟩=some (.int .i64 x)∧(w1.alloc o).drew.cell? ⟨w.heap.size,1,none⟩=some (.slice a n c)∧(w1.alloc o).drew.cell? ⟨w.heap.size,2,none⟩=some (.int .i64 y)∧(w1.alloc o).drew.cell? ⟨w.heap.size,3,none⟩=some (.slice b m k)∧(w1.alloc o).drew.cell? ⟨w.heap.size+1,0,none⟩=some (.int .i64 x')∧(w1.alloc o).drew.cell? ⟨w.heap.size+1,1,none⟩=some (.slice a' n' c')∧(w1.alloc o).drew.cell? ⟨w.heap.size+1,2,none⟩=some (.int .i64 y')∧(w1.alloc o).drew.cell? ⟨w.heap.size+1,3,none⟩=some (.slice b' m' k')∧(w1.alloc o).drew.cell? ⟨bl,0,none⟩=some (.int .i64 l0)∧(w1.alloc o).drew.cell? ⟨bl,1,none⟩=some (.slice l1 l2 l3)∧(w1.alloc o).drew.cell? ⟨br,0,none⟩=some (.int .i64 r0)∧(w1.alloc o).drew.cell? ⟨br,1,none⟩=some (.slice r1 r2 r3)∧(w1.alloc o).drew.cell? ⟨bn,0,none⟩=some (.int .i64 t0)∧(w1.alloc o).drew.cell? ⟨bn,1,none⟩=some (.slice t1 t2 t3):=keepW16 (w1:=w1.drew) (w2:=(w1.alloc o).drew) (zqa w1.drew o) h
theorem outW12 {w w1:World}{x y x' y':Int}{a b a' b':Option Addr}{n c m k n' c' m' k':Nat}{bn:Nat}{t0:Int}{t1:Option Addr}{t2 t3:Nat} (h:Below w.heap.size w w1∧RBox w1 (w.heap.size+2)∧w1.cell? ⟨w.heap.size,0,none⟩=some (.int .i64 x)∧w1.cell? ⟨w.heap.size,1,none⟩=some (.slice a n c)∧w1.cell? ⟨w.heap.size,2,none⟩=some (.int .i64 y)∧w1.cell? ⟨w.heap.size,3,none⟩=some (.slice b m k)∧w1.cell? ⟨w.heap.size+1,0,none⟩=some (.int .i64 x')∧w1.cell? ⟨w.heap.size+1,1,none⟩=some (.slice a' n' c')∧w1.cell? ⟨w.heap.size+1,2,none⟩=some (.int .i64 y')∧w1.cell? ⟨w.heap.size+1,3,none⟩=some (.slice b' m' k')∧w1.cell? ⟨bn,0,none⟩=some (.int .i64 t0)∧w1.cell? ⟨bn,1,none⟩=some (.slice t1 t2 t3)) (hn:w.heap.size+2<bn) (u0:Int) (u1:Option Addr) (u2 u3:Nat) (u4:Int) (u5:Option Addr) (u6 u7:Nat):Below w.heap.size w ((((w1.setCell ⟨w.heap.size+2,0,none⟩ (.int .i64 u0)).setCell ⟨w.heap.size+2,1,none⟩ (.slice u1 u2 u3)).setCell ⟨w.heap.size+2,2,none⟩ (.int .i64 u4)).setCell ⟨w.heap.size+2,3,none⟩ (.slice u5 u6 u7))∧RBox ((((w1.setCell ⟨w.heap.size+2,0,none⟩ (.int .i64 u0)).setCell ⟨w.heap.size+2,1,none⟩ (.slice u1 u2 u3)).setCell ⟨w.heap.size+2,2,none⟩ (.int .i64 u4)).setCell ⟨w.heap.size+2,3,none⟩ (.slice u5 u6 u7)) (w.heap.size+2)∧((((w1.setCell ⟨w.heap.size+2,0,none⟩ (.int .i64 u0)).setCell ⟨w.heap.size+2,1,none⟩ (.slice u1 u2 u3)).setCell ⟨w.heap.size+2,2,none⟩ (.int .i64 u4)).setCell ⟨w.heap.size+2,3,none⟩ (.slice u5 u6 u7)).cell? ⟨w.heap.size,0,none⟩=some (.int .i64 x)∧((((w1.setCell ⟨w.heap.size+2,0,none⟩ (.int .i64 u0)).setCell ⟨w.heap.size+2,1,none⟩ (.slice u1 u2 u3)).setCell ⟨w.heap.size+2,2,none⟩ (.int .i64 u4)).setCell ⟨w.heap.size+2,3,none⟩ (.slice u5 u6 u7)).cell? ⟨w.heap.size,1,none⟩=some (.slice a n c)∧((((w1.setCell ⟨w.heap.size+2,0,none⟩ (.int .i64 u0)).setCell ⟨w.heap.size+2,1,none⟩ (.slice u1 u2 u3)).setCell ⟨w.heap.size+2,2,none⟩ (.int .i64 u4)).setCell ⟨w.heap.size+2,3,none⟩ (.slice u5 u6 u7)).cell? ⟨w.heap.size,2,none⟩=some (.int .i64 y)∧((((w1.setCell ⟨w.heap.size+2,0,none⟩ (.int .i64 u0)).setCell ⟨w.heap.size+2,1,none⟩ (.slice u1 u2 u3)).setCell ⟨w.heap.size+2,2,none⟩ (.int .i64 u4)).setCell ⟨w.heap.size+2,3,none⟩ (.slice u5 u6 u7)).cell? ⟨w.heap.size,3,none⟩=some (.slice b m k)∧((((w1.setCell ⟨w.heap.size+2,0,none⟩ (.int .i64 u0)).setCell ⟨w.heap.size+2,1,none⟩ (.slice u1 u2 u3)).setCell ⟨w.heap.size+2,2,none⟩ (.int .i64 u4)).setCell ⟨w.heap.size+2,3,none⟩ (.slice u5 u6 u7)).cell? ⟨w.heap.size+1,0,none⟩=some (.int .i64 x')∧((((w1.setCell ⟨w.heap.size+2,0,none⟩ (.int .i64 u0)).setCell ⟨w.heap.size+2,1,none⟩ (.slice u1 u2 u3)).setCell ⟨w.heap.size+2,2,none⟩ (.int .i64 u4)).setCell ⟨w.heap.size+2,3,none⟩ (.slice u5 u6 u7)).cell? ⟨w.heap.size+1,1,none⟩=some (.slice a' n' c')∧((((w1.setCell ⟨w.heap.size+2,0,none⟩ (.int .i64 u0)).setCell ⟨w.heap.size+2,1,none⟩ (.slice u1 u2 u3)).setCell ⟨w.heap.size+2,2,none⟩ (.int .i64 u4)).setCell ⟨w.heap.size+2,3,none⟩ (.slice u5 u6 u7)).cell? ⟨w.heap.size+1,2,none⟩=some (.int .i64 y')∧((((w1.setCell ⟨w.heap.size+2,0,none⟩ (.int .i64 u0)).setCell ⟨w.heap.size+2,1,none⟩ (.slice u1 u2 u3)).setCell ⟨w.heap.size+2,2,none⟩ (.int .i64 u4)).setCell ⟨w.heap.size+2,3,none⟩ (.slice u5 u6 u7)).cell? ⟨w.heap.size+1,3,none⟩=some (.slice b' m' k')∧((((w1.setCell ⟨w.heap.size+2,0,none⟩ (.int .i64 u0)).setCell ⟨w.heap.size+2,1,none⟩ (.slice u1 u2 u3)).setCell ⟨w.heap.size+2,2,none⟩ (.int .i64 u4)).setCell ⟨w.heap.size+2,3,none⟩ (.slice u5 u6 u7)).cell? ⟨bn,0,none⟩=some (.int .i64 t0)∧((((w1.setCell ⟨w.heap.size+2,0,none⟩ (.int .i64 u0)).setCell ⟨w.heap.size+2,1,none⟩ (.slice u1 u2 u3)).setCell ⟨w.heap.size+2,2,none⟩ (.int .i64 u4)).setCell ⟨w.heap.size+2,3,none⟩ (.slice u5 u6 u7)).cell? ⟨bn,1,none⟩=some (.slice t1 t2 t3):=by
 have hc:∀ b o v,b≠w.heap.size+2→w1.cell? ⟨b,o,none⟩=some v→((((w1.setCell ⟨w.heap.size+2,0,none⟩ (.int .i64 u0)).setCell ⟨w.heap.size+2,1,none⟩ (.slice u1 u2 u3)).setCell ⟨w.heap.size+2,2,none⟩ (.int .i64 u4)).setCell ⟨w.heap.size+2,3,none⟩ (.slice u5 u6 u7)).cell? ⟨b,o,none⟩=some v:=fun b o v hb hv=>by
   rw [zqb _ _ _ _ _ _ (by omega),zqb _ _ _ _ _ _ (by omega),zqb _ _ _ _ _ _ (by omega),zqb _ _ _ _ _ _ (by omega)];exact hv
 exact ⟨zqf h.1 (by omega) _ _ _ _,RBox.stored' h.2.1 _ _ _ _ _ _ _ _,hc _ _ _ (by omega) h.2.2.1,hc _ _ _ (by omega) h.2.2.2.1,hc _ _ _ (by omega) h.2.2.2.2.1,hc _ _ _ (by omega) h.2.2.2.2.2.1,hc _ _ _ (by omega) h.2.2.2.2.2.2.1,hc _ _ _ (by omega) h.2.2.2.2.2.2.2.1,hc _ _ _ (by omega) h.2.2.2.2.2.2.2.2.1,hc _ _ _ (by omega) h.2.2.2.2.2.2.2.2.2.1,hc _ _ _ (by omega) h.2.2.2.2.2.2.2.2.2.2.1,hc _ _ _ (by omega) h.2.2.2.2.2.2.2.2.2.2.2⟩
def DenCut (w:World) (x:Int) (a:Option Addr) (n c:Nat) (y:Int) (b:Option Addr) (m k:Nat) (x':Int) (a':Option Addr) (n' c':Nat) (y':Int) (b':Option Addr) (m' k':Nat) (M:Nat) (t:Int) (tv:Value) (wx:World):Prop :=
 ∃ bn t0 t1 t2 t3,tv=.pointer (some ⟨bn,0,none⟩)∧w.heap.size+2<bn∧Box wx bn∧Zr M wx (.agg #[.int .i64 t0,.slice t1 t2 t3]) t∧(Below w.heap.size w wx∧RBox wx (w.heap.size+2)∧wx.cell? ⟨w.heap.size,0,none⟩=some (.int .i64 x)∧wx.cell? ⟨w.heap.size,1,none⟩=some (.slice a n c)∧wx.cell? ⟨w.heap.size,2,none⟩=some (.int .i64 y)∧wx.cell? ⟨w.heap.size,3,none⟩=some (.slice b m k)∧wx.cell? ⟨w.heap.size+1,0,none⟩=some (.int .i64 x')∧wx.cell? ⟨w.heap.size+1,1,none⟩=some (.slice a' n' c')∧wx.cell? ⟨w.heap.size+1,2,none⟩=some (.int .i64 y')∧wx.cell? ⟨w.heap.size+1,3,none⟩=some (.slice b' m' k')∧wx.cell? ⟨bn,0,none⟩=some (.int .i64 t0)∧wx.cell? ⟨bn,1,none⟩=some (.slice t1 t2 t3))
def PartCut (w:World) (x:Int) (a:Option Addr) (n c:Nat) (y:Int) (b:Option Addr) (m k:Nat) (x':Int) (a':Option Addr) (n' c':Nat) (y':Int) (b':Option Addr) (m' k':Nat) (bn:Nat) (t0:Int) (t1:Option Addr) (t2 t3:Nat) (M:Nat) (l r:Int) (lv rv:Value) (wx:World):Prop :=
 ∃ bl br l0 l1 l2 l3 r0 r1 r2 r3,lv=.pointer (some ⟨bl,0,none⟩)∧rv=.pointer (some ⟨br,0,none⟩)∧bl≠br∧w.heap.size+2<bl∧w.heap.size+2<br∧bn≠bl∧bn≠br∧Vr wx bl l0 l1 l2 l3 M l∧Vr wx br r0 r1 r2 r3 M r∧(Below w.heap.size w wx∧RBox wx (w.heap.size+2)∧wx.cell? ⟨w.heap.size,0,none⟩=some (.int .i64 x)∧wx.cell? ⟨w.heap.size,1,none⟩=some (.slice a n c)∧wx.cell? ⟨w.heap.size,2,none⟩=some (.int .i64 y)∧wx.cell? ⟨w.heap.size,3,none⟩=some (.slice b m k)∧wx.cell? ⟨w.heap.size+1,0,none⟩=some (.int .i64 x')∧wx.cell? ⟨w.heap.size+1,1,none⟩=some (.slice a' n' c')∧wx.cell? ⟨w.heap.size+1,2,none⟩=some (.int .i64 y')∧wx.cell? ⟨w.heap.size+1,3,none⟩=some (.slice b' m' k')∧wx.cell? ⟨bn,0,none⟩=some (.int .i64 t0)∧wx.cell? ⟨bn,1,none⟩=some (.slice t1 t2 t3))
def TotCut (w:World) (x:Int) (a:Option Addr) (n c:Nat) (y:Int) (b:Option Addr) (m k:Nat) (x':Int) (a':Option Addr) (n' c':Nat) (y':Int) (b':Option Addr) (m' k':Nat) (bl br:Nat) (l0:Int) (l1:Option Addr) (l2 l3:Nat) (r0:Int) (r1:Option Addr) (r2 r3:Nat) (bn:Nat) (t0:Int) (t1:Option Addr) (t2 t3:Nat) (K:Nat) (z:Int) (zv:Value) (wx:World):Prop :=
 ∃ bz z0 z1 z2 z3,zv=.pointer (some ⟨bz,0,none⟩)∧bl≠bz∧br≠bz∧bn≠bz∧w.heap.size+2<bz∧Vr wx bz z0 z1 z2 z3 K z∧(Below w.heap.size w wx∧RBox wx (w.heap.size+2)∧wx.cell? ⟨w.heap.size,0,none⟩=some (.int .i64 x)∧wx.cell? ⟨w.heap.size,1,none⟩=some (.slice a n c)∧wx.cell? ⟨w.heap.size,2,none⟩=some (.int .i64 y)∧wx.cell? ⟨w.heap.size,3,none⟩=some (.slice b m k)∧wx.cell? ⟨w.heap.size+1,0,none⟩=some (.int .i64 x')∧wx.cell? ⟨w.heap.size+1,1,none⟩=some (.slice a' n' c')∧wx.cell? ⟨w.heap.size+1,2,none⟩=some (.int .i64 y')∧wx.cell? ⟨w.heap.size+1,3,none⟩=some (.slice b' m' k')∧wx.cell? ⟨bl,0,none⟩=some (.int .i64 l0)∧wx.cell? ⟨bl,1,none⟩=some (.slice l1 l2 l3)∧wx.cell? ⟨br,0,none⟩=some (.int .i64 r0)∧wx.cell? ⟨br,1,none⟩=some (.slice r1 r2 r3)∧wx.cell? ⟨bn,0,none⟩=some (.int .i64 t0)∧wx.cell? ⟨bn,1,none⟩=some (.slice t1 t2 t3))
set_option maxHeartbeats 8000000 in
set_option maxRecDepth 8000 in
theorem qadd_any {N:Nat}{v v':Value}{p d p' d':Int} (w:World) (h:Rr (N+1) w v p d) (h':Rr (N+1) w v' p' d') (hN:N≤10000) (hT:Tab64 w) :
   Calls Tryz.prog 70 #[v,v'] w fun e w'=>(∃ v P D,e=.returned v∧Rr (2*N+6) w' v P D∧P*(d*d')=(p*d'+p'*d)*D)∧Below w.heap.size w w':=by
 have h0:=h
 have h0':=h'
 obtain ⟨x,a,n,c,y,b,m,k,e,rfl,h2,h3,d0,hg,hd⟩:=h
 obtain ⟨x',a',n',c',y',b',m',k',e',rfl,h2',h3',d0',hg',hd'⟩:=h'
 have hst:=W10.start w x y x' y' a b a' b' n c m k n' c' m' k'
 have HT:=qh hT
 have HG:=qh (And.intro hg hg')
 have HD:=qh hd
 have HD':=qh hd'
 have HD0:=qh (And.intro d0 d0')
 clear hT hg hg' hd hd' d0 d0'
 obtain ⟨bw,HBW⟩:∃ bw,Hid (decide (d=1∨d'=1)=bw):=⟨_,rfl⟩
 go_enter Tryz.func70,Tryz.ntmps70
 go_upto_region 1 with fail
 obtain ⟨W0,hW0⟩:∃ W0,W0=((w.alloc (.cells #[.int .i64 x,.slice a n c,.int .i64 y,.slice b m k] 39)).alloc (.cells #[.int .i64 x',.slice a' n' c',.int .i64 y',.slice b' m' k'] 39)).alloc (.cells #[.int .i64 0,.slice none 0 0,.int .i64 0,.slice none 0 0] 39):=⟨_,rfl⟩
 rw [← hW0] at hst
 first | rw [← hW0] | (change Code.wp _ _ _ _ (((w.alloc (.cells #[.int .i64 x,.slice a n c,.int .i64 y,.slice b m k] 39)).alloc (.cells #[.int .i64 x',.slice a' n' c',.int .i64 y',.slice b' m' k'] 39)).alloc (.cells #[.int .i64 0,.slice none 0 0,.int .i64 0,.slice none 0 0] 39));rw [← hW0])
 clear hW0
 go_cut [16] (fun bv wx=>bv=.bool bw∧W10 w x a n c y b m k x' a' n' c' y' b' m' k' wx)
 case first =>
   obtain ⟨hB,hr,e0,e1,e2,e3,f0,f1,f2,f3⟩:=hst
   go_wp2_with fail
   go_fit (zko _ (h0.later hB))
   rintro e W1 ⟨rfl,hb1⟩
   have hst:=W10.keep hb1 ⟨hB,hr,e0,e1,e2,e3,f0,f1,f2,f3⟩
   clear hb1 hB hr e0 e1 e2 e3 f0 f1 f2 f3
   by_cases hw1:d=1
   · subst hw1
     obtain ⟨hB,hr,e0,e1,e2,e3,f0,f1,f2,f3⟩:=hst
     go_wp2
     go_meet
     exact ⟨by rw [← uh HBW];simp,⟨hB,hr,e0,e1,e2,e3,f0,f1,f2,f3⟩⟩
   · obtain ⟨hB,hr,e0,e1,e2,e3,f0,f1,f2,f3⟩:=hst
     go_wp2_with fail
     go_fit (zko _ (h0'.later hB))
     rintro e W2 ⟨rfl,hb2⟩
     have hst:=W10.keep hb2 ⟨hB,hr,e0,e1,e2,e3,f0,f1,f2,f3⟩
     clear hB hr e0 e1 e2 e3 f0 f1 f2 f3 hb2
     go_wp2
     go_meet
     exact ⟨by rw [← uh HBW];simp [hw1],hst⟩
 case rest =>
   obtain ⟨rfl,hst⟩:=hcut
   obtain ⟨W1,rfl⟩:∃ X,X=wc:=⟨_,rfl⟩
   rcases bw with _ | _
   rotate_left
   · have hw:d=1∨d'=1:=of_decide_eq_true (uh HBW)
     have hdd:∃ D eD:Int,Hid ((d=1∧D=d'∧eD=e')∨(d≠1∧D=d∧eD=e)):=by
       by_cases h1:d=1
       · exact ⟨d',e',Or.inl ⟨h1,rfl,rfl⟩⟩
       · exact ⟨d,e,Or.inr ⟨h1,rfl,rfl⟩⟩
     obtain ⟨D,eD,HDD⟩:=hdd
     have HW:=qh hw
     clear hw
     obtain ⟨hB,hr,e0,e1,e2,e3,f0,f1,f2,f3⟩:=hst
     go_upto_region 3 with fail
     obtain ⟨W2,hW2⟩:∃ W2,W2=W1.alloc (.cells #[.int .i64 y,.slice b m k] 37):=⟨_,rfl⟩
     have kn:=zqa W1 (.cells #[.int .i64 y,.slice b m k] 37)
     have hvd:=Vr.new (h3.later hB)
     rw [← hW2] at kn hvd
     first | rw [← hW2] | (change Code.wp _ _ _ _ (W1.alloc (.cells #[.int .i64 y,.slice b m k] 37));rw [← hW2])
     clear hW2
     have hlt1:=hr.lt
     have hst:=W10.keep kn ⟨hB,hr,e0,e1,e2,e3,f0,f1,f2,f3⟩
     clear hB hr e0 e1 e2 e3 f0 f1 f2 f3 kn
     obtain ⟨hB,hr,e0,e1,e2,e3,f0,f1,f2,f3⟩:=hst
     go_wp2_with fail
     go_fit (zko _ (h0.later hB))
     rintro e W3 ⟨rfl,hb3⟩
     have hst:=W10.keep hb3 ⟨hB,hr,e0,e1,e2,e3,f0,f1,f2,f3⟩
     have hvd:=hvd.keep hb3
     clear hB hr e0 e1 e2 e3 f0 f1 f2 f3 hb3
     obtain ⟨hB,hr,e0,e1,e2,e3,f0,f1,f2,f3⟩:=hst
     go_upto_if 20 with fail
     go_cut [5] (fun tv wx=>DenCut w x a n c y b m k x' a' n' c' y' b' m' k' (N+1) eD tv wx)
     case first =>
       have vd0:=hvd.c0
       have vd1:=hvd.c1
       have vdf:=hvd.frozen
       have vdl:=hvd.lt
       have nb0:W1.heap.size≠w.heap.size:=by omega
       by_cases hw1:d=1
       · subst hw1
         go_wp2
         go_meet
         obtain ⟨hB9,hr9,e09,e19,e29,e39,f09,f19,f29,f39⟩:=storeW10 ⟨hB,hr,e0,e1,e2,e3,f0,f1,f2,f3⟩ (q:=W1.heap.size) (by omega) (.int .i64 y') (.slice b' m' k')
         have hs:=hvd.box.stored (.int .i64 y') (.slice b' m' k')
         have hE:eD=e':=by rcases uh HDD with ⟨_,_,h⟩ | ⟨h,_⟩;exact h;exact absurd rfl h
         exact ⟨_,_,_,_,_,rfl,by omega,hvd.box.stored' _ _ _ _,hE ▸ ((h3'.later hB).stored hvd.box _ _),hB9,hr9,e09,e19,e29,e39,f09,f19,f29,f39,hs.1,hs.2⟩
       · go_wp2
         go_meet
         have hE:eD=e:=by rcases uh HDD with ⟨h,_⟩ | ⟨_,_,h⟩;exact absurd h hw1;exact h
         exact ⟨_,_,_,_,_,rfl,by omega,hvd.box,hE ▸ hvd.zr,hB,hr,e0,e1,e2,e3,f0,f1,f2,f3,vd0,vd1⟩
     case rest =>
       obtain ⟨bn,t0,t1,t2,t3,rfl,qbn,hbn,ZT,hst⟩:=hcut
       obtain ⟨W4,rfl⟩:∃ X,X=wc:=⟨_,rfl⟩
       clear hB hr e0 e1 e2 e3 f0 f1 f2 f3 hvd hlt1
       obtain ⟨hB,hr,e0,e1,e2,e3,f0,f1,f2,f3,nc0,nc1⟩:=hst
       have ZN:=qh ZT
       clear ZT
       go_wp2_with fail
       have tok1:True:=trivial
       have S0:=qh (show Below w.heap.size w W4.drew∧RBox W4.drew (w.heap.size+2)∧W4.drew.cell? ⟨w.heap.size,0,none⟩=some (.int .i64 x)∧W4.drew.cell? ⟨w.heap.size,1,none⟩=some (.slice a n c)∧W4.drew.cell? ⟨w.heap.size,2,none⟩=some (.int .i64 y)∧W4.drew.cell? ⟨w.heap.size,3,none⟩=some (.slice b m k)∧W4.drew.cell? ⟨w.heap.size+1,0,none⟩=some (.int .i64 x')∧W4.drew.cell? ⟨w.heap.size+1,1,none⟩=some (.slice a' n' c')∧W4.drew.cell? ⟨w.heap.size+1,2,none⟩=some (.int .i64 y')∧W4.drew.cell? ⟨w.heap.size+1,3,none⟩=some (.slice b' m' k')∧W4.drew.cell? ⟨bn,0,none⟩=some (.int .i64 t0)∧W4.drew.cell? ⟨bn,1,none⟩=some (.slice t1 t2 t3) from ⟨hB.drew,hr,e0,e1,e2,e3,f0,f1,f2,f3,nc0,nc1⟩)
       go_region_held3 (fun w'=>Below w.heap.size w w'∧RBox w' (w.heap.size+2)∧w'.cell? ⟨w.heap.size,0,none⟩=some (.int .i64 x)∧w'.cell? ⟨w.heap.size,1,none⟩=some (.slice a n c)∧w'.cell? ⟨w.heap.size,2,none⟩=some (.int .i64 y)∧w'.cell? ⟨w.heap.size,3,none⟩=some (.slice b m k)∧w'.cell? ⟨w.heap.size+1,0,none⟩=some (.int .i64 x')∧w'.cell? ⟨w.heap.size+1,1,none⟩=some (.slice a' n' c')∧w'.cell? ⟨w.heap.size+1,2,none⟩=some (.int .i64 y')∧w'.cell? ⟨w.heap.size+1,3,none⟩=some (.slice b' m' k')∧w'.cell? ⟨bn,0,none⟩=some (.int .i64 t0)∧w'.cell? ⟨bn,1,none⟩=some (.slice t1 t2 t3))
         (first | with_reducible exact uh S3 | with_reducible exact uh S2 | with_reducible exact uh S1 | with_reducible exact uh S0 | with_reducible exact outW12 (uh S3) qbn _ _ _ _ _ _ _ _)
         (first
           | (go_at_call 78;have _t:=tok1;go_fit (qtimes_any (N:=N) (D:=d') _ (h0.later (And.left (by assumption))) (h3'.later (And.left (by assumption))) (uh HD') (by omega));rintro e q1 ⟨⟨v1,rfl,hP1⟩,hb1⟩;clear tok1;obtain ⟨i1,i2,i3,i4,rfl⟩:=hP1.shape;have S1:=qh (keepW12 hb1 (uh S0));replace ZN:=qh (Zr.later (w:=W4.drew) (uh ZN) hb1);clear hb1)
           | (go_at_call 78;go_fit (qtimes_any (N:=N) (D:=d) _ (h0'.later (And.left (by assumption))) (h3.later (And.left (by assumption))) (uh HD) (by omega));rintro e q2 ⟨⟨v2,rfl,hP2⟩,hb2⟩;obtain ⟨i5,i6,i7,i8,rfl⟩:=hP2.shape;have S2:=qh (keepW12 hb2 (uh S1));replace ZN:=qh ((uh ZN).later hb2);replace hP1:=hP1.later hb2;clear hb2)
           | (go_at_call 111;go_fit (add_any (N:=N+1+N) _ hP1 hP2 (by omega));rintro e q3 ⟨⟨v3,rfl,hP3⟩,hb3⟩;obtain ⟨i9,i10,i11,i12,rfl⟩:=hP3.shape;have S3:=qh (keepW12 hb3 (uh S2));replace ZN:=qh ((uh ZN).later hb3);have hbx:=(uh S3).2.1;obtain ⟨⟨j0,g0⟩,⟨j1,j2,j3,g1⟩,⟨j4,g2⟩,⟨j5,j6,j7,g3⟩,gf⟩:=hbx.cells;have hlt:=hbx.lt;clear hb3))
       have hB3:=(uh S3).1
       have hbx:=(uh S3).2.1
       go_wp2
       obtain ⟨st0,st1,st2,st3⟩:=hbx.stored (.int .i64 i9) (.slice i10 i11 i12) (.int .i64 t0) (.slice t1 t2 t3)
       have hR:0<D∧Int.gcd (p*d'+p'*d) D=1∧((D=1∧eD=0)∨(1<D∧eD=D))∧(p*d'+p'*d)*(d*d')=(p*d'+p'*d)*D:=by
         obtain ⟨k1,k2⟩:=uh HD0
         obtain ⟨k3,k4⟩:=uh HG
         rcases uh HDD with ⟨h1,rfl,rfl⟩ | ⟨h1,rfl,rfl⟩
         · subst h1
           exact ⟨k2,by rw [Int.mul_one,Int.add_comm];exact cop_whole k4,uh HD',by rw [Int.one_mul]⟩
         · have h2:d'=1:=(uh HW).resolve_left h1
           subst h2
           exact ⟨k1,by rw [Int.mul_one];exact cop_whole k3,uh HD,by rw [Int.mul_one D]⟩
       obtain ⟨r1,r2,r3,r4⟩:=hR
       exact bodyPost_ret (v:=.agg #[.int .i64 i9,.slice i10 i11 i12,.int .i64 t0,.slice t1 t2 t3]) (by simp [results,Tryz.results70,go_sem,st0,st1,st2,st3]) rfl ⟨⟨_,p*d'+p'*d,D,rfl,⟨_,_,_,_,_,_,_,_,eD,rfl,(hP3.rstored hbx _ _ _ _).mono (by omega),((uh ZN).rstored hbx _ _ _ _).mono (by omega),r1,r2,r3⟩,r4⟩,zqf hB3 (by omega) _ _ _ _⟩
   · have hw:¬ (d=1∨d'=1):=of_decide_eq_false (uh HBW)
     have he:e=d:=by rcases uh HD with ⟨h,_⟩ | ⟨_,h⟩;exact absurd (Or.inl h) hw;exact h
     have he':e'=d':=by rcases uh HD' with ⟨h,_⟩ | ⟨_,h⟩;exact absurd (Or.inr h) hw;exact h
     subst he he'
     obtain ⟨g,u,t,q,T,z,hsg,g0,eu,et,u0,t0,hq,q0,eT,ez,uz,hcop,hfin,m1,m2,m3,m4⟩:=sum_lowest (uh HD0).1 (uh HD0).2 (uh HG).1 (uh HG).2
     have HSG:=qh hsg
     have HQ:=qh hq
     have HE:=qh (And.intro eu (And.intro et (And.intro eT ez)))
     have HFIN:=qh (And.intro hcop hfin)
     have HP:=qh (And.intro g0 (And.intro u0 (And.intro t0 (And.intro q0 uz))))
     have HM:=qh (And.intro m1 (And.intro m2 (And.intro m3 m4)))
     have HI:=qh (And.intro h3.inside.2 h3'.inside.2)
     clear hsg hq eu et eT ez hcop hfin g0 u0 t0 q0 uz m1 m2 m3 m4 hw
     obtain ⟨hB,hr,e0,e1,e2,e3,f0,f1,f2,f3⟩:=hst
     go_wp2_with fail
     go_fit (gcd_any (N:=N) _ (h3.later hB) (h3'.later hB) (by omega) ((uh HT).later hB))
     rintro e9 W2 ⟨⟨v2,rfl,hG⟩,hb2⟩
     obtain ⟨t0,t1,t2,t3,rfl⟩:=hG.shape
     have hst:=W10.keep hb2 ⟨hB,hr,e0,e1,e2,e3,f0,f1,f2,f3⟩
     clear hB hr e0 e1 e2 e3 f0 f1 f2 f3 hb2
     obtain ⟨hB,hr,e0,e1,e2,e3,f0,f1,f2,f3⟩:=hst
     have hG:Zr (N+1) W2 (.agg #[.int .i64 t0,.slice t1 t2 t3]) g:=(hG.eq (uh HSG).symm).down (uh HP).1 (uh HM).1 (uh HI).1
     go_upto_region 7 with fail
     obtain ⟨W3,hW3⟩:∃ W3,W3=W2.alloc (.cells #[.int .i64 t0,.slice t1 t2 t3] 37):=⟨_,rfl⟩
     have kn:=zqa W2 (.cells #[.int .i64 t0,.slice t1 t2 t3] 37)
     have hvg:=Vr.new hG
     have qbn:=hr.lt
     obtain ⟨bn,hbn⟩:∃ bn,bn=W2.heap.size:=⟨_,rfl⟩
     rw [← hW3] at kn hvg
     rw [← hbn] at hvg qbn
     have hst:=W10.keep kn ⟨hB,hr,e0,e1,e2,e3,f0,f1,f2,f3⟩
     clear hB hr e0 e1 e2 e3 f0 f1 f2 f3 kn
     first | rw [← hW3] | (change Code.wp _ _ _ _ (W2.alloc (.cells #[.int .i64 t0,.slice t1 t2 t3] 37));rw [← hW3])
     try rw [← hbn]
     clear hW3 hG hbn
     obtain ⟨hB,hr,e0,e1,e2,e3,f0,f1,f2,f3⟩:=hst
     have nc0:=hvg.c0
     have nc1:=hvg.c1
     have lbn:=hvg.lt
     have ZG:=qh hvg.zr
     clear hvg
     go_cut [7,8] (fun lv rv wx=>PartCut w x a n c y b m k x' a' n' c' y' b' m' k' bn t0 t1 t2 t3 (N+1) u t lv rv wx∧Hid (Zr (N+1) wx (.agg #[.int .i64 t0,.slice t1 t2 t3]) g))
     case first =>
       have tok1:True:=trivial
       have hlt3:=hr.lt
       have S0:=qh (show Below w.heap.size w W3.drew∧RBox W3.drew (w.heap.size+2)∧W3.drew.cell? ⟨w.heap.size,0,none⟩=some (.int .i64 x)∧W3.drew.cell? ⟨w.heap.size,1,none⟩=some (.slice a n c)∧W3.drew.cell? ⟨w.heap.size,2,none⟩=some (.int .i64 y)∧W3.drew.cell? ⟨w.heap.size,3,none⟩=some (.slice b m k)∧W3.drew.cell? ⟨w.heap.size+1,0,none⟩=some (.int .i64 x')∧W3.drew.cell? ⟨w.heap.size+1,1,none⟩=some (.slice a' n' c')∧W3.drew.cell? ⟨w.heap.size+1,2,none⟩=some (.int .i64 y')∧W3.drew.cell? ⟨w.heap.size+1,3,none⟩=some (.slice b' m' k')∧W3.drew.cell? ⟨bn,0,none⟩=some (.int .i64 t0)∧W3.drew.cell? ⟨bn,1,none⟩=some (.slice t1 t2 t3) from ⟨hB.drew,hr,e0,e1,e2,e3,f0,f1,f2,f3,nc0,nc1⟩)
       go_region_held3 (fun w'=>Below w.heap.size w w'∧RBox w' (w.heap.size+2)∧w'.cell? ⟨w.heap.size,0,none⟩=some (.int .i64 x)∧w'.cell? ⟨w.heap.size,1,none⟩=some (.slice a n c)∧w'.cell? ⟨w.heap.size,2,none⟩=some (.int .i64 y)∧w'.cell? ⟨w.heap.size,3,none⟩=some (.slice b m k)∧w'.cell? ⟨w.heap.size+1,0,none⟩=some (.int .i64 x')∧w'.cell? ⟨w.heap.size+1,1,none⟩=some (.slice a' n' c')∧w'.cell? ⟨w.heap.size+1,2,none⟩=some (.int .i64 y')∧w'.cell? ⟨w.heap.size+1,3,none⟩=some (.slice b' m' k')∧w'.cell? ⟨bn,0,none⟩=some (.int .i64 t0)∧w'.cell? ⟨bn,1,none⟩=some (.slice t1 t2 t3))
         (first | with_reducible exact uh S2 | with_reducible exact uh S1 | with_reducible exact uh S0 | with_reducible exact keepW12 (zqa _ _) (by assumption) | with_reducible exact drewW12 (by assumption) | with_reducible exact storeW12 (uh S2) qa na _ _ | with_reducible exact storeW12 (uh S2) qb nb _ _ | with_reducible exact storeW12 (storeW12 (uh S2) qa na _ _) qb nb _ _ | with_reducible exact storeW12 (storeW12 (uh S2) qb nb _ _) qa na _ _ | with_reducible exact keepW12 (zqa _ _) (uh S2) | with_reducible exact keepW12 (zqg _ _ _) (uh S2) | with_reducible exact keepW12 (zqa _ _) (storeW12 (uh S2) qa na _ _))
         (first
           | (go_at_call 136;have _t:=tok1;go_fit (zkd (N:=N) (q:=u) _ (h3.later (And.left (by assumption))) ((uh ZG).later (by first | exact (Below.refl _ _).drew | exact (zqa _ _).drew | exact (zqg _ _ _).drew)) (uh HP).1 (uh HE).1 (by omega));rintro e9 q1 ⟨⟨v1,rfl,hP1⟩,hb1⟩;clear tok1;obtain ⟨i1,i2,i3,i4,rfl⟩:=hP1.shape;have S1:=qh (keepW12 hb1 (by assumption));have hq1:=bk hb1 (show Below W3.heap.size W3 _ from (by first | exact (Below.refl _ _).drew | exact (zqa _ _).drew | exact (zqg _ _ _).drew));have sz1:=hq1.size;(first | (have BXa:Hid (Box q1 W3.heap.size):=(by with_reducible exact qh (bx2ad hb1));have BXb:Hid (Box q1 (W3.heap.size+1)):=(by with_reducible exact qh (bx2bd hb1));have qa:w.heap.size+2<W3.heap.size:=hlt3;have qb:w.heap.size+2<W3.heap.size+1:=Nat.lt_succ_of_lt qa;have hab:W3.heap.size<W3.heap.size+1:=Nat.lt_succ_self _;have qs:W3.heap.size≤W3.heap.size:=Nat.le_refl _) | (have hab:=zkw (uh BXa);have BXb:Hid (Box q1 W3.heap.size):=(by with_reducible exact qh (bx1d hb1));have qb:w.heap.size+2<W3.heap.size:=hlt3;replace BXa:=qh ((uh BXa).later hq1)) | (have BXa:Hid (Box q1 W3.heap.size):=(by with_reducible exact qh (bx1d hb1));have qa:w.heap.size+2<W3.heap.size:=hlt3;have qs:W3.heap.size≤W3.heap.size:=Nat.le_refl _) | (replace BXa:=qh ((uh BXa).later hq1);replace BXb:=qh ((uh BXb).later hq1)) | (replace BXa:=qh ((uh BXa).later hq1)) | skip);replace ZG:=qh ((uh ZG).later hq1);clear hb1 hq1)
           | (go_at_call 136;go_fit (zkd (N:=N) (q:=t) _ (h3'.later (And.left (by assumption))) ((uh ZG).later (by first | exact Below.refl _ _ | exact zqa _ _ | exact zqg _ _ _)) (uh HP).1 (uh HE).2.1 (by omega));rintro e9 q2 ⟨⟨v2,rfl,hP2⟩,hb2⟩;obtain ⟨i5,i6,i7,i8,rfl⟩:=hP2.shape;have S2:=qh (keepW12 hb2 (by assumption));have hq2:=bk hb2 (show Below q1.heap.size q1 _ from (by first | exact Below.refl _ _ | exact zqa _ _ | exact zqg _ _ _));(first | (have BXa:Hid (Box q2 q1.heap.size):=(by with_reducible exact qh (bx2a hb2));have BXb:Hid (Box q2 (q1.heap.size+1)):=(by with_reducible exact qh (bx2b hb2));have qa:w.heap.size+2<q1.heap.size:=(uh S1).2.1.lt;have qb:w.heap.size+2<q1.heap.size+1:=Nat.lt_succ_of_lt qa;have hab:q1.heap.size<q1.heap.size+1:=Nat.lt_succ_self _;have qs:W3.heap.size≤q1.heap.size:=sz1) | (have hab:=zkw (uh BXa);have BXb:Hid (Box q2 q1.heap.size):=(by with_reducible exact qh (bx1 hb2));have qb:w.heap.size+2<q1.heap.size:=(uh S1).2.1.lt;replace BXa:=qh ((uh BXa).later hq2)) | (have BXa:Hid (Box q2 q1.heap.size):=(by with_reducible exact qh (bx1 hb2));have qa:w.heap.size+2<q1.heap.size:=(uh S1).2.1.lt;have qs:W3.heap.size≤q1.heap.size:=sz1) | (replace BXa:=qh ((uh BXa).later hq2);replace BXb:=qh ((uh BXb).later hq2)) | (replace BXa:=qh ((uh BXa).later hq2)) | skip);replace ZG:=qh ((uh ZG).later hq2);have ZL:=qh ((hP1.later hq2).down (uh HP).2.1 (uh HM).2.1 (uh HI).1);have ZR:=qh (hP2.down (uh HP).2.2.1 (uh HM).2.2.1 (uh HI).2);have q2s:=(uh S2).2.1.lt;have lb2:=Nat.lt_of_lt_of_le lbn (Nat.le_trans sz1 hq2.size);(first | (obtain ⟨⟨z0,zz0⟩,⟨z1,z2,z3,zz1⟩,zzf⟩:=(uh BXa).cells;obtain ⟨⟨y0,yy0⟩,⟨y1,y2,y3,yy1⟩,yyf⟩:=(uh BXb).cells;have hlb:=zkw (uh BXa);have hrb:=zkw (uh BXb);have hn1:=Nat.ne_of_lt hab;have hn2:=Nat.ne_of_gt hab;have na:=Nat.ne_of_lt (Nat.lt_of_lt_of_le lbn qs);have nb:=Nat.ne_of_lt (Nat.lt_trans (Nat.lt_of_lt_of_le lbn qs) hab)) | (obtain ⟨⟨z0,zz0⟩,⟨z1,z2,z3,zz1⟩,zzf⟩:=(uh BXa).cells;have hlb:=zkw (uh BXa);have hn1:=Nat.ne_of_lt hlb;have hn2:=Nat.ne_of_gt hlb;have na:=Nat.ne_of_lt (Nat.lt_of_lt_of_le lbn qs)) | skip);clear hb2 hq2 hP1 hP2))
       all_goals
         go_wp2
         go_meet
         first
           | (have hv:=two_new (uh ZL) (uh ZR);exact ⟨⟨_,_,_,_,_,_,_,_,_,_,rfl,rfl,Nat.ne_of_lt (Nat.lt_succ_self _),q2s,Nat.lt_succ_of_lt q2s,Nat.ne_of_lt lb2,Nat.ne_of_lt (Nat.lt_succ_of_lt lb2),⟨hv.1.c0,hv.1.c1,hv.1.box,hv.1.zr⟩,⟨hv.2.c0,hv.2.c1,hv.2.box,hv.2.zr⟩,keepW12 (zqg _ _ _) (uh S2)⟩,qh ((uh ZG).later (zqg _ _ _))⟩)
           | (have hv:=two_new (uh ZR) (uh ZL);exact ⟨⟨_,_,_,_,_,_,_,_,_,_,rfl,rfl,Nat.ne_of_gt (Nat.lt_succ_self _),Nat.lt_succ_of_lt q2s,q2s,Nat.ne_of_lt (Nat.lt_succ_of_lt lb2),Nat.ne_of_lt lb2,⟨hv.2.c0,hv.2.c1,hv.2.box,hv.2.zr⟩,⟨hv.1.c0,hv.1.c1,hv.1.box,hv.1.zr⟩,keepW12 (zqg _ _ _) (uh S2)⟩,qh ((uh ZG).later (zqg _ _ _))⟩)
           | (have hv:=one_in (uh BXa) (uh ZL) (uh ZR);exact ⟨⟨_,_,_,_,_,_,_,_,_,_,rfl,rfl,hn1,qa,q2s,na,Nat.ne_of_lt lb2,⟨hv.1.c0,hv.1.c1,hv.1.box,hv.1.zr⟩,⟨hv.2.c0,hv.2.c1,hv.2.box,hv.2.zr⟩,keepW12 (zqa _ _) (storeW12 (uh S2) qa na _ _)⟩,qh (((uh ZG).stored (uh BXa) _ _).later (zqa _ _))⟩)
           | (have hv:=one_in (uh BXa) (uh ZR) (uh ZL);exact ⟨⟨_,_,_,_,_,_,_,_,_,_,rfl,rfl,hn2,q2s,qa,Nat.ne_of_lt lb2,na,⟨hv.2.c0,hv.2.c1,hv.2.box,hv.2.zr⟩,⟨hv.1.c0,hv.1.c1,hv.1.box,hv.1.zr⟩,keepW12 (zqa _ _) (storeW12 (uh S2) qa na _ _)⟩,qh (((uh ZG).stored (uh BXa) _ _).later (zqa _ _))⟩)
           | (have hv:=two_in (uh BXa) (uh BXb) hn1 (uh ZL) (uh ZR);exact ⟨⟨_,_,_,_,_,_,_,_,_,_,rfl,rfl,hn1,qa,qb,na,nb,⟨hv.1.c0,hv.1.c1,hv.1.box,hv.1.zr⟩,⟨hv.2.c0,hv.2.c1,hv.2.box,hv.2.zr⟩,storeW12 (storeW12 (uh S2) qa na _ _) qb nb _ _⟩,qh (Zr.two (uh ZG) (uh BXa) (uh BXb) hn1 _ _ _ _ _ _ _ _)⟩)
           | (have hv:=two_in (uh BXb) (uh BXa) hn2 (uh ZL) (uh ZR);exact ⟨⟨_,_,_,_,_,_,_,_,_,_,rfl,rfl,hn2,qb,qa,nb,na,⟨hv.1.c0,hv.1.c1,hv.1.box,hv.1.zr⟩,⟨hv.2.c0,hv.2.c1,hv.2.box,hv.2.zr⟩,storeW12 (storeW12 (uh S2) qb nb _ _) qa na _ _⟩,qh (Zr.two (uh ZG) (uh BXb) (uh BXa) hn2 _ _ _ _ _ _ _ _)⟩)
     case rest =>
       obtain ⟨⟨bl,br,l0,l1,l2,l3,r0,r1,r2,r3,rfl,rfl,hne,qbl,qbr,nbl,nbr,hvl,hvr,hst⟩,ZG⟩:=hcut
       obtain ⟨W4,rfl⟩:∃ X,X=wc:=⟨_,rfl⟩
       clear hB hr e0 e1 e2 e3 f0 f1 f2 f3 nc0 nc1 lbn
       obtain ⟨hB,hr,e0,e1,e2,e3,f0,f1,f2,f3,nc0,nc1⟩:=hst
       have lc0:=hvl.c0
       have lc1:=hvl.c1
       have rc0:=hvr.c0
       have rc1:=hvr.c1
       have lbl:=hvl.lt
       have lbr:=hvr.lt
       have lbn:bn<W4.heap.size:=World.block_lt_of_cell? _ _ nc0
       have hlt4:=hr.lt
       have ZL:=qh hvl.zr
       have ZR:=qh hvr.zr
       clear hvl hvr
       go_upto_region 8 with fail
       go_cut [9] (fun zv wx=>TotCut w x a n c y b m k x' a' n' c' y' b' m' k' bl br l0 l1 l2 l3 r0 r1 r2 r3 bn t0 t1 t2 t3 (2*N+3) (p*t+p'*u) zv wx∧Hid (Zr (N+1) wx (.agg #[.int .i64 t0,.slice t1 t2 t3]) g)∧Hid (Zr (N+1) wx (.agg #[.int .i64 l0,.slice l1 l2 l3]) u))
       case first =>
         have tok1:True:=trivial
         have S0:=qh (show Below w.heap.size w W4.drew∧RBox W4.drew (w.heap.size+2)∧W4.drew.cell? ⟨w.heap.size,0,none⟩=some (.int .i64 x)∧W4.drew.cell? ⟨w.heap.size,1,none⟩=some (.slice a n c)∧W4.drew.cell? ⟨w.heap.size,2,none⟩=some (.int .i64 y)∧W4.drew.cell? ⟨w.heap.size,3,none⟩=some (.slice b m k)∧W4.drew.cell? ⟨w.heap.size+1,0,none⟩=some (.int .i64 x')∧W4.drew.cell? ⟨w.heap.size+1,1,none⟩=some (.slice a' n' c')∧W4.drew.cell? ⟨w.heap.size+1,2,none⟩=some (.int .i64 y')∧W4.drew.cell? ⟨w.heap.size+1,3,none⟩=some (.slice b' m' k')∧W4.drew.cell? ⟨bl,0,none⟩=some (.int .i64 l0)∧W4.drew.cell? ⟨bl,1,none⟩=some (.slice l1 l2 l3)∧W4.drew.cell? ⟨br,0,none⟩=some (.int .i64 r0)∧W4.drew.cell? ⟨br,1,none⟩=some (.slice r1 r2 r3)∧W4.drew.cell? ⟨bn,0,none⟩=some (.int .i64 t0)∧W4.drew.cell? ⟨bn,1,none⟩=some (.slice t1 t2 t3) from ⟨hB.drew,hr,e0,e1,e2,e3,f0,f1,f2,f3,lc0,lc1,rc0,rc1,nc0,nc1⟩)
         go_region_held3 (fun w'=>Below w.heap.size w w'∧RBox w' (w.heap.size+2)∧w'.cell? ⟨w.heap.size,0,none⟩=some (.int .i64 x)∧w'.cell? ⟨w.heap.size,1,none⟩=some (.slice a n c)∧w'.cell? ⟨w.heap.size,2,none⟩=some (.int .i64 y)∧w'.cell? ⟨w.heap.size,3,none⟩=some (.slice b m k)∧w'.cell? ⟨w.heap.size+1,0,none⟩=some (.int .i64 x')∧w'.cell? ⟨w.heap.size+1,1,none⟩=some (.slice a' n' c')∧w'.cell? ⟨w.heap.size+1,2,none⟩=some (.int .i64 y')∧w'.cell? ⟨w.heap.size+1,3,none⟩=some (.slice b' m' k')∧w'.cell? ⟨bl,0,none⟩=some (.int .i64 l0)∧w'.cell? ⟨bl,1,none⟩=some (.slice l1 l2 l3)∧w'.cell? ⟨br,0,none⟩=some (.int .i64 r0)∧w'.cell? ⟨br,1,none⟩=some (.slice r1 r2 r3)∧w'.cell? ⟨bn,0,none⟩=some (.int .i64 t0)∧w'.cell? ⟨bn,1,none⟩=some (.slice t1 t2 t3))
           (first | with_reducible exact uh S3 | with_reducible exact uh S2 | with_reducible exact uh S1 | with_reducible exact uh S0 | with_reducible exact keepW16 (zqa _ _) (by assumption) | with_reducible exact drewW16 (by assumption) | with_reducible exact storeW16 (uh S3) qa nl nr nn _ _ | with_reducible exact keepW16 (zqa _ _) (uh S3))
           (first
             | (go_at_call 132;have _t:=tok1;go_fit (zkm (N:=N) _ (h2.later (And.left (by assumption))) ((uh ZR).later (by first | exact (Below.refl _ _).drew | exact (zqa _ _).drew | exact (zqg _ _ _).drew)) (by omega));rintro e9 q1 ⟨⟨v1,rfl,hP1⟩,hb1⟩;clear tok1;obtain ⟨i1,i2,i3,i4,rfl⟩:=hP1.shape;have S1:=qh (keepW16 hb1 (by assumption));have hq1:=bk hb1 (show Below W4.heap.size W4 _ from (by first | exact (Below.refl _ _).drew | exact (zqa _ _).drew | exact (zqg _ _ _).drew));have sz1:=hq1.size;(first | (have BXa:Hid (Box q1 W4.heap.size):=(by with_reducible exact qh (bx2ad hb1));have BXb:Hid (Box q1 (W4.heap.size+1)):=(by with_reducible exact qh (bx2bd hb1));have qa:w.heap.size+2<W4.heap.size:=hlt4;have qb:w.heap.size+2<W4.heap.size+1:=Nat.lt_succ_of_lt qa;have hab:W4.heap.size<W4.heap.size+1:=Nat.lt_succ_self _;have qs:W4.heap.size≤W4.heap.size:=Nat.le_refl _) | (have hab:=zkw (uh BXa);have BXb:Hid (Box q1 W4.heap.size):=(by with_reducible exact qh (bx1d hb1));have qb:w.heap.size+2<W4.heap.size:=hlt4;replace BXa:=qh ((uh BXa).later hq1)) | (have BXa:Hid (Box q1 W4.heap.size):=(by with_reducible exact qh (bx1d hb1));have qa:w.heap.size+2<W4.heap.size:=hlt4;have qs:W4.heap.size≤W4.heap.size:=Nat.le_refl _) | (replace BXa:=qh ((uh BXa).later hq1);replace BXb:=qh ((uh BXb).later hq1)) | (replace BXa:=qh ((uh BXa).later hq1)) | skip);replace ZG:=qh ((uh ZG).later hq1);replace ZL:=qh ((uh ZL).later hq1);clear hb1 hq1)
             | (go_at_call 132;go_fit (zkm (N:=N) _ (h2'.later (And.left (by assumption))) ((uh ZL).later (by first | exact Below.refl _ _ | exact zqa _ _ | exact zqg _ _ _)) (by omega));rintro e9 q2 ⟨⟨v2,rfl,hP2⟩,hb2⟩;obtain ⟨i5,i6,i7,i8,rfl⟩:=hP2.shape;have S2:=qh (keepW16 hb2 (by assumption));have hq2:=bk hb2 (show Below q1.heap.size q1 _ from (by first | exact Below.refl _ _ | exact zqa _ _ | exact zqg _ _ _));have sz2:=Nat.le_trans sz1 hq2.size;(first | (have BXa:Hid (Box q2 q1.heap.size):=(by with_reducible exact qh (bx2a hb2));have BXb:Hid (Box q2 (q1.heap.size+1)):=(by with_reducible exact qh (bx2b hb2));have qa:w.heap.size+2<q1.heap.size:=(uh S1).2.1.lt;have qb:w.heap.size+2<q1.heap.size+1:=Nat.lt_succ_of_lt qa;have hab:q1.heap.size<q1.heap.size+1:=Nat.lt_succ_self _;have qs:W4.heap.size≤q1.heap.size:=sz1) | (have hab:=zkw (uh BXa);have BXb:Hid (Box q2 q1.heap.size):=(by with_reducible exact qh (bx1 hb2));have qb:w.heap.size+2<q1.heap.size:=(uh S1).2.1.lt;replace BXa:=qh ((uh BXa).later hq2)) | (have BXa:Hid (Box q2 q1.heap.size):=(by with_reducible exact qh (bx1 hb2));have qa:w.heap.size+2<q1.heap.size:=(uh S1).2.1.lt;have qs:W4.heap.size≤q1.heap.size:=sz1) | (replace BXa:=qh ((uh BXa).later hq2);replace BXb:=qh ((uh BXb).later hq2)) | (replace BXa:=qh ((uh BXa).later hq2)) | skip);replace ZG:=qh ((uh ZG).later hq2);replace ZL:=qh ((uh ZL).later hq2);replace hP1:=hP1.later hq2;clear hb2 hq2)
             | (go_at_call 111;go_fit (add_any (N:=N+1+N) _ (hP1.later (by first | exact Below.refl _ _ | exact zqa _ _ | exact zqg _ _ _)) (hP2.later (by first | exact Below.refl _ _ | exact zqa _ _ | exact zqg _ _ _)) (by omega));rintro e9 q3 ⟨⟨v3,rfl,hM3⟩,hb3⟩;obtain ⟨i9,i10,i11,i12,rfl⟩:=hM3.shape;have S3:=qh (keepW16 hb3 (by assumption));have hq3:=bk hb3 (show Below q2.heap.size q2 _ from (by first | exact Below.refl _ _ | exact zqa _ _ | exact zqg _ _ _));have sz3:=Nat.le_trans sz2 hq3.size;(first | (have BXa:Hid (Box q3 q2.heap.size):=(by with_reducible exact qh (bx2a hb3));have BXb:Hid (Box q3 (q2.heap.size+1)):=(by with_reducible exact qh (bx2b hb3));have qa:w.heap.size+2<q2.heap.size:=(uh S2).2.1.lt;have qb:w.heap.size+2<q2.heap.size+1:=Nat.lt_succ_of_lt qa;have hab:q2.heap.size<q2.heap.size+1:=Nat.lt_succ_self _;have qs:W4.heap.size≤q2.heap.size:=sz2) | (have hab:=zkw (uh BXa);have BXb:Hid (Box q3 q2.heap.size):=(by with_reducible exact qh (bx1 hb3));have qb:w.heap.size+2<q2.heap.size:=(uh S2).2.1.lt;replace BXa:=qh ((uh BXa).later hq3)) | (have BXa:Hid (Box q3 q2.heap.size):=(by with_reducible exact qh (bx1 hb3));have qa:w.heap.size+2<q2.heap.size:=(uh S2).2.1.lt;have qs:W4.heap.size≤q2.heap.size:=sz2) | (replace BXa:=qh ((uh BXa).later hq3);replace BXb:=qh ((uh BXb).later hq3)) | (replace BXa:=qh ((uh BXa).later hq3)) | skip);replace ZG:=qh ((uh ZG).later hq3);replace ZL:=qh ((uh ZL).later hq3);have q3s:=(uh S3).2.1.lt;have HM3:=qh hM3;(first | (obtain ⟨⟨z0,zz0⟩,⟨z1,z2,z3,zz1⟩,zzf⟩:=(uh BXa).cells;have hlb:=zkw (uh BXa);have nl:=Nat.ne_of_lt (Nat.lt_of_lt_of_le lbl qs);have nr:=Nat.ne_of_lt (Nat.lt_of_lt_of_le lbr qs);have nn:=Nat.ne_of_lt (Nat.lt_of_lt_of_le lbn qs)) | skip);clear hb3 hq3 hP1 hP2 hM3))
         all_goals
           go_wp2
           go_meet
           first
             | exact ⟨⟨_,_,_,_,_,rfl,Nat.ne_of_lt (Nat.lt_of_lt_of_le lbl sz3),Nat.ne_of_lt (Nat.lt_of_lt_of_le lbr sz3),Nat.ne_of_lt (Nat.lt_of_lt_of_le lbn sz3),q3s,(Vr.new (uh HM3)).mono (by omega),keepW16 (zqa _ _) (uh S3)⟩,qh ((uh ZG).later (zqa _ _)),qh ((uh ZL).later (zqa _ _))⟩
             | exact ⟨⟨_,_,_,_,_,rfl,nl,nr,nn,qa,(Vr.in (uh BXa) (uh HM3)).mono (by omega),storeW16 (uh S3) qa nl nr nn _ _⟩,qh ((uh ZG).stored (uh BXa) _ _),qh ((uh ZL).stored (uh BXa) _ _)⟩
       case rest =>
         obtain ⟨⟨bz,z0,z1,z2,z3,rfl,nlz,nrz,nnz,qbz,hvz,hst⟩,ZG,ZL⟩:=hcut
         obtain ⟨W5,rfl⟩:∃ X,X=wc:=⟨_,rfl⟩
         clear hB hr e0 e1 e2 e3 f0 f1 f2 f3 nc0 nc1 lc0 lc1 rc0 rc1 lbn lbl lbr hlt4
         obtain ⟨hB,hr,e0,e1,e2,e3,f0,f1,f2,f3,lc0,lc1,rc0,rc1,nc0,nc1⟩:=hst
         have zc0:=hvz.c0
         have zc1:=hvz.c1
         go_wp2_with fail
         go_fit (gcd_any (N:=2*N+2) _ hvz.zr ((uh ZG).mono (by omega)) (by omega) ((uh HT).later hB))
         rintro e9 W6 ⟨⟨v6,rfl,hG⟩,hb6⟩
         obtain ⟨x0,x1,x2,x3,rfl⟩:=hG.shape
         have hG:Zr (N+1) W6 (.agg #[.int .i64 x0,.slice x1 x2 x3]) q:=(hG.eq (uh HQ).symm).down (uh HP).2.2.2.1 (uh HM).2.2.2 (uh HI).1
         have hvz:=hvz.keep hb6
         have ZL:=qh ((uh ZL).later hb6)
         have hst:=W10.keep hb6 ⟨hB,hr,e0,e1,e2,e3,f0,f1,f2,f3⟩
         have lc0:=ck hb6 lc0
         have lc1:=ck hb6 lc1
         clear hB hr e0 e1 e2 e3 f0 f1 f2 f3 nc0 nc1 rc0 rc1 zc0 zc1 hb6 ZG
         obtain ⟨hB,hr,e0,e1,e2,e3,f0,f1,f2,f3⟩:=hst
         have qbx:=hr.lt
         go_upto_region 10 with fail
         obtain ⟨W7,hW7⟩:∃ W7,W7=W6.alloc (.cells #[.int .i64 x0,.slice x1 x2 x3] 37):=⟨_,rfl⟩
         have kn:=zqa W6 (.cells #[.int .i64 x0,.slice x1 x2 x3] 37)
         have hvx:=Vr.new hG
         obtain ⟨bx,hbx⟩:∃ bx,bx=W6.heap.size:=⟨_,rfl⟩
         rw [← hW7] at kn hvx
         rw [← hbx] at hvx qbx
         have hst:=W10.keep kn ⟨hB,hr,e0,e1,e2,e3,f0,f1,f2,f3⟩
         have hvz:=hvz.keep kn
         have ZL:=qh ((uh ZL).later kn)
         have lc0:=ck kn lc0
         have lc1:=ck kn lc1
         clear hB hr e0 e1 e2 e3 f0 f1 f2 f3 kn
         first | rw [← hW7] | (change Code.wp _ _ _ _ (W6.alloc (.cells #[.int .i64 x0,.slice x1 x2 x3] 37));rw [← hW7])
         try rw [← hbx]
         clear hW7 hG hbx
         obtain ⟨hB,hr,e0,e1,e2,e3,f0,f1,f2,f3⟩:=hst
         have rc0:=hvz.c0
         have rc1:=hvz.c1
         have nc0:=hvx.c0
         have nc1:=hvx.c1
         have ZZ:=qh hvz.zr
         have ZX:=qh hvx.zr
         clear hvz hvx
         have tok1:True:=trivial
         have S0:=qh (show Below w.heap.size w W7.drew∧RBox W7.drew (w.heap.size+2)∧W7.drew.cell? ⟨w.heap.size,0,none⟩=some (.int .i64 x)∧W7.drew.cell? ⟨w.heap.size,1,none⟩=some (.slice a n c)∧W7.drew.cell? ⟨w.heap.size,2,none⟩=some (.int .i64 y)∧W7.drew.cell? ⟨w.heap.size,3,none⟩=some (.slice b m k)∧W7.drew.cell? ⟨w.heap.size+1,0,none⟩=some (.int .i64 x')∧W7.drew.cell? ⟨w.heap.size+1,1,none⟩=some (.slice a' n' c')∧W7.drew.cell? ⟨w.heap.size+1,2,none⟩=some (.int .i64 y')∧W7.drew.cell? ⟨w.heap.size+1,3,none⟩=some (.slice b' m' k')∧W7.drew.cell? ⟨bl,0,none⟩=some (.int .i64 l0)∧W7.drew.cell? ⟨bl,1,none⟩=some (.slice l1 l2 l3)∧W7.drew.cell? ⟨bz,0,none⟩=some (.int .i64 z0)∧W7.drew.cell? ⟨bz,1,none⟩=some (.slice z1 z2 z3)∧W7.drew.cell? ⟨bx,0,none⟩=some (.int .i64 x0)∧W7.drew.cell? ⟨bx,1,none⟩=some (.slice x1 x2 x3) from ⟨hB.drew,hr,e0,e1,e2,e3,f0,f1,f2,f3,lc0,lc1,rc0,rc1,nc0,nc1⟩)
         go_region_held3 (fun w'=>Below w.heap.size w w'∧RBox w' (w.heap.size+2)∧w'.cell? ⟨w.heap.size,0,none⟩=some (.int .i64 x)∧w'.cell? ⟨w.heap.size,1,none⟩=some (.slice a n c)∧w'.cell? ⟨w.heap.size,2,none⟩=some (.int .i64 y)∧w'.cell? ⟨w.heap.size,3,none⟩=some (.slice b m k)∧w'.cell? ⟨w.heap.size+1,0,none⟩=some (.int .i64 x')∧w'.cell? ⟨w.heap.size+1,1,none⟩=some (.slice a' n' c')∧w'.cell? ⟨w.heap.size+1,2,none⟩=some (.int .i64 y')∧w'.cell? ⟨w.heap.size+1,3,none⟩=some (.slice b' m' k')∧w'.cell? ⟨bl,0,none⟩=some (.int .i64 l0)∧w'.cell? ⟨bl,1,none⟩=some (.slice l1 l2 l3)∧w'.cell? ⟨bz,0,none⟩=some (.int .i64 z0)∧w'.cell? ⟨bz,1,none⟩=some (.slice z1 z2 z3)∧w'.cell? ⟨bx,0,none⟩=some (.int .i64 x0)∧w'.cell? ⟨bx,1,none⟩=some (.slice x1 x2 x3))
           (first | with_reducible exact uh S4 | with_reducible exact uh S3 | with_reducible exact uh S2 | with_reducible exact uh S1 | with_reducible exact uh S0 | with_reducible exact outW16 (uh S4) qbl qbz qbx _ _ _ _ _ _ _ _)
           (first
             | (go_at_call 136;have _t:=tok1;go_fit (zkd (N:=2*N+2) (q:=T) _ (Zr.later (w:=W7) (uh ZZ) (by first | exact (Below.refl _ _).drew | exact (zqa _ _).drew | exact (zqg _ _ _).drew)) ((Zr.later (w:=W7) (uh ZX) (by first | exact (Below.refl _ _).drew | exact (zqa _ _).drew | exact (zqg _ _ _).drew)).mono (by omega)) (uh HP).2.2.2.1 (uh HE).2.2.1 (by omega));rintro e9 q1 ⟨⟨v1,rfl,hP1⟩,hb1⟩;clear tok1;obtain ⟨i1,i2,i3,i4,rfl⟩:=hP1.shape;have S1:=qh (keepW16 hb1 (uh S0));replace ZX:=qh (Zr.later (w:=W7.drew) (uh ZX) hb1);replace ZL:=qh (Zr.later (w:=W7.drew) (uh ZL) hb1);clear hb1)
             | (go_at_call 136;go_fit (zkd (N:=N) (q:=z) _ (h3'.later (And.left (by assumption))) (uh ZX) (uh HP).2.2.2.1 (uh HE).2.2.2 (by omega));rintro e9 q2 ⟨⟨v2,rfl,hP2⟩,hb2⟩;obtain ⟨i5,i6,i7,i8,rfl⟩:=hP2.shape;have S2:=qh (keepW16 hb2 (uh S1));replace ZL:=qh ((uh ZL).later hb2);replace hP1:=hP1.later hb2;clear hb2)
             | (go_at_call 132;go_fit (zkm (N:=N+2) _ ((uh ZL).mono (by omega)) hP2 (by omega));rintro e9 q3 ⟨⟨v3,rfl,hP3⟩,hb3⟩;obtain ⟨i9,i10,i11,i12,rfl⟩:=hP3.shape;have S3:=qh (keepW16 hb3 (uh S2));replace hP1:=hP1.later hb3;clear hb3)
             | (go_at_call 137;go_fit (lowest_any (N:=2*N+5) _ (hP1.mono (by omega)) (hP3.mono (by omega)) (uh HP).2.2.2.2 (uh HFIN).1 (by omega));rintro e9 q4 ⟨⟨v4,rfl,hR4⟩,hb4⟩;obtain ⟨u0,u1,u2,u3,u4,u5,u6,u7,e8,rfl,hP4,hD4,D0,hG4,hE4⟩:=hR4;have HG4:=qh hG4;have HD4:=qh hE4;clear hG4 hE4;have S4:=qh (keepW16 hb4 (uh S3));have hbx:=(uh S4).2.1;obtain ⟨⟨j0,g0⟩,⟨j1,j2,j3,g1⟩,⟨j4,g2⟩,⟨j5,j6,j7,g3⟩,gf⟩:=hbx.cells;have hlt:=hbx.lt;clear hb4))
         have hB3:=(uh S4).1
         have hbx:=(uh S4).2.1
         go_wp2
         obtain ⟨st0,st1,st2,st3⟩:=hbx.stored (.int .i64 u0) (.slice u1 u2 u3) (.int .i64 u4) (.slice u5 u6 u7)
         exact bodyPost_ret (v:=.agg #[.int .i64 u0,.slice u1 u2 u3,.int .i64 u4,.slice u5 u6 u7]) (by simp [results,Tryz.results70,go_sem,st0,st1,st2,st3]) rfl ⟨⟨_,T,u*z,rfl,⟨_,_,_,_,_,_,_,_,e8,rfl,hP4.rstored hbx _ _ _ _,hD4.rstored hbx _ _ _ _,D0,uh HG4,uh HD4⟩,(uh HFIN).2⟩,zqf hB3 (by omega) _ _ _ _⟩
end Go.Proofs.YtkdobjmhammhbaaGreatDoor
