import Derived.Test.YtkdobjmhammhbaaGreatDoorMQA
namespace Go.Proofs.YtkdobjmhammhbaaGreatDoor
open Go.RowKit
def Rr (N:Nat) (w:World) (v:Value) (p d:Int):Prop:=∃ x a n c y b m k e,v=.agg #[.int .i64 x,.slice a n c,.int .i64 y,.slice b m k]∧Zr N w (.agg #[.int .i64 x,.slice a n c]) p∧Zr N w (.agg #[.int .i64 y,.slice b m k]) e∧0<d∧Int.gcd p d=1∧((d=1∧e=0)∨(1<d∧e=d))
theorem Rr.later {N:Nat}{w w':World}{v:Value}{p d:Int} (h:Rr N w v p d) (hb:Below w.heap.size w w'):Rr N w' v p d:=by
 obtain ⟨x,a,n,c,y,b,m,k,e,h1,h2,h3,h4⟩:=h
 exact ⟨x,a,n,c,y,b,m,k,e,h1,h2.later hb,h3.later hb,h4⟩
theorem Rr.mono {N M:Nat}{w:World}{v:Value}{p d:Int} (h:Rr N w v p d) (hM:N≤M):Rr M w v p d:=by
 obtain ⟨x,a,n,c,y,b,m,k,e,h1,h2,h3,h4⟩:=h
 exact ⟨x,a,n,c,y,b,m,k,e,h1,h2.mono hM,h3.mono hM,h4⟩
theorem Rr.shape {N:Nat}{w:World}{v:Value}{p d:Int} (h:Rr N w v p d):∃ x a n c y b m k,v=.agg #[.int .i64 x,.slice a n c,.int .i64 y,.slice b m k]:=by
 obtain ⟨x,a,n,c,y,b,m,k,e,h1,_⟩:=h
 exact ⟨_,_,_,_,_,_,_,_,h1⟩
def RBox (w:World) (r:Nat):Prop:=∃ x a n c y b m k,w.heap[r]? = some (.cells #[.int .i64 x,.slice a n c,.int .i64 y,.slice b m k] 39 (0,0))
theorem zjb (w:World) (x:Int) (a:Option Addr) (n c:Nat) (y:Int) (b:Option Addr) (m k:Nat):RBox (w.alloc (.cells #[.int .i64 x,.slice a n c,.int .i64 y,.slice b m k] 39)) w.heap.size:=⟨_,_,_,_,_,_,_,_,heap_alloc_new w _⟩
theorem RBox.later {w w':World}{r:Nat} (h:RBox w r) (hb:Below w.heap.size w w'):RBox w' r:=by
 obtain ⟨x,a,n,c,y,b,m,k,h⟩:=h
 exact ⟨x,a,n,c,y,b,m,k,by rw [hb.block r (Array.getElem?_eq_some_iff.1 h).1];exact h⟩
theorem RBox.cells {w:World}{r:Nat} (h:RBox w r):(∃ x,w.cell? ⟨r,0,none⟩=some (.int .i64 x))∧(∃ a n c,w.cell? ⟨r,1,none⟩=some (.slice a n c))∧(∃ x,w.cell? ⟨r,2,none⟩=some (.int .i64 x))∧(∃ a n c,w.cell? ⟨r,3,none⟩=some (.slice a n c))∧(∀ o,w.frozen? ⟨r,o,none⟩=false):=by
 obtain ⟨x,a,n,c,y,b,m,k,h⟩:=h
 exact ⟨⟨x,by simp [World.cell?,h]⟩,⟨a,n,c,by simp [World.cell?,h]⟩,⟨y,by simp [World.cell?,h]⟩,⟨b,m,k,by simp [World.cell?,h]⟩,fun o=>by simp [World.frozen?,h]⟩
theorem RBox.lt {w:World}{r:Nat} (h:RBox w r):r<w.heap.size:=by
 obtain ⟨x,a,n,c,y,b,m,k,h⟩:=h
 exact (Array.getElem?_eq_some_iff.1 h).1
theorem Row.notR {w:World}{b off r:Nat}{l:List Int} (hr:Row w b off l) (hl:l≠[]) (h:RBox w r):b≠r:=by
 intro e
 subst e
 obtain ⟨x,a,n,c,y,b',m,k,h⟩:=h
 have:=hr 0 (List.length_pos_iff.2 hl)
 simp only [World.cell?,h] at this
 match off,this with
 | 0,this=>simp at this
 | 1,this=>simp at this
 | 2,this=>simp at this
 | 3,this=>simp at this
 | k+4,this=>simp at this
theorem Zr.rstored {N:Nat}{w:World}{v:Value}{z:Int}{r:Nat} (h:Zr N w v z) (hb:RBox w r) (u0 u1 u2 u3:Value):Zr N ((((w.setCell ⟨r,0,none⟩ u0).setCell ⟨r,1,none⟩ u1).setCell ⟨r,2,none⟩ u2).setCell ⟨r,3,none⟩ u3) v z:=by
 rcases h with h | ⟨s,b,off,cap,l,h1,h2,h3,h4,h5,h6,h7,h8,h9,h10,h11⟩
 · exact Or.inl h
 · have hne:=h10.notR h5 hb
   refine Or.inr ⟨s,b,off,cap,l,h1,h2,h3,h4,h5,h6,h7,h8,h9,fun k hk => ?_,h11⟩
   rw [zqb _ _ _ _ _ _ (by omega),zqb _ _ _ _ _ _ (by omega),zqb _ _ _ _ _ _ (by omega),zqb _ _ _ _ _ _ (by omega)]
   exact h10 k hk
theorem RBox.stored {w:World}{r:Nat} (h:RBox w r) (u0 u1 u2 u3:Value):((((w.setCell ⟨r,0,none⟩ u0).setCell ⟨r,1,none⟩ u1).setCell ⟨r,2,none⟩ u2).setCell ⟨r,3,none⟩ u3).cell? ⟨r,0,none⟩=some u0∧((((w.setCell ⟨r,0,none⟩ u0).setCell ⟨r,1,none⟩ u1).setCell ⟨r,2,none⟩ u2).setCell ⟨r,3,none⟩ u3).cell? ⟨r,1,none⟩=some u1∧((((w.setCell ⟨r,0,none⟩ u0).setCell ⟨r,1,none⟩ u1).setCell ⟨r,2,none⟩ u2).setCell ⟨r,3,none⟩ u3).cell? ⟨r,2,none⟩=some u2∧((((w.setCell ⟨r,0,none⟩ u0).setCell ⟨r,1,none⟩ u1).setCell ⟨r,2,none⟩ u2).setCell ⟨r,3,none⟩ u3).cell? ⟨r,3,none⟩=some u3:=by
 obtain ⟨⟨x,c0⟩,⟨a,n,c,c1⟩,⟨y,c2⟩,⟨b,m,k,c3⟩,_⟩:=h.cells
 refine ⟨?_,?_,?_,?_⟩
 · rw [zqb _ _ _ _ _ _ (by omega),zqb _ _ _ _ _ _ (by omega),zqb _ _ _ _ _ _ (by omega)];exact zqe c0
 · rw [zqb _ _ _ _ _ _ (by omega),zqb _ _ _ _ _ _ (by omega)]
   exact zqe (u:=.slice a n c) (by rw [zqb _ _ _ _ _ _ (by omega)];exact c1)
 · rw [zqb _ _ _ _ _ _ (by omega)]
   exact zqe (u:=.int .i64 y) (by rw [zqb _ _ _ _ _ _ (by omega),zqb _ _ _ _ _ _ (by omega)];exact c2)
 · exact zqe (u:=.slice b m k) (by rw [zqb _ _ _ _ _ _ (by omega),zqb _ _ _ _ _ _ (by omega),zqb _ _ _ _ _ _ (by omega)];exact c3)
theorem zqd {B:Nat}{a w:World}{r:Nat} (h:Below B a w) (hr:B≤r) (u0 u1 u2 u3:Value):Below B a ((((w.setCell ⟨r,0,none⟩ u0).setCell ⟨r,1,none⟩ u1).setCell ⟨r,2,none⟩ u2).setCell ⟨r,3,none⟩ u3):=(((h.setCell (p:=⟨r,0,none⟩) hr u0).setCell (p:=⟨r,1,none⟩) hr u1).setCell (p:=⟨r,2,none⟩) hr u2).setCell (p:=⟨r,3,none⟩) hr u3
theorem Rr.rstored {N:Nat}{w:World}{v:Value}{p d:Int}{r:Nat} (h:Rr N w v p d) (hb:RBox w r) (u0 u1 u2 u3:Value):Rr N ((((w.setCell ⟨r,0,none⟩ u0).setCell ⟨r,1,none⟩ u1).setCell ⟨r,2,none⟩ u2).setCell ⟨r,3,none⟩ u3) v p d:=by
 obtain ⟨x,a,n,c,y,b,m,k,e,h1,h2,h3,h4⟩:=h
 exact ⟨x,a,n,c,y,b,m,k,e,h1,h2.rstored hb _ _ _ _,h3.rstored hb _ _ _ _,h4⟩
set_option maxHeartbeats 1000000 in
theorem lowest_any {N:Nat}{v u:Value}{p d:Int} (w:World) (hp:Zr (N+1) w v p) (hd:Zr (N+1) w u d) (d0:0<d) (hg:Int.gcd p d=1) (hN:N≤700000) :
   Calls Tryz.prog 137 #[v,u] w fun e w'=>(∃ v,e=.returned v∧Rr (N+1) w' v p d)∧Below w.heap.size w w':=by
 obtain ⟨x,a1,n1,c1,rfl⟩:=hp.shape
 obtain ⟨y,a2,n2,c2,rfl⟩:=hd.shape
 go_enter Tryz.func137,Tryz.ntmps137
 go_wp2_with fail
 obtain ⟨W0,hW0⟩:∃ W0,W0=((w.alloc (.cells #[.int .i64 x,.slice a1 n1 c1] 37)).alloc (.cells #[.int .i64 y,.slice a2 n2 c2] 37)).alloc (.cells #[.int .i64 0,.slice none 0 0,.int .i64 0,.slice none 0 0] 39):=⟨_,rfl⟩
 have k1:=zqa w (.cells #[.int .i64 x,.slice a1 n1 c1] 37)
 have k2:=zqa (w.alloc (.cells #[.int .i64 x,.slice a1 n1 c1] 37)) (.cells #[.int .i64 y,.slice a2 n2 c2] 37)
 have k3:=zqa ((w.alloc (.cells #[.int .i64 x,.slice a1 n1 c1] 37)).alloc (.cells #[.int .i64 y,.slice a2 n2 c2] 37)) (.cells #[.int .i64 0,.slice none 0 0,.int .i64 0,.slice none 0 0] 39)
 have hB:=bk k3 (bk k2 k1)
 have hbx:RBox W0 (w.heap.size+2):=by
   rw [hW0]
   have:=zjb ((w.alloc (.cells #[.int .i64 x,.slice a1 n1 c1] 37)).alloc (.cells #[.int .i64 y,.slice a2 n2 c2] 37)) 0 none 0 0 0 none 0 0
   simpa using this
 have e1:W0.cell? ⟨w.heap.size,0,none⟩=some (.int .i64 x):=by rw [hW0];exact ck k3 (ck k2 (by rw [nc rfl];rfl))
 have e2:W0.cell? ⟨w.heap.size,1,none⟩=some (.slice a1 n1 c1):=by rw [hW0];exact ck k3 (ck k2 (by rw [nc rfl];rfl))
 have e3:W0.cell? ⟨w.heap.size+1,0,none⟩=some (.int .i64 y):=by rw [hW0];exact ck k3 (by rw [nc (by simp)];rfl)
 have e4:W0.cell? ⟨w.heap.size+1,1,none⟩=some (.slice a2 n2 c2):=by rw [hW0];exact ck k3 (by rw [nc (by simp)];rfl)
 rw [← hW0] at hB ⊢
 clear hW0 k1 k2 k3
 go_fit (isOne_any (N:=N) _ (hd.later hB) (by omega))
 rintro e W1 ⟨rfl,hb1⟩
 have hB:=bk hb1 hB
 have hbx:=hbx.later hb1
 have e1:=ck hb1 e1
 have e2:=ck hb1 e2
 have e3:=ck hb1 e3
 have e4:=ck hb1 e4
 clear hb1
 obtain ⟨⟨x0,g0⟩,⟨y0,y1,y2,g1⟩,⟨x3,g2⟩,⟨z0,z1,z2,g3⟩,gf⟩:=hbx.cells
 have hlt:=hbx.lt
 by_cases h1:d=1
 · subst h1
   go_wp2
   obtain ⟨st0,st1,st2,st3⟩:=hbx.stored (.int .i64 x) (.slice a1 n1 c1) (.int .i64 0) (.slice none 0 0)
   exact bodyPost_ret (v:=.agg #[.int .i64 x,.slice a1 n1 c1,.int .i64 0,.slice none 0 0]) (by simp [results,Tryz.results137,go_sem,st0,st1,st2,st3]) rfl ⟨⟨_,rfl,_,_,_,_,_,_,_,_,0,rfl,(hp.later hB).rstored hbx _ _ _ _,Zr.near _ (by decide) (by decide),by decide,hg,Or.inl ⟨rfl,rfl⟩⟩,zqd hB (by omega) _ _ _ _⟩
 · go_wp2
   obtain ⟨st0,st1,st2,st3⟩:=hbx.stored (.int .i64 x) (.slice a1 n1 c1) (.int .i64 y) (.slice a2 n2 c2)
   exact bodyPost_ret (v:=.agg #[.int .i64 x,.slice a1 n1 c1,.int .i64 y,.slice a2 n2 c2]) (by simp [results,Tryz.results137,go_sem,st0,st1,st2,st3]) rfl ⟨⟨_,rfl,_,_,_,_,_,_,_,_,d,rfl,(hp.later hB).rstored hbx _ _ _ _,(hd.later hB).rstored hbx _ _ _ _,d0,hg,Or.inr ⟨by omega,rfl⟩⟩,zqd hB (by omega) _ _ _ _⟩
theorem zks {p d:Int} (hd:0<d):∃ g p' d':Int,g=(Int.gcd p d:Int)∧0<g∧p=p'*g∧d=d'*g∧0<d'∧Int.gcd p' d'=1:=by
 have hg:0<Int.gcd p d:=Int.gcd_pos_of_ne_zero_right p (by omega)
 obtain ⟨a,ha⟩:=Int.gcd_dvd_left p d
 obtain ⟨b,hb⟩:=Int.gcd_dvd_right p d
 refine ⟨Int.gcd p d,a,b,rfl,by omega,by rw [Int.mul_comm];exact ha,by rw [Int.mul_comm];exact hb,?_,?_⟩
 · by_cases h:0<b
   · exact h
   · exfalso
     have:(Int.gcd p d:Int)*b≤0:=Int.mul_nonpos_of_nonneg_of_nonpos (by omega) (by omega)
     omega
 · have e:Int.gcd p d=Int.gcd ((Int.gcd p d:Int)*a) ((Int.gcd p d:Int)*b):=by rw [← ha,← hb]
   rw [Int.gcd_mul_left,Int.natAbs_natCast] at e
   exact (Nat.eq_of_mul_eq_mul_left hg (by rw [Nat.mul_one];exact e)).symm
structure ZR (w:World) (x:Int) (a1:Option Addr) (n1 c1:Nat) (y:Int) (a2:Option Addr) (n2 c2:Nat) (wr:World):Prop where
 below:Below w.heap.size w wr
 box:RBox wr (w.heap.size+2)
 bx:Box wr w.heap.size
 by':Box wr (w.heap.size+1)
 c0:wr.cell? ⟨w.heap.size,0,none⟩=some (.int .i64 x)
 c1:wr.cell? ⟨w.heap.size,1,none⟩=some (.slice a1 n1 c1)
 d0:wr.cell? ⟨w.heap.size+1,0,none⟩=some (.int .i64 y)
 d1:wr.cell? ⟨w.heap.size+1,1,none⟩=some (.slice a2 n2 c2)
theorem ZR.keep {w wr w1:World}{x y:Int}{a1 a2:Option Addr}{n1 c1 n2 c2:Nat} (h:ZR w x a1 n1 c1 y a2 n2 c2 wr) (hb:Below wr.heap.size wr w1):ZR w x a1 n1 c1 y a2 n2 c2 w1 :=
 ⟨bk hb h.below,h.box.later hb,h.bx.later hb,h.by'.later hb,ck hb h.c0,ck hb h.c1,ck hb h.d0,ck hb h.d1⟩
theorem ZR.start (w:World) (x y:Int) (a1 a2:Option Addr) (n1 c1 n2 c2:Nat):ZR w x a1 n1 c1 y a2 n2 c2 (((w.alloc (.cells #[.int .i64 x,.slice a1 n1 c1] 37)).alloc (.cells #[.int .i64 y,.slice a2 n2 c2] 37)).alloc (.cells #[.int .i64 0,.slice none 0 0,.int .i64 0,.slice none 0 0] 39)):=by
 have k1:=zqa w (.cells #[.int .i64 x,.slice a1 n1 c1] 37)
 have k2:=zqa (w.alloc (.cells #[.int .i64 x,.slice a1 n1 c1] 37)) (.cells #[.int .i64 y,.slice a2 n2 c2] 37)
 have k3:=zqa ((w.alloc (.cells #[.int .i64 x,.slice a1 n1 c1] 37)).alloc (.cells #[.int .i64 y,.slice a2 n2 c2] 37)) (.cells #[.int .i64 0,.slice none 0 0,.int .i64 0,.slice none 0 0] 39)
 have b1:Box (w.alloc (.cells #[.int .i64 x,.slice a1 n1 c1] 37)) w.heap.size:=⟨_,_,_,_,heap_alloc_new w _⟩
 have b2:Box ((w.alloc (.cells #[.int .i64 x,.slice a1 n1 c1] 37)).alloc (.cells #[.int .i64 y,.slice a2 n2 c2] 37)) (w.heap.size+1):=⟨_,_,_,_,by have:=heap_alloc_new (w.alloc (.cells #[.int .i64 x,.slice a1 n1 c1] 37)) (.cells #[.int .i64 y,.slice a2 n2 c2] 37);simpa using this⟩
 refine ⟨bk k3 (bk k2 k1),?_,(b1.later k2).later k3,b2.later k3,ck k3 (ck k2 ?_),ck k3 (ck k2 ?_),ck k3 ?_,ck k3 ?_⟩
 · have:=zjb ((w.alloc (.cells #[.int .i64 x,.slice a1 n1 c1] 37)).alloc (.cells #[.int .i64 y,.slice a2 n2 c2] 37)) 0 none 0 0 0 none 0 0
   simpa using this
 · rw [nc rfl];rfl
 · rw [nc rfl];rfl
 · rw [nc (by simp)];rfl
 · rw [nc (by simp)];rfl
theorem ZR.lt {w wr:World}{x y:Int}{a1 a2:Option Addr}{n1 c1 n2 c2:Nat} (h:ZR w x a1 n1 c1 y a2 n2 c2 wr):w.heap.size+2<wr.heap.size:=h.box.lt
theorem ZR.drew {w wr:World}{x y:Int}{a1 a2:Option Addr}{n1 c1 n2 c2:Nat} (h:ZR w x a1 n1 c1 y a2 n2 c2 wr):ZR w x a1 n1 c1 y a2 n2 c2 wr.drew:=⟨h.below.drew,h.box,h.bx,h.by',h.c0,h.c1,h.d0,h.d1⟩
theorem keepR {w w1 w2:World}{r b1 b2 b3:Nat}{v1 v2 v3 v4 v5 v6:Value} (hb:Below w1.heap.size w1 w2) (h:Below w.heap.size w w1∧RBox w1 r∧w1.cell? ⟨b1,0,none⟩=some v1∧w1.cell? ⟨b1,1,none⟩=some v2∧w1.cell? ⟨b2,0,none⟩=some v3∧w1.cell? ⟨b2,1,none⟩=some v4∧w1.cell? ⟨b3,0,none⟩=some v5∧w1.cell? ⟨b3,1,none⟩=some v6) :
   Below w.heap.size w w2∧RBox w2 r∧w2.cell? ⟨b1,0,none⟩=some v1∧w2.cell? ⟨b1,1,none⟩=some v2∧w2.cell? ⟨b2,0,none⟩=some v3∧w2.cell? ⟨b2,1,none⟩=some v4∧w2.cell? ⟨b3,0,none⟩=some v5∧w2.cell? ⟨b3,1,none⟩=some v6 :=
 ⟨bk hb h.1,h.2.1.later hb,ck hb h.2.2.1,ck hb h.2.2.2.1,ck hb h.2.2.2.2.1,ck hb h.2.2.2.2.2.1,ck hb h.2.2.2.2.2.2.1,ck hb h.2.2.2.2.2.2.2⟩
theorem RBox.stored' {w:World}{r:Nat} (h:RBox w r) (x:Int) (a:Option Addr) (n c:Nat) (y:Int) (b:Option Addr) (m k:Nat):RBox ((((w.setCell ⟨r,0,none⟩ (.int .i64 x)).setCell ⟨r,1,none⟩ (.slice a n c)).setCell ⟨r,2,none⟩ (.int .i64 y)).setCell ⟨r,3,none⟩ (.slice b m k)) r:=by
 obtain ⟨x0,a0,n0,c0,y0,b0,m0,k0,h⟩:=h
 simp only [RBox,World.setCell,Array.getElem?_modify]
 simp [h]
theorem storeR {w w1:World}{r b1 b2 b3:Nat}{v1 v2 v3 v4 v5 v6:Value}{x y:Int}{a b:Option Addr}{n c m k:Nat} (h:Below w.heap.size w w1∧RBox w1 r∧w1.cell? ⟨b1,0,none⟩=some v1∧w1.cell? ⟨b1,1,none⟩=some v2∧w1.cell? ⟨b2,0,none⟩=some v3∧w1.cell? ⟨b2,1,none⟩=some v4∧w1.cell? ⟨b3,0,none⟩=some v5∧w1.cell? ⟨b3,1,none⟩=some v6) (hr:w.heap.size≤r) (h1:b1≠r) (h2:b2≠r) (h3:b3≠r) :
   let w2:=(((w1.setCell ⟨r,0,none⟩ (.int .i64 x)).setCell ⟨r,1,none⟩ (.slice a n c)).setCell ⟨r,2,none⟩ (.int .i64 y)).setCell ⟨r,3,none⟩ (.slice b m k)
   Below w.heap.size w w2∧RBox w2 r∧w2.cell? ⟨b1,0,none⟩=some v1∧w2.cell? ⟨b1,1,none⟩=some v2∧w2.cell? ⟨b2,0,none⟩=some v3∧w2.cell? ⟨b2,1,none⟩=some v4∧w2.cell? ⟨b3,0,none⟩=some v5∧w2.cell? ⟨b3,1,none⟩=some v6:=by
 intro w2
 obtain ⟨k1,k2,k3,k4,k5,k6,k7,k8⟩:=h
 have hc:∀ b o v,b≠r→w1.cell? ⟨b,o,none⟩=some v→w2.cell? ⟨b,o,none⟩=some v:=fun b o v hb hv=>by
   show (World.setCell _ _ _).cell? _=_
   rw [zqb _ _ _ _ _ _ (by omega),zqb _ _ _ _ _ _ (by omega),zqb _ _ _ _ _ _ (by omega),zqb _ _ _ _ _ _ (by omega)]
   exact hv
 exact ⟨zqd k1 hr _ _ _ _,k2.stored' _ _ _ _ _ _ _ _,hc _ _ _ h1 k3,hc _ _ _ h1 k4,hc _ _ _ h2 k5,hc _ _ _ h2 k6,hc _ _ _ h3 k7,hc _ _ _ h3 k8⟩
theorem ZR.store2 {w W:World}{x y:Int}{a1 a2:Option Addr}{n1 c1 n2 c2:Nat} (h:ZR w x a1 n1 c1 y a2 n2 c2 W) (x':Int) (a1':Option Addr) (n1' c1':Nat) (y':Int) (a2':Option Addr) (n2' c2':Nat) :
   ZR w x' a1' n1' c1' y' a2' n2' c2' ((((W.setCell ⟨w.heap.size,0,none⟩ (.int .i64 x')).setCell ⟨w.heap.size,1,none⟩ (.slice a1' n1' c1')).setCell ⟨w.heap.size+1,0,none⟩ (.int .i64 y')).setCell ⟨w.heap.size+1,1,none⟩ (.slice a2' n2' c2')):=by
 have hb1:=h.bx.stored' x' a1' n1' c1'
 have hb2:Box ((W.setCell ⟨w.heap.size,0,none⟩ (.int .i64 x')).setCell ⟨w.heap.size,1,none⟩ (.slice a1' n1' c1')) (w.heap.size+1):=(h.by'.other (by omega) _).other (by omega) _
 obtain ⟨s0,s1⟩:=h.bx.stored (.int .i64 x') (.slice a1' n1' c1')
 obtain ⟨s2,s3⟩:=hb2.stored (.int .i64 y') (.slice a2' n2' c2')
 refine ⟨zqc (zqc h.below (Nat.le_refl _) _ _) (by omega) _ _,?_,(hb1.other (by omega) _).other (by omega) _,hb2.stored' _ _ _ _,?_,?_,s2,s3⟩
 · obtain ⟨x0,a0,n0,c0,y0,b0,m0,k0,hr⟩:=h.box
   exact ⟨x0,a0,n0,c0,y0,b0,m0,k0,by rw [Below.heap_setCell _ _ _ _ (by show w.heap.size+2≠w.heap.size+1;omega),Below.heap_setCell _ _ _ _ (by show w.heap.size+2≠w.heap.size+1;omega),Below.heap_setCell _ _ _ _ (by show w.heap.size+2≠w.heap.size;omega),Below.heap_setCell _ _ _ _ (by show w.heap.size+2≠w.heap.size;omega)];exact hr⟩
 · rw [zqb _ _ _ _ _ _ (by omega),zqb _ _ _ _ _ _ (by omega)];exact s0
 · rw [zqb _ _ _ _ _ _ (by omega),zqb _ _ _ _ _ _ (by omega)];exact s1
theorem ZR.zr2 {w W:World}{x y:Int}{a1 a2:Option Addr}{n1 c1 n2 c2:Nat} (h:ZR w x a1 n1 c1 y a2 n2 c2 W) {N:Nat}{v:Value}{z:Int} (hz:Zr N W v z) (x':Int) (a1':Option Addr) (n1' c1':Nat) (y':Int) (a2':Option Addr) (n2' c2':Nat):Zr N ((((W.setCell ⟨w.heap.size,0,none⟩ (.int .i64 x')).setCell ⟨w.heap.size,1,none⟩ (.slice a1' n1' c1')).setCell ⟨w.heap.size+1,0,none⟩ (.int .i64 y')).setCell ⟨w.heap.size+1,1,none⟩ (.slice a2' n2' c2')) v z :=
 (hz.stored h.bx _ _).stored ((h.by'.other (by omega) _).other (by omega) _) _ _
def OfP (N:Nat) (z o:Int) (e:Ending) (w':World):Prop :=
 (o=0∧e=.returned (.tuple #[.agg #[.int .i64 0,.slice none 0 0,.int .i64 0,.slice none 0 0],.bool false]))∨(o≠0∧∃ v p d,e=.returned (.tuple #[v,.bool true])∧Rr N w' v p d∧p*o=z*d)
set_option maxHeartbeats 4000000 in
set_option maxRecDepth 8000 in
theorem of_core {N:Nat} (x y:Int) (a1 a2:Option Addr) (n1 c1 n2 c2:Nat) (z o:Int) (w:World) (hz:Zr (N+1) w (.agg #[.int .i64 x,.slice a1 n1 c1]) z) (ho:Zr (N+1) w (.agg #[.int .i64 y,.slice a2 n2 c2]) o) (hN:N≤100000) (hT:Tab64 w) :
   Calls Tryz.prog 117 #[.agg #[.int .i64 x,.slice a1 n1 c1],.agg #[.int .i64 y,.slice a2 n2 c2]] w fun e w'=>OfP (2*(N+1)+6) z o e w'∧Below w.heap.size w w':=by
 have hst:=ZR.start w x y a1 a2 n1 c1 n2 c2
 go_enter Tryz.func117,Tryz.ntmps117
 go_wp2_with fail
 obtain ⟨W0,hW0⟩:∃ W0,W0=((w.alloc (.cells #[.int .i64 x,.slice a1 n1 c1] 37)).alloc (.cells #[.int .i64 y,.slice a2 n2 c2] 37)).alloc (.cells #[.int .i64 0,.slice none 0 0,.int .i64 0,.slice none 0 0] 39):=⟨_,rfl⟩
 rw [← hW0] at hst ⊢
 clear hW0
 go_fit (sign_zr _ (ho.later hst.below))
 rintro e W1 ⟨rfl,hb1⟩
 have hst:=hst.keep hb1
 clear hb1
 by_cases ho0:o=0
 · subst ho0
   rw [zxa rfl]
   obtain ⟨⟨x0,g0⟩,⟨y0,y1,y2,g1⟩,⟨x3,g2⟩,⟨z0,z1,z2,g3⟩,gf⟩:=hst.box.cells
   have hlt:=hst.lt
   go_wp2
   obtain ⟨st0,st1,st2,st3⟩:=hst.box.stored (.int .i64 0) (.slice none 0 0) (.int .i64 0) (.slice none 0 0)
   exact bodyPost_ret (v:=.tuple #[.agg #[.int .i64 0,.slice none 0 0,.int .i64 0,.slice none 0 0],.bool false]) (by simp [results,Tryz.results117,go_sem,st0,st1,st2,st3]) rfl ⟨Or.inl ⟨rfl,rfl⟩,zqd hst.below (by omega) _ _ _ _⟩
 · have hs0:(sgn o == 0)=false:=by rw [sgn_eq_zero];simpa using ho0
   have e3:=hst.d0
   have e4:=hst.d1
   go_wp2_with fail
   go_fit (sign_zr _ (ho.later hst.below))
   rintro e W2 ⟨rfl,hb2⟩
   have hst:=hst.keep hb2
   clear hb2 e3 e4 hs0
   by_cases hop:0<o
   · rw [zqi hop]
     have hZ7:=hz.later hst.below
     have hZ8:=ho.later hst.below
     obtain ⟨g,p',d',hg,g0,ep,ed,d0,hgc⟩:=zks (p:=z) (d:=o) (by omega)
     have HE:=qh (And.intro ep ed)
     have HGC:=qh hgc
     have HG:=qh hg
     clear hg ep ed hgc
     have e1:=hst.c0
     have e2:=hst.c1
     have e3:=hst.d0
     have e4:=hst.d1
     go_wp2_with fail
     go_fit (gcd_any (N:=N) _ hZ7 hZ8 (by omega) (hT.later hst.below))
     rintro e W5 ⟨⟨v5,rfl,hZ5⟩,hb5⟩
     obtain ⟨u5,a5,n5,c5,rfl⟩:=hZ5.shape
     rw [← show g=(Int.gcd z o:Int) from uh HG] at hZ5
     have k5:=zqa W5 (.cells #[.int .i64 u5,.slice a5 n5 c5] 37)
     have hV:=Vr.new hZ5
     have hst:=hst.keep hb5
     have hlt5:=hst.lt
     have hZx:=hZ7.later hb5
     have hZy:=hZ8.later hb5
     have hst:=hst.keep k5
     have hZx:=hZx.later k5
     have hZy:=hZy.later k5
     clear hb5 e1 e2 e3 e4 hZ5 HG
     go_wp2_with fail
     obtain ⟨W6,hW6⟩:∃ W6,W6=W5.alloc (.cells #[.int .i64 u5,.slice a5 n5 c5] 37):=⟨_,rfl⟩
     rw [← hW6] at hst hV hZx hZy ⊢
     clear hW6 k5
     have hB6:=hst.below
     have hr6:=hst.box
     have e1:=hst.c0
     have e2:=hst.c1
     have e3:=hst.d0
     have e4:=hst.d1
     have e5:=hV.c0
     have e6:=hV.c1
     have tok1:True:=trivial
     go_region_held3 (fun w'=>Below w.heap.size w w'∧RBox w' (w.heap.size+2)∧w'.cell? ⟨w.heap.size,0,none⟩=some (.int .i64 x)∧w'.cell? ⟨w.heap.size,1,none⟩=some (.slice a1 n1 c1)∧w'.cell? ⟨w.heap.size+1,0,none⟩=some (.int .i64 y)∧w'.cell? ⟨w.heap.size+1,1,none⟩=some (.slice a2 n2 c2)∧w'.cell? ⟨W5.heap.size,0,none⟩=some (.int .i64 u5)∧w'.cell? ⟨W5.heap.size,1,none⟩=some (.slice a5 n5 c5))
       (first | exact ⟨hB6.drew,hr6,e1,e2,e3,e4,e5,e6⟩ | exact keepR (by assumption) (by assumption) | exact storeR (by assumption) (by omega) (by omega) (by omega) (by omega))
       (first | (go_at_call 136;have _t:=tok1;go_fit (zka (N:=2*N+2) (q:=p') _ ((hZx.mono (by omega)).later (Below.refl _ _).drew) ((hV.zr.mono (by omega)).later (Below.refl _ _).drew) g0 (uh HE).1 (by omega));rintro e q1 ⟨⟨v1,rfl,hp1⟩,hb_1⟩;clear tok1;obtain ⟨u6,a6,n6,c6,rfl⟩:=hp1.shape) | (go_at_call 136;go_fit (zka (N:=2*N+2) (q:=d') _ (((hZy.mono (by omega)).later (Below.refl _ _).drew).later hb_1) (((hV.zr.mono (by omega)).later (Below.refl _ _).drew).later hb_1) g0 (uh HE).2 (by omega));rintro e q2 ⟨⟨v2,rfl,hp2⟩,hb_2⟩;obtain ⟨u7,a7,n7,c7,rfl⟩:=hp2.shape) | (go_at_call 137;go_fit (lowest_any (N:=2*N+4) _ (hp1.later hb_2) hp2 d0 (uh HGC) (by omega));rintro e q3 ⟨⟨v3,rfl,hp3⟩,hb_3⟩;obtain ⟨u8,a8,n8,c8,u9,a9,n9,c9,rfl⟩:=hp3.shape;have hbx3:=(((hr6.later (w:=W6.drew) hb_1).later hb_2).later hb_3);obtain ⟨⟨x0,g0'⟩,⟨y0,y1,y2,g1⟩,⟨x3,g2⟩,⟨z0,z1,z2,g3⟩,gf⟩:=hbx3.cells;have hlt9:=hbx3.lt))
     have hbx3:=(((hr6.later (w:=W6.drew) hb_1).later hb_2).later hb_3)
     have hB9:=bk hb_3 (bk hb_2 (bk hb_1 hB6.drew))
     clear hst
     go_wp2
     obtain ⟨st0,st1,st2,st3⟩:=hbx3.stored (.int .i64 u8) (.slice a8 n8 c8) (.int .i64 u9) (.slice a9 n9 c9)
     refine bodyPost_ret (v:=.tuple #[.agg #[.int .i64 u8,.slice a8 n8 c8,.int .i64 u9,.slice a9 n9 c9],.bool true]) (by simp [results,Tryz.results117,go_sem,st0,st1,st2,st3]) rfl ⟨Or.inr ⟨ho0,_,p',d',rfl,(hp3.rstored hbx3 _ _ _ _).mono (by omega),?_⟩,zqd hB9 (by omega) _ _ _ _⟩
     obtain ⟨h1,h2⟩:=uh HE
     rw [h2]
     conv=>rhs;rw [h1]
     rw [Int.mul_assoc,Int.mul_comm d' g]
   · have hon:o<0:=by omega
     rw [zqk hon]
     have e1:=hst.c0
     have e2:=hst.c1
     have e3:=hst.d0
     have e4:=hst.d1
     go_wp2_with fail
     have hz2:=hz.later hst.below
     have ho2:=ho.later hst.below
     have hz2d:Zr (N+1) W2.drew _ z:=hz2.later (Below.refl _ _).drew
     have ho2d:Zr (N+1) W2.drew _ o:=ho2.later (Below.refl _ _).drew
     have hstd:=hst.drew
     go_region_with (first | (go_at_call 134;go_fit (neg_any (N:=N) (z:=z) _ hz2d);rintro e W3 ⟨⟨v3,rfl,hN3⟩,hb3⟩;obtain ⟨x7,a7,n7,c7,rfl⟩:=hN3.shape;have hst3:=hstd.keep hb3;have ho3:=ho2d.later hb3;have f3:=hst3.d0;have f4:=hst3.d1) | (go_at_call 134;go_fit (neg_any (N:=N) (z:=o) _ ho3);rintro e W4 ⟨⟨v4,rfl,hN4⟩,hb4⟩;obtain ⟨x8,a8,n8,c8,rfl⟩:=hN4.shape;have hst4:=hst3.keep hb4;obtain ⟨⟨qa0,q0⟩,⟨qa1,qa2,qa3,q1⟩,qf⟩:=hst4.bx.cells;obtain ⟨⟨qb0,q2⟩,⟨qb1,qb2,qb3,q3⟩,qg⟩:=hst4.by'.cells;have lt4:=hst4.lt) | (go_at_call 134;go_fit (neg_any (N:=N) (z:=o) _ ho2d);rintro e W3 ⟨⟨v3,rfl,hN3⟩,hb3⟩;obtain ⟨x8,a8,n8,c8,rfl⟩:=hN3.shape;have hst3:=hstd.keep hb3;have hz3:=hz2d.later hb3;have f3:=hst3.c0;have f4:=hst3.c1) | (go_at_call 134;go_fit (neg_any (N:=N) (z:=z) _ hz3);rintro e W4 ⟨⟨v4,rfl,hN4⟩,hb4⟩;obtain ⟨x7,a7,n7,c7,rfl⟩:=hN4.shape;have hst4:=hst3.keep hb4;obtain ⟨⟨qa0,q0⟩,⟨qa1,qa2,qa3,q1⟩,qf⟩:=hst4.bx.cells;obtain ⟨⟨qb0,q2⟩,⟨qb1,qb2,qb3,q3⟩,qg⟩:=hst4.by'.cells;have lt4:=hst4.lt))
     all_goals
       have hA:Zr (N+1) W4 (.agg #[.int .i64 x7,.slice a7 n7 c7]) (-z):=by first | exact hN3.later hb4 | exact hN4
       have hD:Zr (N+1) W4 (.agg #[.int .i64 x8,.slice a8 n8 c8]) (-o):=by first | exact hN4 | exact hN3.later hb4
       have hZ7:=hst4.zr2 hA x7 a7 n7 c7 x8 a8 n8 c8
       have hZ8:=hst4.zr2 hD x7 a7 n7 c7 x8 a8 n8 c8
       have hst:=hst4.store2 x7 a7 n7 c7 x8 a8 n8 c8
       obtain ⟨Wn,hWn⟩:∃ Wn,Wn=(((W4.setCell ⟨w.heap.size,0,none⟩ (.int .i64 x7)).setCell ⟨w.heap.size,1,none⟩ (.slice a7 n7 c7)).setCell ⟨w.heap.size+1,0,none⟩ (.int .i64 x8)).setCell ⟨w.heap.size+1,1,none⟩ (.slice a8 n8 c8):=⟨_,rfl⟩
       rw [← hWn] at hZ7 hZ8 hst ⊢
       clear hWn hst4 hst3 hstd hN3 hN4 hb3 hb4 hA hD f3 f4 q0 q1 q2 q3 qf qg lt4 e1 e2 e3 e4 hz2 ho2 hz2d ho2d
       obtain ⟨g,p',d',hg,g0,ep,ed,d0,hgc⟩:=zks (p:=(-z)) (d:=(-o)) (by omega)
       have HE:=qh (And.intro ep ed)
       have HGC:=qh hgc
       have HG:=qh hg
       clear hg ep ed hgc
       have e1:=hst.c0
       have e2:=hst.c1
       have e3:=hst.d0
       have e4:=hst.d1
       go_wp2_with fail
       go_fit (gcd_any (N:=N) _ hZ7 hZ8 (by omega) (hT.later hst.below))
       rintro e W5 ⟨⟨v5,rfl,hZ5⟩,hb5⟩
       obtain ⟨u5,a5,n5,c5,rfl⟩:=hZ5.shape
       rw [← show g=(Int.gcd (-z) (-o):Int) from uh HG] at hZ5
       have k5:=zqa W5 (.cells #[.int .i64 u5,.slice a5 n5 c5] 37)
       have hV:=Vr.new hZ5
       have hst:=hst.keep hb5
       have hlt5:=hst.lt
       have hZx:=hZ7.later hb5
       have hZy:=hZ8.later hb5
       have hst:=hst.keep k5
       have hZx:=hZx.later k5
       have hZy:=hZy.later k5
       clear hb5 e1 e2 e3 e4 hZ5 HG
       go_wp2_with fail
       obtain ⟨W6,hW6⟩:∃ W6,W6=W5.alloc (.cells #[.int .i64 u5,.slice a5 n5 c5] 37):=⟨_,rfl⟩
       rw [← hW6] at hst hV hZx hZy ⊢
       clear hW6 k5
       have hB6:=hst.below
       have hr6:=hst.box
       have e1:=hst.c0
       have e2:=hst.c1
       have e3:=hst.d0
       have e4:=hst.d1
       have e5:=hV.c0
       have e6:=hV.c1
       have tok1:True:=trivial
       go_region_held3 (fun w'=>Below w.heap.size w w'∧RBox w' (w.heap.size+2)∧w'.cell? ⟨w.heap.size,0,none⟩=some (.int .i64 x7)∧w'.cell? ⟨w.heap.size,1,none⟩=some (.slice a7 n7 c7)∧w'.cell? ⟨w.heap.size+1,0,none⟩=some (.int .i64 x8)∧w'.cell? ⟨w.heap.size+1,1,none⟩=some (.slice a8 n8 c8)∧w'.cell? ⟨W5.heap.size,0,none⟩=some (.int .i64 u5)∧w'.cell? ⟨W5.heap.size,1,none⟩=some (.slice a5 n5 c5))
         (first | exact ⟨hB6.drew,hr6,e1,e2,e3,e4,e5,e6⟩ | exact keepR (by assumption) (by assumption) | exact storeR (by assumption) (by omega) (by omega) (by omega) (by omega))
         (first | (go_at_call 136;have _t:=tok1;go_fit (zka (N:=2*N+2) (q:=p') _ ((hZx.mono (by omega)).later (Below.refl _ _).drew) ((hV.zr.mono (by omega)).later (Below.refl _ _).drew) g0 (uh HE).1 (by omega));rintro e q1 ⟨⟨v1,rfl,hp1⟩,hb_1⟩;clear tok1;obtain ⟨u6,a6,n6,c6,rfl⟩:=hp1.shape) | (go_at_call 136;go_fit (zka (N:=2*N+2) (q:=d') _ (((hZy.mono (by omega)).later (Below.refl _ _).drew).later hb_1) (((hV.zr.mono (by omega)).later (Below.refl _ _).drew).later hb_1) g0 (uh HE).2 (by omega));rintro e q2 ⟨⟨v2,rfl,hp2⟩,hb_2⟩;obtain ⟨j7,j8,j9,j10,rfl⟩:=hp2.shape) | (go_at_call 137;go_fit (lowest_any (N:=2*N+4) _ (hp1.later hb_2) hp2 d0 (uh HGC) (by omega));rintro e q3 ⟨⟨v3,rfl,hp3⟩,hb_3⟩;obtain ⟨f1,f2,f3,f4,f5,f6,f7,f8,rfl⟩:=hp3.shape;have hbx3:=(((hr6.later (w:=W6.drew) hb_1).later hb_2).later hb_3);obtain ⟨⟨x0,g0'⟩,⟨y0,y1,y2,g1⟩,⟨x3,g2⟩,⟨z0,z1,z2,g3⟩,gf⟩:=hbx3.cells;have hlt9:=hbx3.lt))
       have hbx3:=(((hr6.later (w:=W6.drew) hb_1).later hb_2).later hb_3)
       have hB9:=bk hb_3 (bk hb_2 (bk hb_1 hB6.drew))
       clear hst
       go_wp2
       obtain ⟨st0,st1,st2,st3⟩:=hbx3.stored (.int .i64 f1) (.slice f2 f3 f4) (.int .i64 f5) (.slice f6 f7 f8)
       refine bodyPost_ret (v:=.tuple #[.agg #[.int .i64 f1,.slice f2 f3 f4,.int .i64 f5,.slice f6 f7 f8],.bool true]) (by simp [results,Tryz.results117,go_sem,st0,st1,st2,st3]) rfl ⟨Or.inr ⟨ho0,_,p',d',rfl,(hp3.rstored hbx3 _ _ _ _).mono (by omega),?_⟩,zqd hB9 (by omega) _ _ _ _⟩
       obtain ⟨h1,h2⟩:=uh HE
       rw [show o = -(d'*g) by omega,show z = -(p'*g) by omega,Int.mul_neg,Int.neg_mul,Int.mul_assoc,Int.mul_comm d' g]
theorem rof_ratio {N:Nat}{v u:Value}{z o:Int} (w:World) (hz:Zr (N+1) w v z) (ho:Zr (N+1) w u o) (hN:N≤100000) (hT:Tab64 w) :
   Calls Tryz.prog 117 #[v,u] w fun e w'=>OfP (2*(N+1)+6) z o e w'∧Below w.heap.size w w':=by
 obtain ⟨x,a1,n1,c1,rfl⟩:=hz.shape
 obtain ⟨y,a2,n2,c2,rfl⟩:=ho.shape
 exact of_core x y a1 a2 n1 c1 n2 c2 z o w hz ho hN hT
end Go.Proofs.YtkdobjmhammhbaaGreatDoor
