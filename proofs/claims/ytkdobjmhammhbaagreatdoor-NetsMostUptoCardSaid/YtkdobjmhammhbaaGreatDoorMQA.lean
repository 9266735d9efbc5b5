import Derived.Test.YtkdobjmhammhbaaGreatDoorMW22p
import Derived.Test.YtkdobjmhammhbaaGreatDoorMW22n
import Derived.Test.YtkdobjmhammhbaaGreatDoorMGC
import Derived.Test.YtkdobjmhammhbaaGreatDoorMWJ
import Derived.Test.YtkdobjmhammhbaaGreatDoorMR21
namespace Go.Proofs.YtkdobjmhammhbaaGreatDoor
set_option maxHeartbeats 4000000
set_option maxRecDepth 8000
open Go.RowKit
theorem divMod_any {N:Nat}{v u:Value}{z o:Int} (w:World) (hz:Zr (N+1) w v z) (ho:Zr (N+1) w u o) (hlim:N<=700000) :
 Calls Tryz.prog 162 #[v,u] w fun e w'=>((o=0/\e=.returned (.tuple #[.agg #[.int .i64 0,.slice none 0 0],.agg #[.int .i64 0,.slice none 0 0],.bool false]))\/(o≠0/\∃ vq vr q r,e=.returned (.tuple #[vq,vr,.bool true])/\Zr (N+3) w' vq q/\Zr (N+3) w' vr r/\q*o+r=z/\0<=r/\r<iabs o))/\Below w.heap.size w w':=by
 obtain ⟨x,a1,n1,c1,rfl⟩:=hz.shape
 obtain ⟨y,a2,n2,c2,hu,hsg,_⟩:=ho.sgn
 subst hu
 rcases Int.lt_trichotomy o 0 with h | h | h
 ·exact (divMod_neg x y a1 a2 n1 c1 n2 c2 z o w hz ho h hlim).mono fun e w' ⟨h1,h2⟩=>⟨Or.inr ⟨by omega,h1⟩,h2⟩
 ·exact (divMod_zero x y a1 a2 n1 c1 n2 c2 w (by rw [hsg,h];rfl)).mono fun e w' ⟨h1,h2⟩=>⟨Or.inl ⟨h,h1⟩,h2⟩
 ·exact (divMod_pos x y a1 a2 n1 c1 n2 c2 z o w hz ho h hlim).mono fun e w' ⟨h1,h2⟩=>⟨Or.inr ⟨by omega,h1⟩,h2⟩
def B1 (w:World) (x:Int) (a:Option Addr) (n c:Nat) (w':World):Prop:=Below w.heap.size w w'/\w'.cell? ⟨w.heap.size,0,none⟩=some (.int .i64 x)/\w'.cell? ⟨w.heap.size,1,none⟩=some (.slice a n c)
theorem B1.keep {w w1 w2:World}{x:Int}{a:Option Addr}{n c:Nat} (hb:Below w1.heap.size w1 w2) (h:Below w.heap.size w w1/\w1.cell? ⟨w.heap.size,0,none⟩=some (.int .i64 x)/\w1.cell? ⟨w.heap.size,1,none⟩=some (.slice a n c)):Below w.heap.size w w2/\w2.cell? ⟨w.heap.size,0,none⟩=some (.int .i64 x)/\w2.cell? ⟨w.heap.size,1,none⟩=some (.slice a n c) :=
 ⟨bk hb h.1,ck hb h.2.1,ck hb h.2.2⟩
theorem sgn_eq_zero {z:Int}:(sgn z == 0)=decide (z=0):=by
 rcases zqo z with ⟨a,b,c⟩ | ⟨a,b,c⟩ | ⟨a,b,c⟩ <;> rw [b] <;> simp <;> omega
theorem isOne_any {N:Nat}{v:Value}{z:Int} (w:World) (hz:Zr (N+1) w v z) (hN:N<=800000) :
 Calls Tryz.prog 187 #[v] w fun e w'=>e=.returned (.bool (decide (z=1)))/\Below w.heap.size w w':=by
 obtain ⟨x,a,n,c,rfl⟩:=hz.shape
 have k1:=zqa w (.cells #[.int .i64 x,.slice a n c] 37)
 have HZ:=qh hz
 clear hz
 go_enter Tryz.func187,Tryz.ntmps187
 go_wp2_with fail
 obtain ⟨W1,hW1⟩:∃ W1,W1=w.alloc (.cells #[.int .i64 x,.slice a n c] 37):=⟨_,rfl⟩
 have hc0:W1.cell? ⟨w.heap.size,0,none⟩=some (.int .i64 x):=by rw [hW1,zqe rfl];rfl
 have hc1:W1.cell? ⟨w.heap.size,1,none⟩=some (.slice a n c):=by rw [hW1,zqe rfl];rfl
 rw [<- hW1] at k1 ⊢
 clear hW1
 go_region_held3 (fun w'=>Below w.heap.size w w'/\w'.cell? ⟨w.heap.size,0,none⟩=some (.int .i64 x)/\w'.cell? ⟨w.heap.size,1,none⟩=some (.slice a n c))
  (first | exact ⟨k1.drew,hc0,hc1⟩ | exact B1.keep (by assumption) (by assumption))
  (first | (go_at_call 102;go_fit (of_any 1 _);rintro e w2 ⟨rfl,hb2⟩) | (go_at_call 79;go_fit (cmp_any (N:=N) (z:=z) (o:=1) _ ((uh HZ).later (And.left (by assumption))) (Zr.near _ (by decide) (by decide)) hN);rintro e w3 ⟨rfl,hb3⟩))
 go_wp2
 go_ret
 refine ⟨ret_bool ?_,bk hb3 (bk hb2 k1.drew)⟩
 rw [sgn_eq_zero]
 congr 1
 exact propext ⟨fun h=>by omega,fun h=>by omega⟩
structure Z2 (w:World) (x:Int) (a1:Option Addr) (n1 c1:Nat) (y:Int) (a2:Option Addr) (n2 c2:Nat) (wr:World):Prop where
 below:Below w.heap.size w wr
 box:Box wr (w.heap.size+2)
 c0:wr.cell? ⟨w.heap.size,0,none⟩=some (.int .i64 x)
 c1:wr.cell? ⟨w.heap.size,1,none⟩=some (.slice a1 n1 c1)
 d0:wr.cell? ⟨w.heap.size+1,0,none⟩=some (.int .i64 y)
 d1:wr.cell? ⟨w.heap.size+1,1,none⟩=some (.slice a2 n2 c2)
theorem Z2.keep {w wr w1:World}{x y:Int}{a1 a2:Option Addr}{n1 c1 n2 c2:Nat} (h:Z2 w x a1 n1 c1 y a2 n2 c2 wr) (hb:Below wr.heap.size wr w1):Z2 w x a1 n1 c1 y a2 n2 c2 w1 :=
 ⟨bk hb h.below,h.box.later hb,ck hb h.c0,ck hb h.c1,ck hb h.d0,ck hb h.d1⟩
theorem Z2.start (w:World) (x y:Int) (a1 a2:Option Addr) (n1 c1 n2 c2:Nat):Z2 w x a1 n1 c1 y a2 n2 c2 (((w.alloc (.cells #[.int .i64 x,.slice a1 n1 c1] 37)).alloc (.cells #[.int .i64 y,.slice a2 n2 c2] 37)).alloc (.cells #[.int .i64 0,.slice none 0 0] 37)):=by
 have k1:=zqa w (.cells #[.int .i64 x,.slice a1 n1 c1] 37)
 have k2:=zqa (w.alloc (.cells #[.int .i64 x,.slice a1 n1 c1] 37)) (.cells #[.int .i64 y,.slice a2 n2 c2] 37)
 have k3:=zqa ((w.alloc (.cells #[.int .i64 x,.slice a1 n1 c1] 37)).alloc (.cells #[.int .i64 y,.slice a2 n2 c2] 37)) (.cells #[.int .i64 0,.slice none 0 0] 37)
 refine ⟨bk k3 (bk k2 k1),?_,ck k3 (ck k2 ?_),ck k3 (ck k2 ?_),ck k3 ?_,ck k3 ?_⟩
 ·have:=zqy ((w.alloc (.cells #[.int .i64 x,.slice a1 n1 c1] 37)).alloc (.cells #[.int .i64 y,.slice a2 n2 c2] 37))
  simpa using this
 ·rw [zqe rfl];rfl
 ·rw [zqe rfl];rfl
 ·rw [zqe (by simp)];rfl
 ·rw [zqe (by simp)];rfl
theorem Z2.lt {w wr:World}{x y:Int}{a1 a2:Option Addr}{n1 c1 n2 c2:Nat} (h:Z2 w x a1 n1 c1 y a2 n2 c2 wr):w.heap.size+2<wr.heap.size:=by
 obtain ⟨x,a,n,c,h⟩:=h.box
 exact (Array.getElem?_eq_some_iff.1 h).1
theorem part_any {N:Nat}{v u:Value}{z d q:Int} (w:World) (hz:Zr (N+1) w v z) (hd:Zr (N+1) w u d) (d0:0<d) (he:z=q*d) (hN:N<=700000) :
 Calls Tryz.prog 136 #[v,u] w fun e w'=>(∃ v,e=.returned v/\Zr (N+3) w' v q)/\Below w.heap.size w w':=by
 obtain ⟨x,a1,n1,c1,rfl⟩:=hz.shape
 obtain ⟨y,a2,n2,c2,rfl⟩:=hd.shape
 have hst:=Z2.start w x y a1 a2 n1 c1 n2 c2
 have HE:=qh he
 clear he
 go_enter Tryz.func136,Tryz.ntmps136
 go_wp2_with fail
 obtain ⟨W0,hW0⟩:∃ W0,W0=((w.alloc (.cells #[.int .i64 x,.slice a1 n1 c1] 37)).alloc (.cells #[.int .i64 y,.slice a2 n2 c2] 37)).alloc (.cells #[.int .i64 0,.slice none 0 0] 37):=⟨_,rfl⟩
 rw [<- hW0] at hst ⊢
 clear hW0
 go_fit (isOne_any (N:=N) _ (hd.later hst.below) (by omega))
 rintro e W1 ⟨rfl,hb1⟩
 have hst:=hst.keep hb1
 clear hb1
 have e1:=hst.c0
 have e2:=hst.c1
 have e3:=hst.d0
 have e4:=hst.d1
 by_cases h1:d=1
 ·subst h1
  obtain ⟨⟨x0,g0⟩,⟨a0,n0,c0,g1⟩,gf⟩:=hst.box.cells
  have hlt:=hst.lt
  go_wp2
  obtain ⟨st0,st1⟩:=hst.box.stored (.int .i64 x) (.slice a1 n1 c1)
  exact bodyPost_ret (v:=.agg #[.int .i64 x,.slice a1 n1 c1]) (by simp [results,Tryz.results136,go_sem,st0,st1]) rfl ⟨⟨_,rfl,(((hz.later hst.below).stored hst.box _ _).mono (by omega)).eq (by have:=uh HE;omega)⟩,zqc hst.below (by omega) _ _⟩
 ·go_wp2_with fail
  go_fit (divMod_any (N:=N) _ (hz.later hst.below) (hd.later hst.below) hN)
  rintro e W2 ⟨hd2,hb2⟩
  have hst:=hst.keep hb2
  clear hb2 e1 e2 e3 e4
  rcases hd2 with ⟨h,_⟩ | ⟨_,vq,vr,q',r',rfl,hq,hr,e5,r0,r1⟩
  ·omega
  ·have hqq:q'=q:=by
    have hh:=uh HE
    have e:(q' - q)*d = -r':=by rw [Int.sub_mul];omega
    have hab:iabs d=d:=by unfold iabs;rw [if_neg (by omega)]
    rw [hab] at r1
    by_cases g:q'=q
    ·exact g
    ·exfalso
     rcases Int.lt_or_gt_of_ne g with g | g
     ·have:(q' - q)*d<=(-1)*d:=Int.mul_le_mul_of_nonneg_right (by omega) (by omega)
      omega
     ·have:1*d<=(q' - q)*d:=Int.mul_le_mul_of_nonneg_right (by omega) (by omega)
      omega
   subst hqq
   obtain ⟨u3,a3,n3,c3,rfl⟩:=hq.shape
   obtain ⟨u4,a4,n4,c4,rfl⟩:=hr.shape
   have k:=zqm W2 (.cells #[.int .i64 u3,.slice a3 n3 c3] 37) (.cells #[.int .i64 u4,.slice a4 n4 c4] 37)
   have hst:=hst.keep k
   have hq:=hq.later k
   have f0:=ck (zqa _ (.cells #[.int .i64 u4,.slice a4 n4 c4] 37)) (show (W2.alloc (.cells #[.int .i64 u3,.slice a3 n3 c3] 37)).cell? ⟨W2.heap.size,0,none⟩=some (.int .i64 u3) by rw [zqe rfl];rfl)
   have f1:=ck (zqa _ (.cells #[.int .i64 u4,.slice a4 n4 c4] 37)) (show (W2.alloc (.cells #[.int .i64 u3,.slice a3 n3 c3] 37)).cell? ⟨W2.heap.size,1,none⟩=some (.slice a3 n3 c3) by rw [zqe rfl];rfl)
   obtain ⟨⟨x0,g0⟩,⟨a0,n0,c0,g1⟩,gf⟩:=hst.box.cells
   have hlt:=hst.lt
   clear k
   go_wp2
   obtain ⟨st0,st1⟩:=hst.box.stored (.int .i64 u3) (.slice a3 n3 c3)
   exact bodyPost_ret (v:=.agg #[.int .i64 u3,.slice a3 n3 c3]) (by simp [results,Tryz.results136,go_sem,st0,st1]) rfl ⟨⟨_,rfl,hq.stored hst.box _ _⟩,zqc hst.below (by omega) _ _⟩
structure Sm (w:World) (ba bb bx by':Nat) (x1:Bool) (a1:Option Addr) (n1 c1:Nat) (x2:Bool) (a2:Option Addr) (n2 c2:Nat) (u3:Int) (a3:Option Addr) (n3 c3:Nat) (u4:Int) (a4:Option Addr) (n4 c4:Nat) (z o:Int) (W:World):Prop where
 B:Below w.heap.size w W
 a:NB W ba x1 a1 n1 c1 75 z
 b:NB W bb x2 a2 n2 c2 75 o
 x:Vr W bx u3 a3 n3 c3 16 z
 y:Vr W by' u4 a4 n4 c4 16 o
theorem Sm.keep {w:World}{ba bb bx by':Nat}{x1:Bool}{a1:Option Addr}{n1 c1:Nat}{x2:Bool}{a2:Option Addr}{n2 c2:Nat}{u3:Int}{a3:Option Addr}{n3 c3:Nat}{u4:Int}{a4:Option Addr}{n4 c4:Nat}{z o:Int}{W W':World} (h:Sm w ba bb bx by' x1 a1 n1 c1 x2 a2 n2 c2 u3 a3 n3 c3 u4 a4 n4 c4 z o W) (hb:Below W.heap.size W W'):Sm w ba bb bx by' x1 a1 n1 c1 x2 a2 n2 c2 u3 a3 n3 c3 u4 a4 n4 c4 z o W' :=
 ⟨bk hb h.B,h.a.keep hb,h.b.keep hb,h.x.keep hb,h.y.keep hb⟩
theorem keepC4 {Wc w1 w2:World}{b1 o1 b2 o2 b3 o3 b4 o4:Nat}{v1 v2 v3 v4:Value} (hb:Below w1.heap.size w1 w2) (h:Below Wc.heap.size Wc w1/\w1.cell? ⟨b1,o1,none⟩=some v1/\w1.cell? ⟨b2,o2,none⟩=some v2/\w1.cell? ⟨b3,o3,none⟩=some v3/\w1.cell? ⟨b4,o4,none⟩=some v4):Below Wc.heap.size Wc w2/\w2.cell? ⟨b1,o1,none⟩=some v1/\w2.cell? ⟨b2,o2,none⟩=some v2/\w2.cell? ⟨b3,o3,none⟩=some v3/\w2.cell? ⟨b4,o4,none⟩=some v4 :=
 ⟨bk hb h.1,ck hb h.2.1,ck hb h.2.2.1,ck hb h.2.2.2.1,ck hb h.2.2.2.2⟩
theorem sign_zr {N:Nat}{v:Value}{z:Int} (w:World) (h:Zr N w v z):Calls Tryz.prog 118 #[v] w fun e w'=>e=.returned (.int .i64 (sgn z))/\Below w.heap.size w w':=by
 obtain ⟨near,a,n,c,rfl,hs,_⟩:=h.sgn
 rw [<- hs]
 exact zqn near _ w
theorem euclid_one {q r p m o z:Int} (e1:q*o+r=z) (r0:0<=r) (r1:r<iabs o) (e2:z=p*o+m) (m0:0<=m) (m1:m<iabs o):q=p/\r=m:=by
 have e:(q - p)*o=m - r:=by rw [Int.sub_mul];omega
 have hq:q=p:=by
  by_cases h:q=p
  ·exact h
  ·exfalso
   have h1:(iabs o)*1<=(iabs o)*((q - p).natAbs:Int):=Int.mul_le_mul_of_nonneg_left (by omega) (by omega)
   have h2:(((q - p)*o).natAbs:Int)=iabs o*((q - p).natAbs:Int):=by
    rw [Int.natAbs_mul,Int.natCast_mul,Int.mul_comm]
    congr 1
    unfold iabs;split <;> omega
   rw [e] at h2
   omega
 subst hq
 exact ⟨rfl,by simp at e;omega⟩
theorem nr_zero (w:World):Nr 0 w (.agg #[.bool false,.slice none 0 0]) 0:=⟨false,_,[],rfl,Or.inl ⟨rfl,rfl⟩,P4.nil,Or.inl rfl,by simp,fun _=>rfl,by simp [v4]⟩
theorem dm_doc {N:Nat}{e:Ending}{w:World}{z o:Int} (h:DivP N z o e w) :
 ∃ xq aq nq cq xr ar nr cr q r,e=.returned (.tuple #[.agg #[.bool xq,.slice aq nq cq],.agg #[.bool xr,.slice ar nr cr],.bool (!decide (o=0))])/\Nr N w (.agg #[.bool xq,.slice aq nq cq]) q/\Nr N w (.agg #[.bool xr,.slice ar nr cr]) r/\((o=0/\q=0/\r=0)\/(o≠0/\z=q*o+r/\0<=r/\r<iabs o)):=by
 rcases h with ⟨h,rfl⟩ | ⟨h,vq,vr,q,r,rfl,h1,h2,h3⟩
 ·exact ⟨_,_,_,_,_,_,_,_,0,0,by simp [h],(nr_zero w).mono (Nat.zero_le _),(nr_zero w).mono (Nat.zero_le _),Or.inl ⟨h,rfl,rfl⟩⟩
 ·obtain ⟨_,_,_,_,rfl⟩:=h1.shape
  obtain ⟨_,_,_,_,rfl⟩:=h2.shape
  exact ⟨_,_,_,_,_,_,_,_,q,r,by simp [h],h1,h2,Or.inr ⟨h,h3⟩⟩
theorem Vr.second {w:World}{o1:Obj}{u:Int}{a:Option Addr}{n c N:Nat}{z:Int} (h:Zr N w (.agg #[.int .i64 u,.slice a n c]) z):Vr ((w.alloc o1).alloc (.cells #[.int .i64 u,.slice a n c] 37)) (w.heap.size+1) u a n c N z:=by
 have:=Vr.new (h.later (zqa w o1))
 simpa using this
theorem NB.second {w:World}{o1:Obj}{x:Bool}{a:Option Addr}{n c N:Nat}{z:Int} (h:Nr N w (.agg #[.bool x,.slice a n c]) z):NB ((w.alloc o1).alloc (.cells #[.bool x,.slice a n c] 57)) (w.heap.size+1) x a n c N z:=by
 have:=NB.new (h.later (zqa w o1))
 simpa using this
def Rr (N:Nat) (w:World) (v:Value) (p d:Int):Prop:=∃ x a n c y b m k e,v=.agg #[.int .i64 x,.slice a n c,.int .i64 y,.slice b m k]/\Zr N w (.agg #[.int .i64 x,.slice a n c]) p/\Zr N w (.agg #[.int .i64 y,.slice b m k]) e/\0<d/\Int.gcd p d=1/\((d=1/\e=0)\/(1<d/\e=d))
theorem Rr.later {N:Nat}{w w':World}{v:Value}{p d:Int} (h:Rr N w v p d) (hb:Below w.heap.size w w'):Rr N w' v p d:=by
 obtain ⟨x,a,n,c,y,b,m,k,e,h1,h2,h3,h4⟩:=h
 exact ⟨x,a,n,c,y,b,m,k,e,h1,h2.later hb,h3.later hb,h4⟩
theorem Rr.mono {N M:Nat}{w:World}{v:Value}{p d:Int} (h:Rr N w v p d) (hM:N<=M):Rr M w v p d:=by
 obtain ⟨x,a,n,c,y,b,m,k,e,h1,h2,h3,h4⟩:=h
 exact ⟨x,a,n,c,y,b,m,k,e,h1,h2.mono hM,h3.mono hM,h4⟩
theorem Rr.shape {N:Nat}{w:World}{v:Value}{p d:Int} (h:Rr N w v p d):∃ x a n c y b m k,v=.agg #[.int .i64 x,.slice a n c,.int .i64 y,.slice b m k]:=by
 obtain ⟨x,a,n,c,y,b,m,k,e,h1,_⟩:=h
 exact ⟨_,_,_,_,_,_,_,_,h1⟩
def RBox (w:World) (r:Nat):Prop:=∃ x a n c y b m k,w.heap[r]? = some (.cells #[.int .i64 x,.slice a n c,.int .i64 y,.slice b m k] 39 (0,0))
theorem zkw (w:World) (x:Int) (a:Option Addr) (n c:Nat) (y:Int) (b:Option Addr) (m k:Nat):RBox (w.alloc (.cells #[.int .i64 x,.slice a n c,.int .i64 y,.slice b m k] 39)) w.heap.size:=⟨_,_,_,_,_,_,_,_,heap_alloc_new w _⟩
theorem RBox.later {w w':World}{r:Nat} (h:RBox w r) (hb:Below w.heap.size w w'):RBox w' r:=by
 obtain ⟨x,a,n,c,y,b,m,k,h⟩:=h
 exact ⟨x,a,n,c,y,b,m,k,by rw [hb.block r (Array.getElem?_eq_some_iff.1 h).1];exact h⟩
theorem RBox.cells {w:World}{r:Nat} (h:RBox w r):(∃ x,w.cell? ⟨r,0,none⟩=some (.int .i64 x))/\(∃ a n c,w.cell? ⟨r,1,none⟩=some (.slice a n c))/\(∃ x,w.cell? ⟨r,2,none⟩=some (.int .i64 x))/\(∃ a n c,w.cell? ⟨r,3,none⟩=some (.slice a n c))/\(∀ o,w.frozen? ⟨r,o,none⟩=false):=by
 obtain ⟨x,a,n,c,y,b,m,k,h⟩:=h
 exact ⟨⟨x,by simp [World.cell?,h]⟩,⟨a,n,c,by simp [World.cell?,h]⟩,⟨y,by simp [World.cell?,h]⟩,⟨b,m,k,by simp [World.cell?,h]⟩,fun o=>by simp [World.frozen?,h]⟩
theorem RBox.lt {w:World}{r:Nat} (h:RBox w r):r<w.heap.size:=by
 obtain ⟨x,a,n,c,y,b,m,k,h⟩:=h
 exact (Array.getElem?_eq_some_iff.1 h).1
theorem Row.notR {w:World}{b off r:Nat}{l:List Int} (hr:Row w b off l) (hl:l≠[]) (h:RBox w r):b≠r:=by
 intro e
 subst e
 obtain ⟨x,a,n,c,y,b',m,k,h⟩:=h
 have:=hr 0 (List.length_pos_iff.2 hl)
 simp only [World.cell?,h] at this
 match off,this with
 | 0,this=>simp at this
 | 1,this=>simp at this
 | 2,this=>simp at this
 | 3,this=>simp at this
 | k+4,this=>simp at this
theorem Zr.rstored {N:Nat}{w:World}{v:Value}{z:Int}{r:Nat} (h:Zr N w v z) (hb:RBox w r) (u0 u1 u2 u3:Value):Zr N ((((w.setCell ⟨r,0,none⟩ u0).setCell ⟨r,1,none⟩ u1).setCell ⟨r,2,none⟩ u2).setCell ⟨r,3,none⟩ u3) v z:=by
 rcases h with h | ⟨s,b,off,cap,l,h1,h2,h3,h4,h5,h6,h7,h8,h9,h10,h11⟩
 ·exact Or.inl h
 ·have hne:=h10.notR h5 hb
  refine Or.inr ⟨s,b,off,cap,l,h1,h2,h3,h4,h5,h6,h7,h8,h9,fun k hk => ?_,h11⟩
  rw [zqb _ _ _ _ _ _ (by omega),zqb _ _ _ _ _ _ (by omega),zqb _ _ _ _ _ _ (by omega),zqb _ _ _ _ _ _ (by omega)]
  exact h10 k hk
theorem RBox.stored {w:World}{r:Nat} (h:RBox w r) (u0 u1 u2 u3:Value):((((w.setCell ⟨r,0,none⟩ u0).setCell ⟨r,1,none⟩ u1).setCell ⟨r,2,none⟩ u2).setCell ⟨r,3,none⟩ u3).cell? ⟨r,0,none⟩=some u0/\((((w.setCell ⟨r,0,none⟩ u0).setCell ⟨r,1,none⟩ u1).setCell ⟨r,2,none⟩ u2).setCell ⟨r,3,none⟩ u3).cell? ⟨r,1,none⟩=some u1/\((((w.setCell ⟨r,0,none⟩ u0).setCell ⟨r,1,none⟩ u1).setCell ⟨r,2,none⟩ u2).setCell ⟨r,3,none⟩ u3).cell? ⟨r,2,none⟩=some u2/\((((w.setCell ⟨r,0,none⟩ u0).setCell ⟨r,1,none⟩ u1).setCell ⟨r,2,none⟩ u2).setCell ⟨r,3,none⟩ u3).cell? ⟨r,3,none⟩=some u3:=by
 obtain ⟨⟨x,c0⟩,⟨a,n,c,c1⟩,⟨y,c2⟩,⟨b,m,k,c3⟩,_⟩:=h.cells
 refine ⟨?_,?_,?_,?_⟩
 ·rw [zqb _ _ _ _ _ _ (by omega),zqb _ _ _ _ _ _ (by omega),zqb _ _ _ _ _ _ (by omega)];exact zqd c0
 ·rw [zqb _ _ _ _ _ _ (by omega),zqb _ _ _ _ _ _ (by omega)]
  exact zqd (u:=.slice a n c) (by rw [zqb _ _ _ _ _ _ (by omega)];exact c1)
 ·rw [zqb _ _ _ _ _ _ (by omega)]
  exact zqd (u:=.int .i64 y) (by rw [zqb _ _ _ _ _ _ (by omega),zqb _ _ _ _ _ _ (by omega)];exact c2)
 ·exact zqd (u:=.slice b m k) (by rw [zqb _ _ _ _ _ _ (by omega),zqb _ _ _ _ _ _ (by omega),zqb _ _ _ _ _ _ (by omega)];exact c3)
theorem zqf {B:Nat}{a w:World}{r:Nat} (h:Below B a w) (hr:B<=r) (u0 u1 u2 u3:Value):Below B a ((((w.setCell ⟨r,0,none⟩ u0).setCell ⟨r,1,none⟩ u1).setCell ⟨r,2,none⟩ u2).setCell ⟨r,3,none⟩ u3):=(((h.setCell (p:=⟨r,0,none⟩) hr u0).setCell (p:=⟨r,1,none⟩) hr u1).setCell (p:=⟨r,2,none⟩) hr u2).setCell (p:=⟨r,3,none⟩) hr u3
theorem Rr.rstored {N:Nat}{w:World}{v:Value}{p d:Int}{r:Nat} (h:Rr N w v p d) (hb:RBox w r) (u0 u1 u2 u3:Value):Rr N ((((w.setCell ⟨r,0,none⟩ u0).setCell ⟨r,1,none⟩ u1).setCell ⟨r,2,none⟩ u2).setCell ⟨r,3,none⟩ u3) v p d:=by
 obtain ⟨x,a,n,c,y,b,m,k,e,h1,h2,h3,h4⟩:=h
 exact ⟨x,a,n,c,y,b,m,k,e,h1,h2.rstored hb _ _ _ _,h3.rstored hb _ _ _ _,h4⟩
theorem lowest_any {N:Nat}{v u:Value}{p d:Int} (w:World) (hp:Zr (N+1) w v p) (hd:Zr (N+1) w u d) (d0:0<d) (hg:Int.gcd p d=1) (hN:N<=700000) :
 Calls Tryz.prog 137 #[v,u] w fun e w'=>(∃ v,e=.returned v/\Rr (N+1) w' v p d)/\Below w.heap.size w w':=by
 obtain ⟨x,a1,n1,c1,rfl⟩:=hp.shape
 obtain ⟨y,a2,n2,c2,rfl⟩:=hd.shape
 go_enter Tryz.func137,Tryz.ntmps137
 go_wp2_with fail
 obtain ⟨W0,hW0⟩:∃ W0,W0=((w.alloc (.cells #[.int .i64 x,.slice a1 n1 c1] 37)).alloc (.cells #[.int .i64 y,.slice a2 n2 c2] 37)).alloc (.cells #[.int .i64 0,.slice none 0 0,.int .i64 0,.slice none 0 0] 39):=⟨_,rfl⟩
 have k1:=zqa w (.cells #[.int .i64 x,.slice a1 n1 c1] 37)
 have k2:=zqa (w.alloc (.cells #[.int .i64 x,.slice a1 n1 c1] 37)) (.cells #[.int .i64 y,.slice a2 n2 c2] 37)
 have k3:=zqa ((w.alloc (.cells #[.int .i64 x,.slice a1 n1 c1] 37)).alloc (.cells #[.int .i64 y,.slice a2 n2 c2] 37)) (.cells #[.int .i64 0,.slice none 0 0,.int .i64 0,.slice none 0 0] 39)
 have hB:=bk k3 (bk k2 k1)
 have hbx:RBox W0 (w.heap.size+2):=by
  rw [hW0]
  have:=zkw ((w.alloc (.cells #[.int .i64 x,.slice a1 n1 c1] 37)).alloc (.cells #[.int .i64 y,.slice a2 n2 c2] 37)) 0 none 0 0 0 none 0 0
  simpa using this
 have e1:W0.cell? ⟨w.heap.size,0,none⟩=some (.int .i64 x):=by rw [hW0];exact ck k3 (ck k2 (by rw [zqe rfl];rfl))
 have e2:W0.cell? ⟨w.heap.size,1,none⟩=some (.slice a1 n1 c1):=by rw [hW0];exact ck k3 (ck k2 (by rw [zqe rfl];rfl))
 have e3:W0.cell? ⟨w.heap.size+1,0,none⟩=some (.int .i64 y):=by rw [hW0];exact ck k3 (by rw [zqe (by simp)];rfl)
 have e4:W0.cell? ⟨w.heap.size+1,1,none⟩=some (.slice a2 n2 c2):=by rw [hW0];exact ck k3 (by rw [zqe (by simp)];rfl)
 rw [<- hW0] at hB ⊢
 clear hW0 k1 k2 k3
 go_fit (isOne_any (N:=N) _ (hd.later hB) (by omega))
 rintro e W1 ⟨rfl,hb1⟩
 have hB:=bk hb1 hB
 have hbx:=hbx.later hb1
 have e1:=ck hb1 e1
 have e2:=ck hb1 e2
 have e3:=ck hb1 e3
 have e4:=ck hb1 e4
 clear hb1
 obtain ⟨⟨x0,g0⟩,⟨y0,y1,y2,g1⟩,⟨x3,g2⟩,⟨z0,z1,z2,g3⟩,gf⟩:=hbx.cells
 have hlt:=hbx.lt
 by_cases h1:d=1
 ·subst h1
  go_wp2
  obtain ⟨st0,st1,st2,st3⟩:=hbx.stored (.int .i64 x) (.slice a1 n1 c1) (.int .i64 0) (.slice none 0 0)
  exact bodyPost_ret (v:=.agg #[.int .i64 x,.slice a1 n1 c1,.int .i64 0,.slice none 0 0]) (by simp [results,Tryz.results137,go_sem,st0,st1,st2,st3]) rfl ⟨⟨_,rfl,_,_,_,_,_,_,_,_,0,rfl,(hp.later hB).rstored hbx _ _ _ _,Zr.near _ (by decide) (by decide),by decide,hg,Or.inl ⟨rfl,rfl⟩⟩,zqf hB (by omega) _ _ _ _⟩
 ·go_wp2
  obtain ⟨st0,st1,st2,st3⟩:=hbx.stored (.int .i64 x) (.slice a1 n1 c1) (.int .i64 y) (.slice a2 n2 c2)
  exact bodyPost_ret (v:=.agg #[.int .i64 x,.slice a1 n1 c1,.int .i64 y,.slice a2 n2 c2]) (by simp [results,Tryz.results137,go_sem,st0,st1,st2,st3]) rfl ⟨⟨_,rfl,_,_,_,_,_,_,_,_,d,rfl,(hp.later hB).rstored hbx _ _ _ _,(hd.later hB).rstored hbx _ _ _ _,d0,hg,Or.inr ⟨by omega,rfl⟩⟩,zqf hB (by omega) _ _ _ _⟩
theorem gcd_split {p d:Int} (hd:0<d):∃ g p' d':Int,g=(Int.gcd p d:Int)/\0<g/\p=p'*g/\d=d'*g/\0<d'/\Int.gcd p' d'=1:=by
 have hg:0<Int.gcd p d:=Int.gcd_pos_of_ne_zero_right p (by omega)
 obtain ⟨a,ha⟩:=Int.gcd_dvd_left p d
 obtain ⟨b,hb⟩:=Int.gcd_dvd_right p d
 refine ⟨Int.gcd p d,a,b,rfl,by omega,by rw [Int.mul_comm];exact ha,by rw [Int.mul_comm];exact hb,?_,?_⟩
 ·by_cases h:0<b
  ·exact h
  ·exfalso
   have:(Int.gcd p d:Int)*b<=0:=Int.mul_nonpos_of_nonneg_of_nonpos (by omega) (by omega)
   omega
 ·have e:Int.gcd p d=Int.gcd ((Int.gcd p d:Int)*a) ((Int.gcd p d:Int)*b):=by rw [<- ha,<- hb]
  rw [Int.gcd_mul_left,Int.natAbs_natCast] at e
  exact (Nat.eq_of_mul_eq_mul_left hg (by rw [Nat.mul_one];exact e)).symm
structure ZR (w:World) (x:Int) (a1:Option Addr) (n1 c1:Nat) (y:Int) (a2:Option Addr) (n2 c2:Nat) (wr:World):Prop where
 below:Below w.heap.size w wr
 box:RBox wr (w.heap.size+2)
 bx:Box wr w.heap.size
 by':Box wr (w.heap.size+1)
 c0:wr.cell? ⟨w.heap.size,0,none⟩=some (.int .i64 x)
 c1:wr.cell? ⟨w.heap.size,1,none⟩=some (.slice a1 n1 c1)
 d0:wr.cell? ⟨w.heap.size+1,0,none⟩=some (.int .i64 y)
 d1:wr.cell? ⟨w.heap.size+1,1,none⟩=some (.slice a2 n2 c2)
theorem ZR.keep {w wr w1:World}{x y:Int}{a1 a2:Option Addr}{n1 c1 n2 c2:Nat} (h:ZR w x a1 n1 c1 y a2 n2 c2 wr) (hb:Below wr.heap.size wr w1):ZR w x a1 n1 c1 y a2 n2 c2 w1 :=
 ⟨bk hb h.below,h.box.later hb,h.bx.later hb,h.by'.later hb,ck hb h.c0,ck hb h.c1,ck hb h.d0,ck hb h.d1⟩
theorem ZR.start (w:World) (x y:Int) (a1 a2:Option Addr) (n1 c1 n2 c2:Nat):ZR w x a1 n1 c1 y a2 n2 c2 (((w.alloc (.cells #[.int .i64 x,.slice a1 n1 c1] 37)).alloc (.cells #[.int .i64 y,.slice a2 n2 c2] 37)).alloc (.cells #[.int .i64 0,.slice none 0 0,.int .i64 0,.slice none 0 0] 39)):=by
 have k1:=zqa w (.cells #[.int .i64 x,.slice a1 n1 c1] 37)
 have k2:=zqa (w.alloc (.cells #[.int .i64 x,.slice a1 n1 c1] 37)) (.cells #[.int .i64 y,.slice a2 n2 c2] 37)
 have k3:=zqa ((w.alloc (.cells #[.int .i64 x,.slice a1 n1 c1] 37)).alloc (.cells #[.int .i64 y,.slice a2 n2 c2] 37)) (.cells #[.int .i64 0,.slice none 0 0,.int .i64 0,.slice none 0 0] 39)
 have b1:Box (w.alloc (.cells #[.int .i64 x,.slice a1 n1 c1] 37)) w.heap.size:=⟨_,_,_,_,heap_alloc_new w _⟩
 have b2:Box ((w.alloc (.cells #[.int .i64 x,.slice a1 n1 c1] 37)).alloc (.cells #[.int .i64 y,.slice a2 n2 c2] 37)) (w.heap.size+1):=⟨_,_,_,_,by have:=heap_alloc_new (w.alloc (.cells #[.int .i64 x,.slice a1 n1 c1] 37)) (.cells #[.int .i64 y,.slice a2 n2 c2] 37);simpa using this⟩
 refine ⟨bk k3 (bk k2 k1),?_,(b1.later k2).later k3,b2.later k3,ck k3 (ck k2 ?_),ck k3 (ck k2 ?_),ck k3 ?_,ck k3 ?_⟩
 ·have:=zkw ((w.alloc (.cells #[.int .i64 x,.slice a1 n1 c1] 37)).alloc (.cells #[.int .i64 y,.slice a2 n2 c2] 37)) 0 none 0 0 0 none 0 0
  simpa using this
 ·rw [zqe rfl];rfl
 ·rw [zqe rfl];rfl
 ·rw [zqe (by simp)];rfl
 ·rw [zqe (by simp)];rfl
theorem ZR.lt {w wr:World}{x y:Int}{a1 a2:Option Addr}{n1 c1 n2 c2:Nat} (h:ZR w x a1 n1 c1 y a2 n2 c2 wr):w.heap.size+2<wr.heap.size:=h.box.lt
theorem ZR.drew {w wr:World}{x y:Int}{a1 a2:Option Addr}{n1 c1 n2 c2:Nat} (h:ZR w x a1 n1 c1 y a2 n2 c2 wr):ZR w x a1 n1 c1 y a2 n2 c2 wr.drew:=⟨h.below.drew,h.box,h.bx,h.by',h.c0,h.c1,h.d0,h.d1⟩
theorem keepR {w w1 w2:World}{r b1 b2 b3:Nat}{v1 v2 v3 v4 v5 v6:Value} (hb:Below w1.heap.size w1 w2) (h:Below w.heap.size w w1/\RBox w1 r/\w1.cell? ⟨b1,0,none⟩=some v1/\w1.cell? ⟨b1,1,none⟩=some v2/\w1.cell? ⟨b2,0,none⟩=some v3/\w1.cell? ⟨b2,1,none⟩=some v4/\w1.cell? ⟨b3,0,none⟩=some v5/\w1.cell? ⟨b3,1,none⟩=some v6) :
 Below w.heap.size w w2/\RBox w2 r/\w2.cell? ⟨b1,0,none⟩=some v1/\w2.cell? ⟨b1,1,none⟩=some v2/\w2.cell? ⟨b2,0,none⟩=some v3/\w2.cell? ⟨b2,1,none⟩=some v4/\w2.cell? ⟨b3,0,none⟩=some v5/\w2.cell? ⟨b3,1,none⟩=some v6 :=
 ⟨bk hb h.1,h.2.1.later hb,ck hb h.2.2.1,ck hb h.2.2.2.1,ck hb h.2.2.2.2.1,ck hb h.2.2.2.2.2.1,ck hb h.2.2.2.2.2.2.1,ck hb h.2.2.2.2.2.2.2⟩
theorem RBox.stored' {w:World}{r:Nat} (h:RBox w r) (x:Int) (a:Option Addr) (n c:Nat) (y:Int) (b:Option Addr) (m k:Nat):RBox ((((w.setCell ⟨r,0,none⟩ (.int .i64 x)).setCell ⟨r,1,none⟩ (.slice a n c)).setCell ⟨r,2,none⟩ (.int .i64 y)).setCell ⟨r,3,none⟩ (.slice b m k)) r:=by
 obtain ⟨x0,a0,n0,c0,y0,b0,m0,k0,h⟩:=h
 simp only [RBox,World.setCell,Array.getElem?_modify]
 simp [h]
theorem storeR {w w1:World}{r b1 b2 b3:Nat}{v1 v2 v3 v4 v5 v6:Value}{x y:Int}{a b:Option Addr}{n c m k:Nat} (h:Below w.heap.size w w1/\RBox w1 r/\w1.cell? ⟨b1,0,none⟩=some v1/\w1.cell? ⟨b1,1,none⟩=some v2/\w1.cell? ⟨b2,0,none⟩=some v3/\w1.cell? ⟨b2,1,none⟩=some v4/\w1.cell? ⟨b3,0,none⟩=some v5/\w1.cell? ⟨b3,1,none⟩=some v6) (hr:w.heap.size<=r) (h1:b1≠r) (h2:b2≠r) (h3:b3≠r) :
 let w2:=(((w1.setCell ⟨r,0,none⟩ (.int .i64 x)).setCell ⟨r,1,none⟩ (.slice a n c)).setCell ⟨r,2,none⟩ (.int .i64 y)).setCell ⟨r,3,none⟩ (.slice b m k)
 Below w.heap.size w w2/\RBox w2 r/\w2.cell? ⟨b1,0,none⟩=some v1/\w2.cell? ⟨b1,1,none⟩=some v2/\w2.cell? ⟨b2,0,none⟩=some v3/\w2.cell? ⟨b2,1,none⟩=some v4/\w2.cell? ⟨b3,0,none⟩=some v5/\w2.cell? ⟨b3,1,none⟩=some v6:=by
 intro w2
 obtain ⟨k1,k2,k3,k4,k5,k6,k7,k8⟩:=h
 have hc:∀ b o v,b≠r->w1.cell? ⟨b,o,none⟩=some v->w2.cell? ⟨b,o,none⟩=some v:=fun b o v hb hv=>by
  show (World.setCell _ _ _).cell? _=_
  rw [zqb _ _ _ _ _ _ (by omega),zqb _ _ _ _ _ _ (by omega),zqb _ _ _ _ _ _ (by omega),zqb _ _ _ _ _ _ (by omega)]
  exact hv
 exact ⟨zqf k1 hr _ _ _ _,k2.stored' _ _ _ _ _ _ _ _,hc _ _ _ h1 k3,hc _ _ _ h1 k4,hc _ _ _ h2 k5,hc _ _ _ h2 k6,hc _ _ _ h3 k7,hc _ _ _ h3 k8⟩
theorem ZR.store2 {w W:World}{x y:Int}{a1 a2:Option Addr}{n1 c1 n2 c2:Nat} (h:ZR w x a1 n1 c1 y a2 n2 c2 W) (x':Int) (a1':Option Addr) (n1' c1':Nat) (y':Int) (a2':Option Addr) (n2' c2':Nat) :
 ZR w x' a1' n1' c1' y' a2' n2' c2' ((((W.setCell ⟨w.heap.size,0,none⟩ (.int .i64 x')).setCell ⟨w.heap.size,1,none⟩ (.slice a1' n1' c1')).setCell ⟨w.heap.size+1,0,none⟩ (.int .i64 y')).setCell ⟨w.heap.size+1,1,none⟩ (.slice a2' n2' c2')):=by
 have hb1:=h.bx.stored' x' a1' n1' c1'
 have hb2:Box ((W.setCell ⟨w.heap.size,0,none⟩ (.int .i64 x')).setCell ⟨w.heap.size,1,none⟩ (.slice a1' n1' c1')) (w.heap.size+1):=(h.by'.other (by omega) _).other (by omega) _
 obtain ⟨s0,s1⟩:=h.bx.stored (.int .i64 x') (.slice a1' n1' c1')
 obtain ⟨s2,s3⟩:=hb2.stored (.int .i64 y') (.slice a2' n2' c2')
 refine ⟨zqc (zqc h.below (Nat.le_refl _) _ _) (by omega) _ _,?_,(hb1.other (by omega) _).other (by omega) _,hb2.stored' _ _ _ _,?_,?_,s2,s3⟩
 ·obtain ⟨x0,a0,n0,c0,y0,b0,m0,k0,hr⟩:=h.box
  exact ⟨x0,a0,n0,c0,y0,b0,m0,k0,by rw [Below.heap_setCell _ _ _ _ (by show w.heap.size+2≠w.heap.size+1;omega),Below.heap_setCell _ _ _ _ (by show w.heap.size+2≠w.heap.size+1;omega),Below.heap_setCell _ _ _ _ (by show w.heap.size+2≠w.heap.size;omega),Below.heap_setCell _ _ _ _ (by show w.heap.size+2≠w.heap.size;omega)];exact hr⟩
 ·rw [zqb _ _ _ _ _ _ (by omega),zqb _ _ _ _ _ _ (by omega)];exact s0
 ·rw [zqb _ _ _ _ _ _ (by omega),zqb _ _ _ _ _ _ (by omega)];exact s1
theorem ZR.zr2 {w W:World}{x y:Int}{a1 a2:Option Addr}{n1 c1 n2 c2:Nat} (h:ZR w x a1 n1 c1 y a2 n2 c2 W) {N:Nat}{v:Value}{z:Int} (hz:Zr N W v z) (x':Int) (a1':Option Addr) (n1' c1':Nat) (y':Int) (a2':Option Addr) (n2' c2':Nat):Zr N ((((W.setCell ⟨w.heap.size,0,none⟩ (.int .i64 x')).setCell ⟨w.heap.size,1,none⟩ (.slice a1' n1' c1')).setCell ⟨w.heap.size+1,0,none⟩ (.int .i64 y')).setCell ⟨w.heap.size+1,1,none⟩ (.slice a2' n2' c2')) v z :=
 (hz.stored h.bx _ _).stored ((h.by'.other (by omega) _).other (by omega) _) _ _
def OfP (N:Nat) (z o:Int) (e:Ending) (w':World):Prop :=
 (o=0/\e=.returned (.tuple #[.agg #[.int .i64 0,.slice none 0 0,.int .i64 0,.slice none 0 0],.bool false]))\/(o≠0/\∃ v p d,e=.returned (.tuple #[v,.bool true])/\Rr N w' v p d/\p*o=z*d)
theorem of_core {N:Nat} (x y:Int) (a1 a2:Option Addr) (n1 c1 n2 c2:Nat) (z o:Int) (w:World) (hz:Zr (N+1) w (.agg #[.int .i64 x,.slice a1 n1 c1]) z) (ho:Zr (N+1) w (.agg #[.int .i64 y,.slice a2 n2 c2]) o) (hN:N<=100000) (hT:Tab64 w) :
 Calls Tryz.prog 117 #[.agg #[.int .i64 x,.slice a1 n1 c1],.agg #[.int .i64 y,.slice a2 n2 c2]] w fun e w'=>OfP (2*(N+1)+6) z o e w'/\Below w.heap.size w w':=by
 have hst:=ZR.start w x y a1 a2 n1 c1 n2 c2
 go_enter Tryz.func117,Tryz.ntmps117
 go_wp2_with fail
 obtain ⟨W0,hW0⟩:∃ W0,W0=((w.alloc (.cells #[.int .i64 x,.slice a1 n1 c1] 37)).alloc (.cells #[.int .i64 y,.slice a2 n2 c2] 37)).alloc (.cells #[.int .i64 0,.slice none 0 0,.int .i64 0,.slice none 0 0] 39):=⟨_,rfl⟩
 rw [<- hW0] at hst ⊢
 clear hW0
 go_fit (sign_zr _ (ho.later hst.below))
 rintro e W1 ⟨rfl,hb1⟩
 have hst:=hst.keep hb1
 clear hb1
 by_cases ho0:o=0
 ·subst ho0
  rw [zxi rfl]
  obtain ⟨⟨x0,g0⟩,⟨y0,y1,y2,g1⟩,⟨x3,g2⟩,⟨z0,z1,z2,g3⟩,gf⟩:=hst.box.cells
  have hlt:=hst.lt
  go_wp2
  obtain ⟨st0,st1,st2,st3⟩:=hst.box.stored (.int .i64 0) (.slice none 0 0) (.int .i64 0) (.slice none 0 0)
  exact bodyPost_ret (v:=.tuple #[.agg #[.int .i64 0,.slice none 0 0,.int .i64 0,.slice none 0 0],.bool false]) (by simp [results,Tryz.results117,go_sem,st0,st1,st2,st3]) rfl ⟨Or.inl ⟨rfl,rfl⟩,zqf hst.below (by omega) _ _ _ _⟩
 ·have hs0:(sgn o == 0)=false:=by rw [sgn_eq_zero];simpa using ho0
  have e3:=hst.d0
  have e4:=hst.d1
  go_wp2_with fail
  go_fit (sign_zr _ (ho.later hst.below))
  rintro e W2 ⟨rfl,hb2⟩
  have hst:=hst.keep hb2
  clear hb2 e3 e4 hs0
  by_cases hop:0<o
  ·rw [zqq hop]
   have hZ7:=hz.later hst.below
   have hZ8:=ho.later hst.below
   obtain ⟨g,p',d',hg,g0,ep,ed,d0,hgc⟩:=gcd_split (p:=z) (d:=o) (by omega)
   have HE:=qh (And.intro ep ed)
   have HGC:=qh hgc
   have HG:=qh hg
   clear hg ep ed hgc
   have e1:=hst.c0
   have e2:=hst.c1
   have e3:=hst.d0
   have e4:=hst.d1
   go_wp2_with fail
   go_fit (gcd_any (N:=N) _ hZ7 hZ8 (by omega) (hT.later hst.below))
   rintro e W5 ⟨⟨v5,rfl,hZ5⟩,hb5⟩
   obtain ⟨u5,a5,n5,c5,rfl⟩:=hZ5.shape
   rw [<- show g=(Int.gcd z o:Int) from uh HG] at hZ5
   have k5:=zqa W5 (.cells #[.int .i64 u5,.slice a5 n5 c5] 37)
   have hV:=Vr.new hZ5
   have hst:=hst.keep hb5
   have hlt5:=hst.lt
   have hZx:=hZ7.later hb5
   have hZy:=hZ8.later hb5
   have hst:=hst.keep k5
   have hZx:=hZx.later k5
   have hZy:=hZy.later k5
   clear hb5 e1 e2 e3 e4 hZ5 HG
   go_wp2_with fail
   obtain ⟨W6,hW6⟩:∃ W6,W6=W5.alloc (.cells #[.int .i64 u5,.slice a5 n5 c5] 37):=⟨_,rfl⟩
   rw [<- hW6] at hst hV hZx hZy ⊢
   clear hW6 k5
   have hB6:=hst.below
   have hr6:=hst.box
   have e1:=hst.c0
   have e2:=hst.c1
   have e3:=hst.d0
   have e4:=hst.d1
   have e5:=hV.c0
   have e6:=hV.c1
   have tok1:True:=trivial
   go_region_held3 (fun w'=>Below w.heap.size w w'/\RBox w' (w.heap.size+2)/\w'.cell? ⟨w.heap.size,0,none⟩=some (.int .i64 x)/\w'.cell? ⟨w.heap.size,1,none⟩=some (.slice a1 n1 c1)/\w'.cell? ⟨w.heap.size+1,0,none⟩=some (.int .i64 y)/\w'.cell? ⟨w.heap.size+1,1,none⟩=some (.slice a2 n2 c2)/\w'.cell? ⟨W5.heap.size,0,none⟩=some (.int .i64 u5)/\w'.cell? ⟨W5.heap.size,1,none⟩=some (.slice a5 n5 c5))
    (first | exact ⟨hB6.drew,hr6,e1,e2,e3,e4,e5,e6⟩ | exact keepR (by assumption) (by assumption) | exact storeR (by assumption) (by omega) (by omega) (by omega) (by omega))
    (first | (go_at_call 136;have _t:=tok1;go_fit (part_any (N:=2*N+2) (q:=p') _ ((hZx.mono (by omega)).later (Below.refl _ _).drew) ((hV.zr.mono (by omega)).later (Below.refl _ _).drew) g0 (uh HE).1 (by omega));rintro e q1 ⟨⟨v1,rfl,hp1⟩,hb_1⟩;clear tok1;obtain ⟨u6,a6,n6,c6,rfl⟩:=hp1.shape) | (go_at_call 136;go_fit (part_any (N:=2*N+2) (q:=d') _ (((hZy.mono (by omega)).later (Below.refl _ _).drew).later hb_1) (((hV.zr.mono (by omega)).later (Below.refl _ _).drew).later hb_1) g0 (uh HE).2 (by omega));rintro e q2 ⟨⟨v2,rfl,hp2⟩,hb_2⟩;obtain ⟨u7,a7,n7,c7,rfl⟩:=hp2.shape) | (go_at_call 137;go_fit (lowest_any (N:=2*N+4) _ (hp1.later hb_2) hp2 d0 (uh HGC) (by omega));rintro e q3 ⟨⟨v3,rfl,hp3⟩,hb_3⟩;obtain ⟨u8,a8,n8,c8,u9,a9,n9,c9,rfl⟩:=hp3.shape;have hbx3:=(((hr6.later (w:=W6.drew) hb_1).later hb_2).later hb_3);obtain ⟨⟨x0,g0'⟩,⟨y0,y1,y2,g1⟩,⟨x3,g2⟩,⟨z0,z1,z2,g3⟩,gf⟩:=hbx3.cells;have hlt9:=hbx3.lt))
   have hbx3:=(((hr6.later (w:=W6.drew) hb_1).later hb_2).later hb_3)
   have hB9:=bk hb_3 (bk hb_2 (bk hb_1 hB6.drew))
   clear hst
   go_wp2
   obtain ⟨st0,st1,st2,st3⟩:=hbx3.stored (.int .i64 u8) (.slice a8 n8 c8) (.int .i64 u9) (.slice a9 n9 c9)
   refine bodyPost_ret (v:=.tuple #[.agg #[.int .i64 u8,.slice a8 n8 c8,.int .i64 u9,.slice a9 n9 c9],.bool true]) (by simp [results,Tryz.results117,go_sem,st0,st1,st2,st3]) rfl ⟨Or.inr ⟨ho0,_,p',d',rfl,(hp3.rstored hbx3 _ _ _ _).mono (by omega),?_⟩,zqf hB9 (by omega) _ _ _ _⟩
   obtain ⟨h1,h2⟩:=uh HE
   rw [h2]
   conv=>rhs;rw [h1]
   rw [Int.mul_assoc,Int.mul_comm d' g]
  ·have hon:o<0:=by omega
   rw [zqp hon]
   have e1:=hst.c0
   have e2:=hst.c1
   have e3:=hst.d0
   have e4:=hst.d1
   go_wp2_with fail
   have hz2:=hz.later hst.below
   have ho2:=ho.later hst.below
   have hz2d:Zr (N+1) W2.drew _ z:=hz2.later (Below.refl _ _).drew
   have ho2d:Zr (N+1) W2.drew _ o:=ho2.later (Below.refl _ _).drew
   have hstd:=hst.drew
   go_region_with (first | (go_at_call 134;go_fit (neg_any (N:=N) (z:=z) _ hz2d);rintro e W3 ⟨⟨v3,rfl,hN3⟩,hb3⟩;obtain ⟨x7,a7,n7,c7,rfl⟩:=hN3.shape;have hst3:=hstd.keep hb3;have ho3:=ho2d.later hb3;have f3:=hst3.d0;have f4:=hst3.d1) | (go_at_call 134;go_fit (neg_any (N:=N) (z:=o) _ ho3);rintro e W4 ⟨⟨v4,rfl,hN4⟩,hb4⟩;obtain ⟨x8,a8,n8,c8,rfl⟩:=hN4.shape;have hst4:=hst3.keep hb4;obtain ⟨⟨qa0,q0⟩,⟨qa1,qa2,qa3,q1⟩,qf⟩:=hst4.bx.cells;obtain ⟨⟨qb0,q2⟩,⟨qb1,qb2,qb3,q3⟩,qg⟩:=hst4.by'.cells;have lt4:=hst4.lt) | (go_at_call 134;go_fit (neg_any (N:=N) (z:=o) _ ho2d);rintro e W3 ⟨⟨v3,rfl,hN3⟩,hb3⟩;obtain ⟨x8,a8,n8,c8,rfl⟩:=hN3.shape;have hst3:=hstd.keep hb3;have hz3:=hz2d.later hb3;have f3:=hst3.c0;have f4:=hst3.c1) | (go_at_call 134;go_fit (neg_any (N:=N) (z:=z) _ hz3);rintro e W4 ⟨⟨v4,rfl,hN4⟩,hb4⟩;obtain ⟨x7,a7,n7,c7,rfl⟩:=hN4.shape;have hst4:=hst3.keep hb4;obtain ⟨⟨qa0,q0⟩,⟨qa1,qa2,qa3,q1⟩,qf⟩:=hst4.bx.cells;obtain ⟨⟨qb0,q2⟩,⟨qb1,qb2,qb3,q3⟩,qg⟩:=hst4.by'.cells;have lt4:=hst4.lt))
   all_goals
    have hA:Zr (N+1) W4 (.agg #[.int .i64 x7,.slice a7 n7 c7]) (-z):=by first | exact hN3.later hb4 | exact hN4
    have hD:Zr (N+1) W4 (.agg #[.int .i64 x8,.slice a8 n8 c8]) (-o):=by first | exact hN4 | exact hN3.later hb4
    have hZ7:=hst4.zr2 hA x7 a7 n7 c7 x8 a8 n8 c8
    have hZ8:=hst4.zr2 hD x7 a7 n7 c7 x8 a8 n8 c8
    have hst:=hst4.store2 x7 a7 n7 c7 x8 a8 n8 c8
    obtain ⟨Wn,hWn⟩:∃ Wn,Wn=(((W4.setCell ⟨w.heap.size,0,none⟩ (.int .i64 x7)).setCell ⟨w.heap.size,1,none⟩ (.slice a7 n7 c7)).setCell ⟨w.heap.size+1,0,none⟩ (.int .i64 x8)).setCell ⟨w.heap.size+1,1,none⟩ (.slice a8 n8 c8):=⟨_,rfl⟩
    rw [<- hWn] at hZ7 hZ8 hst ⊢
    clear hWn hst4 hst3 hstd hN3 hN4 hb3 hb4 hA hD f3 f4 q0 q1 q2 q3 qf qg lt4 e1 e2 e3 e4 hz2 ho2 hz2d ho2d
    obtain ⟨g,p',d',hg,g0,ep,ed,d0,hgc⟩:=gcd_split (p:=(-z)) (d:=(-o)) (by omega)
    have HE:=qh (And.intro ep ed)
    have HGC:=qh hgc
    have HG:=qh hg
    clear hg ep ed hgc
    have e1:=hst.c0
    have e2:=hst.c1
    have e3:=hst.d0
    have e4:=hst.d1
    go_wp2_with fail
    go_fit (gcd_any (N:=N) _ hZ7 hZ8 (by omega) (hT.later hst.below))
    rintro e W5 ⟨⟨v5,rfl,hZ5⟩,hb5⟩
    obtain ⟨u5,a5,n5,c5,rfl⟩:=hZ5.shape
    rw [<- show g=(Int.gcd (-z) (-o):Int) from uh HG] at hZ5
    have k5:=zqa W5 (.cells #[.int .i64 u5,.slice a5 n5 c5] 37)
    have hV:=Vr.new hZ5
    have hst:=hst.keep hb5
    have hlt5:=hst.lt
    have hZx:=hZ7.later hb5
    have hZy:=hZ8.later hb5
    have hst:=hst.keep k5
    have hZx:=hZx.later k5
    have hZy:=hZy.later k5
    clear hb5 e1 e2 e3 e4 hZ5 HG
    go_wp2_with fail
    obtain ⟨W6,hW6⟩:∃ W6,W6=W5.alloc (.cells #[.int .i64 u5,.slice a5 n5 c5] 37):=⟨_,rfl⟩
    rw [<- hW6] at hst hV hZx hZy ⊢
    clear hW6 k5
    have hB6:=hst.below
    have hr6:=hst.box
    have e1:=hst.c0
    have e2:=hst.c1
    have e3:=hst.d0
    have e4:=hst.d1
    have e5:=hV.c0
    have e6:=hV.c1
    have tok1:True:=trivial
    go_region_held3 (fun w'=>Below w.heap.size w w'/\RBox w' (w.heap.size+2)/\w'.cell? ⟨w.heap.size,0,none⟩=some (.int .i64 x7)/\w'.cell? ⟨w.heap.size,1,none⟩=some (.slice a7 n7 c7)/\w'.cell? ⟨w.heap.size+1,0,none⟩=some (.int .i64 x8)/\w'.cell? ⟨w.heap.size+1,1,none⟩=some (.slice a8 n8 c8)/\w'.cell? ⟨W5.heap.size,0,none⟩=some (.int .i64 u5)/\w'.cell? ⟨W5.heap.size,1,none⟩=some (.slice a5 n5 c5))
     (first | exact ⟨hB6.drew,hr6,e1,e2,e3,e4,e5,e6⟩ | exact keepR (by assumption) (by assumption) | exact storeR (by assumption) (by omega) (by omega) (by omega) (by omega))
     (first | (go_at_call 136;have _t:=tok1;go_fit (part_any (N:=2*N+2) (q:=p') _ ((hZx.mono (by omega)).later (Below.refl _ _).drew) ((hV.zr.mono (by omega)).later (Below.refl _ _).drew) g0 (uh HE).1 (by omega));rintro e q1 ⟨⟨v1,rfl,hp1⟩,hb_1⟩;clear tok1;obtain ⟨u6,a6,n6,c6,rfl⟩:=hp1.shape) | (go_at_call 136;go_fit (part_any (N:=2*N+2) (q:=d') _ (((hZy.mono (by omega)).later (Below.refl _ _).drew).later hb_1) (((hV.zr.mono (by omega)).later (Below.refl _ _).drew).later hb_1) g0 (uh HE).2 (by omega));rintro e q2 ⟨⟨v2,rfl,hp2⟩,hb_2⟩;obtain ⟨j7,j8,j9,j10,rfl⟩:=hp2.shape) | (go_at_call 137;go_fit (lowest_any (N:=2*N+4) _ (hp1.later hb_2) hp2 d0 (uh HGC) (by omega));rintro e q3 ⟨⟨v3,rfl,hp3⟩,hb_3⟩;obtain ⟨f1,f2,f3,f4,f5,f6,f7,f8,rfl⟩:=hp3.shape;have hbx3:=(((hr6.later (w:=W6.drew) hb_1).later hb_2).later hb_3);obtain ⟨⟨x0,g0'⟩,⟨y0,y1,y2,g1⟩,⟨x3,g2⟩,⟨z0,z1,z2,g3⟩,gf⟩:=hbx3.cells;have hlt9:=hbx3.lt))
    have hbx3:=(((hr6.later (w:=W6.drew) hb_1).later hb_2).later hb_3)
    have hB9:=bk hb_3 (bk hb_2 (bk hb_1 hB6.drew))
    clear hst
    go_wp2
    obtain ⟨st0,st1,st2,st3⟩:=hbx3.stored (.int .i64 f1) (.slice f2 f3 f4) (.int .i64 f5) (.slice f6 f7 f8)
    refine bodyPost_ret (v:=.tuple #[.agg #[.int .i64 f1,.slice f2 f3 f4,.int .i64 f5,.slice f6 f7 f8],.bool true]) (by simp [results,Tryz.results117,go_sem,st0,st1,st2,st3]) rfl ⟨Or.inr ⟨ho0,_,p',d',rfl,(hp3.rstored hbx3 _ _ _ _).mono (by omega),?_⟩,zqf hB9 (by omega) _ _ _ _⟩
    obtain ⟨h1,h2⟩:=uh HE
    rw [show o = -(d'*g) by omega,show z = -(p'*g) by omega,Int.mul_neg,Int.neg_mul,Int.mul_assoc,Int.mul_comm d' g]
theorem rof_ratio {N:Nat}{v u:Value}{z o:Int} (w:World) (hz:Zr (N+1) w v z) (ho:Zr (N+1) w u o) (hN:N<=100000) (hT:Tab64 w) :
 Calls Tryz.prog 117 #[v,u] w fun e w'=>OfP (2*(N+1)+6) z o e w'/\Below w.heap.size w w':=by
 obtain ⟨x,a1,n1,c1,rfl⟩:=hz.shape
 obtain ⟨y,a2,n2,c2,rfl⟩:=ho.shape
 exact of_core x y a1 a2 n1 c1 n2 c2 z o w hz ho hN hT
structure R1 (w:World) (x:Int) (a:Option Addr) (n c:Nat) (y:Int) (b:Option Addr) (m k:Nat) (wr:World):Prop where
 below:Below w.heap.size w wr
 c0:wr.cell? ⟨w.heap.size,0,none⟩=some (.int .i64 x)
 c1:wr.cell? ⟨w.heap.size,1,none⟩=some (.slice a n c)
 c2:wr.cell? ⟨w.heap.size,2,none⟩=some (.int .i64 y)
 c3:wr.cell? ⟨w.heap.size,3,none⟩=some (.slice b m k)
theorem R1.keep {w wr w1:World}{x y:Int}{a b:Option Addr}{n c m k:Nat} (h:R1 w x a n c y b m k wr) (hb:Below wr.heap.size wr w1):R1 w x a n c y b m k w1 :=
 ⟨bk hb h.below,ck hb h.c0,ck hb h.c1,ck hb h.c2,ck hb h.c3⟩
theorem R1.start (w:World) (x y:Int) (a b:Option Addr) (n c m k:Nat):R1 w x a n c y b m k (w.alloc (.cells #[.int .i64 x,.slice a n c,.int .i64 y,.slice b m k] 39)) :=
 ⟨zqa w _,by rw [zqe rfl];rfl,by rw [zqe rfl];rfl,by rw [zqe rfl];rfl,by rw [zqe rfl];rfl⟩
theorem R1.lt {w wr:World}{x y:Int}{a b:Option Addr}{n c m k:Nat} (h:R1 w x a n c y b m k wr):w.heap.size<wr.heap.size:=World.block_lt_of_cell? wr _ h.c0
theorem isWhole_any {N:Nat}{v:Value}{p d:Int} (w:World) (h:Rr N w v p d) :
 Calls Tryz.prog 65 #[v] w fun e w'=>e=.returned (.bool (decide (d=1)))/\Below w.heap.size w w':=by
 obtain ⟨x,a,n,c,y,b,m,k,e,rfl,h2,h3,d0,hg,hd⟩:=h
 have hst:=R1.start w x y a b n c m k
 have HD:Hid ((sgn e == 0)=decide (d=1)):=by
  show _=_
  rw [sgn_eq_zero]
  congr 1
  exact propext ⟨fun h=>by omega,fun h=>by omega⟩
 go_enter Tryz.func65,Tryz.ntmps65
 go_wp2_with fail
 obtain ⟨W0,hW0⟩:∃ W0,W0=w.alloc (.cells #[.int .i64 x,.slice a n c,.int .i64 y,.slice b m k] 39):=⟨_,rfl⟩
 rw [<- hW0] at hst ⊢
 clear hW0
 go_fit (sign_zr _ (h3.later hst.below))
 rintro e W1 ⟨rfl,hb1⟩
 have hst:=hst.keep hb1
 clear hb1
 go_wp2
 go_ret
 exact ⟨ret_bool (uh HD),hst.below⟩
theorem decDigits_short {u k:Nat} (hk:1<=k) (h:(u:Int)<10 ^ k):(Lib.decDigits u).length<=k:=by
 rcases Nat.eq_zero_or_pos u with rfl | hp
 ·rw [Lib.decDigits,dif_pos (by decide)];simpa using hk
 ·have h3:=decDigits_head hp
  have h4:=zxp u
  have h5:=zxo u
  cases hl:Lib.decDigits u with
  | nil=>simp
  | cons a t =>
   rw [hl] at h3 h4 h5
   have ha:=h5 a (List.mem_cons_self ..)
   have ha48:a.toNat≠48:=fun e=>h3 (by rw [show a=48 from UInt8.toNat.inj e];rfl)
   have e:dec (a :: t)=((a.toNat:Int) - 48)*10 ^ t.length+dec t:=by
    rw [show a :: t=[a]++t from rfl,zkf]
    simp [dec]
   have ht:=(zjo (l:=t) (fun c hc=>h5 c (List.mem_cons_of_mem _ hc))).1
   rcases Nat.lt_or_ge t.length k with hlt | hge
   ·simp only [List.length_cons];omega
   ·exfalso
    have hm:=zxk hge
    have:(1:Int)*10 ^ t.length<=((a.toNat:Int) - 48)*10 ^ t.length:=Int.mul_le_mul_of_nonneg_right (by omega) (Int.le_of_lt (Int.pow_pos (by decide)))
    omega
theorem pw_ten (N:Nat):pw N<=(10:Int) ^ (20*N):=by
 induction N with
 | zero=>simp [pw]
 | succ N ih =>
  rw [zkg,Nat.mul_add,Int.pow_add]
  have h1:(0:Int)<10 ^ (20*N):=Int.pow_pos (by decide)
  have h2:(10:Int) ^ (20*1)=100000000000000000000:=by decide
  rw [h2];omega
theorem itoa_short {z:Int}{k:Nat} (hk:1<=k) (h0:-10 ^ k<z) (h1:z<10 ^ k):(Lib.itoa z).length<=k+1:=by
 rw [Lib.itoa]
 split
 ·have:=decDigits_short (u:=z.natAbs) hk (by omega)
  simp;omega
 ·have:=decDigits_short (u:=z.toNat) hk (by omega)
  omega
theorem Zr.abs {N:Nat}{w:World}{v:Value}{z:Int} (h:Zr N w v z):-(10:Int) ^ (20*N+20)<z/\z<10 ^ (20*N+20):=by
 have hp:(10:Int) ^ (20*N+20)=10 ^ (20*N)*100000000000000000000:=by rw [Int.pow_add];rfl
 have h1:(0:Int)<10 ^ (20*N):=Int.pow_pos (by decide)
 have h2:=pw_ten N
 rcases h with ⟨_,h3,h4⟩ | ⟨s,b,off,cap,l,_,hs,hw,_,_,rfl,hl,_⟩
 ·omega
 ·have h3:=val_lt hw
  have h4:=zqg hw
  have h5:=pw_mono hl
  rcases hs with rfl | rfl <;> omega
theorem Zr.short {N:Nat}{w:World}{v:Value}{z:Int} (h:Zr N w v z):(⟨(Lib.itoa z).toArray⟩:ByteArray).size<=20*N+21:=by
 have:=itoa_short (k:=20*N+20) (by omega) h.abs.1 h.abs.2
 show (Lib.itoa z).toArray.size<=_
 simp;omega
theorem text_op {N : Nat} {v : Value} {z : Int} (w : World) (h : Zr N w v z) (hN : N ≤ 20000) (htab : Lib.TabIs Tryz.prog w "internal/strconv.uint64pow10" .u64 Lib.pow10Tab) :
 Calls Tryz.prog 66 #[v] w fun e w'=>∃ s:ByteArray,e=.returned (.string s)/\s.size<=500000/\Hid (s=⟨(Lib.itoa z).toArray⟩)/\Below w.heap.size w w' :=
 (text_any w h hN htab).mono fun _ _ ⟨he,hb⟩=>⟨_,he,by have:=h.short;omega,rfl,hb⟩
def qtext (p d:Int):ByteArray:=if d=1 then ⟨(Lib.itoa p).toArray⟩ else ⟨(Lib.itoa p).toArray⟩++⟨#[47]⟩++⟨(Lib.itoa d).toArray⟩
theorem qtext_any {N : Nat} {v : Value} {p d : Int} (w : World) (h : Rr N w v p d) (hN : N ≤ 20000) (htab : Lib.TabIs Tryz.prog w "internal/strconv.uint64pow10" .u64 Lib.pow10Tab) :
 Calls Tryz.prog 24 #[v] w fun e w'=>e=.returned (.string (qtext p d))/\Below w.heap.size w w':=by
 have h':=h
 obtain ⟨x,a,n,c,y,b,m,k,e,rfl,h2,h3,d0,hg,hd⟩:=h
 have hst:=R1.start w x y a b n c m k
 have HTAB:=qh htab
 clear htab
 go_enter Tryz.func24,Tryz.ntmps24
 go_wp2_with fail
 obtain ⟨W0,hW0⟩:∃ W0,W0=w.alloc (.cells #[.int .i64 x,.slice a n c,.int .i64 y,.slice b m k] 39):=⟨_,rfl⟩
 rw [<- hW0] at hst ⊢
 clear hW0
 go_fit (isWhole_any _ (h'.later hst.below))
 rintro e W1 ⟨rfl,hb1⟩
 have hst:=hst.keep hb1
 clear hb1 h'
 have e1:=hst.c0
 have e2:=hst.c1
 by_cases h1:d=1
 ·subst h1
  go_wp2_with fail
  go_fit (text_any _ (h2.later hst.below) hN (zkq (uh HTAB) hst.below))
  rintro e W2 ⟨rfl,hb2⟩
  go_wp2
  go_ret
  exact ⟨by simp [qtext],bk hb2 hst.below⟩
 ·have he:e=d:=by omega
  subst he
  have hB:=hst.below
  have e3:=hst.c2
  have e4:=hst.c3
  go_wp2_with fail
  go_region_held3 (fun w'=>Below W1.heap.size W1 w'/\w'.cell? ⟨w.heap.size,0,none⟩=some (.int .i64 x)/\w'.cell? ⟨w.heap.size,1,none⟩=some (.slice a n c)/\w'.cell? ⟨w.heap.size,2,none⟩=some (.int .i64 y)/\w'.cell? ⟨w.heap.size,3,none⟩=some (.slice b m k))
   (first | exact ⟨(Below.refl _ _).drew,e1,e2,e3,e4⟩ | exact keepC4 (by assumption) (by assumption))
   (first | (go_at_call 66;go_fit (text_op _ ((h2.later hB).later (And.left (by assumption))) hN (zkq (zkq (uh HTAB) hB) (And.left (by assumption))));rintro e w2 ⟨s2,rfl,hs2,HS2,hb2⟩;have hl2:¬ 9223372036854775807<s2.size+1:=by omega) | (go_at_call 66;go_fit (text_op _ ((h3.later hB).later (And.left (by assumption))) hN (zkq (zkq (uh HTAB) hB) (And.left (by assumption))));rintro e w3 ⟨s3,rfl,hs3,HS3,hb3⟩;have hl3:¬ 9223372036854775807<s2.size+1+s3.size:=by omega))
  have hF:=bk (bk hb3 (bk hb2 (Below.refl W1.heap.size W1).drew)) hB
  go_wp2
  go_ret
  exact ⟨by simp [qtext,h1,uh HS2,uh HS3],hF⟩
def Qr (N:Nat) (w:World) (v:Value) (p d:Int):Prop:=∃ x a n c y b m k,v=.agg #[.bool x,.slice a n c,.bool y,.slice b m k]/\Nr N w (.agg #[.bool x,.slice a n c]) p/\Nr N w (.agg #[.bool y,.slice b m k]) d/\0<d/\Int.gcd p d=1
theorem Qr.later {N:Nat}{w w':World}{v:Value}{p d:Int} (h:Qr N w v p d) (hb:Below w.heap.size w w'):Qr N w' v p d:=by
 obtain ⟨x,a,n,c,y,b,m,k,h1,h2,h3,h4⟩:=h
 exact ⟨x,a,n,c,y,b,m,k,h1,h2.later hb,h3.later hb,h4⟩
theorem Qr.mono {N M:Nat}{w:World}{v:Value}{p d:Int} (h:Qr N w v p d) (hM:N<=M):Qr M w v p d:=by
 obtain ⟨x,a,n,c,y,b,m,k,h1,h2,h3,h4⟩:=h
 exact ⟨x,a,n,c,y,b,m,k,h1,h2.mono hM,h3.mono hM,h4⟩
theorem Qr.shape {N:Nat}{w:World}{v:Value}{p d:Int} (h:Qr N w v p d):∃ x a n c y b m k,v=.agg #[.bool x,.slice a n c,.bool y,.slice b m k]:=by
 obtain ⟨x,a,n,c,y,b,m,k,h1,_⟩:=h
 exact ⟨_,_,_,_,_,_,_,_,h1⟩
def QBox (w:World) (r:Nat):Prop:=∃ x a n c y b m k,w.heap[r]? = some (.cells #[.bool x,.slice a n c,.bool y,.slice b m k] 59 (0,0))
theorem zju (w:World) (x:Bool) (a:Option Addr) (n c:Nat) (y:Bool) (b:Option Addr) (m k:Nat):QBox (w.alloc (.cells #[.bool x,.slice a n c,.bool y,.slice b m k] 59)) w.heap.size:=⟨_,_,_,_,_,_,_,_,heap_alloc_new w _⟩
theorem QBox.later {w w':World}{r:Nat} (h:QBox w r) (hb:Below w.heap.size w w'):QBox w' r:=by
 obtain ⟨x,a,n,c,y,b,m,k,h⟩:=h
 exact ⟨x,a,n,c,y,b,m,k,by rw [hb.block r (Array.getElem?_eq_some_iff.1 h).1];exact h⟩
theorem QBox.cells {w:World}{r:Nat} (h:QBox w r):(∃ x,w.cell? ⟨r,0,none⟩=some (.bool x))/\(∃ a n c,w.cell? ⟨r,1,none⟩=some (.slice a n c))/\(∃ x,w.cell? ⟨r,2,none⟩=some (.bool x))/\(∃ a n c,w.cell? ⟨r,3,none⟩=some (.slice a n c))/\(∀ o,w.frozen? ⟨r,o,none⟩=false):=by
 obtain ⟨x,a,n,c,y,b,m,k,h⟩:=h
 exact ⟨⟨x,by simp [World.cell?,h]⟩,⟨a,n,c,by simp [World.cell?,h]⟩,⟨y,by simp [World.cell?,h]⟩,⟨b,m,k,by simp [World.cell?,h]⟩,fun o=>by simp [World.frozen?,h]⟩
theorem QBox.lt {w:World}{r:Nat} (h:QBox w r):r<w.heap.size:=by
 obtain ⟨x,a,n,c,y,b,m,k,h⟩:=h
 exact (Array.getElem?_eq_some_iff.1 h).1
theorem Sl.qstored {w:World}{sl:Value}{D:List Int}{r:Nat} (h:Sl w sl D) (hb:QBox w r) (u0 u1 u2 u3:Value):Sl ((((w.setCell ⟨r,0,none⟩ u0).setCell ⟨r,1,none⟩ u1).setCell ⟨r,2,none⟩ u2).setCell ⟨r,3,none⟩ u3) sl D:=by
 rcases h with h | ⟨b,cap,h1,h2,h3,h4,cur,h5⟩
 ·exact Or.inl h
 ·have hne:b≠r:=by
   rintro rfl
   obtain ⟨x,a,n,c,y,b',m,k,hq⟩:=hb
   rw [hq] at h5
   have:=(Obj.cells.inj (Option.some.inj h5)).2.1
   exact absurd this (by decide)
  refine Or.inr ⟨b,cap,h1,h2,h3,fun k hk => ?_,cur,?_⟩
  ·rw [zqb _ _ _ _ _ _ (by omega),zqb _ _ _ _ _ _ (by omega),zqb _ _ _ _ _ _ (by omega),zqb _ _ _ _ _ _ (by omega)];exact h4 k hk
  ·rw [Below.heap_setCell _ _ _ _ hne,Below.heap_setCell _ _ _ _ hne,Below.heap_setCell _ _ _ _ hne,Below.heap_setCell _ _ _ _ hne];exact h5
theorem Nr.qstored {N:Nat}{w:World}{v:Value}{z:Int}{r:Nat} (h:Nr N w v z) (hb:QBox w r) (u0 u1 u2 u3:Value):Nr N ((((w.setCell ⟨r,0,none⟩ u0).setCell ⟨r,1,none⟩ u1).setCell ⟨r,2,none⟩ u2).setCell ⟨r,3,none⟩ u3) v z:=by
 obtain ⟨neg,sl,D,h1,h2,h3⟩:=h
 exact ⟨neg,sl,D,h1,h2.qstored hb _ _ _ _,h3⟩
theorem QBox.stored {w:World}{r:Nat} (h:QBox w r) (u0 u1 u2 u3:Value):let w':=(((w.setCell ⟨r,0,none⟩ u0).setCell ⟨r,1,none⟩ u1).setCell ⟨r,2,none⟩ u2).setCell ⟨r,3,none⟩ u3
 w'.cell? ⟨r,0,none⟩=some u0/\w'.cell? ⟨r,1,none⟩=some u1/\w'.cell? ⟨r,2,none⟩=some u2/\w'.cell? ⟨r,3,none⟩=some u3:=by
 intro w'
 obtain ⟨⟨x,c0⟩,⟨a,n,c,c1⟩,⟨y,c2⟩,⟨b,m,k,c3⟩,_⟩:=h.cells
 refine ⟨?_,?_,?_,?_⟩
 ·show (World.setCell _ _ _).cell? _=_
  rw [zqb _ _ _ _ _ _ (by omega),zqb _ _ _ _ _ _ (by omega),zqb _ _ _ _ _ _ (by omega)];exact zqd c0
 ·show (World.setCell _ _ _).cell? _=_
  rw [zqb _ _ _ _ _ _ (by omega),zqb _ _ _ _ _ _ (by omega)]
  exact zqd (u:=.slice a n c) (by rw [zqb _ _ _ _ _ _ (by omega)];exact c1)
 ·show (World.setCell _ _ _).cell? _=_
  rw [zqb _ _ _ _ _ _ (by omega)]
  exact zqd (u:=.bool y) (by rw [zqb _ _ _ _ _ _ (by omega),zqb _ _ _ _ _ _ (by omega)];exact c2)
 ·show (World.setCell _ _ _).cell? _=_
  exact zqd (u:=.slice b m k) (by rw [zqb _ _ _ _ _ _ (by omega),zqb _ _ _ _ _ _ (by omega),zqb _ _ _ _ _ _ (by omega)];exact c3)
theorem QBox.beside {w:World}{b q:Nat} (h:QBox w b) (hne:b≠q) (u u':Value):QBox ((w.setCell ⟨q,0,none⟩ u).setCell ⟨q,1,none⟩ u') b:=by
 obtain ⟨x,a,n,c,y,b',m,k,h⟩:=h
 exact ⟨x,a,n,c,y,b',m,k,by rw [Below.heap_setCell _ _ _ _ hne,Below.heap_setCell _ _ _ _ hne];exact h⟩
structure OvK (w:World) (x1:Bool) (a1:Option Addr) (n1 c1:Nat) (x2:Bool) (a2:Option Addr) (n2 c2 N:Nat) (z o:Int) (W:World):Prop where
 below:Below w.heap.size w W
 a:NB W w.heap.size x1 a1 n1 c1 N z
 b:NB W (w.heap.size+1) x2 a2 n2 c2 N o
 q:QBox W (w.heap.size+2)
theorem OvK.keep {w:World}{x1:Bool}{a1:Option Addr}{n1 c1:Nat}{x2:Bool}{a2:Option Addr}{n2 c2 N:Nat}{z o:Int}{W W':World} (h:OvK w x1 a1 n1 c1 x2 a2 n2 c2 N z o W) (hb:Below W.heap.size W W'):OvK w x1 a1 n1 c1 x2 a2 n2 c2 N z o W' :=
 ⟨bk hb h.below,h.a.keep hb,h.b.keep hb,h.q.later hb⟩
theorem OvK.start {w:World}{x1:Bool}{a1:Option Addr}{n1 c1:Nat}{x2:Bool}{a2:Option Addr}{n2 c2 N:Nat}{z o:Int} (hz:Nr N w (.agg #[.bool x1,.slice a1 n1 c1]) z) (ho:Nr N w (.agg #[.bool x2,.slice a2 n2 c2]) o):OvK w x1 a1 n1 c1 x2 a2 n2 c2 N z o (((w.alloc (.cells #[.bool x1,.slice a1 n1 c1] 57)).alloc (.cells #[.bool x2,.slice a2 n2 c2] 57)).alloc (.cells #[.bool false,.slice none 0 0,.bool false,.slice none 0 0] 59)):=by
 have k3:=zqa ((w.alloc (.cells #[.bool x1,.slice a1 n1 c1] 57)).alloc (.cells #[.bool x2,.slice a2 n2 c2] 57)) (.cells #[.bool false,.slice none 0 0,.bool false,.slice none 0 0] 59)
 refine ⟨bk k3 (zqm w _ _),((NB.new hz).keep (zqa _ _)).keep k3,(NB.second ho).keep k3,?_⟩
 have:=zju ((w.alloc (.cells #[.bool x1,.slice a1 n1 c1] 57)).alloc (.cells #[.bool x2,.slice a2 n2 c2] 57)) false none 0 0 false none 0 0
 simpa using this
theorem div_exact {z g q r p:Int} (h:z=q*g+r) (r0:0<=r) (r1:r<iabs g) (e:z=p*g) (g0:0<g):q=p:=by
 have:=euclid_one (q:=p) (r:=0) (o:=g) (z:=z) (by omega) (by omega) (by unfold iabs;split <;> omega) h r0 r1
 exact this.1.symm
theorem part_small {p g z:Int}{M:Int} (e:z=p*g) (g0:0<g) (h0:-M<z) (h1:z<M):-M<p/\p<M:=by
 rcases Int.lt_or_le p 0 with h | h
 ·have:p*g<=p*1:=Int.mul_le_mul_of_nonpos_left (Int.le_of_lt h) (by omega)
  omega
 ·have:p*1<=p*g:=Int.mul_le_mul_of_nonneg_left (by omega) h
  omega
theorem over_any {N:Nat}{v u:Value}{z o:Int} (w:World) (hz:Nr N w v z) (ho:Nr N w u o) (ho0:o≠0) (hN:N<=80000) :
 Calls Tryz.prog 83 #[v,u] w fun e w'=>(∃ v p d,e=.returned v/\Qr N w' v p d/\p*o=z*d)/\Below w.heap.size w w':=by
 obtain ⟨x1,a1,n1,c1,rfl⟩:=hz.shape
 obtain ⟨x2,a2,n2,c2,rfl⟩:=ho.shape
 have hK:=OvK.start hz ho
 have hsg:=hK.b.nr.sign
 go_enter Tryz.func83,Tryz.ntmps83
 rcases hsg with ⟨rfl,hneg⟩ | ⟨rfl,hpos⟩
 ·go_wp2_with fail
  obtain ⟨W0,hW0⟩:∃ W0,W0=((w.alloc (.cells #[.bool x1,.slice a1 n1 c1] 57)).alloc (.cells #[.bool true,.slice a2 n2 c2] 57)).alloc (.cells #[.bool false,.slice none 0 0,.bool false,.slice none 0 0] 59):=⟨_,rfl⟩
  rw [<- hW0] at hK ⊢
  clear hW0
  go_fit (rneg_any _ hK.a.nr)
  rintro e W1 ⟨⟨v1,rfl,hN1⟩,hb1⟩
  obtain ⟨x3,a3,n3,c3,rfl⟩:=hN1.shape
  have hK:=hK.keep hb1
  obtain ⟨⟨f0,g0⟩,⟨f1,f2,f3,g1⟩,gf⟩:=hK.a.box.cells
  have l0:=hK.a.lt
  have hK1:OvK w x3 a3 n3 c3 true a2 n2 c2 N (-z) o ((W1.setCell ⟨w.heap.size,0,none⟩ (.bool x3)).setCell ⟨w.heap.size,1,none⟩ (.slice a3 n3 c3)) :=
   ⟨zqc hK.below (Nat.le_refl _) _ _,hK.a.stored hN1,hK.b.beside hK.a.box (by omega) _ _,hK.q.beside (by omega) _ _⟩
  have e3:=hK1.b.c0
  have e4:=hK1.b.c1
  clear hb1 hN1 hK
  go_wp2_with fail
  obtain ⟨W2,hW2⟩:∃ W2,W2=(W1.setCell ⟨w.heap.size,0,none⟩ (.bool x3)).setCell ⟨w.heap.size,1,none⟩ (.slice a3 n3 c3):=⟨_,rfl⟩
  rw [<- hW2] at hK1 ⊢
  clear hW2 e3 e4 g0 g1 gf l0
  go_fit (rneg_any _ hK1.b.nr)
  rintro e W3 ⟨⟨v3,rfl,hN3⟩,hb3⟩
  obtain ⟨x4,a4,n4,c4,rfl⟩:=hN3.shape
  have hK:=hK1.keep hb3
  obtain ⟨⟨f0,g0⟩,⟨f1,f2,f3,g1⟩,gf⟩:=hK.b.box.cells
  have l0:=hK.b.lt
  have hK3:OvK w x3 a3 n3 c3 x4 a4 n4 c4 N (-z) (-o) ((W3.setCell ⟨w.heap.size+1,0,none⟩ (.bool x4)).setCell ⟨w.heap.size+1,1,none⟩ (.slice a4 n4 c4)) :=
   ⟨zqc hK.below (by omega) _ _,hK.a.beside hK.b.box (by omega) _ _,hK.b.stored hN3,hK.q.beside (by omega) _ _⟩
  have e1:=hK3.a.c0
  have e2:=hK3.a.c1
  have e3:=hK3.b.c0
  have e4:=hK3.b.c1
  clear hb3 hN3 hK hK1
  go_wp2_with fail
  obtain ⟨W4,hW4⟩:∃ W4,W4=(W3.setCell ⟨w.heap.size+1,0,none⟩ (.bool x4)).setCell ⟨w.heap.size+1,1,none⟩ (.slice a4 n4 c4):=⟨_,rfl⟩
  rw [<- hW4] at hK3 ⊢
  clear hW4 e1 e2 e3 e4 g0 g1 gf l0
  have hK:=hK3
  clear hK3
  obtain ⟨g,p',d',hg,g0,ep,ed,d0,hgc⟩:=gcd_split (p:=(-z)) (d:=(-o)) (by omega)
  have HE:=qh (And.intro ep ed)
  have HGC:=qh hgc
  have hab:=part_small ep g0 hK.a.nr.abs.1 hK.a.nr.abs.2
  have hdb:=part_small ed g0 hK.b.nr.abs.1 hK.b.nr.abs.2
  have HAB:=qh (And.intro hab hdb)
  clear ep ed hgc hab hdb
  have e1:=hK.a.c0
  have e2:=hK.a.c1
  have e3:=hK.b.c0
  have e4:=hK.b.c1
  go_fit (rgcd_any (N:=N) _ hK.a.nr hK.b.nr (by omega))
  rintro e W5 ⟨⟨v5,rfl,hN5⟩,hb5⟩
  obtain ⟨x5,a5,n5,c5,rfl⟩:=hN5.shape
  rw [<- hg] at hN5
  have k5:=zqa W5 (.cells #[.bool x5,.slice a5 n5 c5] 57)
  have hG:=NB.new hN5
  have hK:=(hK.keep hb5).keep k5
  have HG0:=qh g0
  clear hb5 k5 hN5 e1 e2 e3 e4 hg g0
  have e1:=hK.a.c0
  have e2:=hK.a.c1
  have e3:=hG.c0
  have e4:=hG.c1
  go_wp2_with fail
  obtain ⟨W6,hW6⟩:∃ W6,W6=W5.alloc (.cells #[.bool x5,.slice a5 n5 c5] 57):=⟨_,rfl⟩
  rw [<- hW6] at hK hG ⊢
  clear hW6 e1 e2 e3 e4
  go_fit (rdivMod_any (N:=N) _ hK.a.nr hG.nr (by omega))
  rintro e W7 ⟨hd7,hb7⟩
  obtain ⟨x7,a7,n7,c7,x8,a8,n8,c8,q7,r7,rfl,hN7,hN8,hq7⟩:=dm_doc hd7
  obtain ⟨hn0,hq7,hr0,hr1⟩:=hq7.resolve_left (fun h=>by have:=uh HG0;omega)
  obtain rfl:=div_exact hq7 hr0 hr1 (uh HE).1 (uh HG0)
  have hN7:=hN7.fit (uh HAB).1.1 (uh HAB).1.2
  have k7:=zqm W7 (.cells #[.bool x7,.slice a7 n7 c7] 57) (.cells #[.bool x8,.slice a8 n8 c8] 57)
  have hP:=(NB.new hN7).keep (zqa _ (.cells #[.bool x8,.slice a8 n8 c8] 57))
  have hK:=(hK.keep hb7).keep k7
  have hG:=(hG.keep hb7).keep k7
  have hd0:(!decide (g=0))=true:=by have:=uh HG0;simp;omega
  have HR7:=qh hq7
  clear hb7 k7 hd7 hN8 hn0 hr0 hr1 hq7 hN7
  have e1:=hK.b.c0
  have e2:=hK.b.c1
  have e3:=hG.c0
  have e4:=hG.c1
  go_wp2_with fail
  obtain ⟨W8,hW8⟩:∃ W8,W8=(W7.alloc (.cells #[.bool x7,.slice a7 n7 c7] 57)).alloc (.cells #[.bool x8,.slice a8 n8 c8] 57):=⟨_,rfl⟩
  rw [<- hW8] at hK hG hP ⊢
  clear hW8 e1 e2 e3 e4
  go_fit (rdivMod_any (N:=N) _ hK.b.nr hG.nr (by omega))
  rintro e W9 ⟨hd9,hb9⟩
  obtain ⟨x9,a9,n9,c9,y1,y2,y3,y4,q9,r9,rfl,hN9,hN10,hq9⟩:=dm_doc hd9
  obtain ⟨hn0,hq9,hr0,hr1⟩:=hq9.resolve_left (fun h=>by have:=uh HG0;omega)
  obtain rfl:=div_exact hq9 hr0 hr1 (uh HE).2 (uh HG0)
  have hN9:=hN9.fit (uh HAB).2.1 (uh HAB).2.2
  have k9:=zqm W9 (.cells #[.bool x9,.slice a9 n9 c9] 57) (.cells #[.bool y1,.slice y2 y3 y4] 57)
  have hD:=(NB.new hN9).keep (zqa _ (.cells #[.bool y1,.slice y2 y3 y4] 57))
  have hK:=(hK.keep hb9).keep k9
  have hP:=(hP.keep hb9).keep k9
  have HR9:=qh hq9
  clear hb9 k9 hd9 hN10 hn0 hr0 hr1 hq9 hN9 hG
  have e1:=hP.c0
  have e2:=hP.c1
  have e3:=hD.c0
  have e4:=hD.c1
  obtain ⟨⟨f0,g0'⟩,⟨f1,f2,f3,g1⟩,⟨f4,g2⟩,⟨f5,f6,f7,g3⟩,gf⟩:=hK.q.cells
  have hlt:=hK.q.lt
  go_wp2
  obtain ⟨st0,st1,st2,st3⟩:=hK.q.stored (.bool x7) (.slice a7 n7 c7) (.bool x9) (.slice a9 n9 c9)
  refine bodyPost_ret (v:=.agg #[.bool x7,.slice a7 n7 c7,.bool x9,.slice a9 n9 c9]) (by simp [results,Tryz.results83,go_sem,st0,st1,st2,st3]) rfl ⟨⟨_,q7,q9,rfl,⟨_,_,_,_,_,_,_,_,rfl,hP.nr.qstored hK.q _ _ _ _,hD.nr.qstored hK.q _ _ _ _,d0,uh HGC⟩,?_⟩,zqf hK.below (by omega) _ _ _ _⟩
  obtain ⟨h1,h2⟩:=uh HE
  rw [show o = -(q9*g) by omega,show z = -(q7*g) by omega,Int.mul_neg,Int.neg_mul,Int.mul_assoc,Int.mul_comm q9 g]
 ·go_wp2_with fail
  obtain ⟨W0,hW0⟩:∃ W0,W0=((w.alloc (.cells #[.bool x1,.slice a1 n1 c1] 57)).alloc (.cells #[.bool false,.slice a2 n2 c2] 57)).alloc (.cells #[.bool false,.slice none 0 0,.bool false,.slice none 0 0] 59):=⟨_,rfl⟩
  rw [<- hW0] at hK ⊢
  clear hW0
  obtain ⟨g,p',d',hg,g0,ep,ed,d0,hgc⟩:=gcd_split (p:=z) (d:=o) (by omega)
  have HE:=qh (And.intro ep ed)
  have HGC:=qh hgc
  have hab:=part_small ep g0 hK.a.nr.abs.1 hK.a.nr.abs.2
  have hdb:=part_small ed g0 hK.b.nr.abs.1 hK.b.nr.abs.2
  have HAB:=qh (And.intro hab hdb)
  clear ep ed hgc hab hdb
  have e1:=hK.a.c0
  have e2:=hK.a.c1
  have e3:=hK.b.c0
  have e4:=hK.b.c1
  go_fit (rgcd_any (N:=N) _ hK.a.nr hK.b.nr (by omega))
  rintro e W5 ⟨⟨v5,rfl,hN5⟩,hb5⟩
  obtain ⟨x5,a5,n5,c5,rfl⟩:=hN5.shape
  rw [<- hg] at hN5
  have k5:=zqa W5 (.cells #[.bool x5,.slice a5 n5 c5] 57)
  have hG:=NB.new hN5
  have hK:=(hK.keep hb5).keep k5
  have HG0:=qh g0
  clear hb5 k5 hN5 e1 e2 e3 e4 hg g0
  have e1:=hK.a.c0
  have e2:=hK.a.c1
  have e3:=hG.c0
  have e4:=hG.c1
  go_wp2_with fail
  obtain ⟨W6,hW6⟩:∃ W6,W6=W5.alloc (.cells #[.bool x5,.slice a5 n5 c5] 57):=⟨_,rfl⟩
  rw [<- hW6] at hK hG ⊢
  clear hW6 e1 e2 e3 e4
  go_fit (rdivMod_any (N:=N) _ hK.a.nr hG.nr (by omega))
  rintro e W7 ⟨hd7,hb7⟩
  obtain ⟨x7,a7,n7,c7,x8,a8,n8,c8,q7,r7,rfl,hN7,hN8,hq7⟩:=dm_doc hd7
  obtain ⟨hn0,hq7,hr0,hr1⟩:=hq7.resolve_left (fun h=>by have:=uh HG0;omega)
  obtain rfl:=div_exact hq7 hr0 hr1 (uh HE).1 (uh HG0)
  have hN7:=hN7.fit (uh HAB).1.1 (uh HAB).1.2
  have k7:=zqm W7 (.cells #[.bool x7,.slice a7 n7 c7] 57) (.cells #[.bool x8,.slice a8 n8 c8] 57)
  have hP:=(NB.new hN7).keep (zqa _ (.cells #[.bool x8,.slice a8 n8 c8] 57))
  have hK:=(hK.keep hb7).keep k7
  have hG:=(hG.keep hb7).keep k7
  have hd0:(!decide (g=0))=true:=by have:=uh HG0;simp;omega
  have HR7:=qh hq7
  clear hb7 k7 hd7 hN8 hn0 hr0 hr1 hq7 hN7
  have e1:=hK.b.c0
  have e2:=hK.b.c1
  have e3:=hG.c0
  have e4:=hG.c1
  go_wp2_with fail
  obtain ⟨W8,hW8⟩:∃ W8,W8=(W7.alloc (.cells #[.bool x7,.slice a7 n7 c7] 57)).alloc (.cells #[.bool x8,.slice a8 n8 c8] 57):=⟨_,rfl⟩
  rw [<- hW8] at hK hG hP ⊢
  clear hW8 e1 e2 e3 e4
  go_fit (rdivMod_any (N:=N) _ hK.b.nr hG.nr (by omega))
  rintro e W9 ⟨hd9,hb9⟩
  obtain ⟨x9,a9,n9,c9,y1,y2,y3,y4,q9,r9,rfl,hN9,hN10,hq9⟩:=dm_doc hd9
  obtain ⟨hn0,hq9,hr0,hr1⟩:=hq9.resolve_left (fun h=>by have:=uh HG0;omega)
  obtain rfl:=div_exact hq9 hr0 hr1 (uh HE).2 (uh HG0)
  have hN9:=hN9.fit (uh HAB).2.1 (uh HAB).2.2
  have k9:=zqm W9 (.cells #[.bool x9,.slice a9 n9 c9] 57) (.cells #[.bool y1,.slice y2 y3 y4] 57)
  have hD:=(NB.new hN9).keep (zqa _ (.cells #[.bool y1,.slice y2 y3 y4] 57))
  have hK:=(hK.keep hb9).keep k9
  have hP:=(hP.keep hb9).keep k9
  have HR9:=qh hq9
  clear hb9 k9 hd9 hN10 hn0 hr0 hr1 hq9 hN9 hG
  have e1:=hP.c0
  have e2:=hP.c1
  have e3:=hD.c0
  have e4:=hD.c1
  obtain ⟨⟨f0,g0'⟩,⟨f1,f2,f3,g1⟩,⟨f4,g2⟩,⟨f5,f6,f7,g3⟩,gf⟩:=hK.q.cells
  have hlt:=hK.q.lt
  go_wp2
  obtain ⟨st0,st1,st2,st3⟩:=hK.q.stored (.bool x7) (.slice a7 n7 c7) (.bool x9) (.slice a9 n9 c9)
  refine bodyPost_ret (v:=.agg #[.bool x7,.slice a7 n7 c7,.bool x9,.slice a9 n9 c9]) (by simp [results,Tryz.results83,go_sem,st0,st1,st2,st3]) rfl ⟨⟨_,q7,q9,rfl,⟨_,_,_,_,_,_,_,_,rfl,hP.nr.qstored hK.q _ _ _ _,hD.nr.qstored hK.q _ _ _ _,d0,uh HGC⟩,?_⟩,zqf hK.below (by omega) _ _ _ _⟩
  obtain ⟨h1,h2⟩:=uh HE
  rw [h2]
  conv=>rhs;rw [h1]
  rw [Int.mul_assoc,Int.mul_comm q9 g]
structure K1 (w:World) (x:Bool) (a:Option Addr) (n c:Nat) (y:Bool) (b:Option Addr) (m k:Nat) (wr:World):Prop where
 below:Below w.heap.size w wr
 c0:wr.cell? ⟨w.heap.size,0,none⟩=some (.bool x)
 c1:wr.cell? ⟨w.heap.size,1,none⟩=some (.slice a n c)
 c2:wr.cell? ⟨w.heap.size,2,none⟩=some (.bool y)
 c3:wr.cell? ⟨w.heap.size,3,none⟩=some (.slice b m k)
theorem K1.keep {w wr w1:World}{x y:Bool}{a b:Option Addr}{n c m k:Nat} (h:K1 w x a n c y b m k wr) (hb:Below wr.heap.size wr w1):K1 w x a n c y b m k w1 :=
 ⟨bk hb h.below,ck hb h.c0,ck hb h.c1,ck hb h.c2,ck hb h.c3⟩
theorem K1.start (w:World) (x y:Bool) (a b:Option Addr) (n c m k:Nat):K1 w x a n c y b m k (w.alloc (.cells #[.bool x,.slice a n c,.bool y,.slice b m k] 59)) :=
 ⟨zqa w _,by rw [zqe rfl];rfl,by rw [zqe rfl];rfl,by rw [zqe rfl];rfl,by rw [zqe rfl];rfl⟩
theorem Nr.short {N:Nat}{w:World}{v:Value}{z:Int} (h:Nr N w v z):(⟨(Lib.itoa z).toArray⟩:ByteArray).size<=4*N+5:=by
 have h4:(10000:Int) ^ N<=10 ^ (4*N+4):=by
  have e:(10:Int) ^ (4*N+4)=10000 ^ N*10000:=by
   rw [Int.pow_add,Int.pow_mul];rfl
  have:=p4_pos N
  omega
 have h5:=h.abs
 have:=itoa_short (z:=z) (k:=4*N+4) (by omega) (by omega) (by omega)
 show (Lib.itoa z).toArray.size<=_
 simp;omega
theorem dvd_cop {d p d':Int} (h:d∣p*d') (hg:Int.gcd p d=1):d∣d':=by
 rw [<- Int.natAbs_dvd_natAbs] at h ⊢
 rw [Int.natAbs_mul] at h
 exact Nat.Coprime.dvd_of_dvd_mul_left (by rw [Nat.coprime_comm];exact hg) h
theorem lowest_one {p d p' d' z o:Int} (ho:o≠0) (h:p*o=z*d) (h':p'*o=z*d') (d0:0<d) (d0':0<d') (hg:Int.gcd p d=1) (hg':Int.gcd p' d'=1):p=p'/\d=d':=by
 have e:p*d'=p'*d:=by
  have h1:(p*d')*o=(p'*d)*o:=by
   rw [Int.mul_right_comm p,h,Int.mul_right_comm p',h',Int.mul_right_comm]
  exact Int.eq_of_mul_eq_mul_right ho h1
 have hd:d∣d':=by
  have:d∣p*d':=⟨p',by rw [e,Int.mul_comm]⟩
  exact dvd_cop this hg
 have hd':d'∣d:=by
  have:d'∣p'*d:=⟨p,by rw [<- e,Int.mul_comm]⟩
  exact dvd_cop this hg'
 have hdd:d=d':=Int.dvd_antisymm (by omega) (by omega) hd hd'
 subst hdd
 exact ⟨Int.eq_of_mul_eq_mul_right (by omega) e,rfl⟩
theorem rqsign_any {N:Nat}{v:Value}{p d:Int} (w:World) (h:Qr N w v p d) :
 Calls Tryz.prog 37 #[v] w fun e w'=>e=.returned (.int .i64 (sgn p))/\Below w.heap.size w w':=by
 obtain ⟨x,a,n,c,y,b,m,k,rfl,h2,h3,d0,hg⟩:=h
 have hst:=K1.start w x y a b n c m k
 go_enter Tryz.func37,Tryz.ntmps37
 go_wp2_with fail
 obtain ⟨W0,hW0⟩:∃ W0,W0=w.alloc (.cells #[.bool x,.slice a n c,.bool y,.slice b m k] 59):=⟨_,rfl⟩
 rw [<- hW0] at hst ⊢
 clear hW0
 obtain ⟨hB,e0,e1,e2,e3⟩:=hst
 go_wp2_with fail
 go_fit (rsign_any _ (h2.later hB))
 rintro e W1 ⟨rfl,hb1⟩
 have hB1:=bk hb1 hB
 go_wp2
 go_ret
 first | exact hB1 | exact ⟨rfl,hB1⟩
theorem kq1 {w w1 w2:World}{v0 v1 v2 v3:Value}{b:Nat} (hb:Below w1.heap.size w1 w2) (h:Below w.heap.size w w1/\w1.cell? ⟨b,0,none⟩=some v0/\w1.cell? ⟨b,1,none⟩=some v1/\w1.cell? ⟨b,2,none⟩=some v2/\w1.cell? ⟨b,3,none⟩=some v3):Below w.heap.size w w2/\w2.cell? ⟨b,0,none⟩=some v0/\w2.cell? ⟨b,1,none⟩=some v1/\w2.cell? ⟨b,2,none⟩=some v2/\w2.cell? ⟨b,3,none⟩=some v3:=by
 obtain ⟨h0,h1,h2,h3,h4⟩:=h
 exact ⟨bk hb h0,ck hb h1,ck hb h2,ck hb h3,ck hb h4⟩
theorem kq1_store {w w1:World}{r b:Nat}{v0 v1 v2 v3 u0 u1 u2 u3:Value} (h:Below w.heap.size w w1/\w1.cell? ⟨b,0,none⟩=some v0/\w1.cell? ⟨b,1,none⟩=some v1/\w1.cell? ⟨b,2,none⟩=some v2/\w1.cell? ⟨b,3,none⟩=some v3) (hr:w.heap.size<=r) (hb:b≠r) :
 let w2:=(((w1.setCell ⟨r,0,none⟩ u0).setCell ⟨r,1,none⟩ u1).setCell ⟨r,2,none⟩ u2).setCell ⟨r,3,none⟩ u3
 Below w.heap.size w w2/\w2.cell? ⟨b,0,none⟩=some v0/\w2.cell? ⟨b,1,none⟩=some v1/\w2.cell? ⟨b,2,none⟩=some v2/\w2.cell? ⟨b,3,none⟩=some v3:=by
 intro w2
 obtain ⟨k1,k3,k4,k5,k6⟩:=h
 have hc:∀ o v,w1.cell? ⟨b,o,none⟩=some v->w2.cell? ⟨b,o,none⟩=some v:=fun o v hv=>by
  show (World.setCell _ _ _).cell? _=_
  rw [zqb _ _ _ _ _ _ (by omega),zqb _ _ _ _ _ _ (by omega),zqb _ _ _ _ _ _ (by omega),zqb _ _ _ _ _ _ (by omega)]
  exact hv
 exact ⟨zqf k1 hr _ _ _ _,hc _ _ k3,hc _ _ k4,hc _ _ k5,hc _ _ k6⟩
theorem rqneg_any {N:Nat}{v:Value}{p d:Int} (w:World) (h:Qr N w v p d) :
 Calls Tryz.prog 93 #[v] w fun e w'=>(∃ v,e=.returned v/\Qr N w' v (-p) d)/\Below w.heap.size w w':=by
 obtain ⟨x,a,n,c,y,b,m,k,rfl,h2,h3,d0,hg⟩:=h
 have hst:=(K1.start w x y a b n c m k).keep (zqa _ (.cells #[.bool false,.slice none 0 0,.bool false,.slice none 0 0] 59))
 have hq:=zju (w.alloc (.cells #[.bool x,.slice a n c,.bool y,.slice b m k] 59)) false none 0 0 false none 0 0
 rw [show (w.alloc (.cells #[.bool x,.slice a n c,.bool y,.slice b m k] 59)).heap.size=w.heap.size+1 by simp] at hq
 go_enter Tryz.func93,Tryz.ntmps93
 go_wp2_with fail
 obtain ⟨W0,hW0⟩:∃ W0,W0=(w.alloc (.cells #[.bool x,.slice a n c,.bool y,.slice b m k] 59)).alloc (.cells #[.bool false,.slice none 0 0,.bool false,.slice none 0 0] 59):=⟨_,rfl⟩
 rw [<- hW0] at hst hq ⊢
 clear hW0
 obtain ⟨hB,e0,e1,e2,e3⟩:=hst
 go_wp2_with fail
 go_region_held3 (fun w'=>Below w.heap.size w w'/\w'.cell? ⟨w.heap.size,0,none⟩=some (.bool x)/\w'.cell? ⟨w.heap.size,1,none⟩=some (.slice a n c)/\w'.cell? ⟨w.heap.size,2,none⟩=some (.bool y)/\w'.cell? ⟨w.heap.size,3,none⟩=some (.slice b m k))
  (first | exact ⟨hB.drew,e0,e1,e2,e3⟩ | exact uh S1 | exact kq1_store (uh S1) (by omega) (by omega))
  (first | (go_at_call 145;go_fit (rneg_any _ (h2.later hB.drew));rintro e W1 ⟨⟨v1,rfl,hN1⟩,hb1⟩;obtain ⟨u1,a1,n1,c1,rfl⟩:=hN1.shape;have S1:=qh (kq1 hb1 ⟨hB.drew,e0,e1,e2,e3⟩);have hbx:=hq.later (w:=W0.drew) hb1;obtain ⟨⟨j0,g0⟩,⟨j1,j2,j3,g1⟩,⟨j4,g2⟩,⟨j5,j6,j7,g3⟩,gf⟩:=hbx.cells;have hlt:=hbx.lt))
 have hB:=(uh S1).1
 have hbx:=hq.later (w:=W0.drew) hb1
 go_wp2
 obtain ⟨st0,st1,st2,st3⟩:=hbx.stored (.bool u1) (.slice a1 n1 c1) (.bool y) (.slice b m k)
 exact bodyPost_ret (v:=.agg #[.bool u1,.slice a1 n1 c1,.bool y,.slice b m k]) (by simp [results,Tryz.results93,go_sem,st0,st1,st2,st3]) rfl ⟨⟨_,rfl,⟨_,_,_,_,_,_,_,_,rfl,hN1.qstored hbx _ _ _ _,(h3.later hB).qstored hbx _ _ _ _,d0,by rw [Int.neg_gcd];exact hg⟩⟩,zqf hB (by omega) _ _ _ _⟩
theorem rsmall_zero (w:World) :
 Calls Tryz.prog 82 #[.int .i64 0] w fun e w'=>(∃ v,e=.returned v/\Nr 0 w' v 0)/\Below w.heap.size w w':=by
 have hbx:=zji w false none 0 0
 have hk0:=zqa w (.cells #[.bool false,.slice none 0 0] 57)
 go_enter Tryz.func82,Tryz.ntmps82
 go_wp2_with fail
 go_loopg [0,4] 0 (fun k nv dv wr=>nv=.int .i64 0/\dv=.slice none 0 0/\Below w.heap.size w wr/\NBox wr w.heap.size)
 case atStart=>exact ⟨rfl,rfl,hk0,hbx⟩
 case round =>
  obtain ⟨rfl,rfl,hB,hbx1⟩:=hrel
  obtain ⟨⟨x0,g0⟩,⟨a0,n0,c0,g1⟩,gf⟩:=hbx1.cells
  have hlt:w.heap.size<wr.heap.size:=World.block_lt_of_cell? wr _ g0
  go_wp2
  obtain ⟨st0,st1⟩:=hbx1.stored (.bool false) (.slice none 0 0)
  exact bodyPost_ret (v:=.agg #[.bool false,.slice none 0 0]) (by simp [results,Tryz.results82,go_sem,st0,st1]) rfl ⟨⟨_,rfl,nr_zero _⟩,zqc hB (Nat.le_refl _) _ _⟩
theorem rint_of {N:Nat}{i:Int} (w:World) (hs:∀ w:World,Calls Tryz.prog 82 #[.int .i64 i] w fun e w'=>(∃ v,e=.returned v/\Nr N w' v i)/\Below w.heap.size w w') :
 Calls Tryz.prog 39 #[.int .i64 i] w fun e w'=>(∃ v,e=.returned v/\Qr (N+1) w' v i 1)/\Below w.heap.size w w':=by
 have hB:=zqa w (.cells #[.bool false,.slice none 0 0,.bool false,.slice none 0 0] 59)
 have hq:=zju w false none 0 0 false none 0 0
 go_enter Tryz.func39,Tryz.ntmps39
 go_wp2_with fail
 obtain ⟨W0,hW0⟩:∃ W0,W0=w.alloc (.cells #[.bool false,.slice none 0 0,.bool false,.slice none 0 0] 59):=⟨_,rfl⟩
 rw [<- hW0] at hB hq ⊢
 clear hW0
 go_fit (hs _)
 rintro e W1 ⟨⟨v1,rfl,hN1⟩,hb1⟩
 obtain ⟨u1,a1,n1,c1,rfl⟩:=hN1.shape
 have hB:=bk hb1 hB
 have hq:=hq.later hb1
 clear hb1
 go_wp2_with fail
 go_fit (zxn 1 _ (by decide) (by decide))
 rintro e W2 ⟨⟨v2,rfl,hN2⟩,hb2⟩
 obtain ⟨u2,a2,n2,c2,rfl⟩:=hN2.shape
 have hB:=bk hb2 hB
 have hbx:=hq.later hb2
 have hN1:=hN1.later hb2
 clear hb2
 obtain ⟨⟨j0,g0⟩,⟨j1,j2,j3,g1⟩,⟨j4,g2⟩,⟨j5,j6,j7,g3⟩,gf⟩:=hbx.cells
 have hlt:=hbx.lt
 go_wp2
 obtain ⟨st0,st1,st2,st3⟩:=hbx.stored (.bool u1) (.slice a1 n1 c1) (.bool u2) (.slice a2 n2 c2)
 exact bodyPost_ret (v:=.agg #[.bool u1,.slice a1 n1 c1,.bool u2,.slice a2 n2 c2]) (by simp [results,Tryz.results39,go_sem,st0,st1,st2,st3]) rfl ⟨⟨_,rfl,⟨_,_,_,_,_,_,_,_,rfl,(hN1.mono (by omega)).qstored hbx _ _ _ _,(hN2.mono (by omega)).qstored hbx _ _ _ _,by decide,by simp⟩⟩,zqf hB (by omega) _ _ _ _⟩
theorem rint_zero (w:World):Calls Tryz.prog 39 #[.int .i64 0] w fun e w'=>(∃ v,e=.returned v/\Qr 1 w' v 0 1)/\Below w.heap.size w w':=rint_of (N:=0) w rsmall_zero
structure Chn (a0 b0 c0 d0 n m ln lm a b c d:Int):Prop where
 n0:0<=n
 m0:0<=m
 ln0:0<=ln
 lm0:0<=lm
 det:n*lm - ln*m=1\/n*lm - ln*m = -1
 same:(n*a+ln*b=a0/\m*a+lm*b=b0/\n*c+ln*d=c0/\m*c+lm*d=d0)\/(n*a+ln*b=c0/\m*a+lm*b=d0/\n*c+ln*d=a0/\m*c+lm*d=b0)
theorem Chn.start (a b c d:Int):Chn a b c d 1 0 0 1 a b c d:=⟨by decide,by decide,by decide,by decide,Or.inl (by decide),Or.inl ⟨by omega,by omega,by omega,by omega⟩⟩
theorem chn_r1 {n ln a b k r:Int} (h:a=r+b*k):(k*n+ln)*b+n*r=n*a+ln*b:=by rw [h];grind
theorem chn_r2 {n m ln lm k:Int}:(k*n+ln)*m - n*(k*m+lm) = -(n*lm - ln*m):=by grind
theorem Chn.step {a0 b0 c0 d0 n m ln lm a b c d:Int} (h:Chn a0 b0 c0 d0 n m ln lm a b c d) (k0:0<=a / b) (hk:a / b=c / d):Chn a0 b0 c0 d0 (a / b*n+ln) (a / b*m+lm) n m d (c % d) b (a % b):=by
 have h3:=(Int.emod_add_mul_ediv a b).symm
 have g3:=(Int.emod_add_mul_ediv c d).symm
 rw [<- hk] at g3
 have e1:=Int.mul_nonneg k0 h.n0
 have e2:=Int.mul_nonneg k0 h.m0
 have:=h.ln0
 have:=h.lm0
 refine ⟨by omega,by omega,h.n0,h.m0,?_,?_⟩
 ·have e:=chn_r2 (n:=n) (m:=m) (ln:=ln) (lm:=lm) (k:=a / b)
  rcases h.det with d | d <;> omega
 ·rw [chn_r1 h3,chn_r1 h3,chn_r1 g3,chn_r1 g3]
  rcases h.same with ⟨q1,q2,q3,q4⟩ | ⟨q1,q2,q3,q4⟩
  ·exact Or.inr ⟨q3,q4,q1,q2⟩
  ·exact Or.inl ⟨q3,q4,q1,q2⟩
theorem Chn.small {a0 b0 c0 d0 n m ln lm a b c d M:Int} (h:Chn a0 b0 c0 d0 n m ln lm a b c d) (a1:0<a) (b1:0<b) (ha:a0<=M) (hb:b0<=M) (hc:c0<=M) (hd:d0<=M):n<=M/\m<=M/\ln<=M/\lm<=M/\n*(a / b)<=M/\m*(a / b)<=M:=by
 obtain ⟨h1,h2,h3,h4,-,hs⟩:=h
 have key:∀ x y X:Int,0<=x->0<=y->x*a+y*b=X->X<=M->x<=M/\y<=M/\x*(a / b)<=M:=by
  intro x y X hx hy he hX
  have k1:x*1<=x*a:=Int.mul_le_mul_of_nonneg_left (by omega) hx
  have k2:y*1<=y*b:=Int.mul_le_mul_of_nonneg_left (by omega) hy
  have k3:a / b<=a:=Int.ediv_le_self _ (by omega)
  have k4:x*(a / b)<=x*a:=Int.mul_le_mul_of_nonneg_left k3 hx
  exact ⟨by omega,by omega,by omega⟩
 rcases hs with ⟨q1,q2,_,_⟩ | ⟨q1,q2,_,_⟩
 ·obtain ⟨a1,a2,a3⟩:=key _ _ _ h1 h3 q1 ha
  obtain ⟨b1,b2,b3⟩:=key _ _ _ h2 h4 q2 hb
  exact ⟨a1,b1,a2,b2,a3,b3⟩
 ·obtain ⟨a1,a2,a3⟩:=key _ _ _ h1 h3 q1 hc
  obtain ⟨b1,b2,b3⟩:=key _ _ _ h2 h4 q2 hd
  exact ⟨a1,b1,a2,b2,a3,b3⟩
end Go.Proofs.YtkdobjmhammhbaaGreatDoor
