import Derived.Test.YtkdobjmhammhbaaGreatDoorMW22p
import Derived.Test.YtkdobjmhammhbaaGreatDoorMW22n
import Derived.Test.YtkdobjmhammhbaaGreatDoorMWJ
import Derived.Test.YtkdobjmhammhbaaGreatDoorMGC
import Derived.Test.YtkdobjmhammhbaaGreatDoorMR21
namespace Go.Proofs.YtkdobjmhammhbaaGreatDoor
open Go.RowKit
theorem divMod_any {N:Nat}{v u:Value}{z o:Int} (w:World) (hz:Zr (N+1) w v z) (ho:Zr (N+1) w u o) (hlim:N≤700000) :
   Calls Tryz.prog 162 #[v,u] w fun e w'=>((o=0∧e=.returned (.tuple #[.agg #[.int .i64 0,.slice none 0 0],.agg #[.int .i64 0,.slice none 0 0],.bool false]))∨(o≠0∧∃ vq vr q r,e=.returned (.tuple #[vq,vr,.bool true])∧Zr (N+3) w' vq q∧Zr (N+3) w' vr r∧q*o+r=z∧0≤r∧r<iabs o))∧Below w.heap.size w w':=by
 obtain ⟨x,a1,n1,c1,rfl⟩:=hz.shape
 obtain ⟨y,a2,n2,c2,hu,hsg,_⟩:=ho.sgn
 subst hu
 rcases Int.lt_trichotomy o 0 with h | h | h
 · exact (divMod_neg x y a1 a2 n1 c1 n2 c2 z o w hz ho h hlim).mono fun e w' ⟨h1,h2⟩=>⟨Or.inr ⟨by omega,h1⟩,h2⟩
 · exact (divMod_zero x y a1 a2 n1 c1 n2 c2 w (by rw [hsg,h];rfl)).mono fun e w' ⟨h1,h2⟩=>⟨Or.inl ⟨h,h1⟩,h2⟩
 · exact (divMod_pos x y a1 a2 n1 c1 n2 c2 z o w hz ho h hlim).mono fun e w' ⟨h1,h2⟩=>⟨Or.inr ⟨by omega,h1⟩,h2⟩
def B1 (w:World) (x:Int) (a:Option Addr) (n c:Nat) (w':World):Prop:=Below w.heap.size w w'∧w'.cell? ⟨w.heap.size,0,none⟩=some (.int .i64 x)∧w'.cell? ⟨w.heap.size,1,none⟩=some (.slice a n c)
theorem B1.keep {w w1 w2:World}{x:Int}{a:Option Addr}{n c:Nat} (hb:Below w1.heap.size w1 w2) (h:Below w.heap.size w w1∧w1.cell? ⟨w.heap.size,0,none⟩=some (.int .i64 x)∧w1.cell? ⟨w.heap.size,1,none⟩=some (.slice a n c)):Below w.heap.size w w2∧w2.cell? ⟨w.heap.size,0,none⟩=some (.int .i64 x)∧w2.cell? ⟨w.heap.size,1,none⟩=some (.slice a n c) :=
 ⟨bk hb h.1,ck hb h.2.1,ck hb h.2.2⟩
theorem sgn_eq_zero {z:Int}:(sgn z == 0)=decide (z=0):=by
 rcases zql z with ⟨a,b,c⟩ | ⟨a,b,c⟩ | ⟨a,b,c⟩ <;> rw [b] <;> simp <;> omega
set_option maxHeartbeats 1000000 in
theorem isOne_any {N:Nat}{v:Value}{z:Int} (w:World) (hz:Zr (N+1) w v z) (hN:N≤800000) :
   Calls Tryz.prog 187 #[v] w fun e w'=>e=.returned (.bool (decide (z=1)))∧Below w.heap.size w w':=by
 obtain ⟨x,a,n,c,rfl⟩:=hz.shape
 have k1:=zqa w (.cells #[.int .i64 x,.slice a n c] 37)
 have HZ:=qh hz
 clear hz
 go_enter Tryz.func187,Tryz.ntmps187
 go_wp2_with fail
 obtain ⟨W1,hW1⟩:∃ W1,W1=w.alloc (.cells #[.int .i64 x,.slice a n c] 37):=⟨_,rfl⟩
 have hc0:W1.cell? ⟨w.heap.size,0,none⟩=some (.int .i64 x):=by rw [hW1,nc rfl];rfl
 have hc1:W1.cell? ⟨w.heap.size,1,none⟩=some (.slice a n c):=by rw [hW1,nc rfl];rfl
 rw [← hW1] at k1 ⊢
 clear hW1
 go_region_held3 (fun w'=>Below w.heap.size w w'∧w'.cell? ⟨w.heap.size,0,none⟩=some (.int .i64 x)∧w'.cell? ⟨w.heap.size,1,none⟩=some (.slice a n c))
   (first | exact ⟨k1.drew,hc0,hc1⟩ | exact B1.keep (by assumption) (by assumption))
   (first | (go_at_call 102;go_fit (of_any 1 _);rintro e w2 ⟨rfl,hb2⟩) | (go_at_call 79;go_fit (cmp_any (N:=N) (z:=z) (o:=1) _ ((uh HZ).later (And.left (by assumption))) (Zr.near _ (by decide) (by decide)) hN);rintro e w3 ⟨rfl,hb3⟩))
 go_wp2
 go_ret
 refine ⟨ret_bool ?_,bk hb3 (bk hb2 k1.drew)⟩
 rw [sgn_eq_zero]
 congr 1
 exact propext ⟨fun h=>by omega,fun h=>by omega⟩
structure Z2 (w:World) (x:Int) (a1:Option Addr) (n1 c1:Nat) (y:Int) (a2:Option Addr) (n2 c2:Nat) (wr:World):Prop where
 below:Below w.heap.size w wr
 box:Box wr (w.heap.size+2)
 c0:wr.cell? ⟨w.heap.size,0,none⟩=some (.int .i64 x)
 c1:wr.cell? ⟨w.heap.size,1,none⟩=some (.slice a1 n1 c1)
 d0:wr.cell? ⟨w.heap.size+1,0,none⟩=some (.int .i64 y)
 d1:wr.cell? ⟨w.heap.size+1,1,none⟩=some (.slice a2 n2 c2)
theorem Z2.keep {w wr w1:World}{x y:Int}{a1 a2:Option Addr}{n1 c1 n2 c2:Nat} (h:Z2 w x a1 n1 c1 y a2 n2 c2 wr) (hb:Below wr.heap.size wr w1):Z2 w x a1 n1 c1 y a2 n2 c2 w1 :=
 ⟨bk hb h.below,h.box.later hb,ck hb h.c0,ck hb h.c1,ck hb h.d0,ck hb h.d1⟩
theorem Z2.start (w:World) (x y:Int) (a1 a2:Option Addr) (n1 c1 n2 c2:Nat):Z2 w x a1 n1 c1 y a2 n2 c2 (((w.alloc (.cells #[.int .i64 x,.slice a1 n1 c1] 37)).alloc (.cells #[.int .i64 y,.slice a2 n2 c2] 37)).alloc (.cells #[.int .i64 0,.slice none 0 0] 37)):=by
 have k1:=zqa w (.cells #[.int .i64 x,.slice a1 n1 c1] 37)
 have k2:=zqa (w.alloc (.cells #[.int .i64 x,.slice a1 n1 c1] 37)) (.cells #[.int .i64 y,.slice a2 n2 c2] 37)
 have k3:=zqa ((w.alloc (.cells #[.int .i64 x,.slice a1 n1 c1] 37)).alloc (.cells #[.int .i64 y,.slice a2 n2 c2] 37)) (.cells #[.int .i64 0,.slice none 0 0] 37)
 refine ⟨bk k3 (bk k2 k1),?_,ck k3 (ck k2 ?_),ck k3 (ck k2 ?_),ck k3 ?_,ck k3 ?_⟩
 · have:=zxe ((w.alloc (.cells #[.int .i64 x,.slice a1 n1 c1] 37)).alloc (.cells #[.int .i64 y,.slice a2 n2 c2] 37))
   simpa using this
 · rw [nc rfl];rfl
 · rw [nc rfl];rfl
 · rw [nc (by simp)];rfl
 · rw [nc (by simp)];rfl
theorem Z2.lt {w wr:World}{x y:Int}{a1 a2:Option Addr}{n1 c1 n2 c2:Nat} (h:Z2 w x a1 n1 c1 y a2 n2 c2 wr):w.heap.size+2<wr.heap.size:=by
 obtain ⟨x,a,n,c,h⟩:=h.box
 exact (Array.getElem?_eq_some_iff.1 h).1
set_option maxHeartbeats 1000000 in
theorem zka {N:Nat}{v u:Value}{z d q:Int} (w:World) (hz:Zr (N+1) w v z) (hd:Zr (N+1) w u d) (d0:0<d) (he:z=q*d) (hN:N≤700000) :
   Calls Tryz.prog 136 #[v,u] w fun e w'=>(∃ v,e=.returned v∧Zr (N+3) w' v q)∧Below w.heap.size w w':=by
 obtain ⟨x,a1,n1,c1,rfl⟩:=hz.shape
 obtain ⟨y,a2,n2,c2,rfl⟩:=hd.shape
 have hst:=Z2.start w x y a1 a2 n1 c1 n2 c2
 have HE:=qh he
 clear he
 go_enter Tryz.func136,Tryz.ntmps136
 go_wp2_with fail
 obtain ⟨W0,hW0⟩:∃ W0,W0=((w.alloc (.cells #[.int .i64 x,.slice a1 n1 c1] 37)).alloc (.cells #[.int .i64 y,.slice a2 n2 c2] 37)).alloc (.cells #[.int .i64 0,.slice none 0 0] 37):=⟨_,rfl⟩
 rw [← hW0] at hst ⊢
 clear hW0
 go_fit (isOne_any (N:=N) _ (hd.later hst.below) (by omega))
 rintro e W1 ⟨rfl,hb1⟩
 have hst:=hst.keep hb1
 clear hb1
 have e1:=hst.c0
 have e2:=hst.c1
 have e3:=hst.d0
 have e4:=hst.d1
 by_cases h1:d=1
 · subst h1
   obtain ⟨⟨x0,g0⟩,⟨a0,n0,c0,g1⟩,gf⟩:=hst.box.cells
   have hlt:=hst.lt
   go_wp2
   obtain ⟨st0,st1⟩:=hst.box.stored (.int .i64 x) (.slice a1 n1 c1)
   exact bodyPost_ret (v:=.agg #[.int .i64 x,.slice a1 n1 c1]) (by simp [results,Tryz.results136,go_sem,st0,st1]) rfl ⟨⟨_,rfl,(((hz.later hst.below).stored hst.box _ _).mono (by omega)).eq (by have:=uh HE;omega)⟩,zqc hst.below (by omega) _ _⟩
 · go_wp2_with fail
   go_fit (divMod_any (N:=N) _ (hz.later hst.below) (hd.later hst.below) hN)
   rintro e W2 ⟨hd2,hb2⟩
   have hst:=hst.keep hb2
   clear hb2 e1 e2 e3 e4
   rcases hd2 with ⟨h,_⟩ | ⟨_,vq,vr,q',r',rfl,hq,hr,e5,r0,r1⟩
   · omega
   · have hqq:q'=q:=by
       have hh:=uh HE
       have e:(q' - q)*d = -r':=by rw [Int.sub_mul];omega
       have hab:iabs d=d:=by unfold iabs;rw [if_neg (by omega)]
       rw [hab] at r1
       by_cases g:q'=q
       · exact g
       · exfalso
         rcases Int.lt_or_gt_of_ne g with g | g
         · have:(q' - q)*d≤(-1)*d:=Int.mul_le_mul_of_nonneg_right (by omega) (by omega)
           omega
         · have:1*d≤(q' - q)*d:=Int.mul_le_mul_of_nonneg_right (by omega) (by omega)
           omega
     subst hqq
     obtain ⟨u3,a3,n3,c3,rfl⟩:=hq.shape
     obtain ⟨u4,a4,n4,c4,rfl⟩:=hr.shape
     have k:=zqf W2 (.cells #[.int .i64 u3,.slice a3 n3 c3] 37) (.cells #[.int .i64 u4,.slice a4 n4 c4] 37)
     have hst:=hst.keep k
     have hq:=hq.later k
     have f0:=ck (zqa _ (.cells #[.int .i64 u4,.slice a4 n4 c4] 37)) (show (W2.alloc (.cells #[.int .i64 u3,.slice a3 n3 c3] 37)).cell? ⟨W2.heap.size,0,none⟩=some (.int .i64 u3) by rw [nc rfl];rfl)
     have f1:=ck (zqa _ (.cells #[.int .i64 u4,.slice a4 n4 c4] 37)) (show (W2.alloc (.cells #[.int .i64 u3,.slice a3 n3 c3] 37)).cell? ⟨W2.heap.size,1,none⟩=some (.slice a3 n3 c3) by rw [nc rfl];rfl)
     obtain ⟨⟨x0,g0⟩,⟨a0,n0,c0,g1⟩,gf⟩:=hst.box.cells
     have hlt:=hst.lt
     clear k
     go_wp2
     obtain ⟨st0,st1⟩:=hst.box.stored (.int .i64 u3) (.slice a3 n3 c3)
     exact bodyPost_ret (v:=.agg #[.int .i64 u3,.slice a3 n3 c3]) (by simp [results,Tryz.results136,go_sem,st0,st1]) rfl ⟨⟨_,rfl,hq.stored hst.box _ _⟩,zqc hst.below (by omega) _ _⟩
structure Sm (w:World) (ba bb bx by':Nat) (x1:Bool) (a1:Option Addr) (n1 c1:Nat) (x2:Bool) (a2:Option Addr) (n2 c2:Nat) (u3:Int) (a3:Option Addr) (n3 c3:Nat) (u4:Int) (a4:Option Addr) (n4 c4:Nat) (z o:Int) (W:World):Prop where
 B:Below w.heap.size w W
 a:NB W ba x1 a1 n1 c1 75 z
 b:NB W bb x2 a2 n2 c2 75 o
 x:Vr W bx u3 a3 n3 c3 16 z
 y:Vr W by' u4 a4 n4 c4 16 o
theorem Sm.keep {w:World}{ba bb bx by':Nat}{x1:Bool}{a1:Option Addr}{n1 c1:Nat}{x2:Bool}{a2:Option Addr}{n2 c2:Nat}{u3:Int}{a3:Option Addr}{n3 c3:Nat}{u4:Int}{a4:Option Addr}{n4 c4:Nat}{z o:Int}{W W':World} (h:Sm w ba bb bx by' x1 a1 n1 c1 x2 a2 n2 c2 u3 a3 n3 c3 u4 a4 n4 c4 z o W) (hb:Below W.heap.size W W'):Sm w ba bb bx by' x1 a1 n1 c1 x2 a2 n2 c2 u3 a3 n3 c3 u4 a4 n4 c4 z o W' :=
 ⟨bk hb h.B,h.a.keep hb,h.b.keep hb,h.x.keep hb,h.y.keep hb⟩
theorem sign_zr {N:Nat}{v:Value}{z:Int} (w:World) (h:Zr N w v z):Calls Tryz.prog 118 #[v] w fun e w'=>e=.returned (.int .i64 (sgn z))∧Below w.heap.size w w':=by
 obtain ⟨near,a,n,c,rfl,hs,_⟩:=h.sgn
 rw [← hs]
 exact zqo near _ w
theorem euclid_one {q r p m o z:Int} (e1:q*o+r=z) (r0:0≤r) (r1:r<iabs o) (e2:z=p*o+m) (m0:0≤m) (m1:m<iabs o):q=p∧r=m:=by
 have e:(q - p)*o=m - r:=by rw [Int.sub_mul];omega
 have hq:q=p:=by
   by_cases h:q=p
   · exact h
   · exfalso
     have h1:(iabs o)*1≤(iabs o)*((q - p).natAbs:Int):=Int.mul_le_mul_of_nonneg_left (by omega) (by omega)
     have h2:(((q - p)*o).natAbs:Int)=iabs o*((q - p).natAbs:Int):=by
       rw [Int.natAbs_mul,Int.natCast_mul,Int.mul_comm]
       congr 1
       unfold iabs;split <;> omega
     rw [e] at h2
     omega
 subst hq
 exact ⟨rfl,by simp at e;omega⟩
theorem nr_zero (w:World):Nr 0 w (.agg #[.bool false,.slice none 0 0]) 0:=⟨false,_,[],rfl,Or.inl ⟨rfl,rfl⟩,P4.nil,Or.inl rfl,by simp,fun _=>rfl,by simp [v4]⟩
theorem dm_doc {N:Nat}{e:Ending}{w:World}{z o:Int} (h:DivP N z o e w) :
   ∃ xq aq nq cq xr ar nr cr q r,e=.returned (.tuple #[.agg #[.bool xq,.slice aq nq cq],.agg #[.bool xr,.slice ar nr cr],.bool (!decide (o=0))])∧Nr N w (.agg #[.bool xq,.slice aq nq cq]) q∧Nr N w (.agg #[.bool xr,.slice ar nr cr]) r∧((o=0∧q=0∧r=0)∨(o≠0∧z=q*o+r∧0≤r∧r<iabs o)):=by
 rcases h with ⟨h,rfl⟩ | ⟨h,vq,vr,q,r,rfl,h1,h2,h3⟩
 · exact ⟨_,_,_,_,_,_,_,_,0,0,by simp [h],(nr_zero w).mono (Nat.zero_le _),(nr_zero w).mono (Nat.zero_le _),Or.inl ⟨h,rfl,rfl⟩⟩
 · obtain ⟨_,_,_,_,rfl⟩:=h1.shape
   obtain ⟨_,_,_,_,rfl⟩:=h2.shape
   exact ⟨_,_,_,_,_,_,_,_,q,r,by simp [h],h1,h2,Or.inr ⟨h,h3⟩⟩
theorem Vr.second {w:World}{o1:Obj}{u:Int}{a:Option Addr}{n c N:Nat}{z:Int} (h:Zr N w (.agg #[.int .i64 u,.slice a n c]) z):Vr ((w.alloc o1).alloc (.cells #[.int .i64 u,.slice a n c] 37)) (w.heap.size+1) u a n c N z:=by
 have:=Vr.new (h.later (zqa w o1))
 simpa using this
theorem NB.second {w:World}{o1:Obj}{x:Bool}{a:Option Addr}{n c N:Nat}{z:Int} (h:Nr N w (.agg #[.bool x,.slice a n c]) z):NB ((w.alloc o1).alloc (.cells #[.bool x,.slice a n c] 57)) (w.heap.size+1) x a n c N z:=by
 have:=NB.new (h.later (zqa w o1))
 simpa using this
end Go.Proofs.YtkdobjmhammhbaaGreatDoor
