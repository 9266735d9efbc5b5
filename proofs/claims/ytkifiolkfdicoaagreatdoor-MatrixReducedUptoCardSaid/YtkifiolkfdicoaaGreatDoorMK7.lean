import Derived.Test.YtkifiolkfdicoaaGreatDoorMEA
import Derived.Test.YtkifiolkfdicoaaGreatDoorMK5
namespace Go.Proofs.YtkifiolkfdicoaaGreatDoor
open Go.RowKit
theorem ScK.putAb {A:Nat→Addr}{w w1:World}{b1 b2 T:Nat}{a a' s x1 y1 u1:Int}{x2 y2 u2:Option Addr}{x3 x4 y3 y4 u3 u4:Nat} (h:ScK A w b1 b2 T a s x1 x2 x3 x4 y1 y2 y3 y4 w1) (hz:Zr T w1 (.agg #[.int .i64 u1,.slice u2 u3 u4]) a') (hA:Env A w):ScK A w b1 b2 T a' s u1 u2 u3 u4 y1 y2 y3 y4 ((w1.setCell ⟨b1,0,none⟩ (.int .i64 u1)).setCell ⟨b1,1,none⟩ (.slice u2 u3 u4)):=by
 have hb:=zqc h.below (Nat.le_of_lt h.l1) (.int .i64 u1) (.slice u2 u3 u4)
 exact ⟨hb,hA.later hb,h.ret.aside2 (by have:=h.l1;omega) _ _,h.ab.store hz,h.sh.other h.ab.box (Ne.symm h.ne) _ _ _ _,h.l1,h.l2,h.ne⟩
theorem ScK.putSh {A:Nat→Addr}{w w1:World}{b1 b2 T:Nat}{a s s' x1 y1 u1:Int}{x2 y2 u2:Option Addr}{x3 x4 y3 y4 u3 u4:Nat} (h:ScK A w b1 b2 T a s x1 x2 x3 x4 y1 y2 y3 y4 w1) (hz:Zr T w1 (.agg #[.int .i64 u1,.slice u2 u3 u4]) s') (hA:Env A w):ScK A w b1 b2 T a s' x1 x2 x3 x4 u1 u2 u3 u4 ((w1.setCell ⟨b2,0,none⟩ (.int .i64 u1)).setCell ⟨b2,1,none⟩ (.slice u2 u3 u4)):=by
 have hb:=zqc h.below (Nat.le_of_lt h.l2) (.int .i64 u1) (.slice u2 u3 u4)
 exact ⟨hb,hA.later hb,h.ret.aside2 (by have:=h.l2;omega) _ _,h.ab.other h.sh.box h.ne _ _ _ _,h.sh.store hz,h.l1,h.l2,h.ne⟩
def Abv (N:Nat) (L:List (Int×Int)) (i:Nat) (a:Int):Prop:=0<a∧a<pw (N*i+1)∧∀ x ∈ L.take i,x.2∣a
theorem Abv.next {N:Nat}{L:List (Int×Int)}{i:Nat}{a g q:Int}{x:Int×Int} (h:Abv N L i a) (hx:L[i]? = some x) (d0:0<x.2) (dN:x.2<pw N) (hg:g=(Int.gcd a x.2:Int)) (hq:q*g=a):Abv N L (i+1) (q*x.2):=by
 obtain ⟨h1,h2,h3⟩:=h
 obtain ⟨k1,k2,k3,k4,_⟩:=lcm_next h1 d0 hg hq
 refine ⟨k1,?_,all_next hx (fun y hy=>Int.dvd_trans (h3 y hy) k2) k3⟩
 rw [show N*(i+1)+1=(N*i+1)+N by rw [Nat.mul_add];omega,pw_add]
 have e1:a*x.2<pw (N*i+1)*x.2:=Int.mul_lt_mul_of_pos_right h2 d0
 have e2:pw (N*i+1)*x.2≤pw (N*i+1)*pw N:=Int.mul_le_mul_of_nonneg_left (by omega) (Int.le_of_lt (zqu _))
 omega
theorem Rr.den {N:Nat}{w:World}{v:Value}{p d:Int} (h:Rr (N+1) w v p d):0<d∧d<pw (N+1) ∧ -pw (N+1)<p∧p<pw (N+1):=by
 obtain ⟨x,a,n,c,y,b,m,k,e,rfl,h2,h3,d0,hg,hd⟩:=h
 refine ⟨d0,?_,h2.inside.1,h2.inside.2⟩
 rcases hd with ⟨rfl,_⟩ | ⟨_,rfl⟩
 · rw [zxf];have:=zqu N;omega
 · exact h3.inside.2
def ScW (A:Nat→Addr) (w:World) (b1 b2 T:Nat) (a q:Int) (x:Int×Int) (x1:Int) (x2:Option Addr) (x3 x4:Nat) (p1:Int) (p2:Option Addr) (p3 p4:Nat) (p5:Int) (p6:Option Addr) (p7 p8:Nat) (br M:Nat) (L:Nat→Bool) (wr:World):Prop :=
 (L 9=false∧ScK A w b1 b2 T a 0 x1 x2 x3 x4 0 none 0 0 wr∧RB M wr br p1 p2 p3 p4 p5 p6 p7 p8 x.1 x.2)∨(L 9=true∧(∀ i,i<10→L i=true)∧∃ m1 m2 m3 m4,ScK A w b1 b2 T (q*x.2) 0 m1 m2 m3 m4 0 none 0 0 wr)
def ScF (M:Nat) (_a g q:Int) (x:Int×Int) (x1:Int) (x2:Option Addr) (x3 x4:Nat) (p1:Int) (p2:Option Addr) (p3 p4:Nat) (p5:Int) (p6:Option Addr) (p7 p8:Nat):Nat→Value→World→Prop
 | 0,v,_=>v=.agg #[.int .i64 x1,.slice x2 x3 x4]
 | 1,v,_=>v=.agg #[.int .i64 x1,.slice x2 x3 x4]
 | 2,v,_=>v=.agg #[.int .i64 p1,.slice p2 p3 p4,.int .i64 p5,.slice p6 p7 p8]
 | 3,v,wr=>Zr M wr v x.2
 | 4,v,wr=>Zr (2*(M+6*M+1)+1) wr v g
 | 5,v,wr=>Zr (2*(M+6*M+1)+3) wr v q
 | 6,v,_=>v=.agg #[.int .i64 p1,.slice p2 p3 p4,.int .i64 p5,.slice p6 p7 p8]
 | 7,v,wr=>Zr M wr v x.2
 | 8,v,wr=>Zr (M+6*M+1) wr v (q*x.2)
 | _,_,_=>True
theorem ScF.later {M:Nat}{a g q:Int}{x:Int×Int}{x1 p1 p5:Int}{x2 p2 p6:Option Addr}{x3 x4 p3 p4 p7 p8 j:Nat}{v:Value}{wr w1:World} (h:ScF M a g q x x1 x2 x3 x4 p1 p2 p3 p4 p5 p6 p7 p8 j v wr) (hb:Below wr.heap.size wr w1):ScF M a g q x x1 x2 x3 x4 p1 p2 p3 p4 p5 p6 p7 p8 j v w1:=by
 rcases j with _ | _ | _ | _ | _ | _ | _ | _ | _ | _
 · exact h
 · exact h
 · exact h
 · exact Zr.later h hb
 · exact Zr.later h hb
 · exact Zr.later h hb
 · exact h
 · exact Zr.later h hb
 · exact Zr.later h hb
 · exact h
theorem ScF.stored {M:Nat}{a g q:Int}{x:Int×Int}{x1 p1 p5:Int}{x2 p2 p6:Option Addr}{x3 x4 p3 p4 p7 p8 j b:Nat}{v:Value}{wr:World} (h:ScF M a g q x x1 x2 x3 x4 p1 p2 p3 p4 p5 p6 p7 p8 j v wr) (hb:Box wr b) (u u':Value):ScF M a g q x x1 x2 x3 x4 p1 p2 p3 p4 p5 p6 p7 p8 j v ((wr.setCell ⟨b,0,none⟩ u).setCell ⟨b,1,none⟩ u'):=by
 rcases j with _ | _ | _ | _ | _ | _ | _ | _ | _ | _
 · exact h
 · exact h
 · exact h
 · exact Zr.stored h hb _ _
 · exact Zr.stored h hb _ _
 · exact Zr.stored h hb _ _
 · exact h
 · exact Zr.stored h hb _ _
 · exact Zr.stored h hb _ _
 · exact h
def Scz (T:Nat) (L:List (Int×Int)) (i:Nat) (a:Int) (zs:List Int) (s:Int):Prop:=zs=(L.take i).map (fun x=>x.1*(a / x.2))∧0≤s∧s<pw T∧(∀ z ∈ zs,s∣z)∧(s=0→∀ z ∈ zs,z=0)
theorem Box.lt {w:World}{r:Nat} (h:Box w r):r<w.heap.size:=by
 obtain ⟨x,a,n,c,h⟩:=h
 exact (Array.getElem?_eq_some_iff.1 h).1
theorem allown {K:Value→Prop}{k:Nat}{α:Type}{E:World→List Value → α → Prop}{t:TypeId}{w:World}{base:Nat}{v:Value}{L:List α} (h:OwnR K k E t w base v L):∀ g,v.ownBlock=some g→base≤g∧g<w.heap.size:=by
 obtain ⟨xs,h1,_⟩:=h
 exact h1.own.lt
structure Sc2 (A:Nat→Addr) (w:World) (b1 b2 T:Nat) (a s:Int) (x1:Int) (x2:Option Addr) (x3 x4:Nat) (y1:Int) (y2:Option Addr) (y3 y4:Nat) (br M:Nat) (p1:Int) (p2:Option Addr) (p3 p4:Nat) (p5:Int) (p6:Option Addr) (p7 p8:Nat) (P D:Int) (ov:Value) (zs:List Int) (wr:World):Prop where
 k:ScK A w b1 b2 T a s x1 x2 x3 x4 y1 y2 y3 y4 wr
 r:RB M wr br p1 p2 p3 p4 p5 p6 p7 p8 P D
 o:OwnR NoWord 2 (ZE T) 31 wr (b2+1) ov zs
theorem Sc2.keep {A:Nat→Addr}{w wr w1:World}{b1 b2 T br M:Nat}{a s x1 y1 p1 p5 P D:Int}{x2 y2 p2 p6:Option Addr}{x3 x4 y3 y4 p3 p4 p7 p8:Nat}{ov:Value}{zs:List Int} (h:Sc2 A w b1 b2 T a s x1 x2 x3 x4 y1 y2 y3 y4 br M p1 p2 p3 p4 p5 p6 p7 p8 P D ov zs wr) (hb:Below wr.heap.size wr w1):Sc2 A w b1 b2 T a s x1 x2 x3 x4 y1 y2 y3 y4 br M p1 p2 p3 p4 p5 p6 p7 p8 P D ov zs w1:=⟨h.k.keep hb,h.r.keep hb,h.o.later (ZE.stays _ _ nww) hb⟩
theorem Sc2.drew {A:Nat→Addr}{w wr:World}{b1 b2 T br M:Nat}{a s x1 y1 p1 p5 P D:Int}{x2 y2 p2 p6:Option Addr}{x3 x4 y3 y4 p3 p4 p7 p8:Nat}{ov:Value}{zs:List Int} (h:Sc2 A w b1 b2 T a s x1 x2 x3 x4 y1 y2 y3 y4 br M p1 p2 p3 p4 p5 p6 p7 p8 P D ov zs wr):Sc2 A w b1 b2 T a s x1 x2 x3 x4 y1 y2 y3 y4 br M p1 p2 p3 p4 p5 p6 p7 p8 P D ov zs wr.drew:=⟨h.k.drew,h.r.drew,h.o.later (ZE.stays _ _ nww) (Below.refl _ _).drew⟩
theorem Sc2.cs {A:Nat→Addr}{w w':World}{b1 b2 T br M:Nat}{a s x1 y1 p1 p5 P D:Int}{x2 y2 p2 p6:Option Addr}{x3 x4 y3 y4 p3 p4 p7 p8:Nat}{ov:Value}{zs:List Int} (h:Sc2 A w b1 b2 T a s x1 x2 x3 x4 y1 y2 y3 y4 br M p1 p2 p3 p4 p5 p6 p7 p8 P D ov zs w'):w'.cell? ⟨b1,0,none⟩=some (.int .i64 x1)∧w'.cell? ⟨b1,1,none⟩=some (.slice x2 x3 x4)∧w'.cell? ⟨br,0,none⟩=some (.int .i64 p1)∧w'.cell? ⟨br,1,none⟩=some (.slice p2 p3 p4)∧w'.cell? ⟨br,2,none⟩=some (.int .i64 p5)∧w'.cell? ⟨br,3,none⟩=some (.slice p6 p7 p8):=⟨h.k.ab.c0,h.k.ab.c1,h.r.c.1,h.r.c.2.1,h.r.c.2.2.1,h.r.c.2.2.2⟩
theorem Sc2.put {A:Nat→Addr}{w w1:World}{b1 b2 T br M q:Nat}{a s x1 y1 p1 p5 P D:Int}{x2 y2 p2 p6:Option Addr}{x3 x4 y3 y4 p3 p4 p7 p8:Nat}{ov:Value}{zs:List Int} (h:Sc2 A w b1 b2 T a s x1 x2 x3 x4 y1 y2 y3 y4 br M p1 p2 p3 p4 p5 p6 p7 p8 P D ov zs w1) (u u':Value) (h1:b1≠q) (h2:br≠q):let w':=(w1.setCell ⟨q,0,none⟩ u).setCell ⟨q,1,none⟩ u'
   w'.cell? ⟨b1,0,none⟩=some (.int .i64 x1)∧w'.cell? ⟨b1,1,none⟩=some (.slice x2 x3 x4)∧w'.cell? ⟨br,0,none⟩=some (.int .i64 p1)∧w'.cell? ⟨br,1,none⟩=some (.slice p2 p3 p4)∧w'.cell? ⟨br,2,none⟩=some (.int .i64 p5)∧w'.cell? ⟨br,3,none⟩=some (.slice p6 p7 p8):=by
 intro w'
 have hc:∀ b o v,b≠q→w1.cell? ⟨b,o,none⟩=some v→w'.cell? ⟨b,o,none⟩=some v:=fun b o v hb hv=>by
   show (World.setCell _ _ _).cell? _=_
   rw [zqb _ _ _ _ _ _ (by omega),zqb _ _ _ _ _ _ (by omega)]
   exact hv
 obtain ⟨k1,k2,k3,k4,k5,k6⟩:=h.cs
 exact ⟨hc _ _ _ h1 k1,hc _ _ _ h1 k2,hc _ _ _ h2 k3,hc _ _ _ h2 k4,hc _ _ _ h2 k5,hc _ _ _ h2 k6⟩
theorem OwnR.boxed {w:World}{T base q:Nat}{v:Value}{zs:List Int} (h:OwnR NoWord 2 (ZE T) 31 w base v zs) (hq:Box w q) (hne:∀ g,v.ownBlock=some g→g≠q) (u u':Value):OwnR NoWord 2 (ZE T) 31 ((w.setCell ⟨q,0,none⟩ u).setCell ⟨q,1,none⟩ u') base v zs:=by
 obtain ⟨xs,h1,h2⟩:=h
 have hb:∀ g,v.ownBlock=some g→((w.setCell ⟨q,0,none⟩ u).setCell ⟨q,1,none⟩ u').heap[g]? = w.heap[g]? := fun g hg=>by rw [Below.heap_setCell _ _ _ _ (hne g hg),Below.heap_setCell _ _ _ _ (hne g hg)]
 refine ⟨xs,⟨?_,fun g hg o u0 hu=>h1.kinds g hg o u0 (by rw [World.cell?_of_block (a:=⟨g,o,none⟩) (hb g hg)] at hu;exact hu)⟩,fun i x hx => ?_⟩
 · obtain ⟨h0,h | ⟨g,cap,cur,e1,e2,e3,e4⟩⟩:=h1.own
   · exact ⟨h0,Or.inl h⟩
   · exact ⟨h0,Or.inr ⟨g,cap,cur,e1,e2,by rw [hb g (by rw [e1];rfl)];exact e3,e4⟩⟩
 · obtain ⟨cs,hl,hcs,y1,y2,y3,y4,e,hz⟩:=h2 i x hx
   exact ⟨cs,hl,hcs,y1,y2,y3,y4,e,hz.stored hq _ _⟩
theorem ScK.aside {A:Nat→Addr}{w w1:World}{b1 b2 T q:Nat}{a s x1 y1:Int}{x2 y2:Option Addr}{x3 x4 y3 y4:Nat} (h:ScK A w b1 b2 T a s x1 x2 x3 x4 y1 y2 y3 y4 w1) (hA:Env A w) (hq:Box w1 q) (h0:w.heap.size<q) (h1:b1≠q) (h2:b2≠q) (u1:Int) (u2:Option Addr) (u3 u4:Nat):ScK A w b1 b2 T a s x1 x2 x3 x4 y1 y2 y3 y4 ((w1.setCell ⟨q,0,none⟩ (.int .i64 u1)).setCell ⟨q,1,none⟩ (.slice u2 u3 u4)):=by
 have hb:=zqc h.below (Nat.le_of_lt h0) (.int .i64 u1) (.slice u2 u3 u4)
 exact ⟨hb,hA.later hb,h.ret.aside2 (by omega) _ _,h.ab.other hq h1 _ _ _ _,h.sh.other hq h2 _ _ _ _,h.l1,h.l2,h.ne⟩
theorem Vr.grown {w w':World}{b:Nat}{u:Int}{a:Option Addr}{n c N:Nat}{z:Int}{row:Option Nat}{e:TypeId} (h:Vr w b u a n c N z) (hg:w.grownBy w' row) (hne:some b≠row) (hc:Chg NoWord e w w'):Vr w' b u a n c N z:=by
 obtain ⟨c0,c1,⟨x,a',n',c',hb⟩,hz⟩:=h
 exact ⟨hg.cell c0 hne,hg.cell c1 hne,⟨x,a',n',c',by rw [hg.block b (Array.getElem?_eq_some_iff.1 hb).1 hne];exact hb⟩,hz.chg hc nww⟩
theorem ScK.grown {A:Nat→Addr}{w w1 w2:World}{b1 b2 T:Nat}{a s x1 y1:Int}{x2 y2:Option Addr}{x3 x4 y3 y4:Nat}{row:Option Nat}{e:TypeId} (h:ScK A w b1 b2 T a s x1 x2 x3 x4 y1 y2 y3 y4 w1) (hA:Env A w) (hg:w1.grownBy w2 row) (hc:Chg NoWord e w1 w2) (hr:∀ g,row=some g→w.heap.size<g∧g≠b1∧g≠b2):ScK A w b1 b2 T a s x1 x2 x3 x4 y1 y2 y3 y4 w2:=by
 have hb:Below w.heap.size w w2:=h.below.grown hg h.below.size (fun k hk=>Nat.le_of_lt (hr k hk).1)
 obtain ⟨x,a',n,c,y,b',m,k,hx⟩:=h.ret
 exact ⟨hb,hA.later hb,⟨x,a',n,c,y,b',m,k,by rw [hg.block _ (Array.getElem?_eq_some_iff.1 hx).1 (fun hv=>by have:=(hr _ hv.symm).1;omega)];exact hx⟩,h.ab.grown hg (fun hv=>(hr _ hv.symm).2.1 rfl) hc,h.sh.grown hg (fun hv=>(hr _ hv.symm).2.2 rfl) hc,h.l1,h.l2,h.ne⟩
theorem Scz.next {T:Nat}{L:List (Int×Int)}{i:Nat}{a s:Int}{zs:List Int}{x:Int×Int} (h:Scz T L i a zs s) (hx:L[i]? = some x) (hz:-pw T<x.1*(a / x.2)∧x.1*(a / x.2)<pw T):Scz T L (i+1) a (zs++[x.1*(a / x.2)]) (Int.gcd s (x.1*(a / x.2))):=by
 obtain ⟨h1,h2,h3,h4,h5⟩:=h
 have g1:(Int.gcd s (x.1*(a / x.2)):Int)∣s:=Int.gcd_dvd_left ..
 have g2:(Int.gcd s (x.1*(a / x.2)):Int)∣x.1*(a / x.2):=Int.gcd_dvd_right ..
 refine ⟨by rw [tkn hx,List.map_append,h1];rfl,by omega,?_,fun z hz' => ?_,fun h0 z hz' => ?_⟩
 · rcases Int.lt_or_le 0 s with hs | hs
   · have:=Int.le_of_dvd hs g1;omega
   · obtain rfl:s=0:=by omega
     rw [Int.gcd_zero_left]
     omega
 · rcases List.mem_append.1 hz' with hz' | hz'
   · exact Int.dvd_trans g1 (h4 z hz')
   · simp at hz';subst hz';exact g2
 · rw [h0] at g1 g2
   have e1:=Int.zero_dvd.1 g1
   have e2:=Int.zero_dvd.1 g2
   rcases List.mem_append.1 hz' with hz' | hz'
   · exact h5 e1 z hz'
   · simp at hz';subst hz';exact e2
def ScP (n M T:Nat) (L:List (Int×Int)) (e:Ending) (w':World):Prop:=∃ v u zs P D,e=.returned (.tuple #[v,u])∧(∀ g,v.ownBlock=some g→n≤g)∧Rows 2 (ZE T) w' v zs∧Rr M w' u P D∧0<P∧zs.length=L.length∧∀ (i:Nat) (z:Int) (x:Int×Int),zs[i]? = some z→L[i]? = some x→z*x.2*D=x.1*P
theorem OwnR.rboxed {w:World}{T base q:Nat}{v:Value}{zs:List Int} (h:OwnR NoWord 2 (ZE T) 31 w base v zs) (hq:RBox w q) (hne:∀ g,v.ownBlock=some g→g≠q) (u0 u1 u2 u3:Value):OwnR NoWord 2 (ZE T) 31 ((((w.setCell ⟨q,0,none⟩ u0).setCell ⟨q,1,none⟩ u1).setCell ⟨q,2,none⟩ u2).setCell ⟨q,3,none⟩ u3) base v zs:=by
 obtain ⟨xs,h1,h2⟩:=h
 have hb:∀ g,v.ownBlock=some g→((((w.setCell ⟨q,0,none⟩ u0).setCell ⟨q,1,none⟩ u1).setCell ⟨q,2,none⟩ u2).setCell ⟨q,3,none⟩ u3).heap[g]? = w.heap[g]? := fun g hg=>by rw [Below.heap_setCell _ _ _ _ (hne g hg),Below.heap_setCell _ _ _ _ (hne g hg),Below.heap_setCell _ _ _ _ (hne g hg),Below.heap_setCell _ _ _ _ (hne g hg)]
 refine ⟨xs,⟨?_,fun g hg o u hu=>h1.kinds g hg o u (by rw [World.cell?_of_block (a:=⟨g,o,none⟩) (hb g hg)] at hu;exact hu)⟩,fun i x hx => ?_⟩
 · obtain ⟨h0,h | ⟨g,cap,cur,e1,e2,e3,e4⟩⟩:=h1.own
   · exact ⟨h0,Or.inl h⟩
   · exact ⟨h0,Or.inr ⟨g,cap,cur,e1,e2,(hb g (by rw [e1];rfl)).trans e3,e4⟩⟩
 · obtain ⟨cs,hl,hcs,y1,y2,y3,y4,e,hz⟩:=h2 i x hx
   exact ⟨cs,hl,hcs,y1,y2,y3,y4,e,hz.rstored hq _ _ _ _⟩
theorem div_fit {z s P:Int} (hz:-P<z∧z<P) (s0:0≤s) (hs:s≠0):-P<z / s∧z / s<P:=by
 have h1:=Int.ediv_mul_le z hs
 rcases Int.le_total 0 z with h | h
 · have h2:=Int.ediv_le_self s h
   have h3:=Int.ediv_nonneg h s0
   omega
 · have h2:z≤z / s:=(Int.le_ediv_iff_mul_le (by omega)).2 (by
     have:z*s≤z*1:=Int.mul_le_mul_of_nonpos_left h (by omega)
     omega)
   have h3:z / s≤0:=by
     rcases Int.lt_or_le 0 (z / s) with h4 | h4
     · have:0<z / s*s:=Int.mul_pos h4 (by omega)
       omega
     · exact h4
   omega
theorem scz_zero {K:Nat}{T:Nat}{L:List (Int×Int)}{a s:Int}{zs:List Int} (hA:0<a∧a<pw K∧∀ x ∈ L,x.2∣a) (h:zs=L.map (fun x=>x.1*(a / x.2))∧0≤s∧s<pw T∧(∀ z ∈ zs,s∣z)∧(s=0→∀ z ∈ zs,z=0)) (hs:s=0):∀ (i:Nat) (z:Int) (x:Int×Int),zs[i]? = some z→L[i]? = some x→z*x.2*1=x.1*1:=by
 intro i z x hz hx
 have h1:=h.2.2.2.2 hs z (List.mem_of_getElem? hz)
 rw [h.1,List.getElem?_map,hx] at hz
 have h2:x.1*(a / x.2)=z:=by simpa using hz
 rw [h1] at h2 ⊢
 have h3:a / x.2≠0:=by
   intro h4
   have h5:=Int.ediv_mul_cancel (hA.2.2 x (List.mem_of_getElem? hx))
   rw [h4] at h5
   omega
 rcases Int.mul_eq_zero.1 h2 with h4 | h4
 · rw [h4];simp
 · exact absurd h4 h3
theorem own_cell {K:Value→Prop}{k:Nat}{α:Type}{E:World→List Value → α → Prop}{t:TypeId}{w:World}{base g n cap o:Nat}{L:List α} (h:OwnR K k E t w base (.slice (some ⟨g,0,none⟩) n cap) L) (ho:o<L.length*k):∃ u,w.cell? ⟨g,o,none⟩=some u:=by
 obtain ⟨xs,h1,_⟩:=h
 obtain ⟨_,⟨h0,_⟩ | ⟨g',cap',cur,h0,_,hg,h3,_,h5,_⟩⟩:=h1.own
 · cases h0
 · obtain ⟨rfl,_⟩:g=g'∧_:=by simpa using h0
   have:L.length*k≤cap'*k:=Nat.mul_le_mul_right _ h3
   exact ⟨cur[o]'(by omega),zqn hg (by simp)⟩
theorem own_free {K:Value→Prop}{k:Nat}{α:Type}{E:World→List Value → α → Prop}{t:TypeId}{w:World}{base g n cap:Nat}{L:List α} (h:OwnR K k E t w base (.slice (some ⟨g,0,none⟩) n cap) L):∀ o,w.frozen? ⟨g,o,none⟩=false:=by
 intro o
 obtain ⟨xs,h1,_⟩:=h
 obtain ⟨_,⟨h0,_⟩ | ⟨g',cap',cur,h0,_,hg,_⟩⟩:=h1.own
 · cases h0
 · obtain ⟨rfl,_⟩:g=g'∧_:=by simpa using h0
   simp [World.frozen?,hg]
theorem set_next {zs ms:List Int}{s z:Int}{i:Nat} (hz:zs[i]? = some z) (h:∀ (j:Nat) (z:Int),zs[j]? = some z→ms[j]? = some (if j<i then z / s else z)):∀ (j:Nat) (y:Int),zs[j]? = some y→(ms.set i (z / s))[j]? = some (if j<i+1 then y / s else y):=by
 intro j y hy
 by_cases hji:j=i
 · subst hji
   rw [hz] at hy
   obtain rfl:z=y:=by simpa using hy
   have:=h j z hz
   rw [List.getElem?_set_self (List.getElem?_eq_some_iff.1 this).1,if_pos (by omega)]
 · rw [List.getElem?_set_ne (Ne.symm hji),h j y hy]
   by_cases hlt:j<i
   · rw [if_pos hlt,if_pos (by omega)]
   · rw [if_neg hlt,if_neg (by omega)]
theorem Vr.setRow {w:World}{b g o:Nat}{u:Int}{a:Option Addr}{n c N:Nat}{z:Int}{e:TypeId}{u0 u1:Value} (h:Vr w b u a n c N z) (hne:b≠g) (hc:Chg NoWord e w ((w.setCell ⟨g,o,none⟩ u0).setCell ⟨g,o+1,none⟩ u1)):Vr ((w.setCell ⟨g,o,none⟩ u0).setCell ⟨g,o+1,none⟩ u1) b u a n c N z:=by
 obtain ⟨c0,c1,⟨x,a',n',c',hb⟩,hz⟩:=h
 exact ⟨by rw [zqb _ _ _ _ _ _ (by omega),zqb _ _ _ _ _ _ (by omega)];exact c0,by rw [zqb _ _ _ _ _ _ (by omega),zqb _ _ _ _ _ _ (by omega)];exact c1,⟨x,a',n',c',by rw [Below.heap_setCell _ _ _ _ hne,Below.heap_setCell _ _ _ _ hne];exact hb⟩,hz.chg hc nww⟩
theorem ScK.setRow {A:Nat→Addr}{w w1:World}{b1 b2 T g o:Nat}{a s x1 y1:Int}{x2 y2:Option Addr}{x3 x4 y3 y4:Nat}{e:TypeId}{u0 u1:Value} (h:ScK A w b1 b2 T a s x1 x2 x3 x4 y1 y2 y3 y4 w1) (hA:Env A w) (h0:w.heap.size<g) (h1:b1≠g) (h2:b2≠g) (hc:Chg NoWord e w1 ((w1.setCell ⟨g,o,none⟩ u0).setCell ⟨g,o+1,none⟩ u1)):ScK A w b1 b2 T a s x1 x2 x3 x4 y1 y2 y3 y4 ((w1.setCell ⟨g,o,none⟩ u0).setCell ⟨g,o+1,none⟩ u1):=by
 have hb:Below w.heap.size w ((w1.setCell ⟨g,o,none⟩ u0).setCell ⟨g,o+1,none⟩ u1):=(h.below.setCell (p:=⟨g,o,none⟩) (Nat.le_of_lt h0) _).setCell (p:=⟨g,o+1,none⟩) (Nat.le_of_lt h0) _
 obtain ⟨x,a',n,c,y,b',m,k,hx⟩:=h.ret
 exact ⟨hb,hA.later hb,⟨x,a',n,c,y,b',m,k,by rw [Below.heap_setCell _ _ _ _ (Nat.ne_of_lt h0),Below.heap_setCell _ _ _ _ (Nat.ne_of_lt h0)];exact hx⟩,h.ab.setRow h1 hc,h.sh.setRow h2 hc,h.l1,h.l2,h.ne⟩
theorem scz_end {K:Nat}{T:Nat}{L:List (Int×Int)}{a s P D:Int}{zs ms:List Int} (hA:0<a∧a<pw K∧∀ x ∈ L,x.2∣a) (h:zs=L.map (fun x=>x.1*(a / x.2))∧0≤s∧s<pw T∧(∀ z ∈ zs,s∣z)∧(s=0→∀ z ∈ zs,z=0)) (hs:s≠0) (hE:P*s=a*D) (D0:0<D) (hl:ms.length=zs.length) (hm:∀ (j:Nat) (z:Int),zs[j]? = some z→ms[j]? = some (if j<zs.length then z / s else z)):0<P∧ms.length=L.length∧∀ (i:Nat) (z:Int) (x:Int×Int),ms[i]? = some z→L[i]? = some x→z*x.2*D=x.1*P:=by
 have s0:0<s:=by have:=h.2.1;omega
 refine ⟨?_,by rw [hl,h.1,List.length_map],fun i z x hz hx => ?_⟩
 · rcases Int.lt_or_le 0 P with hp | hp
   · exact hp
   · have h1:P*s≤0*s:=Int.mul_le_mul_of_nonneg_right hp (by omega)
     have h2:0<a*D:=Int.mul_pos hA.1 D0
     omega
 · have h1:zs[i]? = some (x.1*(a / x.2)):=by rw [h.1,List.getElem?_map,hx];rfl
   have h2:=hm i _ h1
   rw [hz,if_pos (List.getElem?_eq_some_iff.1 h1).1] at h2
   have h3:z=x.1*(a / x.2) / s:=by simpa using h2
   have h4:=Int.ediv_mul_cancel (h.2.2.2.1 _ (List.mem_of_getElem? h1))
   rw [← h3] at h4
   have h5:=Int.ediv_mul_cancel (hA.2.2 x (List.mem_of_getElem? hx))
   refine Int.eq_of_mul_eq_mul_right hs ?_
   have e1:z*x.2*D*s=(z*s)*x.2*D:=by grind
   have e2:x.1*P*s=x.1*(P*s):=by grind
   rw [e1,e2,h4,hE]
   have e3:x.1*(a / x.2)*x.2*D=x.1*(a / x.2*x.2)*D:=by grind
   rw [e3,h5]
   grind
theorem scz_fit {N M:Nat}{L:List (Int×Int)}{a:Int}{x:Int×Int}{W:World}{v:Value} (hA:0<a∧a<pw ((N+1)*L.length+1)∧∀ x ∈ L,x.2∣a) (hx:0<x.2∧x.2<pw (N+1) ∧ -pw (N+1)<x.1∧x.1<pw (N+1)) (hq:a / x.2*x.2=a) (hl:L.length≤6) (h:Zr M W v (x.1*(a / x.2))):Zr (N+1+6*(N+1)+1) W v (x.1*(a / x.2)):=by
 have q0:0≤a / x.2:=Int.ediv_nonneg (by omega) (by omega)
 have q1:a / x.2≤a:=by
   have:a / x.2*1≤a / x.2*x.2:=Int.mul_le_mul_of_nonneg_left (by omega) q0
   omega
 have p0:=zqu (N+1)
 have p1:=zqu (6*(N+1)+1)
 have h1:pw ((N+1)*L.length+1)≤pw (6*(N+1)+1):=zjl (by have:(N+1)*L.length≤(N+1)*6:=Nat.mul_le_mul_left _ hl;omega)
 have e:pw (N+1+6*(N+1)+1)=pw (N+1)*pw (6*(N+1)+1):=by rw [← pw_add];congr 1
 have h2:x.1.natAbs*(a / x.2).natAbs<(pw (N+1)).natAbs*(pw (6*(N+1)+1)).natAbs:=Nat.mul_lt_mul'' (by omega) (by omega)
 rw [← Int.natAbs_mul,← Int.natAbs_mul] at h2
 have h3:0<pw (N+1)*pw (6*(N+1)+1):=Int.mul_pos p0 p1
 exact h.fit (by rw [e];omega) (by rw [e];omega)
set_option maxHeartbeats 16000000 in
set_option maxRecDepth 8000 in
theorem scaled_any {A:Nat→Addr}{N:Nat}{v:Value}{L:List (Int×Int)} (w:World) (hA:Env A w) (h:Rows 4 (RE (N+1)) w v L) (hl:L.length≤6) (hN:N≤1000) :
   Calls Tryz.prog 144 #[v] w fun e w'=>ScP w.heap.size (2*(N+1+6*(N+1)+1)+6) (N+1+6*(N+1)+1) L e w'∧Below w.heap.size w w':=by
 obtain ⟨sa,sc,rfl⟩:=h.shape
 have HR:=qh h
 have HA:=qh hA
 have kn:=zqa w (.cells #[.int .i64 0,.slice none 0 0,.int .i64 0,.slice none 0 0] 52)
 have hq:=zjd w 0 none 0 0 0 none 0 0
 have HQ:=qh (And.intro kn hq)
 clear h hA kn hq
 go_enter Tryz.func144,Tryz.ntmps144
 go_wp2_with fail
 go_fit (of_any 1 _)
 rintro e W1 ⟨rfl,B1⟩
 have k1:=zqa W1 (.cells #[.int .i64 1,.slice none 0 0] 31)
 have k2:=zqa (W1.alloc (.cells #[.int .i64 1,.slice none 0 0] 31)) (.cells #[.int .i64 0,.slice none 0 0] 31)
 have hb:=bk k2 (bk k1 (bk B1 (uh HQ).1))
 have hlt:=((uh HQ).2.later B1).lt
 have q2:=Vr.new (w:=W1.alloc (.cells #[.int .i64 1,.slice none 0 0] 31)) (Zr.near (z:=0) (N+1+6*(N+1)+1) (by decide) (by decide))
 rw [show (W1.alloc (.cells #[.int .i64 1,.slice none 0 0] 31)).heap.size=W1.heap.size+1 by simp] at q2
 have HK:Hid (ScK A w W1.heap.size (W1.heap.size+1) (N+1+6*(N+1)+1) 1 0 1 none 0 0 0 none 0 0 ((W1.alloc (.cells #[.int .i64 1,.slice none 0 0] 31)).alloc (.cells #[.int .i64 0,.slice none 0 0] 31))):=qh ⟨hb,(uh HA).later hb,(((uh HQ).2.later B1).later k1).later k2,(Vr.new (Zr.near _ (by decide) (by decide))).keep k2,q2,hlt,by omega,by omega⟩
 clear k1 k2 hb hlt q2 B1 HQ
 obtain ⟨b1,hb1⟩:∃ b,b=W1.heap.size:=⟨_,rfl⟩
 obtain ⟨b2,hb2⟩:∃ b,b=W1.heap.size+1:=⟨_,rfl⟩
 go_wp2_with fail
 have HB12:Hid (b2=b1+1):=qh (by omega)
 rw [← hb2,← hb1] at HK ⊢
 clear hb1 hb2
 go_loopg [17] L.length (fun gk iv wr=>∃ (i:Nat) (a x1:Int) (x2:Option Addr) (x3 x4:Nat),i≤L.length∧gk=L.length - i∧iv=.int .i64 (i:Int)∧Hid (Abv (N+1) L i a)∧Hid (ScK A w b1 b2 (N+1+6*(N+1)+1) a 0 x1 x2 x3 x4 0 none 0 0 wr))
 case atStart=>exact ⟨0,1,_,_,_,_,by omega,by omega,rfl,qh ⟨by decide,by show (1:Int)<pw 1;decide,by simp⟩,HK⟩
 case round =>
   clear HK
   obtain ⟨i,a,x1,x2,x3,x4,hi,hgk,rfl,HV,HK⟩:=hrel
   by_cases hil:i<L.length
   · obtain ⟨x,hx⟩:∃ s,L[i]? = some s:=⟨L[i],by simp [hil]⟩
     obtain ⟨b,o,rfl,cs,_,hcs,p1,p2,p3,p4,p5,p6,p7,p8,rfl,hX⟩:=(uh HR).at hx
     have c0:wr.cell? ⟨b,o+i*4,none⟩=some (.int .i64 p1):=ck (uh HK).below (by simpa using hcs 0 _ rfl)
     have c1:wr.cell? ⟨b,o+i*4+1,none⟩=some (.slice p2 p3 p4):=ck (uh HK).below (hcs 1 _ rfl)
     have c2:wr.cell? ⟨b,o+i*4+2,none⟩=some (.int .i64 p5):=ck (uh HK).below (hcs 2 _ rfl)
     have c3:wr.cell? ⟨b,o+i*4+3,none⟩=some (.slice p6 p7 p8):=ck (uh HK).below (hcs 3 _ rfl)
     have HX:=qh hx
     have HDN:=qh hX.den
     have hil':(i:Int)<(L.length:Int):=by omega
     have kn:=zqa wr (.cells #[.int .i64 p1,.slice p2 p3 p4,.int .i64 p5,.slice p6 p7 p8] 52)
     have HRB:=qh (RB.new (hX.later (uh HK).below))
     have HK:=qh ((uh HK).keep kn)
     clear hx hcs hX kn
     go_upto_region 5 with fail
     obtain ⟨V,hV⟩:∃ V,V=wr.alloc (.cells #[.int .i64 p1,.slice p2 p3 p4,.int .i64 p5,.slice p6 p7 p8] 52):=⟨_,rfl⟩
     obtain ⟨br,hbr⟩:∃ b,b=wr.heap.size:=⟨_,rfl⟩
     rw [← hV] at HK HRB ⊢
     rw [← hbr] at HRB ⊢
     have HGI:=qh (And.intro hgk (And.intro hi hil))
     clear hV hbr c0 c1 c2 c3 hgk hi hil
     have z0:=(uh HK).ab.c0
     have z1:=(uh HK).ab.c1
     obtain ⟨q0,q1,q2,q3⟩:=(uh HRB).c
     have hgq:=Int.ediv_mul_cancel (show (Int.gcd a x.2:Int)∣a from Int.gcd_dvd_left ..)
     have hnx:=lcm_next (uh HV).1 (uh HDN).1 rfl hgq
     have HE1:=qh (show (Int.gcd a x.2:Int)≠0 by have:=hnx.2.2.2.2.1;omega)
     have HE2:=qh hgq
     have HFT:Hid (∀ (M:Nat) W v,Zr M W v (a / (Int.gcd a x.2:Int)*x.2)→Zr (N+1+6*(N+1)+1) W v (a / (Int.gcd a x.2:Int)*x.2)):=qh fun M W v h=>by
       obtain ⟨k1,k2,_⟩:=(uh HV).next (uh HX) (uh HDN).1 (uh HDN).2.1 rfl (uh HE2)
       have h3:pw ((N+1)*(i+1)+1)≤pw (N+1+6*(N+1)+1):=zjl (by have h4:=(uh HGI).2.2;have h5:(N+1)*(i+1)≤(N+1)*6:=Nat.mul_le_mul_left _ (by omega);omega)
       exact h.fit (by have:=zqu (N+1+6*(N+1)+1);omega) (by omega)
     clear hgq hnx
     obtain ⟨g,hgd⟩:∃ g,g=(Int.gcd a x.2:Int):=⟨_,rfl⟩
     obtain ⟨qq,hqd⟩:∃ q,q=a / (Int.gcd a x.2:Int):=⟨_,rfl⟩
     rw [← hgd] at HE1
     rw [← hqd] at HE2 HFT
     rw [← hgd] at HE2
     have HGD:=qh (And.intro hgd hqd)
     clear hgd hqd z0 z1 q0 q1 q2 q3
     refine zki (by kernel_rfl) (by kernel_rfl) (by kernel_rfl) (ScW A w b1 b2 (N+1+6*(N+1)+1) a qq x x1 x2 x3 x4 p1 p2 p3 p4 p5 p6 p7 p8 br (N+1)) (ScF (N+1) a g qq x x1 x2 x3 x4 p1 p2 p3 p4 p5 p6 p7 p8) (Or.inl ⟨rfl,(uh HK).drew,(uh HRB).drew⟩) ?_ ?_
     · intro L' vals w1 i' o' hW hF hL ho hdep
       have hi':i'<10:=(Array.getElem?_eq_some_iff.1 ho).1
       rcases hW with ⟨h9,hK,hR⟩ | ⟨_,hall,_⟩
       rotate_left
       · exact absurd (hall i' hi') (by rw [hL];decide)
       rcases (by omega:i'=0∨i'=1∨i'=2∨i'=3∨i'=4∨i'=5∨i'=6∨i'=7∨i'=8∨i'=9) with rfl | rfl | rfl | rfl | rfl | rfl | rfl | rfl | rfl | rfl
       · obtain rfl:=Option.some.inj ho
         have z0:=hK.ab.c0;have z1:=hK.ab.c1
         refine wpOp_step rfl (fun K hK' => ?_)
         simp only [frs]
         go_simp
         exact hK' _ _ ⟨.agg #[.int .i64 x1,.slice x2 x3 x4],(by show _=Act.put _ (some 21) _;simp only [frs]),rfl,Or.inl ⟨by simp [h9],hK,hR⟩,hF⟩
       · obtain rfl:=Option.some.inj ho
         have z0:=hK.ab.c0;have z1:=hK.ab.c1
         refine wpOp_step rfl (fun K hK' => ?_)
         simp only [frs]
         go_simp
         exact hK' _ _ ⟨.agg #[.int .i64 x1,.slice x2 x3 x4],(by show _=Act.put _ (some 22) _;simp only [frs]),rfl,Or.inl ⟨by simp [h9],hK,hR⟩,hF⟩
       · obtain rfl:=Option.some.inj ho
         obtain ⟨q0,q1,q2,q3⟩:=hR.c
         refine wpOp_step rfl (fun K hK' => ?_)
         simp only [frs]
         go_simp
         exact hK' _ _ ⟨.agg #[.int .i64 p1,.slice p2 p3 p4,.int .i64 p5,.slice p6 p7 p8],(by show _=Act.put _ (some 23) _;simp only [frs]),rfl,Or.inl ⟨by simp [h9],hK,hR⟩,hF⟩
       · obtain rfl:=Option.some.inj ho
         have f2:=hF 2 (hdep ⟨2,.data⟩ (by simp) rfl)
         refine wpOp_step rfl (fun K hK' => ?_)
         simp only [frs]
         go_simp
         rw [show vals 2=_ from f2];go_fit (den_any (N:=N+1) _ hR.r)
         rintro e9 Y ⟨⟨v,rfl,hV⟩,hb⟩
         exact hK' _ _ ⟨v,(by show _=Act.put _ (some 24) _;simp only [frs,show vals 2=_ from f2]),hV,Or.inl ⟨by simp [h9],hK.keep hb,hR.keep hb⟩,fun j hj=>ScF.later (hF j hj) hb⟩
       · obtain rfl:=Option.some.inj ho
         have f1:=hF 1 (hdep ⟨1,.data⟩ (by simp) rfl)
         have f3:=hF 3 (hdep ⟨3,.data⟩ (by simp) rfl)
         refine wpOp_step rfl (fun K hK' => ?_)
         simp only [frs]
         go_simp
         rw [show vals 1=_ from f1];go_fit (gcd_any (N:=N+1+6*(N+1)) _ hK.ab.zr (Zr.mono f3 (by omega)) (by omega) hK.env.t64)
         rintro e9 Y ⟨⟨v,rfl,hV⟩,hb⟩
         exact hK' _ _ ⟨v,(by show _=Act.put _ (some 25) _;simp only [frs,show vals 1=_ from f1]),(by rw [← (uh HGD).1] at hV;exact hV),Or.inl ⟨by simp [h9],hK.keep hb,hR.keep hb⟩,fun j hj=>ScF.later (hF j hj) hb⟩
       · obtain rfl:=Option.some.inj ho
         have f0:=hF 0 (hdep ⟨0,.data⟩ (by simp) rfl)
         have f4:=hF 4 (hdep ⟨4,.data⟩ (by simp) rfl)
         refine wpOp_step rfl (fun K hK' => ?_)
         simp only [frs]
         go_simp
         rw [show vals 0=_ from f0];go_fit (zjp (N:=2*(N+1+6*(N+1)+1)) _ (hK.ab.zr.mono (by omega)) f4 (uh HE1) (uh HE2) (by omega))
         rintro e9 Y ⟨⟨v,rfl,hV⟩,hb⟩
         exact hK' _ _ ⟨v,(by show _=Act.put _ (some 26) _;simp only [frs,show vals 0=_ from f0]),hV,Or.inl ⟨by simp [h9],hK.keep hb,hR.keep hb⟩,fun j hj=>ScF.later (hF j hj) hb⟩
       · obtain rfl:=Option.some.inj ho
         obtain ⟨q0,q1,q2,q3⟩:=hR.c
         refine wpOp_step rfl (fun K hK' => ?_)
         simp only [frs]
         go_simp
         exact hK' _ _ ⟨.agg #[.int .i64 p1,.slice p2 p3 p4,.int .i64 p5,.slice p6 p7 p8],(by show _=Act.put _ (some 27) _;simp only [frs]),rfl,Or.inl ⟨by simp [h9],hK,hR⟩,hF⟩
       · obtain rfl:=Option.some.inj ho
         have f6:=hF 6 (hdep ⟨6,.data⟩ (by simp) rfl)
         refine wpOp_step rfl (fun K hK' => ?_)
         simp only [frs]
         go_simp
         rw [show vals 6=_ from f6];go_fit (den_any (N:=N+1) _ hR.r)
         rintro e9 Y ⟨⟨v,rfl,hV⟩,hb⟩
         exact hK' _ _ ⟨v,(by show _=Act.put _ (some 28) _;simp only [frs,show vals 6=_ from f6]),hV,Or.inl ⟨by simp [h9],hK.keep hb,hR.keep hb⟩,fun j hj=>ScF.later (hF j hj) hb⟩
       · obtain rfl:=Option.some.inj ho
         have f5:=hF 5 (hdep ⟨5,.data⟩ (by simp) rfl)
         have f7:=hF 7 (hdep ⟨7,.data⟩ (by simp) rfl)
         refine wpOp_step rfl (fun K hK' => ?_)
         simp only [frs]
         go_simp
         go_fit (zjb (N:=2*(N+1+6*(N+1)+1)+2) _ f5 (Zr.mono f7 (by omega)) (by omega))
         rintro e9 Y ⟨⟨v,rfl,hV⟩,hb⟩
         exact hK' _ _ ⟨v,(by show _=Act.put _ (some 29) _;simp only [frs]),uh HFT _ _ _ hV,Or.inl ⟨by simp [h9],hK.keep hb,hR.keep hb⟩,fun j hj=>ScF.later (hF j hj) hb⟩
       · obtain rfl:=Option.some.inj ho
         have f8:=hF 8 (hdep ⟨8,.data⟩ (by simp) rfl)
         obtain ⟨m1,m2,m3,m4,hv8⟩:=Zr.shape f8
         rw [hv8] at f8
         obtain ⟨⟨x0,g0⟩,⟨a0,n0,c0',g1⟩,gf⟩:=hK.ab.box.cells
         have hlt:=hK.ab.lt
         refine wpOp_step rfl (fun K hK' => ?_)
         simp only [frs]
         rw [hv8]
         go_simp
         refine hK' _ _ ⟨undef,(by show _=Act.put _ (none) _;simp only [frs,hv8]),trivial,Or.inr ⟨rfl,?_,m1,m2,m3,m4,hK.putAb f8 (uh HA)⟩,?_⟩
         · intro i hi
           rcases (by omega:i=0∨i=1∨i=2∨i=3∨i=4∨i=5∨i=6∨i=7∨i=8∨i=9) with rfl | rfl | rfl | rfl | rfl | rfl | rfl | rfl | rfl | rfl
           all_goals first | rfl | exact hdep ⟨_,.phase⟩ (by simp) rfl
         · exact fun j hj=>ScF.stored (hF j hj) hK.ab.box _ _
     · intro L' vals w1 hW hF
       rcases hW with ⟨h9,_⟩ | ⟨_,_,m1,m2,m3,m4,hK⟩
       · have:=(hF 9 (by decide)).1
         rw [h9] at this
         cases this
       have HK:=qh hK
       clear hK hF
       obtain ⟨hgk,hi,hil⟩:=uh HGI
       simp only [frs]
       go_wp2
       go_roundg (L.length - (i+1))
       case measure=>omega
       case rel=>exact ⟨i+1,qq*x.2,_,_,_,_,by omega,rfl,by go_num,qh (by have h1:=(uh HV).next (uh HX) (uh HDN).1 (uh HDN).2.1 (uh HGD).1 (uh HE2);exact h1),HK⟩
   · obtain rfl:i=L.length:=by omega
     clear hil hi hgk
     have hAV:=uh HV
     rw [Abv,List.take_length] at hAV
     have HAV:=qh hAV
     clear hAV HV
     have HO:Hid (OwnR NoWord 2 (ZE (N+1+6*(N+1)+1)) 31 wr (b2+1) (.slice none 0 0) []):=qh (OwnR.nil _ _ _ _ _ _)
     go_wp2_with fail
     go_loopg [2,33] L.length (fun gk ov iv wr=>∃ (i:Nat) (s y1:Int) (y2:Option Addr) (y3 y4:Nat) (zs:List Int),i≤L.length∧gk=L.length - i∧iv=.int .i64 (i:Int)∧Hid (zs.length=i)∧Hid (Scz (N+1+6*(N+1)+1) L i a zs s)∧Hid (ScK A w b1 b2 (N+1+6*(N+1)+1) a s x1 x2 x3 x4 y1 y2 y3 y4 wr)∧Hid (OwnR NoWord 2 (ZE (N+1+6*(N+1)+1)) 31 wr (b2+1) ov zs))
     case atStart=>exact ⟨0,0,_,_,_,_,[],by omega,by omega,rfl,qh rfl,qh ⟨by simp,by omega,zqu _,by simp,by simp⟩,HK,HO⟩
     case round =>
       clear HK HO
       obtain ⟨i,s,y1,y2,y3,y4,zs,hi,hgk,rfl,HZL,HV,HK,HO⟩:=hrel
       obtain ⟨oa,oc,rfl⟩:=(uh HO).slice
       by_cases hil:i<L.length
       · obtain ⟨x,hx⟩:∃ s,L[i]? = some s:=⟨L[i],by simp [hil]⟩
         obtain ⟨b,o,rfl,cs,_,hcs,p1,p2,p3,p4,p5,p6,p7,p8,rfl,hX⟩:=(uh HR).at hx
         have c0:wr.cell? ⟨b,o+i*4,none⟩=some (.int .i64 p1):=ck (uh HK).below (by simpa using hcs 0 _ rfl)
         have c1:wr.cell? ⟨b,o+i*4+1,none⟩=some (.slice p2 p3 p4):=ck (uh HK).below (hcs 1 _ rfl)
         have c2:wr.cell? ⟨b,o+i*4+2,none⟩=some (.int .i64 p5):=ck (uh HK).below (hcs 2 _ rfl)
         have c3:wr.cell? ⟨b,o+i*4+3,none⟩=some (.slice p6 p7 p8):=ck (uh HK).below (hcs 3 _ rfl)
         have HX:=qh hx
         have HDN:=qh hX.den
         have hil':(i:Int)<(L.length:Int):=by omega
         have kn:=zqa wr (.cells #[.int .i64 p1,.slice p2 p3 p4,.int .i64 p5,.slice p6 p7 p8] 52)
         have HRB:=qh (RB.new (hX.later (uh HK).below))
         have HKo:=HK
         have HK:=qh ((uh HK).keep kn)
         have HB2L:=qh (uh HKo).sh.lt
         have HLT:=qh (fun g (hg:(Value.slice oa zs.length oc).ownBlock=some g)=>(by obtain ⟨xs,h1,_⟩:=uh HO;exact h1.own.lt g hg:b2+1≤g∧g<wr.heap.size))
         have HO:=qh ((uh HO).later (ZE.stays _ _ nww) kn)
         clear hx hcs hX kn
         go_upto_region 10 with fail
         obtain ⟨V,hV⟩:∃ V,V=wr.alloc (.cells #[.int .i64 p1,.slice p2 p3 p4,.int .i64 p5,.slice p6 p7 p8] 52):=⟨_,rfl⟩
         obtain ⟨br,hbr⟩:∃ b,b=wr.heap.size:=⟨_,rfl⟩
         rw [← hV] at HK HRB HO ⊢
         rw [← hbr] at HRB HLT ⊢
         have HLT1:Hid (b1<b2+1∧b1≠b2∧b2<br):=qh ⟨by have:=uh HB12;omega,by have:=uh HB12;omega,by rw [hbr];exact (uh HB2L)⟩
         have HGI:=qh (And.intro hgk (And.intro hi hil))
         clear hV hbr c0 c1 c2 c3 hgk hi hil
         have HE2:Hid (a / x.2*x.2=a):=qh (Int.ediv_mul_cancel ((uh HAV).2.2 x (List.mem_of_getElem? (uh HX))))
         have HFT:Hid (∀ (M:Nat) W v,Zr M W v (x.1*(a / x.2))→Zr (N+1+6*(N+1)+1) W v (x.1*(a / x.2))):=qh fun M W v h=>(scz_fit (uh HAV) (uh HDN) (uh HE2) hl h)
         have HD0:=qh (show x.2≠0 by have:=(uh HDN).1;omega)
         have HK0:=HK
         have HRB0:=HRB
         have HO0:=HO
         go_cut [10] from 34 to 51 (fun v10 wx=>∃ q m1 m2 m3 m4,v10=.pointer (some ⟨q,0,none⟩)∧br<q∧Hid (Vr wx q m1 m2 m3 m4 (N+1+6*(N+1)+1) (x.1*(a / x.2)))∧Hid (ScK A w b1 b2 (N+1+6*(N+1)+1) a s x1 x2 x3 x4 y1 y2 y3 y4 wx)∧Hid (OwnR NoWord 2 (ZE (N+1+6*(N+1)+1)) 31 wx (b2+1) (.slice oa zs.length oc) zs))
         case first =>
           have HS0:Hid (Sc2 A w b1 b2 (N+1+6*(N+1)+1) a s x1 x2 x3 x4 y1 y2 y3 y4 br (N+1) p1 p2 p3 p4 p5 p6 p7 p8 x.1 x.2 (.slice oa zs.length oc) zs V):=qh ⟨uh HK0,uh HRB0,uh HO0⟩
           have HS:=qh (uh HS0).drew
           have n0:=(uh HS0).k.ab.lt
           have n1:=(uh HS0).r.lt
           have n2:=(uh HS0).k.l1
           have n3:=(uh HS0).k.l2
           have n4:=(uh HS0).k.sh.lt
           clear HK HRB HO HK0 HRB0 HO0
           go_region_held3 (fun w'=>w'.cell? ⟨b1,0,none⟩=some (.int .i64 x1)∧w'.cell? ⟨b1,1,none⟩=some (.slice x2 x3 x4)∧w'.cell? ⟨br,0,none⟩=some (.int .i64 p1)∧w'.cell? ⟨br,1,none⟩=some (.slice p2 p3 p4)∧w'.cell? ⟨br,2,none⟩=some (.int .i64 p5)∧w'.cell? ⟨br,3,none⟩=some (.slice p6 p7 p8))
             (first | with_reducible exact (uh HS).cs | with_reducible exact ((uh HS).keep (zqa _ _)).cs | with_reducible exact (((uh HS0).keep (zqa _ _)).drew).cs | with_reducible exact Sc2.put (uh HS) _ _ (by omega) (by omega))
             (first
               | (go_at_call 37;(first | go_fit (num_any (N:=N+1) _ (uh HS).r.r) | go_fit (num_any (N:=N+1) _ ((uh HS).keep (zqa _ _)).r.r) | go_fit (num_any (N:=N+1) _ ((uh HS0).keep (zqa _ _)).drew.r.r));rintro e9 Y1 ⟨⟨vn,rfl,hNm⟩,hb⟩;obtain ⟨i1,i2,i3,i4,rfl⟩:=hNm.shape;(try have hD:Zr _ Y1 _ _:=(by first | exact hD.later hb | exact (hD.later (zqa _ _)).later hb));(try have hE:Zr _ Y1 _ _:=(by first | exact hE.later hb | exact (hE.later (zqa _ _)).later hb));(first | (have HS:=qh ((uh HS).keep hb);try have hbx:=hbx.later hb) | (have HS:=qh (((uh HS).keep (zqa _ _)).keep hb);have hbx:=(zqw _).later hb) | (have HS:=qh ((((uh HS0).keep (zqa _ _)).drew).keep hb);have hbx:=(show Box (V.alloc (.cells #[.int .i64 0,.slice none 0 0] 31)).drew V.heap.size from zqw V).later hb));have l0:=(uh HS).k.ab.lt;have l1:=(uh HS).r.lt;have l2:=(uh HS).k.sh.lt;(try (obtain ⟨⟨g0,h0⟩,⟨g1,g2,g3,h1⟩,gf⟩:=hbx.cells;have hxlt:=hbx.lt));clear hb)
               | (go_at_call 38;(first | go_fit (den_any (N:=N+1) _ (uh HS).r.r) | go_fit (den_any (N:=N+1) _ ((uh HS).keep (zqa _ _)).r.r));rintro e9 Y2 ⟨⟨vd,rfl,hD⟩,hb⟩;obtain ⟨j1,j2,j3,j4,rfl⟩:=hD.shape;(try have hNm:Zr _ Y2 _ _:=(by first | exact hNm.later hb | exact (hNm.later (zqa _ _)).later hb));(try have hE:Zr _ Y2 _ _:=(by first | exact hE.later hb | exact (hE.later (zqa _ _)).later hb));(first | (have HS:=qh ((uh HS).keep hb);try have hbx:=hbx.later hb) | (have HS:=qh (((uh HS).keep (zqa _ _)).keep hb);have hbx:=(zqw _).later hb) | (have HS:=qh ((((uh HS0).keep (zqa _ _)).drew).keep hb);have hbx:=(show Box (V.alloc (.cells #[.int .i64 0,.slice none 0 0] 31)).drew V.heap.size from zqw V).later hb));have l0:=(uh HS).k.ab.lt;have l1:=(uh HS).r.lt;have l2:=(uh HS).k.sh.lt;(try (obtain ⟨⟨g0,h0⟩,⟨g1,g2,g3,h1⟩,gf⟩:=hbx.cells;have hxlt:=hbx.lt));clear hb)
               | (go_at_call 208;(first | go_fit (zjp (N:=N+1+6*(N+1)) _ (uh HS).k.ab.zr (hD.mono (by omega)) (uh HD0) (uh HE2) (by omega)) | go_fit (zjp (N:=N+1+6*(N+1)) _ ((uh HS).keep (zqa _ _)).k.ab.zr ((hD.later (zqa _ _)).mono (by omega)) (uh HD0) (uh HE2) (by omega)));rintro e9 Y3 ⟨⟨ve,rfl,hE⟩,hb⟩;obtain ⟨k1,k2,k3,k4,rfl⟩:=hE.shape;(try have hNm:Zr _ Y3 _ _:=(by first | exact hNm.later hb | exact (hNm.later (zqa _ _)).later hb));(try have hD:Zr _ Y3 _ _:=(by first | exact hD.later hb | exact (hD.later (zqa _ _)).later hb));(first | (have HS:=qh ((uh HS).keep hb);try have hbx:=hbx.later hb) | (have HS:=qh (((uh HS).keep (zqa _ _)).keep hb);have hbx:=(zqw _).later hb) | (have HS:=qh ((((uh HS0).keep (zqa _ _)).drew).keep hb);have hbx:=(show Box (V.alloc (.cells #[.int .i64 0,.slice none 0 0] 31)).drew V.heap.size from zqw V).later hb));have l0:=(uh HS).k.ab.lt;have l1:=(uh HS).r.lt;have l2:=(uh HS).k.sh.lt;(try (obtain ⟨⟨g0,h0⟩,⟨g1,g2,g3,h1⟩,gf⟩:=hbx.cells;have hxlt:=hbx.lt));clear hb)
               | (go_at_call 17;(first | go_fit (zjb (N:=N+1+6*(N+1)+2) _ (hNm.mono (by omega)) hE (by omega)) | go_fit (zjb (N:=N+1+6*(N+1)+2) _ ((hNm.later (zqa _ _)).mono (by omega)) (hE.later (zqa _ _)) (by omega)));rintro e9 Y4 ⟨⟨vm,rfl,hM⟩,hb⟩;have hM:=uh HFT _ _ _ hM;obtain ⟨o1,o2,o3,o4,rfl⟩:=hM.shape;(try have hNm:Zr _ Y4 _ _:=(by first | exact hNm.later hb | exact (hNm.later (zqa _ _)).later hb));(try have hD:Zr _ Y4 _ _:=(by first | exact hD.later hb | exact (hD.later (zqa _ _)).later hb));(try have hE:Zr _ Y4 _ _:=(by first | exact hE.later hb | exact (hE.later (zqa _ _)).later hb));(first | (have HS:=qh ((uh HS).keep hb);try have hbx:=hbx.later hb) | (have HS:=qh (((uh HS).keep (zqa _ _)).keep hb);have hbx:=(zqw _).later hb) | (have HS:=qh ((((uh HS0).keep (zqa _ _)).drew).keep hb);have hbx:=(show Box (V.alloc (.cells #[.int .i64 0,.slice none 0 0] 31)).drew V.heap.size from zqw V).later hb));have l0:=(uh HS).k.ab.lt;have l1:=(uh HS).r.lt;have l2:=(uh HS).k.sh.lt;(try (obtain ⟨⟨g0,h0⟩,⟨g1,g2,g3,h1⟩,gf⟩:=hbx.cells;have hxlt:=hbx.lt));clear hb))
           all_goals
             go_wp2
             go_meet
             first
               | exact ⟨_,_,_,_,_,rfl,(uh HS).r.lt,qh (Vr.new hM),qh ((uh HS).keep (zqa _ _)).k,qh ((uh HS).keep (zqa _ _)).o⟩
               | exact ⟨_,_,_,_,_,rfl,(by omega),qh (Vr.in hbx hM),qh ((uh HS).k.aside (uh HA) hbx (by omega) (by omega) (by omega) _ _ _ _),qh ((uh HS).o.boxed hbx (fun g hg=>(by have:=uh HLT g hg;omega)) _ _)⟩
         case rest =>
           obtain ⟨q,m1,m2,m3,m4,rfl,hq,HZ,HK,HO⟩:=hcut
           obtain ⟨Z,rfl⟩:∃ X,X=wc:=⟨_,rfl⟩
           have z0:=(uh HZ).c0
           have z1:=(uh HZ).c1
           have hbs:b2+1≤Z.heap.size:=(uh HK).sh.lt
           have hLn:zs.length≤100000000:=by have:=uh HGI;have:=uh HZL;omega
           go_upto_region 12 with (at_builtin;refine zqm rfl _ _ _ rfl Tryz.underlying183 info_z rfl (by decide) (by decide) zk_z (ZE.stays _ _ nww) (b2+1) _ rfl (uh HO) [.int .i64 m1,.slice m2 m3 m4] rfl (one_z _ _ _ _) (kd_z _ _ _ _) ⟨_,_,_,_,rfl,(uh HZ).zr⟩ rfl rfl hLn hbs ?_;intro ov' Z1 hO1 hc1 hgr1 hge1)
           have kn:=zqa Z (.cells #[.int .i64 m1,.slice m2 m3 m4] 31)
           have hrow:∀ g,(Value.slice oa zs.length oc).ownBlock=some g→w.heap.size<g∧g≠b1∧g≠b2:=fun g hg=>by
             have h1:=uh HLT g hg
             have h2:=(uh HK).l2
             have h3:=(uh HLT1)
             omega
           have HZ:=qh (((uh HZ).keep kn).grown hgr1 (fun hv=>by have:=uh HLT _ hv.symm;omega) hc1)
           have HK:=qh (((uh HK).keep kn).grown (uh HA) hgr1 hc1 hrow)
           have HO:=qh hO1
           clear kn hrow hgr1 hc1 hO1 hge1 z0 z1 hbs hLn
           have z0:=(uh HZ).c0
           have z1:=(uh HZ).c1
           have s0:=(uh HK).sh.c0
           have s1:=(uh HK).sh.c1
           go_wp2_with fail
           go_fit (gcd_any (N:=N+1+6*(N+1)) _ (uh HK).sh.zr (uh HZ).zr (by omega) (uh HK).env.t64)
           rintro e9 Y ⟨⟨vg,rfl,hG⟩,hb⟩
           have hzz:=(uh HZ).zr.inside
           have hN2:=(uh HV).next (uh HX) hzz
           have hG:=hG.fit (M:=(N+1+6*(N+1)+1)) (by have:=hN2.2.1;have:=zqu (N+1+6*(N+1)+1);omega) hN2.2.2.1
           obtain ⟨k1,k2,k3,k4,rfl⟩:=hG.shape
           have HN2:=qh hN2
           have HK:=qh ((uh HK).keep hb)
           have HLT2:=qh (fun g (hg:ov'.ownBlock=some g)=>(by obtain ⟨xs,h1,_⟩:=uh HO;exact h1.own.lt g hg:b2+1≤g∧g<_))
           have HO:=qh ((uh HO).later (ZE.stays _ _ nww) hb)
           obtain ⟨⟨x0,g0⟩,⟨a0,n0,c0',g1⟩,gf⟩:=(uh HK).sh.box.cells
           have hlt:=(uh HK).sh.lt
           clear hb hzz hN2 s0 s1 z0 z1
           obtain ⟨hgk,hi,hil⟩:=uh HGI
           go_wp2
           go_roundg (L.length - (i+1))
           case measure=>omega
           case rel=>exact ⟨i+1,_,_,_,_,_,zs++[x.1*(a / x.2)],by omega,rfl,by go_num,qh (by have:=uh HZL;simp [this]),HN2,qh ((uh HK).putSh hG (uh HA)),qh ((uh HO).boxed (uh HK).sh.box (fun g hg=>(by have:=(uh HLT2 g hg).1;omega)) _ _)⟩
       · obtain rfl:i=L.length:=by omega
         clear hil hi hgk
         have hSZ:=uh HV
         rw [Scz,List.take_length] at hSZ
         have HSZ:=qh hSZ
         clear hSZ HV
         have s0:=(uh HK).sh.c0
         have s1:=(uh HK).sh.c1
         obtain ⟨near,sa',sn,sc',hve,hsg,_⟩:=(uh HK).sh.zr.sgn
         obtain ⟨rfl,rfl,rfl,rfl⟩:y1=near∧y2=sa'∧y3=sn∧y4=sc':=by simpa using hve
         have HSG:=qh hsg
         have HON:=qh (allown (uh HO))
         clear hve hsg
         go_wp2_with fail
         go_fit (zqj y1 (.slice y2 y3 y4) _)
         rintro e W2 ⟨rfl,B2⟩
         rw [uh HSG]
         have HK:=qh ((uh HK).keep B2)
         have HO:=qh ((uh HO).later (ZE.stays _ _ nww) B2)
         clear B2 s0 s1
         by_cases hs0:s=0
         · rw [show sgn s=0 by rw [hs0];rfl]
           go_wp2_with fail
           go_fit (rint_any 1 _ (by decide) (by decide))
           rintro e W3 ⟨⟨v1,rfl,hR1⟩,B3⟩
           obtain ⟨o1,o2,o3,o4,o5,o6,o7,o8,rfl⟩:=hR1.shape
           have HK:=qh ((uh HK).keep B3)
           have HO:=qh ((uh HO).later (ZE.stays _ _ nww) B3)
           clear B3
           obtain ⟨⟨m0,n0⟩,⟨m1,m2,m3,n1⟩,⟨m4,n2⟩,⟨m5,m6,m7,n3⟩,nf⟩:=(uh HK).ret.cells
           have hlt:=(uh HK).ret.lt
           go_wp2
           obtain ⟨st0,st1,st2,st3⟩:=(uh HK).ret.stored (.int .i64 o1) (.slice o2 o3 o4) (.int .i64 o5) (.slice o6 o7 o8)
           exact bodyPost_ret (v:=.tuple #[.slice oa zs.length oc,.agg #[.int .i64 o1,.slice o2 o3 o4,.int .i64 o5,.slice o6 o7 o8]]) (by simp [results,Tryz.results144,go_sem,st0,st1,st2,st3]) rfl ⟨⟨_,_,zs,1,1,rfl,(fun g hg=>(by have:=(uh HON g hg).1;have:=(uh HK).l2;omega)),((uh HO).rboxed (uh HK).ret (fun g hg=>(by have:=(uh HON g hg).1;have:=(uh HK).l2;omega)) _ _ _ _).rows,(hR1.mono (by omega)).rstored (uh HK).ret _ _ _ _,by decide,uh HZL,scz_zero (uh HAV) (uh HSZ) hs0⟩,zqe (uh HK).below (Nat.le_refl _) _ _ _ _⟩
         have hs1:((sgn s) == 0)=false:=by have:=sgn_some hs0;simpa using this
         have HS0:=qh hs0
         clear hs0
         go_wp2_with fail
         go_loopg [59] zs.length (fun gk iv wr=>∃ (i:Nat) (ms:List Int),i≤zs.length∧gk=zs.length - i∧iv=.int .i64 (i:Int)∧Hid (ms.length=zs.length)∧Hid (∀ (j:Nat) (z:Int),zs[j]? = some z→ms[j]? = some (if j<i then z / s else z))∧Hid (ScK A w b1 b2 (N+1+6*(N+1)+1) a s x1 x2 x3 x4 y1 y2 y3 y4 wr)∧Hid (OwnR NoWord 2 (ZE (N+1+6*(N+1)+1)) 31 wr (b2+1) (.slice oa zs.length oc) ms))
         case atStart=>exact ⟨0,zs,by omega,by omega,rfl,qh rfl,qh (fun j z hj=>by rw [if_neg (by omega)];exact hj),HK,HO⟩
         case round =>
           clear HK HO
           obtain ⟨i,ms,hi,hgk,rfl,HML,HMS,HK,HO⟩:=hrel
           by_cases hil:i<zs.length
           · obtain ⟨z,hz⟩:∃ s,zs[i]? = some s:=⟨zs[i],by simp [hil]⟩
             have hmz:=uh HMS i z hz
             rw [if_neg (by omega)] at hmz
             obtain ⟨g,rfl⟩:∃ g,oa=some ⟨g,0,none⟩:=by
               obtain ⟨xs,h1,_⟩:=uh HO
               obtain ⟨_,⟨h0,h3⟩ | ⟨g,cap,cur,h0,_⟩⟩:=h1.own
               · rw [uh HML] at h3;omega
               · exact ⟨g,by simp at h0;exact h0.1⟩
             obtain ⟨b',o',hbo,cs,_,hcs,p1,p2,p3,p4,rfl,hX⟩:=(uh HO).rows.at hmz
             obtain ⟨rfl,rfl⟩:g=b'∧0=o':=by simpa using hbo
             have c0:wr.cell? ⟨g,i*2,none⟩=some (.int .i64 p1):=by simpa using hcs 0 _ rfl
             have c1:wr.cell? ⟨g,i*2+1,none⟩=some (.slice p2 p3 p4):=by have:=hcs 1 _ rfl;rw [Nat.zero_add] at this;exact this
             have hil':(i:Int)<(zs.length:Int):=by omega
             have kn:=zqa wr (.cells #[.int .i64 p1,.slice p2 p3 p4] 31)
             have HZ:=qh (Vr.new hX)
             have HI:=qh hz
             have HK:=qh ((uh HK).keep kn)
             have HO:=qh ((uh HO).later (ZE.stays _ _ nww) kn)
             have HGI:=qh (And.intro hgk (And.intro hi hil))
             clear hz hmz hbo hcs hX kn hgk hi hil
             have z0:=(uh HZ).c0
             have z1:=(uh HZ).c1
             have s0:=(uh HK).sh.c0
             have s1:=(uh HK).sh.c1
             go_wp2_with fail
             go_fit (zjp (N:=N+1+6*(N+1)) (q:=z / s) _ (uh HZ).zr (uh HK).sh.zr (uh HS0) (Int.ediv_mul_cancel ((uh HSZ).2.2.2.1 z (List.mem_of_getElem? (uh HI)))) (by omega))
             rintro e W3 ⟨⟨v1,rfl,hE⟩,B3⟩
             have hE:=hE.fit (M:=(N+1+6*(N+1)+1)) (div_fit (uh HZ).zr.inside (uh HSZ).2.1 (uh HS0)).1 (div_fit (uh HZ).zr.inside (uh HSZ).2.1 (uh HS0)).2
             obtain ⟨o1,o2,o3,o4,rfl⟩:=hE.shape
             have HK:=qh ((uh HK).keep B3)
             have HO:=qh ((uh HO).later (ZE.stays _ _ nww) B3)
             have HE:=qh hE
             clear B3 z0 z1 s0 s1 c0 c1 hE
             have hgl:=(allown (uh HO) g rfl).1
             have hmi:i<ms.length:=by have:=uh HGI;have:=uh HML;omega
             obtain ⟨f1,f2⟩:=(uh HO).set2 (i:=i) (x:=z / s) (ZE.stays _ _ nww) hmi (kd_z o1 o2 o3 o4) ⟨_,_,_,_,rfl,uh HE⟩
             have HF1:=qh f1
             have HK2:=qh ((uh HK).setRow (uh HA) (g:=g) (o:=i*2) (by have:=(uh HK).l2;omega) (by have:=uh HB12;omega) (by omega) f2)
             have e0:∃ u,W3.cell? ⟨g,i*2,none⟩=some u:=own_cell (uh HO) (o:=i*2) (by omega)
             have e1:∃ u,W3.cell? ⟨g,i*2+1,none⟩=some u:=own_cell (uh HO) (o:=i*2+1) (by omega)
             have gf:∀ o,W3.frozen? ⟨g,o,none⟩=false:=own_free (uh HO)
             obtain ⟨a0,e0⟩:=e0
             obtain ⟨a1,e1⟩:=e1
             obtain ⟨hgk,hi,hil⟩:=uh HGI
             have him:(i:Int)+1≤100:=by have:=uh HZL;omega
             clear f1 f2
             go_wp2
             go_roundg (zs.length - (i+1))
             case measure=>omega
             case rel=>exact ⟨i+1,ms.set i (z / s),by omega,rfl,by go_num,qh (by rw [List.length_set];exact uh HML),qh (set_next (uh HI) (uh HMS)),HK2,HF1⟩
           · obtain rfl:i=zs.length:=by omega
             clear hil hi hgk
             have z0:=(uh HK).ab.c0
             have z1:=(uh HK).ab.c1
             have s0:=(uh HK).sh.c0
             have s1:=(uh HK).sh.c1
             have HON:=qh (allown (uh HO))
             go_wp2_with fail
             go_fit (rof_ratio (N:=N+1+6*(N+1)) _ (uh HK).ab.zr (uh HK).sh.zr (by omega) (uh HK).env.t64)
             rintro e W3 ⟨ho,B3⟩
             obtain ⟨v1,P,D,rfl,hR,hE⟩:=ho.good (uh HS0)
             obtain ⟨o1,o2,o3,o4,o5,o6,o7,o8,rfl⟩:=hR.shape
             have HE:=qh hE
             have HK:=qh ((uh HK).keep B3)
             have HO:=qh ((uh HO).later (ZE.stays _ _ nww) B3)
             clear B3 z0 z1 s0 s1 ho hE
             obtain ⟨⟨m0,n0⟩,⟨m1,m2,m3,n1⟩,⟨m4,n2⟩,⟨m5,m6,m7,n3⟩,nf⟩:=(uh HK).ret.cells
             have hlt:=(uh HK).ret.lt
             go_upto_region 22 with fail
             obtain ⟨V,hV⟩:∃ V,V=(((W3.setCell ⟨w.heap.size,0,none⟩ (.int .i64 o1)).setCell ⟨w.heap.size,1,none⟩ (.slice o2 o3 o4)).setCell ⟨w.heap.size,2,none⟩ (.int .i64 o5)).setCell ⟨w.heap.size,3,none⟩ (.slice o6 o7 o8):=⟨_,rfl⟩
             have hst:=(uh HK).ret.stored (.int .i64 o1) (.slice o2 o3 o4) (.int .i64 o5) (.slice o6 o7 o8)
             have hbx:=(uh HK).ret.stored' o1 o2 o3 o4 o5 o6 o7 o8
             have HRV:=qh (hR.rstored (uh HK).ret (.int .i64 o1) (.slice o2 o3 o4) (.int .i64 o5) (.slice o6 o7 o8))
             have HOV:=qh ((uh HO).rboxed (uh HK).ret (fun g hg=>(by have:=(uh HON g hg).1;have:=(uh HK).l2;omega)) (.int .i64 o1) (.slice o2 o3 o4) (.int .i64 o5) (.slice o6 o7 o8))
             have BV:=qh (zqe (uh HK).below (Nat.le_refl _) (.int .i64 o1) (.slice o2 o3 o4) (.int .i64 o5) (.slice o6 o7 o8))
             first | rw [← hV] | skip
             rw [← hV] at hst hbx HRV HOV BV
             have HWB:=qh (uh HK).l2
             clear hV n0 n1 n2 n3 nf hlt hR HK HO
             obtain ⟨st0,st1,st2,st3⟩:=hst
             obtain ⟨_,_,_,_,nf⟩:=hbx.cells
             have hlt:=hbx.lt
             have HFIN:=qh (scz_end (uh HAV) (uh HSZ) (uh HS0) (uh HE) (by obtain ⟨_,_,_,_,_,_,_,_,_,_,_,_,d0,_⟩:=uh HRV;exact d0) (uh HML) (uh HMS))
             go_region
             all_goals
               go_wp2
               obtain ⟨t0,t1,t2,t3⟩:=hbx.stored (.int .i64 o1) (.slice o2 o3 o4) (.int .i64 o5) (.slice o6 o7 o8)
               exact bodyPost_ret (v:=.tuple #[.slice oa zs.length oc,.agg #[.int .i64 o1,.slice o2 o3 o4,.int .i64 o5,.slice o6 o7 o8]]) (by simp [results,Tryz.results144,go_sem,t0,t1,t2,t3]) rfl ⟨⟨_,_,ms,P,D,rfl,(fun g hg=>(by have:=(uh HON g hg).1;have:=uh HWB;omega)),(((uh HOV).rboxed hbx (fun g hg=>(by have:=(uh HON g hg).1;have:=uh HWB;omega)) _ _ _ _).later (ZE.stays _ _ nww) (Below.refl _ _).drew).rows,show Rr _ (World.drew _) _ _ _ from (uh HRV).rstored hbx _ _ _ _,(uh HFIN).1,(uh HFIN).2.1,(uh HFIN).2.2⟩,(zqe (uh BV) (Nat.le_refl _) _ _ _ _).drew⟩
structure Beside (g:Nat) (w w':World):Prop where
 chg:Chg NoWord 52 w w'∨Chg NoWord 183 w w'∨Chg NoWord 118 w w'
 block:∀ b,b≠g→w'.heap[b]? = w.heap[b]?
theorem Zr.beside {g T:Nat}{w w':World}{v:Value}{z:Int} (h:Zr T w v z) (hb:Beside g w w'):Zr T w' v z:=by
 rcases hb.chg with hc | hc | hc
 · exact h.chg hc nww
 · exact h.chg hc nww
 · exact h.chg hc nww
theorem Rr.beside {g T:Nat}{w w':World}{v:Value}{p d:Int} (h:Rr T w v p d) (hb:Beside g w w'):Rr T w' v p d:=by
 rcases hb.chg with hc | hc | hc
 · exact h.chg hc nww
 · exact h.chg hc nww
 · exact h.chg hc nww
def Zs (T lo hi:Nat) (w:World) (v:Value) (zs:List Int):Prop:=Rows 2 (ZE T) w v zs∧∀ g,v.ownBlock=some g→zs≠[]→lo≤g∧g<hi
theorem Zs.later {T lo hi:Nat}{w w':World}{v:Value}{zs:List Int} (h:Zs T lo hi w v zs) (hb:Below w.heap.size w w'):Zs T lo hi w' v zs:=⟨h.1.later (ZE.stays (K:=NoWord) _ 52 nww) hb,h.2⟩
theorem Zs.mono {T lo hi hi':Nat}{w:World}{v:Value}{zs:List Int} (h:Zs T lo hi w v zs) (hh:hi≤hi'):Zs T lo hi' w v zs:=⟨h.1,fun g hg hn=>by have:=h.2 g hg hn;omega⟩
theorem Zs.beside {T lo hi g:Nat}{w w':World}{v:Value}{zs:List Int} (h:Zs T lo hi w v zs) (hb:Beside g w w') (hg:g<lo∨hi≤g):Zs T lo hi w' v zs:=by
 obtain ⟨⟨a,c,rfl,h1,h2,h3⟩,h4⟩:=h
 refine ⟨⟨a,c,rfl,h1,h2,?_⟩,h4⟩
 rcases h3 with h3 | ⟨b,o,rfl,h3⟩
 · exact Or.inl h3
 · refine Or.inr ⟨b,o,rfl,fun i x hx => ?_⟩
   obtain ⟨cs,hl,hcs,y1,y2,y3,y4,e,hz⟩:=h3 i x hx
   have hne:b≠g:=by have:=h4 b rfl (fun e=>by rw [e] at hx;simp at hx);omega
   exact ⟨cs,hl,fun j u hu=>by rw [World.cell?_of_block (a:=⟨b,_,none⟩) (hb.block b hne)];exact hcs j u hu,y1,y2,y3,y4,e,hz.beside hb⟩
theorem Rr.posD {N:Nat}{w:World}{v:Value}{p d:Int} (h:Rr N w v p d):0<d:=by
 obtain ⟨x,a,n,c,y,b,m,k,e,rfl,h2,h3,d0,hg,hd⟩:=h
 exact d0
theorem wpOp_append {P:Program}{ops:Array Oper}{Q:Exit→Act→World→Prop}{i:Nat}{K:Act→World→Prop}{a:Act}{w:World}{o:Oper} (ho:ops[i]? = some o) (hgd:o.guard=none) (s x:Operand) (T:TypeId) (hop:o.op=.call { callee:=.builtin .append,args:=#[s,x],argTypes:=#[T,T] }) {v1 v2 v':Value}{w':World} (hs:a.eval s=v1) (hx:a.eval x=v2) (hr:(Builtin.append_ #[T,T] o.type #[v1,v2]).run P w=.ok v' w') (h:K (a.put o.dst v') w'):wpOp P ops Q i K a w:=by
 refine wpOp_step ho fun K' hK => ?_
 rw [if_pos (by simp [Region.wanted,hgd])]
 unfold Oper.wp execOp
 simp only [hop,resolve,invoke,builtin,Sem.run_bind,Sem.run_pure,Result.andThen_ok,List.map_toArray,List.map_cons,List.map_nil,hs,hx,hr]
 exact hK _ _ h
theorem Rr.lowD {N:Nat}{w:World}{v:Value}{p d:Int} (h:Rr N w v p d):Int.gcd p d=1:=by
 obtain ⟨x,a,n,c,y,b,m,k,e,rfl,h2,h3,d0,hg,hd⟩:=h
 exact hg
theorem Fill.beside {N:Nat}{w w':World}{g g' n:Nat}{L:List (Int×Int)} (h:Fill NoWord 4 (RE N) 52 w g n L) (hb:Beside g' w w') (hne:g≠g'):Fill NoWord 4 (RE N) 52 w' g n L:=by
 obtain ⟨cur,h1,h2,h3,h4,h5⟩:=h
 refine ⟨cur,by rw [hb.block g hne];exact h1,h2,h3,h4,fun i x hx => ?_⟩
 obtain ⟨cs,hl,hcs,y1,y2,y3,y4,y5,y6,y7,y8,e,hr⟩:=h5 i x hx
 exact ⟨cs,hl,hcs,y1,y2,y3,y4,y5,y6,y7,y8,e,hr.beside hb⟩
theorem Tab.beside {t:TypeId}{w w':World}{g g' n:Nat}{f:Nat→Value} (h:Tab t w g n f) (hb:Beside g' w w') (hne:g≠g'):Tab t w' g n f:=by
 obtain ⟨cur,h1,h2,h3⟩:=h
 exact ⟨cur,by rw [hb.block g hne];exact h1,h2,h3⟩
theorem Tab.kinds {t:TypeId}{w:World}{g n:Nat}{f:Nat→Value} (h:Tab t w g n f) (hf:∀ i,i<n→IsSl (f i)) (i:Nat) (v:Value):Chg NoWord t w (w.setCell ⟨g,i,none⟩ v):=by
 obtain ⟨cur,h1,h2,h3⟩:=h
 refine zxj h1 (fun u hu => ?_) v
 obtain ⟨k,hk⟩:=List.getElem?_of_mem hu
 rw [Array.getElem?_toList] at hk
 have hk':=(Array.getElem?_eq_some_iff.1 hk).1
 have:=h3 k (by omega)
 rw [hk] at this
 obtain rfl:=Option.some.inj this
 exact (hf k (by omega)).noInt.noWord
theorem Tab.besideZ {w:World}{g n:Nat}{f:Nat→Value} (h:Tab 183 w g n f) (hf:∀ i,i<n→IsSl (f i)) (i:Nat) (v:Value):Beside g w (w.setCell ⟨g,i,none⟩ v):=⟨Or.inr (Or.inl (h.kinds hf i v)),fun _ hb=>Below.heap_setCell _ _ _ _ hb⟩
theorem Tab.besideR {w:World}{g n:Nat}{f:Nat→Value} (h:Tab 118 w g n f) (hf:∀ i,i<n→IsSl (f i)) (i:Nat) (v:Value):Beside g w (w.setCell ⟨g,i,none⟩ v):=⟨Or.inr (Or.inr (h.kinds hf i v)),fun _ hb=>Below.heap_setCell _ _ _ _ hb⟩
theorem beside_put4 {w:World}{g o:Nat}{u0 u1 u2 u3:Value} (hc:Chg NoWord 52 w ((((w.setCell ⟨g,o,none⟩ u0).setCell ⟨g,o+1,none⟩ u1).setCell ⟨g,o+2,none⟩ u2).setCell ⟨g,o+3,none⟩ u3)):Beside g w ((((w.setCell ⟨g,o,none⟩ u0).setCell ⟨g,o+1,none⟩ u1).setCell ⟨g,o+2,none⟩ u2).setCell ⟨g,o+3,none⟩ u3) :=
 ⟨Or.inl hc,fun b hb=>by rw [Below.heap_setCell _ _ _ _ hb,Below.heap_setCell _ _ _ _ hb,Below.heap_setCell _ _ _ _ hb,Below.heap_setCell _ _ _ _ hb]⟩
def Scd (L:List (Int×Int)) (zs:List Int) (x:Int×Int):Prop:=0<x.1∧0<x.2∧zs.length=L.length∧∀ (i:Nat) (z:Int) (y:Int×Int),zs[i]? = some z→L[i]? = some y→z*y.2*x.2=y.1*x.1
structure Cols (M:List (List (Int×Int))) (T R ga gb m lo hi:Nat) (f:Nat→Value) (zz:Nat→List Int) (bs:List (Int×Int)) (w:World):Prop where
 ta:Tab 183 w ga m f
 fb:Fill NoWord 4 (RE R) 52 w gb m bs
 sl:∀ i,i<m→IsSl (f i)
 zs:∀ i x,bs[i]? = some x→Zs T lo hi w (f i) (zz i)∧Scd (colOf i M) (zz i) x
 lo:ga<lo∧gb<lo∧ga≠gb∧lo≤hi
theorem Cols.later {M:List (List (Int×Int))}{T R ga gb m lo hi:Nat}{f:Nat→Value}{zz:Nat→List Int}{bs:List (Int×Int)}{w w':World} (h:Cols M T R ga gb m lo hi f zz bs w) (hb:Below w.heap.size w w'):Cols M T R ga gb m lo hi f zz bs w' :=
 ⟨h.ta.later hb,h.fb.later (RE.stays _ _ nww) hb,h.sl,fun i x hx=>⟨(h.zs i x hx).1.later hb,(h.zs i x hx).2⟩,h.lo⟩
theorem Cols.mono {M:List (List (Int×Int))}{T R ga gb m lo hi hi':Nat}{f:Nat→Value}{zz:Nat→List Int}{bs:List (Int×Int)}{w:World} (h:Cols M T R ga gb m lo hi f zz bs w) (hh:hi≤hi'):Cols M T R ga gb m lo hi' f zz bs w :=
 ⟨h.ta,h.fb,h.sl,fun i x hx=>⟨(h.zs i x hx).1.mono hh,(h.zs i x hx).2⟩,by have:=h.lo;omega⟩
theorem Cols.drew {M:List (List (Int×Int))}{T R ga gb m lo hi:Nat}{f:Nat→Value}{zz:Nat→List Int}{bs:List (Int×Int)}{w:World} (h:Cols M T R ga gb m lo hi f zz bs w):Cols M T R ga gb m lo hi f zz bs w.drew:=h.later (Below.refl _ _).drew
theorem Cols.beside {M:List (List (Int×Int))}{T R ga gb m lo hi g:Nat}{f:Nat→Value}{zz:Nat→List Int}{bs:List (Int×Int)}{w w':World} (h:Cols M T R ga gb m lo hi f zz bs w) (hb:Beside g w w') (hg:hi≤g):Cols M T R ga gb m lo hi f zz bs w' :=
 ⟨h.ta.beside hb (by have:=h.lo;omega),h.fb.beside hb (by have:=h.lo;omega),h.sl,fun i x hx=>⟨(h.zs i x hx).1.beside hb (Or.inr hg),(h.zs i x hx).2⟩,h.lo⟩
theorem Cols.next {M:List (List (Int×Int))}{T R ga gb m lo hi:Nat}{f:Nat→Value}{zz:Nat→List Int}{bs:List (Int×Int)}{w:World} (h:Cols M T R ga gb m lo hi f zz bs w) {v:Value}{z:List Int}{x:Int×Int}{u0 u2:Int}{a1 a3:Option Addr}{n1 c1 n3 c3:Nat} (hi':bs.length<m) (hv:IsSl v) (hz:Zs T lo hi w v z) (hs:Scd (colOf bs.length M) z x) (hr:Rr R w (.agg #[.int .i64 u0,.slice a1 n1 c1,.int .i64 u2,.slice a3 n3 c3]) x.1 x.2) :
   let w':=(((((w.setCell ⟨ga,bs.length,none⟩ v).setCell ⟨gb,bs.length*4,none⟩ (.int .i64 u0)).setCell ⟨gb,bs.length*4+1,none⟩ (.slice a1 n1 c1)).setCell ⟨gb,bs.length*4+2,none⟩ (.int .i64 u2)).setCell ⟨gb,bs.length*4+3,none⟩ (.slice a3 n3 c3))
   Cols M T R ga gb m lo hi (fun j=>if j=bs.length then v else f j) (fun j=>if j=bs.length then z else zz j) (bs++[x]) w':=by
 intro w'
 obtain ⟨l1,l2,l3,l4⟩:=h.lo
 have b1:=h.ta.besideZ h.sl bs.length v
 have hf1:=h.fb.beside b1 (Ne.symm l3)
 obtain ⟨f2,c2⟩:=hf1.put4 (u0:=.int .i64 u0) (u1:=.slice a1 n1 c1) (u2:=.int .i64 u2) (u3:=.slice a3 n3 c3) (x:=x) (RE.stays _ _ nww) hi' (kd_r _ _ _ _ _ _ _ _) ⟨_,_,_,_,_,_,_,_,rfl,hr.beside b1⟩
 have b2:=beside_put4 c2
 refine ⟨(h.ta.set hi' v).beside b2 l3,f2,fun i hi'' => ?_,fun i y hy => ?_,⟨l1,l2,l3,l4⟩⟩
 · by_cases e:i=bs.length
   · rw [if_pos e];exact hv
   · rw [if_neg e];exact h.sl i hi''
 · by_cases e:i=bs.length
   · subst e
     rw [if_pos rfl,if_pos rfl]
     simp at hy
     subst hy
     exact ⟨(hz.beside b1 (Or.inl l1)).beside b2 (Or.inl l2),hs⟩
   · rw [if_neg e,if_neg e]
     have hlt:=(List.getElem?_eq_some_iff.1 hy).1
     rw [List.length_append,List.length_singleton] at hlt
     rw [List.getElem?_append_left (by omega)] at hy
     exact ⟨((h.zs i y hy).1.beside b1 (Or.inl l1)).beside b2 (Or.inl l2),(h.zs i y hy).2⟩
theorem RB.beside {N g:Nat}{wr w1:World}{b:Nat}{x1:Int}{x2:Option Addr}{x3 x4:Nat}{x5:Int}{x6:Option Addr}{x7 x8:Nat}{P D:Int} (h:RB N wr b x1 x2 x3 x4 x5 x6 x7 x8 P D) (hb:Beside g wr w1) (hne:b≠g):RB N w1 b x1 x2 x3 x4 x5 x6 x7 x8 P D:=by
 have hc:∀ o v,wr.cell? ⟨b,o,none⟩=some v→w1.cell? ⟨b,o,none⟩=some v:=fun o v hv=>by rw [World.cell?_of_block (a:=⟨b,o,none⟩) (hb.block b hne)];exact hv
 obtain ⟨⟨c0,c1,c2,c3⟩,hr⟩:=h
 exact ⟨⟨hc _ _ c0,hc _ _ c1,hc _ _ c2,hc _ _ c3⟩,hr.beside hb⟩
theorem Tab.congr {t:TypeId}{w:World}{g n:Nat}{f f':Nat→Value} (h:Tab t w g n f) (hf:∀ k,k<n→f k=f' k):Tab t w g n f':=by
 obtain ⟨cur,h1,h2,h3⟩:=h
 exact ⟨cur,h1,h2,fun i hi=>by rw [h3 i hi,hf i hi]⟩
structure Outs (X:List (Int×Int)) (g1 g2 n m i j:Nat) (AA:Nat→Option Addr) (w:World):Prop where
 room:Fill NoWord 4 (RE 20000) 52 w g1 (n*m) (X.take (i*m+j))
 tab:Tab 118 w g2 n (fun k=>.slice (AA k) (if k<i then m else if k=i then j else 0) m)
theorem Outs.later {X:List (Int×Int)}{g1 g2 n m i j:Nat}{AA:Nat→Option Addr}{w w':World} (h:Outs X g1 g2 n m i j AA w) (hb:Below w.heap.size w w'):Outs X g1 g2 n m i j AA w':=⟨h.room.later (RE.stays _ _ nww) hb,h.tab.later hb⟩
theorem Outs.start {X:List (Int×Int)}{g1 g2 n m:Nat}{AA:Nat→Option Addr}{w:World} (h1:Fill NoWord 4 (RE 20000) 52 w g1 (n*m) []) (h2:Tab 118 w g2 n (fun i=>.slice (AA i) 0 m)):Outs X g1 g2 n m 0 0 AA w :=
 ⟨by simpa using h1,h2.congr fun k hk=>by simp⟩
theorem Outs.next {X:List (Int×Int)}{g1 g2 n m i:Nat}{AA:Nat→Option Addr}{w:World} (h:Outs X g1 g2 n m i m AA w):Outs X g1 g2 n m (i+1) 0 AA w :=
 ⟨by have:=h.room;rwa [show i*m+m=(i+1)*m+0 by rw [Nat.add_mul];omega] at this,h.tab.congr fun k hk=>by
   by_cases h1:k<i
   · rw [if_pos h1,if_pos (by omega)]
   · by_cases h2:k=i
     · rw [if_neg h1,if_pos h2,if_pos (by omega)]
     · rw [if_neg h1,if_neg h2,if_neg (by omega)];simp⟩
structure PrS (w:World) (ys:Nat) (M:List (List (Int×Int))) (ga gb m lo hi:Nat) (f:Nat→Value) (zz:Nat→List Int) (bs X:List (Int×Int)) (g1 g2 n k j:Nat) (AA:Nat→Option Addr) (lo2 q:Nat) (va:Value) (a:List Int) (r1:Int) (r2:Option Addr) (r3 r4:Nat) (r5:Int) (r6:Option Addr) (r7 r8:Nat) (P D:Int) (Z:World→Prop) (jr:Nat) (wr:World):Prop where
 below:Below w.heap.size w wr
 ys:ys≤wr.heap.size
 cols:Cols M 547 1100 ga gb m lo hi f zz bs wr
 room:Fill NoWord 4 (RE 20000) 52 wr g1 (n*m) (X.take (k*m+jr))
 tab:Tab 118 wr g2 n (fun i=>.slice (AA i) (if i<k then m else if i=k then j else 0) m)
 zs:Zs 547 lo2 q wr va a
 rb:RB 1100 wr q r1 r2 r3 r4 r5 r6 r7 r8 P D
 z:Z wr
theorem PrS.later {w:World}{ys:Nat}{M:List (List (Int×Int))}{ga gb m lo hi:Nat}{f:Nat→Value}{zz:Nat→List Int}{bs X:List (Int×Int)}{g1 g2 n k j:Nat}{AA:Nat→Option Addr}{lo2 q:Nat}{va:Value}{a:List Int}{r1:Int}{r2:Option Addr}{r3 r4:Nat}{r5:Int}{r6:Option Addr}{r7 r8:Nat}{P D:Int}{Z:World→Prop}{jr:Nat}{wr w':World} (h:PrS w ys M ga gb m lo hi f zz bs X g1 g2 n k j AA lo2 q va a r1 r2 r3 r4 r5 r6 r7 r8 P D Z jr wr) (hZ:∀ W W':World,Z W→Below W.heap.size W W'→Z W') (hb:Below wr.heap.size wr w'):PrS w ys M ga gb m lo hi f zz bs X g1 g2 n k j AA lo2 q va a r1 r2 r3 r4 r5 r6 r7 r8 P D Z jr w' :=
 ⟨bk hb h.below,Nat.le_trans h.ys hb.size,h.cols.later hb,h.room.later (RE.stays _ _ nww) hb,h.tab.later hb,h.zs.later hb,h.rb.keep hb,hZ _ _ h.z hb⟩
def ZB (gb j:Nat) (s1:Int) (s2:Option Addr) (s3 s4:Nat) (s5:Int) (s6:Option Addr) (s7 s8:Nat) (p d:Int) (W:World):Prop:=(W.cell? ⟨gb,j*4,none⟩=some (.int .i64 s1)∧W.cell? ⟨gb,j*4+1,none⟩=some (.slice s2 s3 s4)∧W.cell? ⟨gb,j*4+2,none⟩=some (.int .i64 s5)∧W.cell? ⟨gb,j*4+3,none⟩=some (.slice s6 s7 s8))∧Rr 1100 W (.agg #[.int .i64 s1,.slice s2 s3 s4,.int .i64 s5,.slice s6 s7 s8]) p d
theorem ZB.later {gb j:Nat}{s1:Int}{s2:Option Addr}{s3 s4:Nat}{s5:Int}{s6:Option Addr}{s7 s8:Nat}{p d:Int} (W W':World) (h:ZB gb j s1 s2 s3 s4 s5 s6 s7 s8 p d W) (hb:Below W.heap.size W W'):ZB gb j s1 s2 s3 s4 s5 s6 s7 s8 p d W' :=
 ⟨⟨ck hb h.1.1,ck hb h.1.2.1,ck hb h.1.2.2.1,ck hb h.1.2.2.2⟩,h.2.later hb⟩
theorem ZB.beside {gb j g:Nat}{s1:Int}{s2:Option Addr}{s3 s4:Nat}{s5:Int}{s6:Option Addr}{s7 s8:Nat}{p d:Int} (hne:gb≠g) (W W':World) (h:ZB gb j s1 s2 s3 s4 s5 s6 s7 s8 p d W) (hb:Beside g W W'):ZB gb j s1 s2 s3 s4 s5 s6 s7 s8 p d W':=by
 have hc:∀ o v,W.cell? ⟨gb,o,none⟩=some v→W'.cell? ⟨gb,o,none⟩=some v:=fun o v hv=>by rw [World.cell?_of_block (a:=⟨gb,o,none⟩) (hb.block gb hne)];exact hv
 exact ⟨⟨hc _ _ h.1.1,hc _ _ h.1.2.1,hc _ _ h.1.2.2.1,hc _ _ h.1.2.2.2⟩,h.2.beside hb⟩
theorem PrS.store {w:World}{ys:Nat}{M:List (List (Int×Int))}{ga gb m lo hi:Nat}{f:Nat→Value}{zz:Nat→List Int}{bs X:List (Int×Int)}{g1 g2 n k j:Nat}{AA:Nat→Option Addr}{lo2 q:Nat}{va:Value}{a:List Int}{r1:Int}{r2:Option Addr}{r3 r4:Nat}{r5:Int}{r6:Option Addr}{r7 r8:Nat}{P D:Int}{Z:World→Prop}{W:World} (h:PrS w ys M ga gb m lo hi f zz bs X g1 g2 n k j AA lo2 q va a r1 r2 r3 r4 r5 r6 r7 r8 P D Z (j+1) W) (hZ:∀ W W':World,Z W→Beside g2 W W'→Z W') (hk:k<n) (hg:hi≤g2) (hg12:g1≠g2) (hlo:g2<lo2) (hlq:lo2≤q) (hw:w.heap.size≤g2) :
   PrS w ys M ga gb m lo hi f zz bs X g1 g2 n k (j+1) AA lo2 q va a r1 r2 r3 r4 r5 r6 r7 r8 P D Z (j+1) (W.setCell ⟨g2,k,none⟩ (.slice (AA k) (j+1) m))∧Beside g2 W (W.setCell ⟨g2,k,none⟩ (.slice (AA k) (j+1) m)):=by
 have hbe:=h.tab.besideR (fun i _=>⟨_,_,_,rfl⟩) k (.slice (AA k) (j+1) m)
 refine ⟨⟨h.below.setCell (p:=⟨g2,k,none⟩) hw _,by simpa using h.ys,h.cols.beside hbe hg,h.room.beside hbe hg12,(h.tab.set hk _).congr fun i hi => ?_,h.zs.beside hbe (Or.inl hlo),h.rb.beside hbe (by omega),hZ _ _ h.z hbe⟩,hbe⟩
 by_cases e:i=k
 · subst e
   rw [if_pos rfl,if_neg (by omega),if_pos rfl]
 · rw [if_neg e,if_neg e]
   by_cases e2:i<k
   · rw [if_pos e2,if_pos e2]
   · rw [if_neg e2,if_neg e2,if_neg e]
theorem PrS.append {w:World}{ys:Nat}{M:List (List (Int×Int))}{ga gb m lo hi:Nat}{f:Nat→Value}{zz:Nat→List Int}{bs X:List (Int×Int)}{g1 g2 n k j:Nat}{AA:Nat→Option Addr}{lo2 q:Nat}{va:Value}{a:List Int}{r1:Int}{r2:Option Addr}{r3 r4:Nat}{r5:Int}{r6:Option Addr}{r7 r8:Nat}{P D:Int}{Z:World→Prop}{W:World}{gq:Nat}{t1:Int}{t2:Option Addr}{t3 t4:Nat}{t5:Int}{t6:Option Addr}{t7 t8:Nat}{x:Int×Int} (h:PrS w ys M ga gb m lo hi f zz bs X g1 g2 n k j AA lo2 q va a r1 r2 r3 r4 r5 r6 r7 r8 P D Z j W) (hZ:∀ W W':World,Z W→Beside g1 W W'→Z W') (ht:RB 20000 W gq t1 t2 t3 t4 t5 t6 t7 t8 x.1 x.2) (hx:X[k*m+j]? = some x) (hk:k<n) (hj:j<m) (hA:AA k=some ⟨g1,k*m*4,none⟩) (hg:hi≤g1) (hg12:g1≠g2) (hlo:g1<lo2) (hlq:lo2≤q) (hw:w.heap.size≤g1) :
   (Builtin.append_ #[118,118] 118 #[.slice (AA k) j m,.slice (some ⟨gq,0,none⟩) 1 1]).run Tryz.prog W=.ok (.slice (AA k) (j+1) m) ((((W.setCell ⟨g1,(k*m+j)*4,none⟩ (.int .i64 t1)).setCell ⟨g1,(k*m+j)*4+1,none⟩ (.slice t2 t3 t4)).setCell ⟨g1,(k*m+j)*4+2,none⟩ (.int .i64 t5)).setCell ⟨g1,(k*m+j)*4+3,none⟩ (.slice t6 t7 t8))∧PrS w ys M ga gb m lo hi f zz bs X g1 g2 n k j AA lo2 q va a r1 r2 r3 r4 r5 r6 r7 r8 P D Z (j+1) ((((W.setCell ⟨g1,(k*m+j)*4,none⟩ (.int .i64 t1)).setCell ⟨g1,(k*m+j)*4+1,none⟩ (.slice t2 t3 t4)).setCell ⟨g1,(k*m+j)*4+2,none⟩ (.int .i64 t5)).setCell ⟨g1,(k*m+j)*4+3,none⟩ (.slice t6 t7 t8))∧Beside g1 W ((((W.setCell ⟨g1,(k*m+j)*4,none⟩ (.int .i64 t1)).setCell ⟨g1,(k*m+j)*4+1,none⟩ (.slice t2 t3 t4)).setCell ⟨g1,(k*m+j)*4+2,none⟩ (.int .i64 t5)).setCell ⟨g1,(k*m+j)*4+3,none⟩ (.slice t6 t7 t8)):=by
 have hlen:(X.take (k*m+j)).length=k*m+j:=by
   rw [List.length_take];have:=(List.getElem?_eq_some_iff.1 hx).1;omega
 have hlt:k*m+j<n*m:=by
   have h1:(k+1)*m≤n*m:=Nat.mul_le_mul_right _ hk
   rw [Nat.add_mul] at h1;omega
 obtain ⟨f2,c2⟩:=h.room.put4 (u0:=.int .i64 t1) (u1:=.slice t2 t3 t4) (u2:=.int .i64 t5) (u3:=.slice t6 t7 t8) (x:=x) (RE.stays _ _ nww) (by rw [hlen];exact hlt) (kd_r _ _ _ _ _ _ _ _) ⟨_,_,_,_,_,_,_,_,rfl,ht.r⟩
 rw [hlen] at f2 c2
 have hbe:=beside_put4 c2
 refine ⟨?_,⟨below_put4 h.below hw _ _ _ _,by simpa using h.ys,h.cols.beside hbe hg,?_,h.tab.beside hbe (Ne.symm hg12),h.zs.beside hbe (Or.inl hlo),h.rb.beside hbe (by omega),hZ _ _ h.z hbe⟩,hbe⟩
 · obtain ⟨i0,hi0,hz0,hz1,hz2⟩:=info_parts info_r
   have hoff:∀ o,o<4→k*m*4+j*i0.size+o=(k*m+j)*4+o:=fun o ho=>by rw [hz1];omega
   have hrun:=run_append_room_cells (P:=Tryz.prog) W 118 118 52 i0 Tryz.underlying118 hi0 g1 (k*m*4) j m ⟨gq,0,none⟩ 1 1 [.int .i64 t1,.slice t2 t3 t4,.int .i64 t5,.slice t6 t7 t8] (by rw [hz1];rfl) (fun o u hu => ?_) (one_r _ _ _ _ _ _ _ _) hj (fun o ho => ?_) (fun o ho=>h.room.free _)
   · rw [hA,hrun,hz1,show k*m*4+j*4=(k*m+j)*4 by omega]
     rfl
   · match o,hu with
     | 0,hu =>
       obtain rfl:_=u:=by simpa using hu
       exact ht.c.1
     | 1,hu =>
       obtain rfl:_=u:=by simpa using hu
       exact ht.c.2.1
     | 2,hu =>
       obtain rfl:_=u:=by simpa using hu
       exact ht.c.2.2.1
     | 3,hu =>
       obtain rfl:_=u:=by simpa using hu
       exact ht.c.2.2.2
   · rw [hoff o (by simpa using ho)]
     obtain ⟨u,hu⟩:=h.room.cell (o:=(k*m+j)*4+o) (by simp at ho;omega)
     rw [hu];rfl
 · rw [← Nat.add_assoc,tkn hx];exact f2
theorem Cols.at {M:List (List (Int×Int))}{T ga gb m lo hi j:Nat}{f:Nat→Value}{zz:Nat→List Int}{bs:List (Int×Int)}{W:World}{x:Int×Int} (h:Cols M T 1100 ga gb m lo hi f zz bs W) (hx:bs[j]? = some x):∃ s1 s2 s3 s4 s5 s6 s7 s8,ZB gb j s1 s2 s3 s4 s5 s6 s7 s8 x.1 x.2 W:=by
 obtain ⟨cur,h1,h2,h3,h4,h5⟩:=h.fb
 obtain ⟨cs,hl,hcs,s1,s2,s3,s4,s5,s6,s7,s8,rfl,hr⟩:=h5 j x hx
 exact ⟨s1,s2,s3,s4,s5,s6,s7,s8,⟨zqn h1 (hcs 0 _ rfl),zqn h1 (hcs 1 _ rfl),zqn h1 (hcs 2 _ rfl),zqn h1 (hcs 3 _ rfl)⟩,hr⟩
theorem flat_at {α:Type}{m:Nat}:∀ (T:List (List α)) (k j:Nat) (r:List α) (x:α),(∀ r ∈ T,r.length=m)→T[k]? = some r→r[j]? = some x→T.flatten[k*m+j]? = some x
 | [],_,_,_,_,_,h,_=>by simp at h
 | t :: T,0,j,r,x,hm,h,hx=>by
   obtain rfl:t=r:=by simpa using h
   rw [List.flatten_cons,Nat.zero_mul,Nat.zero_add,List.getElem?_append_left (List.getElem?_eq_some_iff.1 hx).1]
   exact hx
 | t :: T,k+1,j,r,x,hm,h,hx=>by
   have hl:=hm t (by simp)
   have ih:=flat_at T k j r x (fun r hr=>hm r (by simp [hr])) (by simpa using h) hx
   rw [List.flatten_cons,List.getElem?_append_right (by rw [hl,Nat.add_mul];omega),hl,show (k+1)*m+j - m=k*m+j by rw [Nat.add_mul];omega]
   exact ih
def PW (S:Nat→World→Prop) (E:World→Prop) (j:Nat) (L:Nat→Bool) (w:World):Prop:=(L 17=false∧L 19=false∧S j w)∨(L 17=true∧L 19=false∧S (j+1) w)∨(L 19=true∧(∀ i,i<20→L i=true)∧E w)
theorem PW.open {S:Nat→World→Prop}{E:World→Prop}{j i:Nat}{L:Nat→Bool}{w:World} (h:PW S E j L w) (hi:L i=false) (h20:i<20) (h17:i≠17) (h19:i≠19):∃ jr,S jr w∧∀ w',S jr w'→PW S E j (fun j=>if j=i then true else L j) w':=by
 rcases h with ⟨a1,a2,a3⟩ | ⟨a1,a2,a3⟩ | ⟨_,a2,_⟩
 · exact ⟨j,a3,fun w' h=>Or.inl ⟨by show (if 17=i then true else L 17)=_;rw [if_neg (Ne.symm h17)];exact a1,by show (if 19=i then true else L 19)=_;rw [if_neg (Ne.symm h19)];exact a2,h⟩⟩
 · exact ⟨j+1,a3,fun w' h=>Or.inr (Or.inl ⟨by show (if 17=i then true else L 17)=_;rw [if_neg (Ne.symm h17)];exact a1,by show (if 19=i then true else L 19)=_;rw [if_neg (Ne.symm h19)];exact a2,h⟩)⟩
 · rw [a2 i h20] at hi;cases hi
def PF (_g1 g2 gb n k m j lo2:Nat) (AA:Nat→Option Addr) (va vf:Value) (S P D P' D':Int) (R R':Value) (x:Int×Int):Nat→Value→World→Prop
 | 0,v,_=>v=.slice (some ⟨g2,0,none⟩) n n
 | 1,v,_=>v=.int .i64 (k:Int)
 | 2,v,_=>v=.slice (some ⟨g2,0,none⟩) n n
 | 3,v,_=>v=.int .i64 (k:Int)
 | 4,v,_=>v=.pointer (some ⟨g2,k,none⟩)
 | 5,v,_=>v=.slice (AA k) j m
 | 6,v,_=>v=va
 | 7,v,_=>v=vf
 | 8,v,w=>Zr 1095 w v S
 | 9,v,_=>v=R
 | 10,v,_=>v=.slice (some ⟨gb,0,none⟩) m m
 | 11,v,_=>v=.int .i64 (j:Int)
 | 12,v,_=>v=.pointer (some ⟨gb,j*4,none⟩)
 | 13,v,_=>v=R'
 | 14,v,w=>∃ P3 D3,Rr 4406 w v P3 D3∧P3*(D*D')=(P*P')*D3
 | 15,v,w=>Rr 20000 w v x.1 x.2
 | 16,v,w=>∃ gq t1 t2 t3 t4 t5 t6 t7 t8,v=.slice (some ⟨gq,0,none⟩) 1 1∧lo2≤gq∧RB 20000 w gq t1 t2 t3 t4 t5 t6 t7 t8 x.1 x.2
 | 17,v,_=>v=.slice (AA k) (j+1) m
 | 18,v,_=>v=.pointer (some ⟨g2,k,none⟩)
 | _,_,_=>True
theorem PF.later {g1 g2 gb n k m j lo2 i:Nat}{AA:Nat→Option Addr}{va vf:Value}{S P D P' D':Int}{R R':Value}{x:Int×Int}{v:Value}{w w':World} (h:PF g1 g2 gb n k m j lo2 AA va vf S P D P' D' R R' x i v w) (hb:Below w.heap.size w w'):PF g1 g2 gb n k m j lo2 AA va vf S P D P' D' R R' x i v w':=by
 rcases i with _ | _ | _ | _ | _ | _ | _ | _ | _ | _ | _ | _ | _ | _ | _ | _ | _ | _ | _ | _
 all_goals first | exact h | exact Zr.later h hb | exact Rr.later h hb | skip
 · obtain ⟨P3,D3,h1,h2⟩:=h
   exact ⟨P3,D3,h1.later hb,h2⟩
 · obtain ⟨gq,t1,t2,t3,t4,t5,t6,t7,t8,h1,h2,h3⟩:=h
   exact ⟨gq,t1,t2,t3,t4,t5,t6,t7,t8,h1,h2,h3.keep hb⟩
theorem PF.beside {g1 g2 gb n k m j lo2 i g:Nat}{AA:Nat→Option Addr}{va vf:Value}{S P D P' D':Int}{R R':Value}{x:Int×Int}{v:Value}{w w':World} (h:PF g1 g2 gb n k m j lo2 AA va vf S P D P' D' R R' x i v w) (hb:Beside g w w') (hg:g<lo2):PF g1 g2 gb n k m j lo2 AA va vf S P D P' D' R R' x i v w':=by
 rcases i with _ | _ | _ | _ | _ | _ | _ | _ | _ | _ | _ | _ | _ | _ | _ | _ | _ | _ | _ | _
 all_goals first | exact h | exact Zr.beside h hb | exact Rr.beside h hb | skip
 · obtain ⟨P3,D3,h1,h2⟩:=h
   exact ⟨P3,D3,h1.beside hb,h2⟩
 · obtain ⟨gq,t1,t2,t3,t4,t5,t6,t7,t8,h1,h2,h3⟩:=h
   exact ⟨gq,t1,t2,t3,t4,t5,t6,t7,t8,h1,h2,h3.beside hb (by omega)⟩
theorem Outs.rows {T:List (List (Int×Int))}{g1 g2 n m:Nat}{AA:Nat→Option Addr}{w:World} (h:Outs T.flatten g1 g2 n m n 0 AA w) (hT:T.length=n) (hm:∀ r ∈ T,r.length=m) (hn:n≤6) (hm6:m≤6) (hA:∀ i,i<n→0<m→AA i=some ⟨g1,i*m*4,none⟩):Rows 1 (LE 4 (RE 20000)) w (.slice (some ⟨g2,0,none⟩) n n) T:=by
 refine ⟨_,n,by rw [hT],by omega,by unfold maxLen;omega,Or.inr ⟨g2,0,rfl,fun i r hr=>⟨[.slice (AA i) m m],rfl,fun j u hu => ?_,⟨_,rfl,?_⟩⟩⟩⟩
 · have hi:i<n:=by rw [← hT];exact (List.getElem?_eq_some_iff.1 hr).1
   have hj:j=0:=by have:=(List.getElem?_eq_some_iff.1 hu).1;simpa using this
   subst hj
   obtain rfl:_=u:=by simpa using hu
   have hc:=h.tab.cell hi
   rw [if_pos hi] at hc
   rw [show 0+(i*1+0)=i by omega]
   exact hc
 · have hi:i<n:=by rw [← hT];exact (List.getElem?_eq_some_iff.1 hr).1
   have hrl:=hm r (List.mem_of_getElem? hr)
   rcases Nat.eq_zero_or_pos m with h0 | h0
   · exact ⟨_,m,by rw [hrl],by omega,by unfold maxLen;omega,Or.inl (List.eq_nil_of_length_eq_zero (by omega))⟩
   · refine ⟨_,m,by rw [hrl],by omega,by unfold maxLen;omega,Or.inr ⟨g1,i*m*4,hA i hi h0,fun j x hx => ?_⟩⟩
     have hj:j<m:=by rw [← hrl];exact (List.getElem?_eq_some_iff.1 hx).1
     have hX:=flat_at T i j r x hm hr hx
     have hlt:i*m+j<n*m:=by
       have h1:(i+1)*m≤n*m:=Nat.mul_le_mul_right _ hi
       rw [Nat.add_mul] at h1;omega
     obtain ⟨cur,h1,h2,h3,h4,h5⟩:=h.room
     obtain ⟨cs,hl,hcs,he⟩:=h5 (i*m+j) x (by rw [List.getElem?_take,if_pos (by omega)];exact hX)
     exact ⟨cs,hl,fun o u hu=>by rw [show i*m*4+(j*4+o)=(i*m+j)*4+o by omega];exact zqn h1 (hcs o u hu),he⟩
end Go.Proofs.YtkifiolkfdicoaaGreatDoor
