import Derived.Test.YtkdobjmhammhbaaGreatDoorMRI
import Derived.Test.YtkdobjmhammhbaaGreatDoorMI2
namespace Go.Proofs.YtkdobjmhammhbaaGreatDoor
open Go.RowKit
def SzE (_w:World) (cs:List Value) (x:Int×Int):Prop:=cs=[.int .i64 x.1,.int .i64 x.2]/\I64 x.1/\I64 x.2
theorem SzE.stays (K:Value->Prop) (e:TypeId):Stays K e SzE:=fun _ _ _ _ h _=>h
structure CutR (w:World) (pg:Nat) (pa:Option Addr) (pn pc:Nat) (ta:Option Addr) (tn tc:Nat) (wa:Option Addr) (wn wc:Nat) (x:F8 Int):Prop where
 c0:w.cell? ⟨pg,0,none⟩=some (.slice pa pn pc)
 c1:w.cell? ⟨pg,1,none⟩=some (.slice ta tn tc)
 c2:w.cell? ⟨pg,2,none⟩=some (.slice wa wn wc)
 c3:R4 w pg 3 x
theorem CutR.keep {w w1:World}{pg:Nat}{pa:Option Addr}{pn pc:Nat}{ta:Option Addr}{tn tc:Nat}{wa:Option Addr}{wn wc:Nat}{x:F8 Int} (h:CutR w pg pa pn pc ta tn tc wa wn wc x) (hb:Below w.heap.size w w1):CutR w1 pg pa pn pc ta tn tc wa wn wc x:=⟨ck hb h.c0,ck hb h.c1,ck hb h.c2,h.c3.keep hb⟩
def fb (f:Nat->Int) (n:Nat) (z:List ((Int×Int)×Int)) (b:Int):Int:=z.foldl (fun b q=>if q.1.1<=(n:Int) then max b (f (n - q.1.1.toNat)+q.2) else b) b
def bt (z:List ((Int×Int)×Int)):Nat->List Int
 | 0=>[]
 | n+1=>bt z n++[fb (fun k=>(bt z n).getD k 0) n z 0]
def bz (z:List ((Int×Int)×Int)) (n:Nat):Int:=fb (fun k=>(bt z n).getD k 0) n z 0
theorem else4o {g:Nat} (w:World) (o:Nat) (u0 u1 u2 u3:Value):Elsewhere g w ((((w.setCell ⟨g,o,none⟩ u0).setCell ⟨g,o+1,none⟩ u1).setCell ⟨g,o+2,none⟩ u2).setCell ⟨g,o+3,none⟩ u3):=fun b hb=>by
 rw [Below.heap_setCell _ _ _ _ hb,Below.heap_setCell _ _ _ _ hb,Below.heap_setCell _ _ _ _ hb,Below.heap_setCell _ _ _ _ hb]
theorem Fill.elsewhere {α:Type}{K:Value->Prop}{k:Nat}{E:World->List Value -> α -> Prop}{t:TypeId}{w w':World}{g n q:Nat}{L:List α} (h:Fill K k E t w g n L) (he:Elsewhere q w w') (hne:g≠q) (hE:∀ cs x,E w cs x->E w' cs x):Fill K k E t w' g n L:=by
 obtain ⟨cur,h1,h2,h3,h4,h5⟩:=h
 refine ⟨cur,by rw [he g hne];exact h1,h2,h3,h4,fun i x hx => ?_⟩
 obtain ⟨cs,hl,hcs,hx⟩:=h5 i x hx
 exact ⟨cs,hl,hcs,hE cs x hx⟩
theorem QBox.elsewhere {w w':World}{q r:Nat} (h:QBox w r) (he:Elsewhere q w w') (hne:r≠q):QBox w' r:=by
 obtain ⟨x1,x2,x3,x4,x5,x6,x7,x8,hb⟩:=h
 exact ⟨x1,x2,x3,x4,x5,x6,x7,x8,by rw [he r hne];exact hb⟩
theorem QBox.chgI {w w':World}{q:Nat} (h:QBox w q) (he:Elsewhere q w w'):Chg NoInt 59 w w':=by
 obtain ⟨x,a,n,c,y,b,m,k,h⟩:=h
 exact he.chg h (kd_q x a n c y b m k)
structure RcS (w:World) (N:Nat) (D:Int) (g0 g m:Nat) (t:List Int) (W:World):Prop where
 below:Below w.heap.size w W
 box:QBox W g0
 fill:Fill NoInt 4 (QsE N D) 59 W g m t
theorem RcS.keep {w:World}{N:Nat}{D:Int}{g0 g m:Nat}{t:List Int}{W W':World} (h:RcS w N D g0 g m t W) (hb:Below W.heap.size W W'):RcS w N D g0 g m t W':=⟨bk hb h.below,h.box.later hb,h.fill.later (zxs N D) hb⟩
theorem RcS.beside {w:World}{N:Nat}{D:Int}{g0 g m q:Nat}{t:List Int}{W:World} (h:RcS w N D g0 g m t W) (hq:QBox W q) (h0:w.heap.size<=q) (h1:g0≠q) (h2:g≠q) (u0 u1 u2 u3:Value):RcS w N D g0 g m t ((((W.setCell ⟨q,0,none⟩ u0).setCell ⟨q,1,none⟩ u1).setCell ⟨q,2,none⟩ u2).setCell ⟨q,3,none⟩ u3) :=
 have he:=else4 (q:=q) W u0 u1 u2 u3
 ⟨zkv (o:=0) h.below h0 _ _ _ _,h.box.elsewhere he h1,h.fill.elsewhere he h2 fun _ _ hx=>zxs N D _ _ _ _ hx (hq.chgI he)⟩
theorem RcS.snoc {w:World}{N:Nat}{D:Int}{g0 g m:Nat}{t:List Int}{W:World}{s:Int}{y:F8 Bool} (h:RcS w N D g0 g m t W) (hlt:t.length<m) (h0:w.heap.size<=g) (h1:g0≠g) (hy:Qs N D W (vq y) s):RcS w N D g0 g m (t++[s]) ((((W.setCell ⟨g,t.length*4,none⟩ (.bool y.a)).setCell ⟨g,t.length*4+1,none⟩ (.slice y.b y.c y.d)).setCell ⟨g,t.length*4+2,none⟩ (.bool y.e)).setCell ⟨g,t.length*4+3,none⟩ (.slice y.f y.g y.h)) :=
 ⟨zkv h.below h0 _ _ _ _,h.box.elsewhere (else4o _ _ _ _ _ _) h1,(h.fill.put4 (zxs N D) hlt (kd_q _ _ _ _ _ _ _ _) ⟨_,_,_,_,_,_,_,_,rfl,hy⟩).1⟩
theorem RcS.set {w:World}{N:Nat}{D:Int}{g0 g m i:Nat}{t:List Int}{W:World}{s:Int}{y:F8 Bool} (h:RcS w N D g0 g m t W) (hlt:i<t.length) (h0:w.heap.size<=g) (h1:g0≠g) (hy:Qs N D W (vq y) s):RcS w N D g0 g m (t.set i s) ((((W.setCell ⟨g,i*4,none⟩ (.bool y.a)).setCell ⟨g,i*4+1,none⟩ (.slice y.b y.c y.d)).setCell ⟨g,i*4+2,none⟩ (.bool y.e)).setCell ⟨g,i*4+3,none⟩ (.slice y.f y.g y.h)) :=
 ⟨zkv h.below h0 _ _ _ _,h.box.elsewhere (else4o _ _ _ _ _ _) h1,h.fill.set4 (zxs N D) hlt (kd_q _ _ _ _ _ _ _ _) ⟨_,_,_,_,_,_,_,_,rfl,hy⟩⟩
structure CtS (w:World) (g:Nat) (pa:Option Addr) (pn pc:Nat) (ta:Option Addr) (tn tc:Nat) (wa:Option Addr) (wn wc:Nat) (x:F8 Bool) (W:World):Prop where
 below:Below w.heap.size w W
 c0:W.cell? ⟨g,0,none⟩=some (.slice pa pn pc)
 c1:W.cell? ⟨g,1,none⟩=some (.slice ta tn tc)
 c2:W.cell? ⟨g,2,none⟩=some (.slice wa wn wc)
 c3:Q4 W g 3 x
 gw:w.heap.size<=g
theorem CtS.keep {w:World}{g:Nat}{pa:Option Addr}{pn pc:Nat}{ta:Option Addr}{tn tc:Nat}{wa:Option Addr}{wn wc:Nat}{x:F8 Bool}{W W':World} (h:CtS w g pa pn pc ta tn tc wa wn wc x W) (hb:Below W.heap.size W W'):CtS w g pa pn pc ta tn tc wa wn wc x W':=⟨bk hb h.below,ck hb h.c0,ck hb h.c1,ck hb h.c2,h.c3.keep hb,h.gw⟩
theorem CtS.beside {w:World}{g:Nat}{pa:Option Addr}{pn pc:Nat}{ta:Option Addr}{tn tc:Nat}{wa:Option Addr}{wn wc:Nat}{x:F8 Bool}{W:World}{q:Nat} (h:CtS w g pa pn pc ta tn tc wa wn wc x W) (hq:g<q) (u0 u1 u2 u3:Value):CtS w g pa pn pc ta tn tc wa wn wc x ((((W.setCell ⟨q,0,none⟩ u0).setCell ⟨q,1,none⟩ u1).setCell ⟨q,2,none⟩ u2).setCell ⟨q,3,none⟩ u3) :=
 have h1:=h.gw
 ⟨zkv (o:=0) h.below (by omega) _ _ _ _,zxe (o:=0) h.c0 (by omega) _ _ _ _,zxe (o:=0) h.c1 (by omega) _ _ _ _,zxe (o:=0) h.c2 (by omega) _ _ _ _,h.c3.put (p:=0) (by omega) _ _ _ _,h1⟩
structure Ct2 (w:World) (N:Nat) (D:Int) (g gr gw:Nat) (pa:Option Addr) (pn pc:Nat) (ta:Option Addr) (tn tc:Nat) (wa:Option Addr) (wn wc:Nat) (x y z:F8 Bool) (s t:Int) (W:World):Prop where
 cs:CtS w g pa pn pc ta tn tc wa wn wc x W
 xr:QX N D W gr y s
 xw:QX N D W gw z t
 lt:g<gr/\gr<gw
section
variable {w:World}{N:Nat}{D:Int}{g gr gw:Nat}{pa:Option Addr}{pn pc:Nat}{ta:Option Addr}{tn tc:Nat}{wa:Option Addr}{wn wc:Nat}{x y z:F8 Bool}{s t:Int}{W:World}
theorem Ct2.keep {W':World} (h:Ct2 w N D g gr gw pa pn pc ta tn tc wa wn wc x y z s t W) (hb:Below W.heap.size W W'):Ct2 w N D g gr gw pa pn pc ta tn tc wa wn wc x y z s t W':=⟨h.cs.keep hb,h.xr.keep hb,h.xw.keep hb,h.lt⟩
theorem Ct2.beside {q:Nat} (h:Ct2 w N D g gr gw pa pn pc ta tn tc wa wn wc x y z s t W) (hb:QBox W q) (hq:gw<q) (u0 u1 u2 u3:Value):Ct2 w N D g gr gw pa pn pc ta tn tc wa wn wc x y z s t ((((W.setCell ⟨q,0,none⟩ u0).setCell ⟨q,1,none⟩ u1).setCell ⟨q,2,none⟩ u2).setCell ⟨q,3,none⟩ u3) :=
 have h1:=h.lt
 ⟨h.cs.beside (by omega) _ _ _ _,h.xr.beside hb (by omega) _ _ _ _,h.xw.beside hb (by omega) _ _ _ _,h1⟩
theorem Ct2.put {z':F8 Bool}{t':Int} (h:Ct2 w N D g gr gw pa pn pc ta tn tc wa wn wc x y z s t W) (hz:Qs N D W (vq z') t'):Ct2 w N D g gr gw pa pn pc ta tn tc wa wn wc x y z' s t' ((((W.setCell ⟨gw,0,none⟩ (.bool z'.a)).setCell ⟨gw,1,none⟩ (.slice z'.b z'.c z'.d)).setCell ⟨gw,2,none⟩ (.bool z'.e)).setCell ⟨gw,3,none⟩ (.slice z'.f z'.g z'.h)) :=
 have h1:=h.lt
 ⟨h.cs.beside (by omega) _ _ _ _,h.xr.beside h.xw.box (by omega) _ _ _ _,QX.put h.xw.box hz,h1⟩
end
theorem RBox.elsewhere {w w':World}{q r:Nat} (h:RBox w r) (he:Elsewhere q w w') (hne:r≠q):RBox w' r:=by
 obtain ⟨x1,x2,x3,x4,x5,x6,x7,x8,hb⟩:=h
 exact ⟨x1,x2,x3,x4,x5,x6,x7,x8,by rw [he r hne];exact hb⟩
theorem Rs.chg {K:Nat}{D s:Int}{e:TypeId}{w w':World}{v:Value} (h:Rs K D w v s) (hc:Chg NoWord e w w'):Rs K D w' v s:=by
 obtain ⟨p,d,h1,h2⟩:=h
 exact ⟨p,d,h1.chg hc nww,h2⟩
theorem Fill.chgO {α:Type}{k:Nat}{E:World->List Value -> α -> Prop}{t:TypeId}{w w':World}{g n:Nat}{L:List α} (h:Fill NoWord k E t w g n L) (he:Elsewhere g w w'):Chg NoWord t w w':=by
 obtain ⟨cur,h1,_,h3,_⟩:=h
 exact he.chg h1 h3
theorem RX.elsewhere {K:Nat}{D s:Int}{e:TypeId}{w w':World}{q r:Nat}{x:F8 Int} (h:RX K D w r x s) (he:Elsewhere q w w') (hne:r≠q) (hc:Chg NoWord e w w'):RX K D w' r x s :=
 ⟨he.cell hne h.c0,he.cell hne h.c1,he.cell hne h.c2,he.cell hne h.c3,h.box.elsewhere he hne,h.q.chg hc⟩
structure GvS (w:World) (K:Nat) (D:Int) (gr gc n:Nat) (y:F8 Int) (s:Int) (t:List Int) (W:World):Prop where
 below:Below w.heap.size w W
 xr:RX K D W gr y s
 fill:Fill NoWord 4 (RsE K D) 39 W gc n t
 gw:w.heap.size<=gr/\gr<gc
section
variable {w:World}{K:Nat}{D:Int}{gr gc n:Nat}{y:F8 Int}{s:Int}{t:List Int}{W:World}
theorem GvS.keep {W':World} (h:GvS w K D gr gc n y s t W) (hb:Below W.heap.size W W'):GvS w K D gr gc n y s t W':=⟨bk hb h.below,h.xr.keep hb,h.fill.later (rse_stays K D) hb,h.gw⟩
end
theorem zqs (K:Nat) (e:TypeId):Stays NoWord e (ZE K):=ZE.stays K e nww
theorem kd_z (x1:Int) (x2:Option Addr) (x3 x4:Nat):∀ u ∈ [Value.int .i64 x1,.slice x2 x3 x4],NoWord u:=by
 intro u hu z e
 simp at hu
 rcases hu with rfl | rfl <;> cases e
structure Z4 where
 a:Int
 b:Option Addr
 c:Nat
 d:Nat
abbrev vz (x:Z4):Value:=.agg #[.int .i64 x.a,.slice x.b x.c x.d]
theorem Zr.sh {K:Nat}{w:World}{v:Value}{z:Int} (h:Zr K w v z):∃ x:Z4,v=.agg #[.int .i64 x.a,.slice x.b x.c x.d]:=by
 obtain ⟨x1,x2,x3,x4,rfl⟩:=h.shape
 exact ⟨⟨x1,x2,x3,x4⟩,rfl⟩
theorem Zr.chgW {K:Nat}{e:TypeId}{w w':World}{v:Value}{z:Int} (h:Zr K w v z) (hc:Chg NoWord e w w'):Zr K w' v z:=h.chg hc nww
theorem Fill.z2 {K:Nat}{t:TypeId}{w:World}{g n i:Nat}{L:List Int}{s:Int} (h:Fill NoWord 2 (ZE K) t w g n L) (hx:L[i]? = some s):∃ y:Z4,w.cell? ⟨g,i*2,none⟩=some (.int .i64 y.a)/\w.cell? ⟨g,i*2+1,none⟩=some (.slice y.b y.c y.d)/\Zr K w (vz y) s:=by
 obtain ⟨cs,_,hcs,x1,x2,x3,x4,rfl,hz⟩:=h.at hx
 exact ⟨⟨x1,x2,x3,x4⟩,by simpa using hcs 0 _ rfl,hcs 1 _ rfl,hz⟩
theorem else2 {g:Nat} (w:World) (o:Nat) (u0 u1:Value):Elsewhere g w ((w.setCell ⟨g,o,none⟩ u0).setCell ⟨g,o+1,none⟩ u1):=fun b hb=>by
 rw [Below.heap_setCell _ _ _ _ hb,Below.heap_setCell _ _ _ _ hb]
theorem else1 {g:Nat} (w:World) (o:Nat) (u:Value):Elsewhere g w (w.setCell ⟨g,o,none⟩ u):=fun b hb=>by
 rw [Below.heap_setCell _ _ _ _ hb]
theorem Fill.set2 {α:Type}{K:Value->Prop}{E:World->List Value -> α -> Prop}{t:TypeId}{w:World}{g n i:Nat}{L:List α}{u0 u1:Value}{x:α} (h:Fill K 2 E t w g n L) (hE:Stays K t E) (hi:i<L.length) (hk:∀ u ∈ [u0,u1],K u) (he:E w [u0,u1] x) :
 Fill K 2 E t ((w.setCell ⟨g,i*2,none⟩ u0).setCell ⟨g,i*2+1,none⟩ u1) g n (L.set i x):=by
 have hl:=h.len
 obtain ⟨a0,e0⟩:=h.cell (o:=i*2) (by omega)
 obtain ⟨a1,e1⟩:=h.cell (o:=i*2+1) (by omega)
 obtain ⟨r0,c0⟩:=h.raw.store (o:=i*2) (hk u0 (by simp))
 obtain ⟨r1,c1⟩:=r0.store (o:=i*2+1) (hk u1 (by simp))
 have hc:=c0.trans c1
 refine r1.fill (by simpa using hl) fun j y hy => ?_
 rw [List.getElem?_set] at hy
 by_cases hji:i=j
 ·subst hji
  rw [if_pos rfl,if_pos hi] at hy
  obtain rfl:=Option.some.inj hy
  refine ⟨_,rfl,fun k u hu => ?_,hE _ _ _ _ he hc⟩
  match k,hu with
  | 0,hu =>
   obtain rfl:u0=u:=by simpa using hu
   rw [Nat.add_zero,zqb _ _ _ _ _ _ (by omega)]
   exact zqd e0
  | 1,hu =>
   obtain rfl:u1=u:=by simpa using hu
   exact zqd (by rw [zqb _ _ _ _ _ _ (by omega)];exact e1)
 ·rw [if_neg hji] at hy
  obtain ⟨cs,hcl,hcs,hex⟩:=h.at hy
  refine ⟨cs,hcl,fun k u hu => ?_,hE _ _ _ _ hex hc⟩
  have hk4:k<2:=by rw [<- hcl];exact (List.getElem?_eq_some_iff.1 hu).1
  rw [zqb _ _ _ _ _ _ (by omega),zqb _ _ _ _ _ _ (by omega)]
  exact hcs k u hu
structure KnS (w:World) (K gk gm gl n:Nat) (sa:Option Addr) (sn sc:Nat) (y:Z4) (p:Int) (t:List Int) (W:World):Prop where
 below:Below w.heap.size w W
 c0:W.cell? ⟨gk,0,none⟩=some (.slice sa sn sc)
 c1:W.cell? ⟨gk,1,none⟩=some (.int .i64 y.a)
 c2:W.cell? ⟨gk,2,none⟩=some (.slice y.b y.c y.d)
 c3:W.cell? ⟨gk,3,none⟩=some (.slice (some ⟨gm,0,none⟩) n n)
 c4:W.cell? ⟨gk,4,none⟩=some (.slice (some ⟨gl,0,none⟩) n n)
 parts:Zr (K+1) W (vz y) p
 most:Fill NoWord 2 (ZE (K+1)) 37 W gm n t
 last:Raw NoWord 3 W gl n
 bx:Raw NoWord 244 W gk 5
 ne:gk≠gm/\gk≠gl/\gm≠gl
 gw:w.heap.size<=gk/\w.heap.size<=gm/\w.heap.size<=gl
theorem Raw.later {K:Value->Prop}{t:TypeId}{w w':World}{g m:Nat} (h:Raw K t w g m) (hb:Below w.heap.size w w'):Raw K t w' g m:=by
 obtain ⟨cur,h1,h2,h3⟩:=h
 exact ⟨cur,by rw [hb.block g (Array.getElem?_eq_some_iff.1 h1).1];exact h1,h2,h3⟩
theorem Raw.elsewhere {K:Value->Prop}{t:TypeId}{w w':World}{g m q:Nat} (h:Raw K t w g m) (he:Elsewhere q w w') (hne:g≠q):Raw K t w' g m:=by
 obtain ⟨cur,h1,h2,h3⟩:=h
 exact ⟨cur,by rw [he g hne];exact h1,h2,h3⟩
theorem Raw.cell {K:Value->Prop}{t:TypeId}{w:World}{g m o:Nat} (h:Raw K t w g m) (ho:o<m):(∃ u,w.cell? ⟨g,o,none⟩=some u)/\w.frozen? ⟨g,o,none⟩=false/\g<w.heap.size:=by
 obtain ⟨cur,h1,h2,h3⟩:=h
 refine ⟨⟨cur[o]'(by omega),by simp [World.cell?,h1,h2,ho]⟩,by simp [World.frozen?,h1],(Array.getElem?_eq_some_iff.1 h1).1⟩
section
variable {w:World}{K gk gm gl n:Nat}{sa:Option Addr}{sn sc:Nat}{y:Z4}{p:Int}{t:List Int}{W:World}
theorem KnS.keep {W':World} (h:KnS w K gk gm gl n sa sn sc y p t W) (hb:Below W.heap.size W W'):KnS w K gk gm gl n sa sn sc y p t W' :=
 ⟨bk hb h.below,ck hb h.c0,ck hb h.c1,ck hb h.c2,ck hb h.c3,ck hb h.c4,h.parts.later hb,h.most.later (zqs _ _) hb,h.last.later hb,h.bx.later hb,h.ne,h.gw⟩
theorem KnS.beside {W':World}{q:Nat}{e:TypeId} (h:KnS w K gk gm gl n sa sn sc y p t W) (he:Elsewhere q W W') (hc:Chg NoWord e W W') (hb:Below w.heap.size w W') (h1:gk≠q) (h2:gm≠q) (h3:gl≠q):KnS w K gk gm gl n sa sn sc y p t W' :=
 ⟨hb,he.cell h1 h.c0,he.cell h1 h.c1,he.cell h1 h.c2,he.cell h1 h.c3,he.cell h1 h.c4,h.parts.chgW hc,h.most.elsewhere he h2 fun _ _ hx=>zqs _ _ _ _ _ _ hx hc,h.last.elsewhere he h3,h.bx.elsewhere he h1,h.ne,h.gw⟩
end
structure KnT (w:World) (K gk gm gl gc n nc:Nat) (sa:Option Addr) (sn sc:Nat) (y:Z4) (p:Int) (C t:List Int) (W:World):Prop where
 s:KnS w K gk gm gl n sa sn sc y p t W
 c:Fill NoWord 2 (ZE (K+1)) 37 W gc nc C
 ne:gc≠gm/\gc≠gl/\gc≠gk
section
variable {w:World}{K gk gm gl gc n nc:Nat}{sa:Option Addr}{sn sc:Nat}{y:Z4}{p:Int}{C t:List Int}{W:World}
theorem KnT.keep {W':World} (h:KnT w K gk gm gl gc n nc sa sn sc y p C t W) (hb:Below W.heap.size W W'):KnT w K gk gm gl gc n nc sa sn sc y p C t W':=⟨h.s.keep hb,h.c.later (zqs _ _) hb,h.ne⟩
end
theorem zs_add {K N:Nat}{T s s':Int}{v v':Value} (w:World) (hB:Big K N T) (h:Zr (K+1) w v s) (h':Zr (K+1) w v' s') (hin:-pw (K+1)<s+s'/\s+s'<pw (K+1)) :
 Calls Tryz.prog 111 #[v,v'] w fun e w'=>(∃ v,e=.returned v/\Zr (K+1) w' v (s+s'))/\Below w.heap.size w w' :=
 (add_any (N:=K) w h h' (by have:=hB.k;omega)).mono fun _ _ ⟨⟨v,he,hz⟩,hb⟩=>⟨⟨v,he,hz.fit hin.1 hin.2⟩,hb⟩
theorem zs_cmp {K N:Nat}{T s s':Int}{v v':Value} (w:World) (hB:Big K N T) (h:Zr (K+1) w v s) (h':Zr (K+1) w v' s') :
 Calls Tryz.prog 79 #[v,v'] w fun e w'=>e=.returned (.int .i64 (sgn (s - s')))/\Below w.heap.size w w':=cmp_any (N:=K) w h h' (by have:=hB.k;omega)
def pO (D s:Int):Int:=s / (Int.gcd s D:Int)
def dO (D s:Int):Int:=D / (Int.gcd s D:Int)
theorem Rs.low {K:Nat}{D s:Int}{w:World}{v:Value} (D0:0<D) (h:Rs K D w v s):Rr (K+1) w v (pO D s) (dO D s):=by
 obtain ⟨p,d,h1,h2⟩:=h
 have h3:=num_low (p:=s) (q:=D) (P:=p) (D:=d) D0 h2 h1.low.1 h1.low.2
 simp only [Prod.mk.injEq] at h3
 unfold pO dO
 rw [h3.1,h3.2]
 exact h1
theorem dO_spec {D:Int} (D0:0<D) (s:Int):0<dO D s/\dO D s∣D/\pO D s*D=s*dO D s:=by
 have h:=lowq_spec (p:=s) D0
 refine ⟨h.2.1,?_,h.1⟩
 unfold dO
 exact ⟨(Int.gcd s D:Int),(Int.ediv_mul_cancel (Int.gcd_dvd_right (a:=s) (b:=D))).symm⟩
theorem lcm_spec {P d D:Int} (hP:0<P) (hd:0<d) (h1:P∣D) (h2:d∣D):0<P / (Int.gcd P d:Int)*d/\P∣P / (Int.gcd P d:Int)*d/\d∣P / (Int.gcd P d:Int)*d/\P / (Int.gcd P d:Int)*d∣D:=by
 have g0:0<Int.gcd P d:=Int.gcd_pos_of_ne_zero_right P (by omega)
 obtain ⟨a,ha⟩:=Int.gcd_dvd_left (a:=P) (b:=d)
 obtain ⟨b,hb⟩:=Int.gcd_dvd_right (a:=P) (b:=d)
 have e1:P / (Int.gcd P d:Int)=a:=Int.ediv_eq_of_eq_mul_right (by omega) ha
 have a0:0<a:=by
  rcases Int.lt_or_le 0 a with h | h
  ·exact h
  ·have:(Int.gcd P d:Int)*a<=(Int.gcd P d:Int)*0:=Int.mul_le_mul_of_nonneg_left h (by omega)
   omega
 have hco:Int.gcd a b=1:=by
  have h:=Int.gcd_mul_left (Int.gcd P d:Int) a b
  rw [<- ha,<- hb,Int.natAbs_natCast] at h
  exact (Nat.eq_of_mul_eq_mul_left g0 (by rw [<- h,Nat.mul_one])).symm
 have g1:(0:Int)<(Int.gcd P d:Int):=by omega
 rw [e1]
 generalize (Int.gcd P d:Int)=g at *
 refine ⟨Int.mul_pos a0 hd,⟨b,by rw [ha,hb];grind⟩,⟨a,by grind⟩,?_⟩
 obtain ⟨x,hx⟩:=h1
 obtain ⟨y,hy⟩:=h2
 -- D = g a x = g b y, so a x = b y and a divides y
 have e2:a*x=b*y:=by
  refine Int.eq_of_mul_eq_mul_left (show g≠0 by omega) ?_
  rw [ha] at hx
  rw [hb] at hy
  rw [<- Int.mul_assoc,<- Int.mul_assoc,<- hx,<- hy]
 have h3:a∣y:=by
  have h4:a.natAbs∣b.natAbs*y.natAbs:=by
   rw [<- Int.natAbs_mul]
   exact Int.natAbs_dvd_natAbs.2 ⟨x,e2.symm⟩
  exact Int.natAbs_dvd_natAbs.1 (Nat.Coprime.dvd_of_dvd_mul_left (show Nat.Coprime a.natAbs b.natAbs from hco) h4)
 obtain ⟨k,hk⟩:=h3
 exact ⟨k,by rw [hy,hk];grind⟩
def prt (D:Int) (W:List Int):Nat->Int
 | 0=>1
 | i+1=>match W[i]? with
  | some s=>prt D W i / (Int.gcd (prt D W i) (dO D s):Int)*dO D s
  | none=>prt D W i
theorem prt_next {D:Int}{W:List Int}{i:Nat}{s:Int} (h:W[i]? = some s):prt D W (i+1)=prt D W i / (Int.gcd (prt D W i) (dO D s):Int)*dO D s:=by
 simp [prt,h]
theorem prt_spec {D:Int} (D0:0<D) (W:List Int) (i:Nat):0<prt D W i/\prt D W i∣D/\∀ (j:Nat) (s:Int),j<i->W[j]? = some s->dO D s∣prt D W i:=by
 induction i with
 | zero=>exact ⟨by simp [prt],⟨D,by simp [prt]⟩,fun j s h=>by omega⟩
 | succ i ih =>
  obtain ⟨h1,h2,h3⟩:=ih
  cases hs:W[i]? with
  | none =>
   have e:prt D W (i+1)=prt D W i:=by simp [prt,hs]
   rw [e]
   refine ⟨h1,h2,fun j s hj hx => ?_⟩
   rcases Nat.lt_or_ge j i with h | h
   ·exact h3 j s h hx
   ·obtain rfl:j=i:=by omega
    rw [hs] at hx
    cases hx
  | some s =>
   rw [prt_next hs]
   have hd:=dO_spec D0 s
   have hl:=lcm_spec h1 hd.1 h2 hd.2.1
   refine ⟨hl.1,hl.2.2.2,fun j t hj hx => ?_⟩
   rcases Nat.lt_or_ge j i with h | h
   ·exact Int.dvd_trans (h3 j t h hx) hl.2.1
   ·obtain rfl:j=i:=by omega
    rw [hs] at hx
    obtain rfl:=Option.some.inj hx
    exact hl.2.2.1
def cnt (D P s:Int):Int:=pO D s*(P / dO D s)
theorem cnt_spec {D P g s:Int} (D0:0<D) (hg:D=P*g) (hd:dO D s∣P):g*cnt D P s=s:=by
 obtain ⟨h1,h2,h3⟩:=dO_spec D0 s
 obtain ⟨k,hk⟩:=hd
 unfold cnt
 rw [hk,Int.mul_ediv_cancel_left _ (by omega)]
 refine Int.eq_of_mul_eq_mul_right (show dO D s≠0 by omega) ?_
 rw [<- h3,hg,hk]
 grind
theorem heap_keep {w W:World} (hb:Below w.heap.size w W) {g:Nat}{o:Obj} (h:w.heap[g]? = some o):W.heap[g]? = some o:=by
 rw [hb.block g (Array.getElem?_eq_some_iff.1 h).1];exact h
theorem heap_new {w:World}{g:Nat} (hg:g=w.heap.size) (c:Array Value) (t:TypeId):(w.alloc (.cells c t)).heap[g]? = some (.cells c t (0,0)):=by
 subst hg
 exact heap_alloc_new w _
section
variable {K n:Nat}{sa:Option Addr}{sn sc:Nat} (w Y:World)
end
theorem info_z:(Tryz.prog.info? 37).map (fun i=>(i.zero,i.size,i.bytes))=some (some (.agg #[.int .i64 0,.slice none 0 0]),2,32):=by kernel_rfl
theorem zs_gcd {K N:Nat}{T P d:Int}{v u:Value} (w:World) (hB:Big K N T) (hT:Tab64 w) (h:Zr (K+1) w v P) (h':Zr (K+1) w u d) (P0:0<P) (hP:P<pw (K+1)) :
 Calls Tryz.prog 135 #[v,u] w fun e w'=>(∃ v,e=.returned v/\Zr (K+1) w' v (Int.gcd P d))/\Below w.heap.size w w' :=
 (gcd_any (N:=K) w h h' (by have:=hB.k;omega) hT).mono fun _ _ ⟨⟨v,he,hz⟩,hb⟩=>⟨⟨v,he,hz.fit (by omega) (by have:=Int.le_of_dvd P0 (Int.gcd_dvd_left (a:=P) (b:=d));omega)⟩,hb⟩
theorem zs_mul {K N:Nat}{T a b:Int}{v u:Value} (w:World) (hB:Big K N T) (h:Zr (K+1) w v a) (h':Zr (K+1) w u b) (hin:-pw (K+1)<a*b/\a*b<pw (K+1)) :
 Calls Tryz.prog 132 #[v,u] w fun e w'=>(∃ v,e=.returned v/\Zr (K+1) w' v (a*b))/\Below w.heap.size w w' :=
 (mul_any (N:=K) w h h' (by have:=hB.k;omega)).mono fun _ _ ⟨⟨v,he,hz⟩,hb⟩=>⟨⟨v,he,hz.fit hin.1 hin.2⟩,hb⟩
def KpF (K gp:Nat) (y:Z4) (u:F8 Int) (p d:Int):Nat->Value->World->Prop
 | 0,v,_ | 1,v,_ | 2,v,_ | 5,v,_ | 6,v,_ | 16,v,_=>v=.pointer (some ⟨gp,0,none⟩)
 | 3,v,_ | 7,v,_ | 17,v,_=>v=.pointer (some ⟨gp,1,none⟩)
 | 4,v,_ | 8,v,_=>v=vz y
 | 9,v,_ | 13,v,_=>v=vr u
 | 10,v,wr | 14,v,wr=>Zr (K+1) wr v d
 | 11,v,wr=>Zr (K+1) wr v (Int.gcd p d:Int)
 | 12,v,wr=>Zr (K+1) wr v (p / (Int.gcd p d:Int))
 | 15,v,wr=>Zr (K+1) wr v (p / (Int.gcd p d:Int)*d)
 | _,_,_=>True
theorem KpF.chg {e:TypeId}{K gp j:Nat}{y:Z4}{u:F8 Int}{p d:Int}{v:Value}{w w':World} (h:KpF K gp y u p d j v w) (hc:Chg NoWord e w w'):KpF K gp y u p d j v w':=by
 rcases j with _ | _ | _ | _ | _ | _ | _ | _ | _ | _ | _ | _ | _ | _ | _ | _ | _ | _ | _
 all_goals first | exact h | exact Zr.chgW h hc
theorem KpF.later {K gp j:Nat}{y:Z4}{u:F8 Int}{p d:Int}{v:Value}{w w':World} (h:KpF K gp y u p d j v w) (hb:Below w.heap.size w w'):KpF K gp y u p d j v w':=by
 rcases j with _ | _ | _ | _ | _ | _ | _ | _ | _ | _ | _ | _ | _ | _ | _ | _ | _ | _ | _
 all_goals first | exact h | exact Zr.later h hb
def KqF (K gp gc m i:Nat) (y:Z4) (u:F8 Int) (P p d:Int):Nat->Value->World->Prop
 | 0,v,_=>v=.slice (some ⟨gc,0,none⟩) m m
 | 1,v,_=>v=.int .i64 (i:Int)
 | 2,v,_ | 8,v,_=>v=vr u
 | 3,v,wr=>Zr (K+1) wr v p
 | 4,v,_ | 5,v,_=>v=.pointer (some ⟨gp,0,none⟩)
 | 6,v,_=>v=.pointer (some ⟨gp,1,none⟩)
 | 7,v,_=>v=vz y
 | 9,v,wr=>Zr (K+1) wr v d
 | 10,v,wr=>Zr (K+1) wr v (P / d)
 | 11,v,wr=>Zr (K+1) wr v (p*(P / d))
 | 12,v,_=>v=.pointer (some ⟨gc,i*2,none⟩)
 | _,_,_=>True
theorem KqF.chg {e:TypeId}{K gp gc m i j:Nat}{y:Z4}{u:F8 Int}{P p d:Int}{v:Value}{w w':World} (h:KqF K gp gc m i y u P p d j v w) (hc:Chg NoWord e w w'):KqF K gp gc m i y u P p d j v w':=by
 rcases j with _ | _ | _ | _ | _ | _ | _ | _ | _ | _ | _ | _ | _ | _
 all_goals first | exact h | exact Zr.chgW h hc
theorem KqF.later {K gp gc m i j:Nat}{y:Z4}{u:F8 Int}{P p d:Int}{v:Value}{w w':World} (h:KqF K gp gc m i y u P p d j v w) (hb:Below w.heap.size w w'):KqF K gp gc m i y u P p d j v w':=by
 rcases j with _ | _ | _ | _ | _ | _ | _ | _ | _ | _ | _ | _ | _ | _
 all_goals first | exact h | exact Zr.later h hb
def cl (f:Int->Int) (W:List Int) (m i:Nat):List Int:=(W.take i).map f++List.replicate (m - i) 0
section
variable {w:World}{K gk gm gl gc n nc:Nat}{sa:Option Addr}{sn sc:Nat}{y x:Z4}{p:Int}{C t:List Int}{W:World}{i:Nat}
theorem KnS.apart (h:KnS w K gk gm gl n sa sn sc y p t W):W.heap.size≠gm/\W.heap.size≠gl/\W.heap.size≠gk:=by
 obtain ⟨_,h1,_⟩:=h.most
 obtain ⟨_,h2,_⟩:=h.last
 obtain ⟨_,h3,_⟩:=h.bx
 have h1:=(Array.getElem?_eq_some_iff.1 h1).1
 have h2:=(Array.getElem?_eq_some_iff.1 h2).1
 have h3:=(Array.getElem?_eq_some_iff.1 h3).1
 omega
end
end Go.Proofs.YtkdobjmhammhbaaGreatDoor
