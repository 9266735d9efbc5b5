import Derived.Test.YtkifiolkfdicoaaGreatDoorMK4
namespace Go.Proofs.YtkifiolkfdicoaaGreatDoor
open Go.RowKit
def low (p d:Int):Int×Int:=(p / (Int.gcd p d:Int),d / (Int.gcd p d:Int))
theorem low_is {p d P D:Int} (hd:0<d) (hE:P*d=p*D) (D0:0<D) (hg:Int.gcd P D=1):low p d=(P,D):=num_low hd hE D0 hg
def qm (x y:Int×Int):Int×Int:=low (x.1*y.1) (x.2*y.2)
def qs (x y:Int×Int):Int×Int:=low (x.1*y.2+(-y.1)*x.2) (x.2*y.2)
def qq (x y:Int×Int):Int×Int:=low (x.1*y.2*y.1.sign) (x.2*y.1*y.1.sign)
def Fit (T:Nat) (x:Int×Int):Prop := -10000 ^ T<x.1∧x.1<10000 ^ T∧x.2<10000 ^ T
theorem Qr.pos {N:Nat}{w:World}{v:Value}{p d:Int} (h:Qr N w v p d):0<d∧Int.gcd p d=1:=by
 obtain ⟨_,_,_,_,_,_,_,_,_,_,_,h1,h2⟩:=h
 exact ⟨h1,h2⟩
theorem qm_is {x y:Int×Int}{P D:Int} (x0:0<x.2) (y0:0<y.2) (hE:P*(x.2*y.2)=x.1*y.1*D) (D0:0<D) (hg:Int.gcd P D=1):qm x y=(P,D):=low_is (Int.mul_pos x0 y0) hE D0 hg
theorem qs_is {x y:Int×Int}{P D:Int} (x0:0<x.2) (y0:0<y.2) (hE:P*(x.2*y.2)=(x.1*y.2+(-y.1)*x.2)*D) (D0:0<D) (hg:Int.gcd P D=1):qs x y=(P,D):=low_is (Int.mul_pos x0 y0) hE D0 hg
theorem sign_pos {z:Int} (h:z≠0):0<z*z.sign:=by
 rw [Int.mul_sign_self];omega
theorem qq_is {x y:Int×Int}{P D:Int} (x0:0<x.2) (y0:y.1≠0) (hE:P*(x.2*y.1)=x.1*y.2*D) (D0:0<D) (hg:Int.gcd P D=1):qq x y=(P,D):=by
 refine low_is ?_ ?_ D0 hg
 · rw [Int.mul_assoc];exact Int.mul_pos x0 (sign_pos y0)
 · rw [← Int.mul_assoc,hE];grind
theorem Qr.fits {N T:Nat}{w:World}{v:Value}{p d:Int} (h:Qr N w v p d) (hf:Fit T (p,d)):Qr T w v p d:=h.fit hf.1 hf.2.1 hf.2.2
theorem QE.fits {N T:Nat}{w:World}{cs:List Value}{x:Int×Int} (h:QE N w cs x) (hf:Fit T x):QE T w cs x:=by
 obtain ⟨x1,x2,x3,x4,x5,x6,x7,x8,h1,h2⟩:=h
 exact ⟨x1,x2,x3,x4,x5,x6,x7,x8,h1,h2.fits hf⟩
theorem Rows.fits {N T:Nat}{w:World}{v:Value}{L:List (Int×Int)} (h:Rows 4 (QE N) w v L) (hf:∀ x ∈ L,Fit T x):Rows 4 (QE T) w v L:=by
 obtain ⟨a,c,h1,h2,h3,h4⟩:=h
 refine ⟨a,c,h1,h2,h3,?_⟩
 rcases h4 with h4 | ⟨b,o,h4,h5⟩
 · exact Or.inl h4
 · refine Or.inr ⟨b,o,h4,fun i x hx => ?_⟩
   obtain ⟨cs,hl,hcs,he⟩:=h5 i x hx
   exact ⟨cs,hl,hcs,he.fits (hf x (List.mem_of_getElem? hx))⟩
structure In2 (V:World) (N:Nat) (bb bo i q:Nat) (p1:Bool) (p2:Option Addr) (p3 p4:Nat) (p5:Bool) (p6:Option Addr) (p7 p8:Nat) (u1:Bool) (u2:Option Addr) (u3 u4:Nat) (u5:Bool) (u6:Option Addr) (u7 u8:Nat) (x y:Int×Int) (w':World):Prop where
 below:Below V.heap.size V w'
 cs:w'.cell? ⟨bb,bo+i*4,none⟩=some (.bool p1)∧w'.cell? ⟨bb,bo+i*4+1,none⟩=some (.slice p2 p3 p4)∧w'.cell? ⟨bb,bo+i*4+2,none⟩=some (.bool p5)∧w'.cell? ⟨bb,bo+i*4+3,none⟩=some (.slice p6 p7 p8)∧w'.cell? ⟨q,0,none⟩=some (.bool u1)∧w'.cell? ⟨q,1,none⟩=some (.slice u2 u3 u4)∧w'.cell? ⟨q,2,none⟩=some (.bool u5)∧w'.cell? ⟨q,3,none⟩=some (.slice u6 u7 u8)
 x:Qr N w' (.agg #[.bool p1,.slice p2 p3 p4,.bool p5,.slice p6 p7 p8]) x.1 x.2
 y:Qr N w' (.agg #[.bool u1,.slice u2 u3 u4,.bool u5,.slice u6 u7 u8]) y.1 y.2
 lt:bb<V.heap.size∧q<V.heap.size
theorem In2.keep {V w1 w2:World}{N:Nat}{bb bo i q:Nat}{p1:Bool}{p2:Option Addr}{p3 p4:Nat}{p5:Bool}{p6:Option Addr}{p7 p8:Nat}{u1:Bool}{u2:Option Addr}{u3 u4:Nat}{u5:Bool}{u6:Option Addr}{u7 u8:Nat}{x y:Int×Int} (h:In2 V N bb bo i q p1 p2 p3 p4 p5 p6 p7 p8 u1 u2 u3 u4 u5 u6 u7 u8 x y w1) (hb:Below w1.heap.size w1 w2):In2 V N bb bo i q p1 p2 p3 p4 p5 p6 p7 p8 u1 u2 u3 u4 u5 u6 u7 u8 x y w2:=by
 obtain ⟨h1,⟨c0,c1,c2,c3,c4,c5,c6,c7⟩,h4,h5,h6⟩:=h
 exact ⟨bk hb h1,⟨ck hb c0,ck hb c1,ck hb c2,ck hb c3,ck hb c4,ck hb c5,ck hb c6,ck hb c7⟩,h4.later hb,h5.later hb,h6⟩
theorem In2.drew {V w1:World}{N:Nat}{bb bo i q:Nat}{p1:Bool}{p2:Option Addr}{p3 p4:Nat}{p5:Bool}{p6:Option Addr}{p7 p8:Nat}{u1:Bool}{u2:Option Addr}{u3 u4:Nat}{u5:Bool}{u6:Option Addr}{u7 u8:Nat}{x y:Int×Int} (h:In2 V N bb bo i q p1 p2 p3 p4 p5 p6 p7 p8 u1 u2 u3 u4 u5 u6 u7 u8 x y w1):In2 V N bb bo i q p1 p2 p3 p4 p5 p6 p7 p8 u1 u2 u3 u4 u5 u6 u7 u8 x y w1.drew:=h.keep (Below.refl _ _).drew
theorem In2.put {V w1:World}{N:Nat}{bb bo i q:Nat}{p1:Bool}{p2:Option Addr}{p3 p4:Nat}{p5:Bool}{p6:Option Addr}{p7 p8:Nat}{u1:Bool}{u2:Option Addr}{u3 u4:Nat}{u5:Bool}{u6:Option Addr}{u7 u8:Nat}{x y:Int×Int}{t:Nat} (h:In2 V N bb bo i q p1 p2 p3 p4 p5 p6 p7 p8 u1 u2 u3 u4 u5 u6 u7 u8 x y w1) (ht:V.heap.size≤t) (a0 a1 a2 a3:Value) :
   let w':=((((w1.setCell ⟨t,0,none⟩ a0).setCell ⟨t,1,none⟩ a1).setCell ⟨t,2,none⟩ a2).setCell ⟨t,3,none⟩ a3)
   w'.cell? ⟨bb,bo+i*4,none⟩=some (.bool p1)∧w'.cell? ⟨bb,bo+i*4+1,none⟩=some (.slice p2 p3 p4)∧w'.cell? ⟨bb,bo+i*4+2,none⟩=some (.bool p5)∧w'.cell? ⟨bb,bo+i*4+3,none⟩=some (.slice p6 p7 p8)∧w'.cell? ⟨q,0,none⟩=some (.bool u1)∧w'.cell? ⟨q,1,none⟩=some (.slice u2 u3 u4)∧w'.cell? ⟨q,2,none⟩=some (.bool u5)∧w'.cell? ⟨q,3,none⟩=some (.slice u6 u7 u8):=by
 intro w'
 have hc:∀ b o v,b<V.heap.size→w1.cell? ⟨b,o,none⟩=some v→w'.cell? ⟨b,o,none⟩=some v:=fun b o v hb hv=>by
   show (World.setCell _ _ _).cell? _=_
   rw [zqb _ _ _ _ _ _ (by omega),zqb _ _ _ _ _ _ (by omega),zqb _ _ _ _ _ _ (by omega),zqb _ _ _ _ _ _ (by omega)]
   exact hv
 obtain ⟨_,⟨c0,c1,c2,c3,c4,c5,c6,c7⟩,_,_,l1,l2⟩:=h
 exact ⟨hc _ _ _ l1 c0,hc _ _ _ l1 c1,hc _ _ _ l1 c2,hc _ _ _ l1 c3,hc _ _ _ l2 c4,hc _ _ _ l2 c5,hc _ _ _ l2 c6,hc _ _ _ l2 c7⟩
structure In2r (V:World) (N:Nat) (bb bo i k:Nat) (p1:Bool) (p2:Option Addr) (p3 p4:Nat) (p5:Bool) (p6:Option Addr) (p7 p8:Nat) (u1:Bool) (u2:Option Addr) (u3 u4:Nat) (u5:Bool) (u6:Option Addr) (u7 u8:Nat) (x y:Int×Int) (w':World):Prop where
 below:Below V.heap.size V w'
 cs:w'.cell? ⟨bb,bo+i*4,none⟩=some (.bool p1)∧w'.cell? ⟨bb,bo+i*4+1,none⟩=some (.slice p2 p3 p4)∧w'.cell? ⟨bb,bo+i*4+2,none⟩=some (.bool p5)∧w'.cell? ⟨bb,bo+i*4+3,none⟩=some (.slice p6 p7 p8)∧w'.cell? ⟨bb,bo+k*4,none⟩=some (.bool u1)∧w'.cell? ⟨bb,bo+k*4+1,none⟩=some (.slice u2 u3 u4)∧w'.cell? ⟨bb,bo+k*4+2,none⟩=some (.bool u5)∧w'.cell? ⟨bb,bo+k*4+3,none⟩=some (.slice u6 u7 u8)
 x:Qr N w' (.agg #[.bool p1,.slice p2 p3 p4,.bool p5,.slice p6 p7 p8]) x.1 x.2
 y:Qr N w' (.agg #[.bool u1,.slice u2 u3 u4,.bool u5,.slice u6 u7 u8]) y.1 y.2
 lt:bb<V.heap.size∧bb<V.heap.size
theorem In2r.keep {V w1 w2:World}{N:Nat}{bb bo i k:Nat}{p1:Bool}{p2:Option Addr}{p3 p4:Nat}{p5:Bool}{p6:Option Addr}{p7 p8:Nat}{u1:Bool}{u2:Option Addr}{u3 u4:Nat}{u5:Bool}{u6:Option Addr}{u7 u8:Nat}{x y:Int×Int} (h:In2r V N bb bo i k p1 p2 p3 p4 p5 p6 p7 p8 u1 u2 u3 u4 u5 u6 u7 u8 x y w1) (hb:Below w1.heap.size w1 w2):In2r V N bb bo i k p1 p2 p3 p4 p5 p6 p7 p8 u1 u2 u3 u4 u5 u6 u7 u8 x y w2:=by
 obtain ⟨h1,⟨c0,c1,c2,c3,c4,c5,c6,c7⟩,h4,h5,h6⟩:=h
 exact ⟨bk hb h1,⟨ck hb c0,ck hb c1,ck hb c2,ck hb c3,ck hb c4,ck hb c5,ck hb c6,ck hb c7⟩,h4.later hb,h5.later hb,h6⟩
theorem In2r.drew {V w1:World}{N:Nat}{bb bo i k:Nat}{p1:Bool}{p2:Option Addr}{p3 p4:Nat}{p5:Bool}{p6:Option Addr}{p7 p8:Nat}{u1:Bool}{u2:Option Addr}{u3 u4:Nat}{u5:Bool}{u6:Option Addr}{u7 u8:Nat}{x y:Int×Int} (h:In2r V N bb bo i k p1 p2 p3 p4 p5 p6 p7 p8 u1 u2 u3 u4 u5 u6 u7 u8 x y w1):In2r V N bb bo i k p1 p2 p3 p4 p5 p6 p7 p8 u1 u2 u3 u4 u5 u6 u7 u8 x y w1.drew:=h.keep (Below.refl _ _).drew
theorem In2r.put {V w1:World}{N:Nat}{bb bo i k:Nat}{p1:Bool}{p2:Option Addr}{p3 p4:Nat}{p5:Bool}{p6:Option Addr}{p7 p8:Nat}{u1:Bool}{u2:Option Addr}{u3 u4:Nat}{u5:Bool}{u6:Option Addr}{u7 u8:Nat}{x y:Int×Int}{t:Nat} (h:In2r V N bb bo i k p1 p2 p3 p4 p5 p6 p7 p8 u1 u2 u3 u4 u5 u6 u7 u8 x y w1) (ht:V.heap.size≤t) (a0 a1 a2 a3:Value) :
   let w':=((((w1.setCell ⟨t,0,none⟩ a0).setCell ⟨t,1,none⟩ a1).setCell ⟨t,2,none⟩ a2).setCell ⟨t,3,none⟩ a3)
   w'.cell? ⟨bb,bo+i*4,none⟩=some (.bool p1)∧w'.cell? ⟨bb,bo+i*4+1,none⟩=some (.slice p2 p3 p4)∧w'.cell? ⟨bb,bo+i*4+2,none⟩=some (.bool p5)∧w'.cell? ⟨bb,bo+i*4+3,none⟩=some (.slice p6 p7 p8)∧w'.cell? ⟨bb,bo+k*4,none⟩=some (.bool u1)∧w'.cell? ⟨bb,bo+k*4+1,none⟩=some (.slice u2 u3 u4)∧w'.cell? ⟨bb,bo+k*4+2,none⟩=some (.bool u5)∧w'.cell? ⟨bb,bo+k*4+3,none⟩=some (.slice u6 u7 u8):=by
 intro w'
 have hc:∀ b o v,b<V.heap.size→w1.cell? ⟨b,o,none⟩=some v→w'.cell? ⟨b,o,none⟩=some v:=fun b o v hb hv=>by
   show (World.setCell _ _ _).cell? _=_
   rw [zqb _ _ _ _ _ _ (by omega),zqb _ _ _ _ _ _ (by omega),zqb _ _ _ _ _ _ (by omega),zqb _ _ _ _ _ _ (by omega)]
   exact hv
 obtain ⟨_,⟨c0,c1,c2,c3,c4,c5,c6,c7⟩,_,_,l1,l2⟩:=h
 exact ⟨hc _ _ _ l1 c0,hc _ _ _ l1 c1,hc _ _ _ l1 c2,hc _ _ _ l1 c3,hc _ _ _ l2 c4,hc _ _ _ l2 c5,hc _ _ _ l2 c6,hc _ _ _ l2 c7⟩
def wout (a b:List (Int×Int)) (y:Int×Int):List (Int×Int):=List.zipWith (fun p q=>qs p (qm q y)) a b
theorem wout_take {a b:List (Int×Int)}{y p q:Int×Int}{i:Nat} (hp:a[i]? = some p) (hq:b[i]? = some q):wout (a.take (i+1)) (b.take (i+1)) y=wout (a.take i) (b.take i) y++[qs p (qm q y)]:=by
 have hi:=(List.getElem?_eq_some_iff.1 hp).1
 have hj:=(List.getElem?_eq_some_iff.1 hq).1
 rw [tkn hp,tkn hq,wout,List.zipWith_append (by rw [List.length_take,List.length_take];omega)]
 rfl
theorem wout_len {a b:List (Int×Int)}{y:Int×Int} (h:b.length=a.length):(wout a b y).length=a.length:=by rw [wout,List.length_zipWith,h,Nat.min_self]
set_option maxHeartbeats 16000000 in
set_option maxRecDepth 8000 in
theorem rwithout_any {N T:Nat}{v v':Value}{a b:List (Int×Int)}{y:Int×Int}{y1:Bool}{y2:Option Addr}{y3 y4:Nat}{y5:Bool}{y6:Option Addr}{y7 y8:Nat} (w:World) (h:Rows 4 (QE N) w v a) (h':Rows 4 (QE N) w v' b) (hy:Qr N w (.agg #[.bool y1,.slice y2 y3 y4,.bool y5,.slice y6 y7 y8]) y.1 y.2) (hab:b.length=a.length) (hl:a.length≤6) (hNT:N≤T) (hT:T≤38000) (hf:∀ x ∈ b,Fit T (qm x y)) :
   Calls Tryz.prog 211 #[v,v',.agg #[.bool y1,.slice y2 y3 y4,.bool y5,.slice y6 y7 y8]] w fun e w'=>(∃ v,e=.returned v∧Rows 4 (QE (T+T+1)) w' v (wout a b y))∧Below w.heap.size w w':=by
 obtain ⟨sa,sc,rfl⟩:=h.shape
 obtain ⟨ta,tc,rfl⟩:=h'.shape
 have kn:=zqa w (.cells #[.bool y1,.slice y2 y3 y4,.bool y5,.slice y6 y7 y8] 56)
 have HR:=qh (h.later (QE.stays N NoInt (e:=0) (by decide)) kn)
 have HR':=qh (h'.later (QE.stays N NoInt (e:=0) (by decide)) kn)
 have HY:=qh (QB.new hy)
 have HF:=qh hf
 have HAB:=qh hab
 have HK:=qh kn
 clear h h' hf kn hy
 have hab':(b.length:Int)=(a.length:Int):=by omega
 have HAB':=qh hab'
 obtain ⟨bn,hbn⟩:∃ n,n=b.length:=⟨_,rfl⟩
 rw [← hbn] at HR' HAB HAB' ⊢
 have HBN:=qh hbn
 clear hbn hab hab'
 go_enter Tryz.func211,Tryz.ntmps211
 go_wp2_with fail
 obtain ⟨W0,hW0⟩:∃ X,X=w.alloc (.cells #[.bool y1,.slice y2 y3 y4,.bool y5,.slice y6 y7 y8] 56):=⟨_,rfl⟩
 obtain ⟨q,hq⟩:∃ X,X=w.heap.size:=⟨_,rfl⟩
 rw [← hW0] at HR HR' HY HK ⊢
 rw [← hq] at HY ⊢
 have HWQ:=qh (And.intro hW0 hq)
 clear hW0 hq
 go_loopg [7,8] a.length (fun gk ov iv wr=>∃ (i:Nat) (L:List (Int×Int)),i≤a.length∧gk=a.length - i∧iv=.int .i64 (i:Int)∧Hid (L=wout (a.take i) (b.take i) y)∧Hid (Below W0.heap.size W0 wr)∧Hid (OwnR NoInt 4 (QE (T+T+1)) 56 wr W0.heap.size ov L))
 case atStart=>exact ⟨0,[],by omega,by omega,rfl,qh rfl,qh (Below.refl _ _),qh (OwnR.nil _ _ _ _ _ _)⟩
 case round =>
   obtain ⟨i,L,hi,hgk,rfl,HL,HB,HO⟩:=hrel
   obtain ⟨oa,oc,rfl⟩:=(uh HO).slice
   by_cases hil:i<a.length
   · obtain ⟨p,hp⟩:∃ s,a[i]? = some s:=⟨a[i],by simp [hil]⟩
     obtain ⟨r,hr⟩:∃ s,b[i]? = some s:=⟨b[i]'(by have:=uh HAB;have:=uh HBN;omega),by simp⟩
     obtain ⟨ab,ao,rfl,cs,_,hcs1,a1,a2,a3,a4,a5,a6,a7,a8,rfl,hA⟩:=(uh HR).at hp
     have hrt:=uh HR'
     obtain ⟨bb,bo,rfl,cs,_,hcs2,p1,p2,p3,p4,p5,p6,p7,p8,rfl,hP⟩:=hrt.at hr
     have c0:W0.cell? ⟨ab,ao+i*4,none⟩=some (.bool a1):=by simpa using hcs1 0 _ rfl
     have c4:W0.cell? ⟨bb,bo+i*4,none⟩=some (.bool p1):=by simpa using hcs2 0 _ rfl
     have hBB:=uh HB
     have hq:=(uh HY).keep hBB
     have hws:=hBB.size
     have l1:=World.block_lt_of_cell? W0 _ c0
     have l2:=World.block_lt_of_cell? W0 _ c4
     have l3:=(uh HY).box.lt
     simp only at l1 l2
     have HI:Hid (In2 wr N bb bo i q p1 p2 p3 p4 p5 p6 p7 p8 y1 y2 y3 y4 y5 y6 y7 y8 r y wr):=qh ⟨Below.refl _ _,⟨ck hBB c4,ck hBB (hcs2 1 _ rfl),ck hBB (hcs2 2 _ rfl),ck hBB (hcs2 3 _ rfl),hq.c0,hq.c1,hq.c2,hq.c3⟩,hP.later hBB,hq.qr,by omega,by omega⟩
     have HA:Hid ((wr.cell? ⟨ab,ao+i*4,none⟩=some (.bool a1)∧wr.cell? ⟨ab,ao+i*4+1,none⟩=some (.slice a2 a3 a4)∧wr.cell? ⟨ab,ao+i*4+2,none⟩=some (.bool a5)∧wr.cell? ⟨ab,ao+i*4+3,none⟩=some (.slice a6 a7 a8))∧Qr N wr (.agg #[.bool a1,.slice a2 a3 a4,.bool a5,.slice a6 a7 a8]) p.1 p.2∧ab<wr.heap.size):=qh ⟨⟨ck hBB c0,ck hBB (hcs1 1 _ rfl),ck hBB (hcs1 2 _ rfl),ck hBB (hcs1 3 _ rfl)⟩,hA.later hBB,by omega⟩
     have HPR:=qh (And.intro hp hr)
     have hil':(i:Int)<(a.length:Int):=by omega
     have hib':(i:Int)<(bn:Int):=by have:=uh HAB;omega
     have HG:=qh (And.intro hgk (And.intro hi hil))
     clear hcs1 hcs2 hA hP hrt c0 c4 hBB hq hws l1 l2 l3 hp hr hgk hi hil
     go_upto_region 5 with fail
     obtain ⟨V,rfl⟩:∃ X,X=wr:=⟨_,rfl⟩
     have HI0:=HI
     go_cut [9] from 11 to 32 (fun vq wx=>∃ tq t1 t2 t3 t4 t5 t6 t7 t8 P D,vq=.pointer (some ⟨tq,0,none⟩)∧Hid (P*(r.2*y.2)=r.1*y.1*D)∧Hid (QB wx tq t1 t2 t3 t4 t5 t6 t7 t8 (N+N) P D)∧Hid (Below V.heap.size V wx))
     case first =>
       have HI:=qh (uh HI0).drew
       have n1:=(uh HI0).lt
       go_region_held3 (fun w'=>w'.cell? ⟨bb,bo+i*4,none⟩=some (.bool p1)∧w'.cell? ⟨bb,bo+i*4+1,none⟩=some (.slice p2 p3 p4)∧w'.cell? ⟨bb,bo+i*4+2,none⟩=some (.bool p5)∧w'.cell? ⟨bb,bo+i*4+3,none⟩=some (.slice p6 p7 p8)∧w'.cell? ⟨q,0,none⟩=some (.bool y1)∧w'.cell? ⟨q,1,none⟩=some (.slice y2 y3 y4)∧w'.cell? ⟨q,2,none⟩=some (.bool y5)∧w'.cell? ⟨q,3,none⟩=some (.slice y6 y7 y8))
         (first | with_reducible exact (uh HI).cs | with_reducible exact ((uh HI).keep (zqa _ _)).cs | with_reducible exact (((uh HI0).keep (zqa _ _)).drew).cs | with_reducible exact In2.put (uh HI) (by omega) _ _ _ _)
         (first
           | (go_at_call 46;(first | go_fit (rqmul_any (N:=N) _ (uh HI).x (uh HI).y (by omega)) | go_fit (rqmul_any (N:=N) _ ((uh HI).keep (zqa _ _)).x ((uh HI).keep (zqa _ _)).y (by omega)) | go_fit (rqmul_any (N:=N) _ ((uh HI0).keep (zqa _ _)).drew.x ((uh HI0).keep (zqa _ _)).drew.y (by omega)));rintro e9 Y1 ⟨⟨vm,P,D,rfl,hM,hE⟩,hb⟩;have HE:=qh hE;clear hE;obtain ⟨o1,o2,o3,o4,o5,o6,o7,o8,rfl⟩:=hM.shape;(first | (have HI:=qh ((uh HI).keep hb)) | (have HI:=qh (((uh HI).keep (zqa _ _)).keep hb);have hbx:=(zkj _ false none 0 0 false none 0 0).later hb) | (have HI:=qh ((((uh HI0).keep (zqa _ _)).drew).keep hb);have hbx:=(show QBox (V.alloc (.cells #[.bool false,.slice none 0 0,.bool false,.slice none 0 0] 56)).drew V.heap.size from zkj V false none 0 0 false none 0 0).later hb));have l0:=(uh HI).below.size;(try (obtain ⟨⟨g0,h0⟩,⟨g1,g2,g3,h1⟩,⟨g4,h2⟩,⟨g5,g6,g7,h3⟩,gf⟩:=hbx.cells;have hxlt:=hbx.lt));clear hb))
       all_goals
         go_wp2
         go_meet
         first
           | exact ⟨_,_,_,_,_,_,_,_,_,_,_,rfl,HE,qh (QB.new hM),qh ((uh HI).keep (zqa _ _)).below⟩
           | exact ⟨_,_,_,_,_,_,_,_,_,_,_,rfl,HE,qh (QB.put hbx hM),qh (zqe (uh HI).below (by omega) _ _ _ _)⟩
     case rest =>
       obtain ⟨tq,t1,t2,t3,t4,t5,t6,t7,t8,P,D,rfl,HE,HT,HB1⟩:=hcut
       have hpos:=(uh HT).qr.pos
       have hqm:qm r y=(P,D):=qm_is (uh HI0).x.pos.1 (uh HI0).y.pos.1 (uh HE) hpos.1 hpos.2
       have hfit:Fit T (P,D):=by rw [← hqm];exact uh HF r (List.mem_of_getElem? (uh HPR).2)
       have hT0:=(uh HT)
       have hTq:Qr T wc (.agg #[.bool t1,.slice t2 t3 t4,.bool t5,.slice t6 t7 t8]) P D:=hT0.qr.fits hfit
       have hB1:=uh HB1
       have hlt:=hB1.size
       have hA:=uh HA
       have htl:=hT0.box.lt
       have HQM:=qh hqm
       have HBV:=qh (bk hB1 (uh HB))
       have HO:=qh ((uh HO).later (QE.stays _ _ (by decide)) hB1)
       obtain ⟨V1,rfl⟩:∃ X,X=wc:=⟨_,rfl⟩
       have HI0:Hid (In2 V1 T ab ao i tq a1 a2 a3 a4 a5 a6 a7 a8 t1 t2 t3 t4 t5 t6 t7 t8 p (P,D) V1):=qh ⟨Below.refl _ _,⟨ck hB1 hA.1.1,ck hB1 hA.1.2.1,ck hB1 hA.1.2.2.1,ck hB1 hA.1.2.2.2,hT0.c0,hT0.c1,hT0.c2,hT0.c3⟩,(hA.2.1.later hB1).mono hNT,hTq,by omega,htl⟩
       clear hT0 hTq hB1 hlt hA htl hqm hfit HI HT HA HB HB1 hpos HE
       go_upto_region 6 with fail
       obtain ⟨V,rfl⟩:∃ X,X=V1:=⟨_,rfl⟩
       have HI:=HI0
       go_cut [10] from 11 to 32 (fun vq wx=>∃ xq x1 x2 x3 x4 x5 x6 x7 x8 P' D',vq=.pointer (some ⟨xq,0,none⟩)∧Hid (P'*(p.2*D)=(p.1*D+(-P)*p.2)*D')∧Hid (QB wx xq x1 x2 x3 x4 x5 x6 x7 x8 (T+T+1) P' D')∧Hid (Below V.heap.size V wx))
       case first =>
         have HI:=qh (uh HI0).drew
         have n1:=(uh HI0).lt
         go_region_held3 (fun w'=>w'.cell? ⟨ab,ao+i*4,none⟩=some (.bool a1)∧w'.cell? ⟨ab,ao+i*4+1,none⟩=some (.slice a2 a3 a4)∧w'.cell? ⟨ab,ao+i*4+2,none⟩=some (.bool a5)∧w'.cell? ⟨ab,ao+i*4+3,none⟩=some (.slice a6 a7 a8)∧w'.cell? ⟨tq,0,none⟩=some (.bool t1)∧w'.cell? ⟨tq,1,none⟩=some (.slice t2 t3 t4)∧w'.cell? ⟨tq,2,none⟩=some (.bool t5)∧w'.cell? ⟨tq,3,none⟩=some (.slice t6 t7 t8))
           (first | with_reducible exact (uh HI).cs | with_reducible exact ((uh HI).keep (zqa _ _)).cs | with_reducible exact (((uh HI0).keep (zqa _ _)).drew).cs | with_reducible exact In2.put (uh HI) (by omega) _ _ _ _)
           (first
             | (go_at_call 45;(first | go_fit (rqsub_any (N:=T) _ (uh HI).x (uh HI).y (by omega)) | go_fit (rqsub_any (N:=T) _ ((uh HI).keep (zqa _ _)).x ((uh HI).keep (zqa _ _)).y (by omega)) | go_fit (rqsub_any (N:=T) _ ((uh HI0).keep (zqa _ _)).drew.x ((uh HI0).keep (zqa _ _)).drew.y (by omega)));rintro e9 Y1 ⟨⟨vm,P',D',rfl,hM,hE⟩,hb⟩;have HE:=qh hE;clear hE;obtain ⟨o1,o2,o3,o4,o5,o6,o7,o8,rfl⟩:=hM.shape;(first | (have HI:=qh ((uh HI).keep hb)) | (have HI:=qh (((uh HI).keep (zqa _ _)).keep hb);have hbx:=(zkj _ false none 0 0 false none 0 0).later hb) | (have HI:=qh ((((uh HI0).keep (zqa _ _)).drew).keep hb);have hbx:=(show QBox (V.alloc (.cells #[.bool false,.slice none 0 0,.bool false,.slice none 0 0] 56)).drew V.heap.size from zkj V false none 0 0 false none 0 0).later hb));have l0:=(uh HI).below.size;(try (obtain ⟨⟨g0,h0⟩,⟨g1,g2,g3,h1⟩,⟨g4,h2⟩,⟨g5,g6,g7,h3⟩,gf⟩:=hbx.cells;have hxlt:=hbx.lt));clear hb))
         all_goals
           go_wp2
           go_meet
           first
             | exact ⟨_,_,_,_,_,_,_,_,_,_,_,rfl,HE,qh (QB.new hM),qh ((uh HI).keep (zqa _ _)).below⟩
             | exact ⟨_,_,_,_,_,_,_,_,_,_,_,rfl,HE,qh (QB.put hbx hM),qh (zqe (uh HI).below (by omega) _ _ _ _)⟩
       case rest =>
         obtain ⟨xq,x1,x2,x3,x4,x5,x6,x7,x8,P',D',rfl,HE,HX,HB1⟩:=hcut
         have hpos:=(uh HX).qr.pos
         have hqs:qs p (P,D)=(P',D'):=qs_is (uh HI0).x.pos.1 (uh HI0).y.pos.1 (uh HE) hpos.1 hpos.2
         have HQS:=qh hqs
         have HBV:=qh (bk (uh HB1) (uh HBV))
         have HO:=qh ((uh HO).later (QE.stays _ _ (by decide)) (uh HB1))
         obtain ⟨V1,rfl⟩:∃ X,X=wc:=⟨_,rfl⟩
         have c0:=(uh HX).c0
         have c1:=(uh HX).c1
         have c2:=(uh HX).c2
         have c3:=(uh HX).c3
         have hbs:W0.heap.size≤V1.heap.size:=(uh HBV).size
         obtain ⟨hgk,hi,hil⟩:=uh HG
         have hLn:L.length≤100000000:=by have:=uh HL;rw [this,wout,List.length_zipWith,List.length_take];omega
         have him:(i:Int)+1≤100:=by omega
         clear hqs hpos HE HI HI0
         go_wp2_with (at_builtin;refine zqm (y:=(P',D')) rfl _ _ _ rfl Tryz.underlying115 info_q rfl (by decide) (by decide) zk_q (QE.stays _ _ (by decide)) W0.heap.size _ rfl (uh HO) [.bool x1,.slice x2 x3 x4,.bool x5,.slice x6 x7 x8] rfl (one_q _ _ _ _ _ _ _ _) (kd_q _ _ _ _ _ _ _ _) ⟨_,_,_,_,_,_,_,_,rfl,(uh HX).qr⟩ rfl rfl hLn hbs ?_;intro ov' Z1 hO1 hc1 hgr1 hge1)
         go_roundg (a.length - (i+1))
         case measure=>omega
         case rel=>exact ⟨i+1,L++[(P',D')],by omega,rfl,by go_num,qh (by rw [wout_take (uh HPR).1 (uh HPR).2,uh HL,uh HQM,uh HQS]),qh ((bk (zqa _ _) (uh HBV)).grown hgr1 (bk (zqa _ _) (uh HBV)).size hge1),qh hO1⟩
   · obtain rfl:i=a.length:=by omega
     clear hil hi hgk
     go_wp2
     go_ret
     refine ⟨⟨_,rfl,?_⟩,bk (uh HB) (uh HK)⟩
     have h1:=(uh HO).rows
     have h2:=uh HL
     rw [List.take_length,show a.length=b.length by rw [← uh HAB,uh HBN],List.take_length] at h2
     rw [← h2]
     exact h1
end Go.Proofs.YtkifiolkfdicoaaGreatDoor
