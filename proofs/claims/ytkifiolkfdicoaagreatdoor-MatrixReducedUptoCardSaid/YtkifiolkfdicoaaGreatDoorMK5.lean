import Derived.Test.YtkifiolkfdicoaaGreatDoorMK4
namespace Go.Proofs.YtkifiolkfdicoaaGreatDoor
open Go.RowKit
theorem sgn_some {x:Int} (h:x≠0):((sgn x) != 0)=true:=by
 rcases zqs x with ⟨_,e,_⟩ | ⟨h',_⟩ | ⟨_,e,_⟩
 · rw [e];rfl
 · exact absurd h' h
 · rw [e];rfl
theorem Box.aside2 {w:World}{r q:Nat} (h:Box w r) (hne:r≠q) (u u':Value):Box ((w.setCell ⟨q,0,none⟩ u).setCell ⟨q,1,none⟩ u') r:=(h.other hne u).other hne u'
structure MK (w:World) (M:Nat) (t:Int) (x1:Int) (x2:Option Addr) (x3 x4:Nat) (wr:World):Prop where
 below:Below w.heap.size w wr
 ret:Box wr w.heap.size
 t:Vr wr (w.heap.size+1) x1 x2 x3 x4 M t
theorem MK.keep {w w1 w2:World}{M:Nat}{t x1:Int}{x2:Option Addr}{x3 x4:Nat} (h:MK w M t x1 x2 x3 x4 w1) (hb:Below w1.heap.size w1 w2):MK w M t x1 x2 x3 x4 w2:=⟨bk hb h.below,h.ret.later hb,h.t.keep hb⟩
theorem MK.drew {w w1:World}{M:Nat}{t x1:Int}{x2:Option Addr}{x3 x4:Nat} (h:MK w M t x1 x2 x3 x4 w1):MK w M t x1 x2 x3 x4 w1.drew:=⟨h.below.drew,h.ret,h.t.drew⟩
theorem MK.start (w:World) (M:Nat):MK w M 0 0 none 0 0 ((w.alloc (.cells #[.int .i64 0,.slice none 0 0] 31)).alloc (.cells #[.int .i64 0,.slice none 0 0] 31)):=by
 have k1:=zqa w (.cells #[.int .i64 0,.slice none 0 0] 31)
 have k2:=zqa (w.alloc (.cells #[.int .i64 0,.slice none 0 0] 31)) (.cells #[.int .i64 0,.slice none 0 0] 31)
 have q2:=Vr.new (w:=w.alloc (.cells #[.int .i64 0,.slice none 0 0] 31)) (Zr.near (z:=0) M (by decide) (by decide))
 rw [show (w.alloc (.cells #[.int .i64 0,.slice none 0 0] 31)).heap.size=w.heap.size+1 by simp] at q2
 exact ⟨bk k2 k1,(zqw w).later k2,q2⟩
theorem kd_z (x1:Int) (x2:Option Addr) (x3 x4:Nat):∀ u ∈ [Value.int .i64 x1,.slice x2 x3 x4],NoWord u:=by
 intro u hu x
 simp at hu
 rcases hu with rfl | rfl <;> simp
theorem one_z (x1:Int) (x2:Option Addr) (x3 x4:Nat):∀ u ∈ [Value.int .i64 x1,.slice x2 x3 x4],u.oneCell'=true:=by
 intro u hu
 simp at hu
 rcases hu with rfl | rfl <;> rfl
theorem zk_z:∀ u ∈ (Value.agg #[.int .i64 0,.slice none 0 0]).cells.toList,NoWord u:=kd_z 0 none 0 0
theorem info_z:(Tryz.prog.info? 31).map (fun i=>(i.zero,i.size,i.bytes))=some (some (.agg #[.int .i64 0,.slice none 0 0]),2,32):=by kernel_rfl
theorem OwnR.set2 {α:Type}{K:Value→Prop}{E:World→List Value → α → Prop}{t:TypeId}{w:World}{base g n cap i:Nat}{L:List α}{u0 u1:Value}{x:α} (h:OwnR K 2 E t w base (.slice (some ⟨g,0,none⟩) n cap) L) (hE:Stays K t E) (hi:i<L.length) (hk:∀ u ∈ [u0,u1],K u) (he:E w [u0,u1] x) :
   OwnR K 2 E t ((w.setCell ⟨g,i*2,none⟩ u0).setCell ⟨g,i*2+1,none⟩ u1) base (.slice (some ⟨g,0,none⟩) n cap) (L.set i x)∧Chg K t w ((w.setCell ⟨g,i*2,none⟩ u0).setCell ⟨g,i*2+1,none⟩ u1):=by
 obtain ⟨xs,h1,h2⟩:=h
 have hkk:=h1.kinds
 obtain ⟨hxl,⟨h0,_⟩ | ⟨g',cap',cur,hv,hbg,hgg,hnc,hcm,hcs,htake⟩⟩:=h1.own
 · cases h0
 obtain ⟨rfl,rfl,rfl⟩:g=g'∧n=L.length∧cap=cap':=by simpa using hv
 have hck:∀ u ∈ cur.toList,K u:=fun u hu=>by
   obtain ⟨o,ho⟩:=List.getElem?_of_mem hu
   exact hkk g rfl o u (zqn hgg (by simpa using ho))
 have b1:=zkh (o:=i*2) hgg u0
 have b2:=zkh (o:=i*2+1) b1 u1
 have hck1:∀ u ∈ (cur.setIfInBounds (i*2) u0).toList,K u:=fun u hu=>by
   obtain ⟨o,ho⟩:=List.getElem?_of_mem hu
   rw [Array.getElem?_toList,Array.getElem?_setIfInBounds] at ho
   split at ho
   · split at ho
     · obtain rfl:u0=u:=by simpa using ho
       exact hk _ (by simp)
     · cases ho
   · exact hck u (by rw [← Array.mem_def];exact Array.mem_of_getElem? ho)
 have hck2:∀ u ∈ ((cur.setIfInBounds (i*2) u0).setIfInBounds (i*2+1) u1).toList,K u:=fun u hu=>by
   obtain ⟨o,ho⟩:=List.getElem?_of_mem hu
   rw [Array.getElem?_toList,Array.getElem?_setIfInBounds] at ho
   split at ho
   · split at ho
     · obtain rfl:u1=u:=by simpa using ho
       exact hk _ (by simp)
     · cases ho
   · exact hck1 u (by rw [← Array.mem_def];exact Array.mem_of_getElem? ho)
 have hc:=(zxj (o:=i*2) hgg hck u0).trans (zxj (o:=i*2+1) b1 hck1 u1)
 have hsz:((cur.setIfInBounds (i*2) u0).setIfInBounds (i*2+1) u1).size=cap*2:=by simp [hcs]
 refine ⟨⟨((cur.setIfInBounds (i*2) u0).setIfInBounds (i*2+1) u1).toList.take (L.length*2),⟨⟨?_,Or.inr ⟨g,cap,_,by rw [List.length_set],hbg,b2,by rw [List.length_set];exact hnc,hcm,hsz,by rw [List.length_set]⟩⟩,fun g' hg' o u hu => ?_⟩,fun j y hy => ?_⟩,hc⟩
 · have:((cur.setIfInBounds (i*2) u0).setIfInBounds (i*2+1) u1).toList.length=cap*2:=by rw [Array.length_toList];exact hsz
   rw [List.length_take,List.length_set,this]
   omega
 · obtain rfl:g=g':=by simpa [Value.ownBlock] using hg'
   rw [cell_of_row _ g o _ t _ b2] at hu
   exact hck2 u (by rw [← Array.mem_def];exact Array.mem_of_getElem? hu)
 · have hj:j<L.length:=by have:=(List.getElem?_eq_some_iff.1 hy).1;rw [List.length_set] at this;exact this
   by_cases hji:j=i
   · subst hji
     rw [List.getElem?_set_self hi] at hy
     obtain rfl:x=y:=by simpa using hy
     refine ⟨[u0,u1],rfl,fun k u hu => ?_,hE _ _ _ _ he hc⟩
     match k,hu with
     | 0,hu =>
       obtain rfl:u0=u:=by simpa using hu
       rw [Nat.add_zero,List.getElem?_take_of_lt (by omega),Array.getElem?_toList,Array.getElem?_setIfInBounds,if_neg (by omega),Array.getElem?_setIfInBounds,if_pos (by omega),if_pos (by omega)]
     | 1,hu =>
       obtain rfl:u1=u:=by simpa using hu
       rw [List.getElem?_take_of_lt (by omega),Array.getElem?_toList,Array.getElem?_setIfInBounds,if_pos rfl,if_pos (by simp;omega)]
   · rw [List.getElem?_set_ne (Ne.symm hji)] at hy
     obtain ⟨cs,hl,hcs',he'⟩:=h2 j y hy
     refine ⟨cs,hl,fun k u hu => ?_,hE _ _ _ _ he' hc⟩
     have hkl:k<2:=by have:=(List.getElem?_eq_some_iff.1 hu).1;omega
     have h3:=hcs' k u hu
     rw [← htake,List.getElem?_take_of_lt (by omega),Array.getElem?_toList] at h3
     rw [List.getElem?_take_of_lt (by omega),Array.getElem?_toList,Array.getElem?_setIfInBounds,if_neg (by omega),Array.getElem?_setIfInBounds,if_neg (by omega)]
     exact h3
structure ScK (A:Nat→Addr) (w:World) (b1 b2 T:Nat) (a s:Int) (x1:Int) (x2:Option Addr) (x3 x4:Nat) (y1:Int) (y2:Option Addr) (y3 y4:Nat) (wr:World):Prop where
 below:Below w.heap.size w wr
 env:Env A wr
 ret:RBox wr w.heap.size
 ab:Vr wr b1 x1 x2 x3 x4 T a
 sh:Vr wr b2 y1 y2 y3 y4 T s
 l1:w.heap.size<b1
 l2:w.heap.size<b2
 ne:b1≠b2
theorem ScK.keep {A:Nat→Addr}{w w1 w2:World}{b1 b2 T:Nat}{a s x1 y1:Int}{x2 y2:Option Addr}{x3 x4 y3 y4:Nat} (h:ScK A w b1 b2 T a s x1 x2 x3 x4 y1 y2 y3 y4 w1) (hb:Below w1.heap.size w1 w2):ScK A w b1 b2 T a s x1 x2 x3 x4 y1 y2 y3 y4 w2:=⟨bk hb h.below,h.env.later hb,h.ret.later hb,h.ab.keep hb,h.sh.keep hb,h.l1,h.l2,h.ne⟩
theorem ScK.drew {A:Nat→Addr}{w w1:World}{b1 b2 T:Nat}{a s x1 y1:Int}{x2 y2:Option Addr}{x3 x4 y3 y4:Nat} (h:ScK A w b1 b2 T a s x1 x2 x3 x4 y1 y2 y3 y4 w1):ScK A w b1 b2 T a s x1 x2 x3 x4 y1 y2 y3 y4 w1.drew:=⟨h.below.drew,h.env.later (Below.refl _ _).drew,h.ret,h.ab.drew,h.sh.drew,h.l1,h.l2,h.ne⟩
theorem RBox.aside2 {w:World}{r q:Nat} (h:RBox w r) (hne:r≠q) (u u':Value):RBox ((w.setCell ⟨q,0,none⟩ u).setCell ⟨q,1,none⟩ u') r:=by
 obtain ⟨x,a,n,c,y,b,m,k,h⟩:=h
 exact ⟨x,a,n,c,y,b,m,k,by rw [Below.heap_setCell _ _ _ _ hne,Below.heap_setCell _ _ _ _ hne];exact h⟩
theorem Env.stored {A:Nat→Addr}{w wr:World} (h:Env A w) (hb:Below w.heap.size w wr):Env A wr:=h.later hb
theorem lcm_next {a den g q:Int} (a0:0<a) (d0:0<den) (hg:g=(Int.gcd a den:Int)) (hq:q*g=a):0<q*den∧a∣q*den∧den∣q*den∧q*den≤a*den∧0<g∧0<q∧q≤a∧g≤a:=by
 have g0:0<g:=by rw [hg];have:=Int.gcd_pos_of_ne_zero_left den (show a≠0 by omega);omega
 have q0:0<q:=by
   rcases Int.lt_or_le 0 q with h | h
   · exact h
   · have:q*g≤0*g:=Int.mul_le_mul_of_nonneg_right h (by omega)
     omega
 have hqa:q≤a:=by
   have:q*1≤q*g:=Int.mul_le_mul_of_nonneg_left (by omega) (by omega)
   omega
 have hga:g≤a:=by
   have:1*g≤q*g:=Int.mul_le_mul_of_nonneg_right (by omega) (by omega)
   omega
 refine ⟨Int.mul_pos q0 d0,?_,Int.dvd_mul_left _ _,Int.mul_le_mul_of_nonneg_right hqa (by omega),g0,q0,hqa,hga⟩
 obtain ⟨k,hk⟩:g∣den:=by rw [hg];exact Int.gcd_dvd_right ..
 exact ⟨k,by rw [hk,← hq,Int.mul_assoc]⟩
theorem exact_is {z o q q' r:Int} (_ho:o≠0) (hq:q*o=z) (h:q'*o+r=z) (r0:0≤r) (r1:r<iabs o):q'=q:=by
 have h1:(q - q')*o=r:=by rw [Int.sub_mul];omega
 rcases Int.lt_or_le (q - q') 1 with h2 | h2
 · rcases Int.lt_or_le (-1) (q - q') with h3 | h3
   · omega
   · exfalso
     unfold iabs at r1
     split at r1
     · have:(q - q')*o≥(-1)*o:=Int.mul_le_mul_of_nonpos_right h3 (by omega)
       omega
     · have:(q - q')*o≤(-1)*o:=Int.mul_le_mul_of_nonneg_right h3 (by omega)
       omega
 · exfalso
   unfold iabs at r1
   split at r1
   · have:(q - q')*o≤1*o:=Int.mul_le_mul_of_nonpos_right h2 (by omega)
     omega
   · have:1*o≤(q - q')*o:=Int.mul_le_mul_of_nonneg_right h2 (by omega)
     omega
structure XK (w:World) (N:Nat) (z o:Int) (x1:Int) (x2:Option Addr) (x3 x4:Nat) (y1:Int) (y2:Option Addr) (y3 y4:Nat) (wr:World):Prop where
 below:Below w.heap.size w wr
 z:Vr wr w.heap.size x1 x2 x3 x4 N z
 o:Vr wr (w.heap.size+1) y1 y2 y3 y4 N o
 ret:Box wr (w.heap.size+1+1)
theorem XK.keep {w w1 w2:World}{N:Nat}{z o x1 y1:Int}{x2 y2:Option Addr}{x3 x4 y3 y4:Nat} (h:XK w N z o x1 x2 x3 x4 y1 y2 y3 y4 w1) (hb:Below w1.heap.size w1 w2):XK w N z o x1 x2 x3 x4 y1 y2 y3 y4 w2:=⟨bk hb h.below,h.z.keep hb,h.o.keep hb,h.ret.later hb⟩
theorem XK.start {w:World}{N:Nat}{z o x1 y1:Int}{x2 y2:Option Addr}{x3 x4 y3 y4:Nat} (h:Zr N w (.agg #[.int .i64 x1,.slice x2 x3 x4]) z) (h':Zr N w (.agg #[.int .i64 y1,.slice y2 y3 y4]) o):XK w N z o x1 x2 x3 x4 y1 y2 y3 y4 (((w.alloc (.cells #[.int .i64 x1,.slice x2 x3 x4] 31)).alloc (.cells #[.int .i64 y1,.slice y2 y3 y4] 31)).alloc (.cells #[.int .i64 0,.slice none 0 0] 31)):=by
 have k1:=zqa w (.cells #[.int .i64 x1,.slice x2 x3 x4] 31)
 have k2:=zqa (w.alloc (.cells #[.int .i64 x1,.slice x2 x3 x4] 31)) (.cells #[.int .i64 y1,.slice y2 y3 y4] 31)
 have k3:=zqa ((w.alloc (.cells #[.int .i64 x1,.slice x2 x3 x4] 31)).alloc (.cells #[.int .i64 y1,.slice y2 y3 y4] 31)) (.cells #[.int .i64 0,.slice none 0 0] 31)
 have q1:=((Vr.new h).keep k2).keep k3
 have q2:=(Vr.new (h'.later k1)).keep k3
 have q3:=zqw ((w.alloc (.cells #[.int .i64 x1,.slice x2 x3 x4] 31)).alloc (.cells #[.int .i64 y1,.slice y2 y3 y4] 31))
 rw [show (w.alloc (.cells #[.int .i64 x1,.slice x2 x3 x4] 31)).heap.size=w.heap.size+1 by simp] at q2
 rw [show ((w.alloc (.cells #[.int .i64 x1,.slice x2 x3 x4] 31)).alloc (.cells #[.int .i64 y1,.slice y2 y3 y4] 31)).heap.size=w.heap.size+1+1 by simp] at q3
 exact ⟨bk k3 (bk k2 k1),q1,q2,q3⟩
set_option maxHeartbeats 4000000 in
set_option maxRecDepth 8000 in
theorem zjp {N:Nat}{v u:Value}{z o q:Int} (w:World) (hz:Zr (N+1) w v z) (ho:Zr (N+1) w u o) (ho0:o≠0) (hq:q*o=z) (hN:N≤700000) :
   Calls Tryz.prog 208 #[v,u] w fun e w'=>(∃ v,e=.returned v∧Zr (N+3) w' v q)∧Below w.heap.size w w':=by
 obtain ⟨x1,x2,x3,x4,rfl⟩:=hz.shape
 obtain ⟨y1,y2,y3,y4,rfl⟩:=ho.shape
 have HK:=qh (XK.start hz ho)
 have HQ:=qh hq
 clear hz ho hq
 go_enter Tryz.func208,Tryz.ntmps208
 go_wp2_with fail
 obtain ⟨W0,hW0⟩:∃ W0,W0=((w.alloc (.cells #[.int .i64 x1,.slice x2 x3 x4] 31)).alloc (.cells #[.int .i64 y1,.slice y2 y3 y4] 31)).alloc (.cells #[.int .i64 0,.slice none 0 0] 31):=⟨_,rfl⟩
 rw [← hW0] at HK ⊢
 clear hW0
 have c0:=(uh HK).z.c0
 have c1:=(uh HK).z.c1
 have d0:=(uh HK).o.c0
 have d1:=(uh HK).o.c1
 go_wp2_with fail
 go_fit (divMod_any (N:=N) _ (uh HK).z.zr (uh HK).o.zr hN)
 rintro e W1 ⟨hd,hb⟩
 rcases hd with ⟨h,_⟩ | ⟨_,vq,vr,q',r,rfl,hq',hr,e5,r0,r1⟩
 · exact absurd h ho0
 obtain rfl:=exact_is ho0 (uh HQ) e5 r0 r1
 obtain ⟨a1,a2,a3,a4,rfl⟩:=hq'.shape
 obtain ⟨b1,b2,b3,b4,rfl⟩:=hr.shape
 have k1:=zqa W1 (.cells #[.int .i64 a1,.slice a2 a3 a4] 31)
 have k2:=zqa (W1.alloc (.cells #[.int .i64 a1,.slice a2 a3 a4] 31)) (.cells #[.int .i64 b1,.slice b2 b3 b4] 31)
 have HK:=qh ((((uh HK).keep hb).keep k1).keep k2)
 have HV:=qh ((Vr.new hq').keep k2)
 clear hb k1 k2 hq' hr e5 r0 r1 c0 c1 d0 d1
 have c0:=(uh HV).c0
 have c1:=(uh HV).c1
 obtain ⟨⟨x0,g0⟩,⟨a0,n0,c0',g1⟩,gf⟩:=(uh HK).ret.cells
 have hlt:=(uh HK).o.lt
 go_wp2
 obtain ⟨st0,st1⟩:=(uh HK).ret.stored (.int .i64 a1) (.slice a2 a3 a4)
 exact bodyPost_ret (v:=.agg #[.int .i64 a1,.slice a2 a3 a4]) (by simp [results,Tryz.results208,go_sem,st0,st1]) rfl ⟨⟨_,rfl,(uh HV).zr.stored (uh HK).ret _ _⟩,zqc (uh HK).below (by omega) _ _⟩
theorem RB.lt {N:Nat}{wr:World}{b:Nat}{x1:Int}{x2:Option Addr}{x3 x4:Nat}{x5:Int}{x6:Option Addr}{x7 x8:Nat}{P D:Int} (h:RB N wr b x1 x2 x3 x4 x5 x6 x7 x8 P D):b<wr.heap.size:=World.block_lt_of_cell? wr _ h.c.1
theorem OfP.good {N:Nat}{z o:Int}{e:Ending}{w':World} (h:OfP N z o e w') (ho:o≠0):∃ v p d,e=.returned (.tuple #[v,.bool true])∧Rr N w' v p d∧p*o=z*d:=by
 rcases h with ⟨h,_⟩ | ⟨_,h⟩
 · exact absurd h ho
 · exact h
open Go
theorem left_less (p p':Nat→Bool) (i:Nat) (hp:p i=true) (hp':p' i=false) (hle:∀ j,p' j=true→p j=true):∀ l:List Nat,(l.filter p').length≤(l.filter p).length∧(i ∈ l→(l.filter p').length<(l.filter p).length)
 | []=>⟨Nat.le_refl _,fun h=>by cases h⟩
 | x :: l=>by
   obtain ⟨h1,h2⟩:=left_less p p' i hp hp' hle l
   by_cases hx:p x=true
   · by_cases hx':p' x=true
     · rw [List.filter_cons_of_pos hx,List.filter_cons_of_pos hx']
       refine ⟨Nat.succ_le_succ h1,fun hm=>Nat.succ_lt_succ (h2 ?_)⟩
       rcases List.mem_cons.1 hm with e | e
       · rw [e,hx'] at hp';cases hp'
       · exact e
     · rw [List.filter_cons_of_pos hx,List.filter_cons_of_neg hx']
       exact ⟨Nat.le_succ_of_le h1,fun _=>Nat.lt_succ_of_le h1⟩
   · have hx':¬ p' x=true:=fun h=>hx (hle x h)
     rw [List.filter_cons_of_neg hx,List.filter_cons_of_neg hx']
     refine ⟨h1,fun hm=>h2 ?_⟩
     rcases List.mem_cons.1 hm with e | e
     · rw [e] at hp;exact absurd hp hx
     · exact e
theorem getD_set (listed:Array Bool) (i j:Nat) (hi:i<listed.size):(listed.setIfInBounds i true).getD j false=if j=i then true else listed.getD j false:=by
 by_cases h:j=i
 · subst h
   simp [hi]
 · simp [h,Ne.symm h]
theorem getD_true (listed:Array Bool) (j:Nat) (h:listed.getD j true=false):j<listed.size∧listed.getD j false=false:=by
 rcases Nat.lt_or_ge j listed.size with h' | h'
 · refine ⟨h',?_⟩
   simp [h'] at h ⊢
   exact h
 · simp [h'] at h
theorem getD_same (listed:Array Bool) (j:Nat) (hj:j<listed.size) (h:listed.getD j false=false):listed.getD j true=false:=by
 simp [hj] at h ⊢
 exact h
theorem wp_region_inv {P:Program}{ops:Array Oper}{Q:Exit→Act→World→Prop}{id:Nat}{a:Act}{w:World} (hm:P.follows .mixedOrders=true)
   (hord:∀ i o,ops[i]? = some o→∀ e ∈ o.after,Region.binds .any e=true→e.on<i) (Inv:(Nat→Bool)→Act→World→Prop) (h0:Inv (fun _=>false) a w.drew)
   (step:∀ L a w i o,Inv L a w→L i=false→ops[i]? = some o→(∀ e ∈ o.after,Region.binds .any e=true→L e.on=true)→wpOp P ops Q i (fun a' w'=>Inv (fun j=>if j=i then true else L j) a' w') a w)
   (fin:∀ L a w,Inv L a w→(∀ i,i<ops.size→L i=true)→Q .normal a w):(Code.region id ops true).wp P Q a w:=by
 have key:∀ (fuel:Nat) (listed:Array Bool) (a:Act) (w:World),listed.size=ops.size→((List.range ops.size).filter fun j => !listed.getD j false).length≤fuel→Inv (fun j=>listed.getD j false) a w→wpAny P .any ops Q fuel listed a w:=by
   intro fuel
   induction fuel with
   | zero =>
     intro listed a w hs hc hI
     have hall:∀ i,i<ops.size→listed.getD i false=true:=by
       intro i hi
       have hnil:=List.eq_nil_of_length_eq_zero (Nat.le_zero.1 hc)
       cases hb:listed.getD i false with
       | true=>rfl
       | false =>
         have hmem:i ∈ (List.range ops.size).filter fun j => !listed.getD j false:=List.mem_filter.2 ⟨List.mem_range.2 hi,by rw [hb];rfl⟩
         rw [hnil] at hmem
         cases hmem
     refine ⟨?_,fin _ _ _ hI hall⟩
     apply List.eq_nil_iff_forall_not_mem.2
     intro i hi
     obtain ⟨h1,h2⟩:=getD_true _ _ (mem_ready.1 hi).1
     rw [hall i (hs ▸ h1)] at h2
     cases h2
   | succ fuel ih =>
     intro listed a w hs hc hI
     refine ⟨fun hr=>fin _ _ _ hI ?_,fun i hi => ?_⟩
     · intro i
       induction i using Nat.strongRecOn with
       | _ i ihi =>
         intro hi
         cases hb:listed.getD i false with
         | true=>rfl
         | false =>
           have ho:ops[i]? = some ops[i]:=Array.getElem?_eq_getElem hi
           have:i ∈ Region.ready .any ops listed:=mem_ready.2 ⟨getD_same _ _ (hs ▸ hi) hb,ops[i],ho,fun e he hbd=>ihi e.on (hord i _ ho e he hbd) (Nat.lt_trans (hord i _ ho e he hbd) hi)⟩
           rw [hr] at this
           cases this
     · obtain ⟨hl,o,ho,hd⟩:=mem_ready.1 hi
       obtain ⟨h1,h2⟩:=getD_true _ _ hl
       refine wpOp_mono ?_ (step _ _ _ i o hI h2 ho hd)
       intro a' w' hI'
       have hfun:(fun j=>if j=i then true else listed.getD j false)=fun j=>(listed.setIfInBounds i true).getD j false:=funext fun j=>(getD_set listed i j h1).symm
       rw [hfun] at hI'
       refine ih _ _ _ (by simp [hs]) ?_ hI'
       have hlt:=(left_less (fun j => !listed.getD j false) (fun j => !(listed.setIfInBounds i true).getD j false) i (by simp only [h2];rfl) (by show (!(listed.setIfInBounds i true).getD i false)=false;rw [getD_set _ _ _ h1,if_pos rfl];rfl) (fun j hj=>by
         simp only [getD_set _ _ _ h1] at hj
         by_cases hji:j=i
         · rw [if_pos hji] at hj;cases hj
         · rw [if_neg hji] at hj;exact hj) (List.range ops.size)).2 (List.mem_range.2 (hs ▸ h1))
       omega
 refine wp_region_any hm (key _ _ _ _ (by simp) ?_ ?_)
 · exact Nat.le_trans (List.length_filter_le _ _) (by simp)
 · have hfun:(fun j=>(Array.replicate ops.size false).getD j false)=fun _=>false:=funext fun j=>by
     rcases Nat.lt_or_ge j ops.size with h | h <;> simp [h]
   rw [hfun]
   exact h0
def edgesBack (ops:Array Oper):Bool:=(List.range ops.size).all fun i=>((ops[i]?).map fun o=>o.after.all fun e => !Region.binds .any e || decide (e.on<i)).getD true
theorem edgesBack_spec {ops:Array Oper} (h:edgesBack ops=true):∀ i o,ops[i]? = some o→∀ e ∈ o.after,Region.binds .any e=true→e.on<i:=by
 intro i o ho e he hb
 have hi:=(Array.getElem?_eq_some_iff.1 ho).1
 have h1:=List.all_eq_true.1 h i (List.mem_range.2 hi)
 rw [ho] at h1
 have h2:=Array.all_eq_true_iff_forall_mem.1 (show o.after.all _=true from h1) e he
 rw [hb] at h2
 simpa using h2
theorem wp_region_inv_at {P:Program}{ops:Array Oper}{Q:Exit→Act→World→Prop}{id:Nat}{a:Act}{w:World} (hm:P.follows .mixedOrders=true)
   (hord:edgesBack ops=true) (Inv:Act→(Nat→Bool)→Act→World→Prop) (h0:Inv a (fun _=>false) a w.drew)
   (step:∀ L a1 w1 i o,Inv a L a1 w1→L i=false→ops[i]? = some o→(∀ e ∈ o.after,Region.binds .any e=true→L e.on=true)→wpOp P ops Q i (fun a' w'=>Inv a (fun j=>if j=i then true else L j) a' w') a1 w1)
   (fin:∀ L a1 w1,Inv a L a1 w1→(∀ i,i<ops.size→L i=true)→Q .normal a1 w1):(Code.region id ops true).wp P Q a w :=
 wp_region_inv hm (edgesBack_spec hord) (Inv a) h0 step fin
def frameOf:List (Option Tmp)→Nat→Act→(Nat→Value)→Act
 | [],_,a,_=>a
 | d :: ds,i,a,vals=>frameOf ds (i+1) (a.put d (vals i)) vals
theorem frs:(∀ (i:Nat) (a:Act) (v:Nat→Value),frameOf [] i a v=a)∧(∀ (d:Option Tmp) (ds:List (Option Tmp)) (i:Nat) (a:Act) (v:Nat→Value),frameOf (d :: ds) i a v=frameOf ds (i+1) (a.put d (v i)) v)∧(∀ (f:Oper→Option Tmp) (x:Oper) (l:List Oper),List.map f (x :: l)=f x :: List.map f l)∧(∀ f:Oper→Option Tmp,List.map f []=[])∧(∀ (a:Act) (d:Tmp) (v:Value),a.put (some d) v={ a with tmps:=a.tmps.setIfInBounds d v })∧(∀ (a:Act) (v:Value),a.put none v=a)∧(∀ (l:List Value) (i:Nat) (v:Value),l.toArray.setIfInBounds i v=(l.set i v).toArray)∧(∀ (x:Value) (l:List Value) (v:Value),(x :: l).set 0 v=v :: l)∧∀ (x:Value) (l:List Value) (i:Nat) (v:Value),(x :: l).set (i+1) v=x :: l.set i v :=
 ⟨fun _ _ _=>rfl,fun _ _ _ _ _=>rfl,fun _ _ _=>rfl,fun _=>rfl,fun _ _ _=>rfl,fun _ _=>rfl,fun _ _ _=>by simp,fun _ _ _=>rfl,fun _ _ _ _=>rfl⟩
theorem zje:∀ (ds:List (Option Tmp)) (k:Nat) (a:Act) (v v':Nat→Value),(∀ j,k≤j→v j=v' j)→frameOf ds k a v=frameOf ds k a v'
 | [],_,_,_,_,_=>rfl
 | d :: ds,k,a,v,v',h=>by
   rw [frameOf,frameOf,h k (Nat.le_refl _)]
   exact zje ds (k+1) _ v v' fun j hj=>h j (by omega)
theorem put_put (a:Act) (d:Option Tmp) (u v:Value):(a.put d u).put d v=a.put d v:=by
 cases d with
 | none=>rfl
 | some d=>simp [Act.put]
theorem frameOf_out:∀ (ds:List (Option Tmp)) (k:Nat) (a:Act) (vals:Nat→Value) (x:Option Tmp) (v:Value),(∀ d,x=some d→some d ∉ ds)→(frameOf ds k a vals).put x v=frameOf ds k (a.put x v) vals
 | [],_,_,_,_,_,_=>rfl
 | y :: ds,k,a,vals,x,v,h=>by
   rw [frameOf,frameOf,frameOf_out ds (k+1) _ vals x v (fun d hd hm=>h d hd (List.mem_cons_of_mem _ hm)),Act.put_comm a v (vals k) (fun d hd hy=>h d hd (by rw [hy];exact List.mem_cons_self ..))]
theorem frameOf_put:∀ (ds:List (Option Tmp)) (k i:Nat) (a:Act) (vals:Nat→Value) (x:Option Tmp) (v:Value),ds[i]? = some x→(∀ d j,x=some d→ds[j]? = some (some d)→j=i)→(frameOf ds k a vals).put x v=frameOf ds k a (fun j=>if j=k+i then v else vals j)
 | [],_,_,_,_,_,_,h,_=>by simp at h
 | y :: ds,k,0,a,vals,x,v,h,hd=>by
   obtain rfl:y=x:=by simpa using h
   rw [frameOf,frameOf,if_pos (by omega),frameOf_out ds (k+1) _ vals y v (fun d hx hm=>by
     obtain ⟨j,hj⟩:=List.getElem?_of_mem hm
     have:=hd d (j+1) hx (by simpa using hj)
     omega),put_put]
   exact zje ds (k+1) _ _ _ fun j hj=>by rw [if_neg (by omega)]
 | y :: ds,k,i+1,a,vals,x,v,h,hd=>by
   rw [frameOf,frameOf,if_neg (by omega),frameOf_put ds (k+1) i _ vals x v (by simpa using h) (fun d j hx hj=>by have:=hd d (j+1) hx (by simpa using hj);omega)]
   exact zje ds (k+1) _ _ _ fun j hj=>by rw [show k+1+i=k+(i+1) by omega]
theorem put_own (a:Act) (d:Option Tmp):∃ v,a.put d v=a:=by
 cases d with
 | none=>exact ⟨undef,rfl⟩
 | some d =>
   refine ⟨a.tmps.getD d undef,?_⟩
   have:a.tmps.setIfInBounds d (a.tmps.getD d undef)=a.tmps:=by
     apply Array.ext_getElem?
     intro i
     rw [Array.getElem?_setIfInBounds]
     split
     · rename_i h
       subst h
       split
       · rename_i hlt;simp [hlt]
       · rename_i hlt;simp;omega
     · rfl
   cases a
   simp only [Act.put] at this ⊢
   rw [this]
theorem frameOf_own:∀ (ds:List (Option Tmp)) (k:Nat) (a:Act),∃ vals,frameOf ds k a vals=a
 | [],_,a=>⟨fun _=>undef,rfl⟩
 | d :: ds,k,a=>by
   obtain ⟨v,hv⟩:=put_own a d
   obtain ⟨vals,h⟩:=frameOf_own ds (k+1) a
   refine ⟨fun j=>if j=k then v else vals j,?_⟩
   rw [frameOf,if_pos rfl,hv,zje ds (k+1) a _ vals (fun j hj=>by rw [if_neg (by omega)])]
   exact h
def apartDst (ops:Array Oper):Bool:=(List.range ops.size).all fun i=>(List.range ops.size).all fun j=>i == j || ((ops[i]?).bind (·.dst)).isNone || ((ops[i]?).bind (·.dst)) != ((ops[j]?).bind (·.dst))
theorem zki {P:Program}{ops:Array Oper}{Q:Exit→Act→World→Prop}{id:Nat}{a:Act}{w:World} (hm:P.follows .mixedOrders=true)
   (hord:edgesBack ops=true) (hap:apartDst ops=true) (W:(Nat→Bool)→World→Prop) (F:Nat→Value→World→Prop) (h0:W (fun _=>false) w.drew)
   (step:∀ L vals w1 i o,W L w1→(∀ j,L j=true→F j (vals j) w1)→L i=false→ops[i]? = some o→(∀ e ∈ o.after,Region.binds .any e=true→L e.on=true) →
     wpOp P ops Q i (fun a' w'=>∃ v,a'=(frameOf (ops.toList.map (·.dst)) 0 a vals).put o.dst v∧F i v w'∧W (fun j=>if j=i then true else L j) w'∧∀ j,L j=true→F j (vals j) w') (frameOf (ops.toList.map (·.dst)) 0 a vals) w1)
   (fin:∀ L vals w1,W L w1→(∀ i,i<ops.size→L i=true∧F i (vals i) w1)→Q .normal (frameOf (ops.toList.map (·.dst)) 0 a vals) w1):(Code.region id ops true).wp P Q a w:=by
 refine wp_region_inv_at hm hord (fun a L a1 w1=>∃ vals,a1=frameOf (ops.toList.map (·.dst)) 0 a vals∧W L w1∧∀ j,L j=true→F j (vals j) w1) ?_ ?_ ?_
 · obtain ⟨vals,h⟩:=frameOf_own (ops.toList.map (·.dst)) 0 a
   exact ⟨vals,h.symm,h0,fun j hj=>by cases hj⟩
 · rintro L a1 w1 i o ⟨vals,rfl,hW,hF⟩ hL ho hd
   refine wpOp_mono ?_ (step L vals w1 i o hW hF hL ho hd)
   rintro a' w' ⟨v,rfl,hv,hW',hF'⟩
   refine ⟨fun j=>if j=i then v else vals j,?_,hW',fun j hj => ?_⟩
   · have hi:=(Array.getElem?_eq_some_iff.1 ho).1
     rw [frameOf_put _ 0 i a vals o.dst v (by simp [ho]) (fun d j hx hj => ?_),Nat.zero_add]
     rcases Nat.decEq i j with hij | hij
     · exfalso
       have hj':j<ops.size:=by have:=(List.getElem?_eq_some_iff.1 hj).1;simpa using this
       have h1:=List.all_eq_true.1 (List.all_eq_true.1 hap i (List.mem_range.2 hi)) j (List.mem_range.2 hj')
       have e1:(ops[i]?).bind (·.dst)=some d:=by rw [ho];exact hx
       have e2:(ops[j]?).bind (·.dst)=some d:=by
         simp [hj'] at hj ⊢
         exact hj
       rw [e1,e2] at h1
       simp [hij] at h1
     · exact hij.symm
   · by_cases hji:j=i
     · subst hji;simp;exact hv
     · simp only [if_neg hji] at hj ⊢;exact hF' j hj
 · rintro L a1 w1 ⟨vals,rfl,hW,hF⟩ hall
   exact fin L vals w1 hW fun i hi=>⟨hall i hi,hF i (hall i hi)⟩
structure PK (A:Nat→Addr) (w:World) (N:Nat) (z p d:Int) (x1:Int) (x2:Option Addr) (x3 x4:Nat) (y1:Int) (y2:Option Addr) (y3 y4:Nat) (y5:Int) (y6:Option Addr) (y7 y8:Nat) (wr:World):Prop where
 below:Below w.heap.size w wr
 env:Env A wr
 z:Vr wr w.heap.size x1 x2 x3 x4 N z
 r:RB N wr (w.heap.size+1) y1 y2 y3 y4 y5 y6 y7 y8 p d
 ret:RBox wr (w.heap.size+1+1)
theorem PK.keep {A:Nat→Addr}{w w1 w2:World}{N:Nat}{z p d x1 y1 y5:Int}{x2 y2 y6:Option Addr}{x3 x4 y3 y4 y7 y8:Nat} (h:PK A w N z p d x1 x2 x3 x4 y1 y2 y3 y4 y5 y6 y7 y8 w1) (hb:Below w1.heap.size w1 w2):PK A w N z p d x1 x2 x3 x4 y1 y2 y3 y4 y5 y6 y7 y8 w2:=⟨bk hb h.below,h.env.later hb,h.z.keep hb,h.r.keep hb,h.ret.later hb⟩
theorem PK.drew {A:Nat→Addr}{w w1:World}{N:Nat}{z p d x1 y1 y5:Int}{x2 y2 y6:Option Addr}{x3 x4 y3 y4 y7 y8:Nat} (h:PK A w N z p d x1 x2 x3 x4 y1 y2 y3 y4 y5 y6 y7 y8 w1):PK A w N z p d x1 x2 x3 x4 y1 y2 y3 y4 y5 y6 y7 y8 w1.drew:=⟨h.below.drew,h.env.later (Below.refl _ _).drew,h.z.drew,h.r.drew,h.ret⟩
theorem PK.start {A:Nat→Addr}{w:World}{N:Nat}{z p d x1 y1 y5:Int}{x2 y2 y6:Option Addr}{x3 x4 y3 y4 y7 y8:Nat} (hA:Env A w) (h:Zr N w (.agg #[.int .i64 x1,.slice x2 x3 x4]) z) (h':Rr N w (.agg #[.int .i64 y1,.slice y2 y3 y4,.int .i64 y5,.slice y6 y7 y8]) p d):PK A w N z p d x1 x2 x3 x4 y1 y2 y3 y4 y5 y6 y7 y8 (((w.alloc (.cells #[.int .i64 x1,.slice x2 x3 x4] 31)).alloc (.cells #[.int .i64 y1,.slice y2 y3 y4,.int .i64 y5,.slice y6 y7 y8] 52)).alloc (.cells #[.int .i64 0,.slice none 0 0,.int .i64 0,.slice none 0 0] 52)):=by
 have k1:=zqa w (.cells #[.int .i64 x1,.slice x2 x3 x4] 31)
 have k2:=zqa (w.alloc (.cells #[.int .i64 x1,.slice x2 x3 x4] 31)) (.cells #[.int .i64 y1,.slice y2 y3 y4,.int .i64 y5,.slice y6 y7 y8] 52)
 have k3:=zqa ((w.alloc (.cells #[.int .i64 x1,.slice x2 x3 x4] 31)).alloc (.cells #[.int .i64 y1,.slice y2 y3 y4,.int .i64 y5,.slice y6 y7 y8] 52)) (.cells #[.int .i64 0,.slice none 0 0,.int .i64 0,.slice none 0 0] 52)
 have q1:=((Vr.new h).keep k2).keep k3
 have q2:=(RB.new (h'.later k1)).keep k3
 have q3:=zjd ((w.alloc (.cells #[.int .i64 x1,.slice x2 x3 x4] 31)).alloc (.cells #[.int .i64 y1,.slice y2 y3 y4,.int .i64 y5,.slice y6 y7 y8] 52)) 0 none 0 0 0 none 0 0
 rw [show (w.alloc (.cells #[.int .i64 x1,.slice x2 x3 x4] 31)).heap.size=w.heap.size+1 by simp] at q2
 rw [show ((w.alloc (.cells #[.int .i64 x1,.slice x2 x3 x4] 31)).alloc (.cells #[.int .i64 y1,.slice y2 y3 y4,.int .i64 y5,.slice y6 y7 y8] 52)).heap.size=w.heap.size+1+1 by simp] at q3
 exact ⟨bk k3 (bk k2 k1),((hA.later k1).later k2).later k3,q1,q2,q3⟩
theorem PK.ps {A:Nat→Addr}{w w1:World}{N:Nat}{z p d x1 y1 y5:Int}{x2 y2 y6:Option Addr}{x3 x4 y3 y4 y7 y8:Nat} (h:PK A w N z p d x1 x2 x3 x4 y1 y2 y3 y4 y5 y6 y7 y8 w1):w1.cell? ⟨w.heap.size,0,none⟩=some (.int .i64 x1)∧w1.cell? ⟨w.heap.size,1,none⟩=some (.slice x2 x3 x4)∧w1.cell? ⟨w.heap.size+1,0,none⟩=some (.int .i64 y1)∧w1.cell? ⟨w.heap.size+1,1,none⟩=some (.slice y2 y3 y4)∧w1.cell? ⟨w.heap.size+1,2,none⟩=some (.int .i64 y5)∧w1.cell? ⟨w.heap.size+1,3,none⟩=some (.slice y6 y7 y8):=⟨h.z.c0,h.z.c1,h.r.c.1,h.r.c.2.1,h.r.c.2.2.1,h.r.c.2.2.2⟩
theorem PK.put {A:Nat→Addr}{w w1:World}{N:Nat}{z p d x1 y1 y5:Int}{x2 y2 y6:Option Addr}{x3 x4 y3 y4 y7 y8 r:Nat} (h:PK A w N z p d x1 x2 x3 x4 y1 y2 y3 y4 y5 y6 y7 y8 w1) (_hr:RBox w1 r) (u0 u1 u2 u3:Value) (hne:w.heap.size+1+1<r) :
   let w2:=(((w1.setCell ⟨r,0,none⟩ u0).setCell ⟨r,1,none⟩ u1).setCell ⟨r,2,none⟩ u2).setCell ⟨r,3,none⟩ u3
   w2.cell? ⟨w.heap.size,0,none⟩=some (.int .i64 x1)∧w2.cell? ⟨w.heap.size,1,none⟩=some (.slice x2 x3 x4)∧w2.cell? ⟨w.heap.size+1,0,none⟩=some (.int .i64 y1)∧w2.cell? ⟨w.heap.size+1,1,none⟩=some (.slice y2 y3 y4)∧w2.cell? ⟨w.heap.size+1,2,none⟩=some (.int .i64 y5)∧w2.cell? ⟨w.heap.size+1,3,none⟩=some (.slice y6 y7 y8):=by
 intro w2
 have hc:∀ b o v,b≠r→w1.cell? ⟨b,o,none⟩=some v→w2.cell? ⟨b,o,none⟩=some v:=fun b o v hb hv=>by
   show (World.setCell _ _ _).cell? _=_
   rw [zqb _ _ _ _ _ _ (by omega),zqb _ _ _ _ _ _ (by omega),zqb _ _ _ _ _ _ (by omega),zqb _ _ _ _ _ _ (by omega)]
   exact hv
 obtain ⟨k1,k2,k3,k4,k5,k6⟩:=h.ps
 exact ⟨hc _ _ _ (by omega) k1,hc _ _ _ (by omega) k2,hc _ _ _ (by omega) k3,hc _ _ _ (by omega) k4,hc _ _ _ (by omega) k5,hc _ _ _ (by omega) k6⟩
end Go.Proofs.YtkifiolkfdicoaaGreatDoor
