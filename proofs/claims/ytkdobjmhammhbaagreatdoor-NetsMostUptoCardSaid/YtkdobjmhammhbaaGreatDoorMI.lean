import Derived.Test.YtkdobjmhammhbaaGreatDoorMG
namespace Go.Proofs.YtkdobjmhammhbaaGreatDoor
set_option maxHeartbeats 2000000
open Go.RowKit
def Two (w:World) (x y x' y':Value) (wp:World):Prop:=Below w.heap.size w wp/\Box wp (w.heap.size+2)/\Box wp (w.heap.size+3)/\wp.cell? ⟨w.heap.size,0,none⟩=some x/\wp.cell? ⟨w.heap.size,1,none⟩=some y/\wp.cell? ⟨w.heap.size+1,0,none⟩=some x'/\wp.cell? ⟨w.heap.size+1,1,none⟩=some y'
theorem keep22 {w wp w1:World}{x y x' y':Value} (hb:Below wp.heap.size wp w1) (h:Two w x y x' y' wp):Two w x y x' y' w1 :=
 ⟨bk hb h.1,h.2.1.later hb,h.2.2.1.later hb,ck hb h.2.2.2.1,ck hb h.2.2.2.2.1,ck hb h.2.2.2.2.2.1,ck hb h.2.2.2.2.2.2⟩
theorem store22 {w wp:World}{x y x' y':Value}{q:Nat}{u:Int}{a:Option Addr}{n c:Nat} (h:Two w x y x' y' wp) (hq:q=w.heap.size+2\/q=w.heap.size+3):Two w x y x' y' ((wp.setCell ⟨q,0,none⟩ (.int .i64 u)).setCell ⟨q,1,none⟩ (.slice a n c)):=by
 obtain ⟨h1,h2,h3,h4,h5,h6,h7⟩:=h
 have hc:∀ r o v,r≠q->wp.cell? ⟨r,o,none⟩=some v->((wp.setCell ⟨q,0,none⟩ (.int .i64 u)).setCell ⟨q,1,none⟩ (.slice a n c)).cell? ⟨r,o,none⟩=some v:=by
  intro r o v hr hv
  rw [zqb _ _ _ _ _ _ (by omega),zqb _ _ _ _ _ _ (by omega)];exact hv
 refine ⟨zqc h1 (by omega) _ _,?_,?_,hc _ _ _ (by omega) h4,hc _ _ _ (by omega) h5,hc _ _ _ (by omega) h6,hc _ _ _ (by omega) h7⟩
 ·rcases hq with rfl | rfl
  ·exact h2.stored' _ _ _ _
  ·exact (h2.other (by omega) _).other (by omega) _
 ·rcases hq with rfl | rfl
  ·exact (h3.other (by omega) _).other (by omega) _
  ·exact h3.stored' _ _ _ _
theorem Two.drew {w wp:World}{x y x' y':Value} (h:Two w x y x' y' wp):Two w x y x' y' wp.drew:=⟨h.1.drew,h.2⟩
theorem start22 (w:World) (x y x' y':Value):Two w x y x' y' ((((w.alloc (.cells #[x,y] 37)).alloc (.cells #[x',y'] 37)).alloc (.cells #[.int .i64 0,.slice none 0 0] 37)).alloc (.cells #[.int .i64 0,.slice none 0 0] 37)):=by
 have hst:=hstart w (.cells #[x,y] 37) (.cells #[x',y'] 37)
 refine ⟨hst.1.alloc (by simp;omega) _,hst.2.later ((Below.refl _ _).alloc (Nat.le_refl _) _),?_,by simp [go_sem],by simp [go_sem],by simp [go_sem],by simp [go_sem]⟩
 have:=zqy (((w.alloc (.cells #[x,y] 37)).alloc (.cells #[x',y'] 37)).alloc (.cells #[.int .i64 0,.slice none 0 0] 37))
 simpa using this
theorem boxes22 {w wp w3:World}{x y x' y':Value} (hb:Below wp.heap.size wp w3) (h:Two w x y x' y' wp):∃ x0 a0 n0 c0 x1 a1 n1 c1,w3.cell? ⟨w.heap.size+2,0,none⟩=some (.int .i64 x0)/\w3.cell? ⟨w.heap.size+2,1,none⟩=some (.slice a0 n0 c0)/\w3.cell? ⟨w.heap.size+3,0,none⟩=some (.int .i64 x1)/\w3.cell? ⟨w.heap.size+3,1,none⟩=some (.slice a1 n1 c1) /\
 (∀ o,w3.frozen? ⟨w.heap.size+2,o,none⟩=false)/\(∀ o,w3.frozen? ⟨w.heap.size+3,o,none⟩=false):=by
 obtain ⟨⟨x0,h0⟩,⟨a0,n0,c0,h1⟩,h2⟩:=(h.2.1.later hb).cells
 obtain ⟨⟨x1,k0⟩,⟨a1,n1,c1,k1⟩,k2⟩:=(h.2.2.1.later hb).cells
 exact ⟨x0,a0,n0,c0,x1,a1,n1,c1,h0,h1,k0,k1,h2,k2⟩
theorem both22 {w wp:World}{x y x' y':Value} (h:Two w x y x' y' wp) {N M:Nat}{u1 u2:Int}{a1 a2:Option Addr}{n1 c1 n2 c2:Nat}{z1 z2:Int} (hZ1:Zr N wp (.agg #[.int .i64 u1,.slice a1 n1 c1]) z1) (hZ2:Zr M wp (.agg #[.int .i64 u2,.slice a2 n2 c2]) z2) :
 let wf:=(((wp.setCell ⟨w.heap.size+2,0,none⟩ (.int .i64 u1)).setCell ⟨w.heap.size+2,1,none⟩ (.slice a1 n1 c1)).setCell ⟨w.heap.size+3,0,none⟩ (.int .i64 u2)).setCell ⟨w.heap.size+3,1,none⟩ (.slice a2 n2 c2)
 wf.cell? ⟨w.heap.size+2,0,none⟩=some (.int .i64 u1)/\wf.cell? ⟨w.heap.size+2,1,none⟩=some (.slice a1 n1 c1)/\wf.cell? ⟨w.heap.size+3,0,none⟩=some (.int .i64 u2)/\wf.cell? ⟨w.heap.size+3,1,none⟩=some (.slice a2 n2 c2) /\
 Zr N wf (.agg #[.int .i64 u1,.slice a1 n1 c1]) z1/\Zr M wf (.agg #[.int .i64 u2,.slice a2 n2 c2]) z2/\Two w x y x' y' wf:=by
 intro wf
 have h1:Two w x y x' y' _:=store22 (u:=u1) (a:=a1) (n:=n1) (c:=c1) h (Or.inl rfl)
 have h2:Two w x y x' y' wf:=store22 (u:=u2) (a:=a2) (n:=n2) (c:=c2) h1 (Or.inr rfl)
 obtain ⟨s0,s1⟩:=h.2.1.stored (.int .i64 u1) (.slice a1 n1 c1)
 obtain ⟨t0,t1⟩:=h1.2.2.1.stored (.int .i64 u2) (.slice a2 n2 c2)
 refine ⟨?_,?_,t0,t1,(hZ1.stored h.2.1 _ _).stored h1.2.2.1 _ _,(hZ2.stored h.2.1 _ _).stored h1.2.2.1 _ _,h2⟩
 ·show (World.setCell _ _ _).cell? _=_
  rw [zqb _ _ _ _ _ _ (by omega),zqb _ _ _ _ _ _ (by omega)];exact s0
 ·show (World.setCell _ _ _).cell? _=_
  rw [zqb _ _ _ _ _ _ (by omega),zqb _ _ _ _ _ _ (by omega)];exact s1
theorem keep22c {w wp w1:World}{x y x' y':Value} (hb:Below wp.heap.size wp w1) (h:Two w x y x' y' wp):Two w x y x' y' w1/\w1.cell? ⟨w.heap.size,0,none⟩=some x/\w1.cell? ⟨w.heap.size,1,none⟩=some y/\w1.cell? ⟨w.heap.size+1,0,none⟩=some x'/\w1.cell? ⟨w.heap.size+1,1,none⟩=some y' :=
 ⟨keep22 hb h,(keep22 hb h).2.2.2⟩
theorem store22c {w wp:World}{x y x' y':Value}{q:Nat}{u:Int}{a:Option Addr}{n c:Nat} (h:Two w x y x' y' wp) (hq:q=w.heap.size+2\/q=w.heap.size+3) :
 Two w x y x' y' ((wp.setCell ⟨q,0,none⟩ (.int .i64 u)).setCell ⟨q,1,none⟩ (.slice a n c))/\((wp.setCell ⟨q,0,none⟩ (.int .i64 u)).setCell ⟨q,1,none⟩ (.slice a n c)).cell? ⟨w.heap.size,0,none⟩=some x/\((wp.setCell ⟨q,0,none⟩ (.int .i64 u)).setCell ⟨q,1,none⟩ (.slice a n c)).cell? ⟨w.heap.size,1,none⟩=some y /\
 ((wp.setCell ⟨q,0,none⟩ (.int .i64 u)).setCell ⟨q,1,none⟩ (.slice a n c)).cell? ⟨w.heap.size+1,0,none⟩=some x'/\((wp.setCell ⟨q,0,none⟩ (.int .i64 u)).setCell ⟨q,1,none⟩ (.slice a n c)).cell? ⟨w.heap.size+1,1,none⟩=some y' :=
 ⟨store22 h hq,(store22 h hq).2.2.2⟩
theorem Szn.nonneg {N:Nat}{w:World}{v:Value}{z:Int} (h:Szn N w v z):0<=z:=by
 rcases h with ⟨g,o,c,l,_,wl,_,rfl,_⟩ | ⟨_,rfl⟩
 ·exact zqg wl
 ·exact Int.le_refl 0
theorem Szn.later {N:Nat}{w w':World}{v:Value}{z:Int} (h:Szn N w v z) (hb:Below w.heap.size w w'):Szn N w' v z:=by
 rcases h with h | h
 ·exact Or.inl (h.later hb)
 ·exact Or.inr h
theorem Sz.stored {N:Nat}{w:World}{v:Value}{z:Int}{r:Nat} (h:Sz N w v z) (hb:Box w r) (u u':Value):Sz N ((w.setCell ⟨r,0,none⟩ u).setCell ⟨r,1,none⟩ u') v z:=by
 obtain ⟨g,o,c,l,h1,h2,h3,h4,h5,h6,h7,h8⟩:=h
 refine ⟨g,o,c,l,h1,h2,h3,h4,h5,h6,h7,fun k hk => ?_⟩
 have hne:=h8.notBox (by intro e;subst e;simp at hk) hb
 rw [zqb _ _ _ _ _ _ (by omega),zqb _ _ _ _ _ _ (by omega)]
 exact h8 k hk
theorem keep22s {w wp w1:World}{x y x' y' v1 v2:Value}{N:Nat}{q r:Int} (hb:Below wp.heap.size wp w1) (h:Two w x y x' y' wp/\Szn N wp v1 q/\Sz N wp v2 r):(Two w x y x' y' w1/\Szn N w1 v1 q/\Sz N w1 v2 r)/\w1.cell? ⟨w.heap.size,0,none⟩=some x/\w1.cell? ⟨w.heap.size,1,none⟩=some y/\w1.cell? ⟨w.heap.size+1,0,none⟩=some x'/\w1.cell? ⟨w.heap.size+1,1,none⟩=some y' :=
 ⟨⟨keep22 hb h.1,h.2.1.later hb,h.2.2.later hb⟩,(keep22 hb h.1).2.2.2⟩
theorem store22s {w wp:World}{x y x' y' v1 v2:Value}{q':Nat}{N:Nat}{q r:Int}{u:Int}{a:Option Addr}{n c:Nat} (h:Two w x y x' y' wp/\Szn N wp v1 q/\Sz N wp v2 r) (hq:q'=w.heap.size+2\/q'=w.heap.size+3) :
 (Two w x y x' y' ((wp.setCell ⟨q',0,none⟩ (.int .i64 u)).setCell ⟨q',1,none⟩ (.slice a n c))/\Szn N ((wp.setCell ⟨q',0,none⟩ (.int .i64 u)).setCell ⟨q',1,none⟩ (.slice a n c)) v1 q/\Sz N ((wp.setCell ⟨q',0,none⟩ (.int .i64 u)).setCell ⟨q',1,none⟩ (.slice a n c)) v2 r) /\
 ((wp.setCell ⟨q',0,none⟩ (.int .i64 u)).setCell ⟨q',1,none⟩ (.slice a n c)).cell? ⟨w.heap.size,0,none⟩=some x/\((wp.setCell ⟨q',0,none⟩ (.int .i64 u)).setCell ⟨q',1,none⟩ (.slice a n c)).cell? ⟨w.heap.size,1,none⟩=some y /\
 ((wp.setCell ⟨q',0,none⟩ (.int .i64 u)).setCell ⟨q',1,none⟩ (.slice a n c)).cell? ⟨w.heap.size+1,0,none⟩=some x'/\((wp.setCell ⟨q',0,none⟩ (.int .i64 u)).setCell ⟨q',1,none⟩ (.slice a n c)).cell? ⟨w.heap.size+1,1,none⟩=some y':=by
 have hb:Box wp q':=by
  rcases hq with rfl | rfl
  ·exact h.1.2.1
  ·exact h.1.2.2.1
 refine ⟨⟨store22 h.1 hq,?_,h.2.2.stored hb _ _⟩,(store22 h.1 hq).2.2.2⟩
 rcases h.2.1 with h' | h'
 ·exact Or.inl (h'.stored hb _ _)
 ·exact Or.inr h'
theorem iabs_pos {o:Int} (h:o≠0):0<iabs o:=by unfold iabs;split <;> omega
theorem cut_num {x y z o q r:Int} (hx:sgn x=sgn z) (hy:sgn y=sgn o) (ho:o≠0) (e:q*iabs o+r=iabs z) (r0:0<=r) (r1:r<iabs o) (q0:0<=q) :
 (sgn x*sgn y=1\/sgn x*sgn y = -1\/(sgn x*sgn y=0/\q=0))/\(sgn x=1\/sgn x = -1\/(sgn x=0/\r=0))/\(sgn x*sgn y*q)*o+sgn x*r=z/\iabs (sgn x*r)<iabs o:=by
 rw [hx,hy]
 have hneg:∀ t,iabs (-1*t)=iabs t:=by intro t;unfold iabs;split <;> split <;> omega
 have hr:iabs r=r:=by unfold iabs;rw [if_neg (by omega)]
 rcases zqo z with ⟨a,b,c⟩ | ⟨a,b,c⟩ | ⟨a,b,c⟩ <;> rcases zqo o with ⟨a',b',c'⟩ | ⟨a',b',c'⟩ | ⟨a',b',c'⟩
 ·rw [c,c'] at e;rw [c'] at r1;rw [b,b',c'];exact ⟨by simp,by simp,by grind,by rw [hneg,hr];exact r1⟩
 ·exact absurd a' ho
 ·rw [c,c'] at e;rw [c'] at r1;rw [b,b',c'];exact ⟨by simp,by simp,by grind,by rw [hneg,hr];exact r1⟩
 ·have hq:q*iabs o=0/\r=0:=by
   have:=Int.mul_nonneg q0 (iabs_nonneg o)
   omega
  have hq0:q=0:=by
   rcases Int.mul_eq_zero.1 hq.1 with h | h
   ·exact h
   ·omega
  rw [b,b',hq.2,hq0,a];exact ⟨by simp,by simp,by simp,by rw [Int.zero_mul,show iabs 0=0 from rfl];omega⟩
 ·exact absurd a' ho
 ·have hq:q*iabs o=0/\r=0:=by
   have:=Int.mul_nonneg q0 (iabs_nonneg o)
   omega
  have hq0:q=0:=by
   rcases Int.mul_eq_zero.1 hq.1 with h | h
   ·exact h
   ·omega
  rw [b,b',hq.2,hq0,a];exact ⟨by simp,by simp,by simp,by rw [Int.zero_mul,show iabs 0=0 from rfl];omega⟩
 ·rw [c,c'] at e;rw [c'] at r1;rw [b,b',c'];exact ⟨by simp,by simp,by grind,by rw [Int.one_mul,hr];exact r1⟩
 ·exact absurd a' ho
 ·rw [c,c'] at e;rw [c'] at r1;rw [b,b',c'];exact ⟨by simp,by simp,by grind,by rw [Int.one_mul,hr];exact r1⟩
theorem cutOff_far {N:Nat} (x y:Int) (a1 a2:Option Addr) (n1 c1 n2 c2:Nat) (z o:Int) (w:World) (hz:Zr (N+1) w (.agg #[.int .i64 x,.slice a1 n1 c1]) z) (ho:Zr (N+1) w (.agg #[.int .i64 y,.slice a2 n2 c2]) o) (ho0:o≠0) (hbn:(a1.isNone && a2.isNone)=false) (hlim:N<=800000) :
 Calls Tryz.prog 194 #[.agg #[.int .i64 x,.slice a1 n1 c1],.agg #[.int .i64 y,.slice a2 n2 c2]] w fun e w'=>(∃ vq vr q r,e=.returned (.tuple #[vq,vr])/\Zr (N+2) w' vq q/\Zr (N+2) w' vr r/\q*o+r=z/\iabs r<iabs o)/\Below w.heap.size w w':=by
 have HZ:=qh hz
 have HO:=qh ho
 have HBN:=qh hbn
 have tok1:True:=trivial
 have HSX:Hid (sgn x=sgn z):=by
  obtain ⟨x',a',n',c',hvv,hsg,_⟩:=hz.sgn
  obtain ⟨rfl,_⟩:x=x'/\_:=by simpa using hvv
  exact hsg
 have HSY:Hid (sgn y=sgn o):=by
  obtain ⟨x',a',n',c',hvv,hsg,_⟩:=ho.sgn
  obtain ⟨rfl,_⟩:y=x'/\_:=by simpa using hvv
  exact hsg
 have HO0:=qh ho0
 obtain ⟨sg,hsg⟩:∃ sg,sgn x*sgn y=sg:=⟨_,rfl⟩
 have sgb:-1<=sg/\sg<=1:=by
  rw [<- hsg]
  rcases zjn x with h | h | ⟨h,_⟩ <;> rcases zjn y with h' | h' | ⟨h',_⟩ <;> rw [h,h'] <;> decide
 have hw1:IntKind.i64.wrap (sgn x*sgn y)=sg:=by rw [hsg,IntKind.wrap_i64];omega
 have hw2:wrap64 (sgn x*sgn y)=sg:=by rw [hsg];unfold wrap64;omega
 have HSGN:=qh hsg
 clear hz ho hbn ho0 hsg sgb
 go_enter Tryz.func194,Tryz.ntmps194
 go_wp2_with fail
 go_fit (zxb x y a1 a2 n1 c1 n2 c2 _)
 rintro e W1 ⟨rfl,hb0⟩
 rw [uh HBN]
 have hT:=keep22 hb0 (start22 w (.int .i64 x) (.slice a1 n1 c1) (.int .i64 y) (.slice a2 n2 c2))
 clear hb0
 have hT':=hT
 obtain ⟨hbW,hbox,hbox2,hc0,hc1,hc2,hc3⟩:=hT'
 go_wp2_with fail
 go_region_held3 (fun w'=>Two w (.int .i64 x) (.slice a1 n1 c1) (.int .i64 y) (.slice a2 n2 c2) w'/\w'.cell? ⟨w.heap.size,0,none⟩=some (.int .i64 x)/\w'.cell? ⟨w.heap.size,1,none⟩=some (.slice a1 n1 c1)/\w'.cell? ⟨w.heap.size+1,0,none⟩=some (.int .i64 y)/\w'.cell? ⟨w.heap.size+1,1,none⟩=some (.slice a2 n2 c2))
  (first | exact ⟨hT.drew,hc0,hc1,hc2,hc3⟩ | exact keep22c (by assumption) (And.left (by assumption)))
  (first | (go_at_call 143;have _t:=tok1;go_fit (zxw (z:=z) (N:=N) _ ((uh HZ).later (And.left (And.left (show Two w (.int .i64 x) (.slice a1 n1 c1) (.int .i64 y) (.slice a2 n2 c2) _/\_ from by assumption)))));rintro e w2 ⟨sv1,rfl,hsv1,hb2⟩;clear tok1) | (go_at_call 143;go_fit (zxw (z:=o) (N:=N) _ ((uh HO).later (And.left (And.left (show Two w (.int .i64 x) (.slice a1 n1 c1) (.int .i64 y) (.slice a2 n2 c2) _/\_ from by assumption)))));rintro e w3 ⟨sv2,rfl,hsv2,hb3⟩) | (go_at_call 217;go_fit (divide_any _ (hsv1.later hb3) hsv2 (iabs_pos (uh HO0)) (by omega) (by omega));rintro e w6 ⟨v1,v2,q,r,rfl,hq,hr,heq,hr0,hr1,hb6⟩))
 have hT6:Two w (.int .i64 x) (.slice a1 n1 c1) (.int .i64 y) (.slice a2 n2 c2) w6:=keep22 hb6 (keep22 hb3 (keep22 hb2 hT.drew))
 have hq0:0<=q:=hq.nonneg
 obtain ⟨k1,k2,k3,k4⟩:=cut_num (uh HSX) (uh HSY) (uh HO0) heq hr0 hr1 hq0
 rw [uh HSGN] at k1 k3
 have K1:=qh k1
 have K2:=qh k2
 have K3:=qh k3
 have K4:=qh k4
 clear hT hbW hbox hbox2 hc0 hc1 hc2 hc3 heq hr0 hr1 k1 k2 k3 k4 hq0
 have hT6':=hT6
 obtain ⟨hbW,hbox,hbox2,hc0,hc1,hc2,hc3⟩:=hT6'
 have tok2:True:=trivial
 go_wp2_with fail
 go_region_held3 (fun w'=>(Two w (.int .i64 x) (.slice a1 n1 c1) (.int .i64 y) (.slice a2 n2 c2) w'/\Szn (N+2) w' v1 q/\Sz (N+2) w' v2 r)/\w'.cell? ⟨w.heap.size,0,none⟩=some (.int .i64 x)/\w'.cell? ⟨w.heap.size,1,none⟩=some (.slice a1 n1 c1)/\w'.cell? ⟨w.heap.size+1,0,none⟩=some (.int .i64 y)/\w'.cell? ⟨w.heap.size+1,1,none⟩=some (.slice a2 n2 c2))
  (first | exact ⟨⟨hT6.drew,hq,hr⟩,hc0,hc1,hc2,hc3⟩ | exact keep22s (by assumption) (And.left (by assumption)) | exact store22s (And.left (by assumption)) (by first | exact Or.inl rfl | exact Or.inr rfl))
  (first | (go_at_call 118;go_fit (zqn _ _ _);rintro e w4 ⟨rfl,hb4⟩) | (go_at_call 164;have _t:=tok2;go_fit (zxg sg _ (And.left (And.right (And.left (show (Two w (.int .i64 x) (.slice a1 n1 c1) (.int .i64 y) (.slice a2 n2 c2) _/\Szn (N+2) _ v1 q/\Sz (N+2) _ v2 r)/\_ from by assumption)))) (uh K1));rintro e w7 ⟨⟨v7,rfl,hZ7⟩,hb7⟩;obtain ⟨u7,a7,n7,c7,hv7⟩:=hZ7.shape;subst hv7;clear tok2) | (go_at_call 164;go_fit (zxg (sgn x) _ (Or.inl (And.right (And.right (And.left (show (Two w (.int .i64 x) (.slice a1 n1 c1) (.int .i64 y) (.slice a2 n2 c2) _/\Szn (N+2) _ v1 q/\Sz (N+2) _ v2 r)/\_ from by assumption))))) (uh K2));rintro e w8 ⟨⟨v8,rfl,hZ8⟩,hb8⟩;obtain ⟨u8,a8,n8,c8,hv8⟩:=hZ8.shape;subst hv8;have hT8:Two w (.int .i64 x) (.slice a1 n1 c1) (.int .i64 y) (.slice a2 n2 c2) w8:=keep22 hb8 (And.left (And.left (show (Two w (.int .i64 x) (.slice a1 n1 c1) (.int .i64 y) (.slice a2 n2 c2) _/\Szn (N+2) _ v1 q/\Sz (N+2) _ v2 r)/\_ from by assumption)));obtain ⟨x0,a0,n0,c0,x1,a1',n1',c1',g0,g1,g2,g3,gf,gf2⟩:=boxes22 (Below.refl _ _) hT8))
 go_wp2
 obtain ⟨b1,b2,b3,b4,b5,b6,b7⟩:=both22 hT8 ((hZ7.later hb4).later hb8) hZ8
 exact bodyPost_ret (v:=.tuple #[.agg #[.int .i64 u7,.slice a7 n7 c7],.agg #[.int .i64 u8,.slice a8 n8 c8]]) (by simp [results,Tryz.results194,go_sem,b1,b2,b3,b4]) rfl ⟨⟨_,_,_,_,rfl,b5,b6,uh K3,uh K4⟩,b7.1⟩
theorem tdiv_num {x y:Int} (hy:y≠0) (hx0:-9223372036854775808<=x) (hx1:x<=9223372036854775807) (hm:y ≠ -1) (hy0:-9223372036854775808<=y) (hy1:y<=9223372036854775807) :
 x.tdiv y*y+x.tmod y=x/\iabs (x.tmod y)<iabs y /\ -9223372036854775808<=x.tdiv y/\x.tdiv y<=9223372036854775807 /\ -9223372036854775808<=x.tmod y/\x.tmod y<=9223372036854775807:=by
 have e:=Int.tmod_add_mul_tdiv x y
 have hq:iabs (x.tdiv y)<=iabs x:=by
  have h1:(x.tdiv y).natAbs=x.natAbs / y.natAbs:=Int.natAbs_tdiv x y
  have h2:=Nat.div_le_self x.natAbs y.natAbs
  have c:∀ t:Int,iabs t=(t.natAbs:Int):=by intro t;unfold iabs;split <;> omega
  rw [c,c,h1];omega
 have hr:iabs (x.tmod y)<iabs y:=by
  have h1:(x.tmod y).natAbs=x.natAbs % y.natAbs:=Int.natAbs_tmod x y
  have h2:=Nat.mod_lt x.natAbs (show 0<y.natAbs by omega)
  have c:∀ t:Int,iabs t=(t.natAbs:Int):=by intro t;unfold iabs;split <;> omega
  rw [c,c,h1];omega
 have hq2:x = -9223372036854775808->iabs (x.tdiv y)<=9223372036854775807\/y=1:=by
  intro hx
  by_cases h1:y=1
  ·exact Or.inr h1
  ·left
   have h1:(x.tdiv y).natAbs=x.natAbs / y.natAbs:=Int.natAbs_tdiv x y
   have h2:x.natAbs / y.natAbs<=x.natAbs / 2:=Nat.div_le_div_left (by omega) (by decide)
   have c:∀ t:Int,iabs t=(t.natAbs:Int):=by intro t;unfold iabs;split <;> omega
   rw [c,h1];omega
 have e2:x.tdiv y*y+x.tmod y=x:=by rw [Int.mul_comm];omega
 refine ⟨e2,hr,?_,?_,?_,?_⟩
 ·unfold iabs at hq;split at hq <;> split at hq <;> omega
 ·by_cases hx:x = -9223372036854775808
  ·rcases hq2 hx with h | h
   ·unfold iabs at h;split at h <;> omega
   ·subst h;rw [Int.tdiv_one];omega
  ·unfold iabs at hq;split at hq <;> split at hq <;> omega
 ·unfold iabs at hr;split at hr <;> split at hr <;> omega
 ·unfold iabs at hr;split at hr <;> split at hr <;> omega
theorem cutOff_near (x y:Int) (w:World) (hy:y≠0) (hm:y ≠ -1) (hx0:-9223372036854775808<=x) (hx1:x<=9223372036854775807) (hy0:-9223372036854775808<=y) (hy1:y<=9223372036854775807) :
 Calls Tryz.prog 194 #[.agg #[.int .i64 x,.slice none 0 0],.agg #[.int .i64 y,.slice none 0 0]] w fun e w'=>(∃ vq vr q r,e=.returned (.tuple #[vq,vr])/\Zr 1 w' vq q/\Zr 1 w' vr r/\q*y+r=x/\iabs r<iabs y)/\Below w.heap.size w w':=by
 obtain ⟨d1,d2,d3,d4,d5,d6⟩:=tdiv_num hy hx0 hx1 hm hy0 hy1
 obtain ⟨tq,htq⟩:∃ tq,x.tdiv y=tq:=⟨_,rfl⟩
 obtain ⟨tr,htr⟩:∃ tr,x.tmod y=tr:=⟨_,rfl⟩
 rw [htq] at d1 d3 d4
 rw [htr] at d1 d2 d5 d6
 have m1:(y == -1)=false:=by simpa using hm
 have m2:(y == 0)=false:=by simpa using hy
 have D1:=qh d1
 have D2:=qh d2
 have tok1:True:=trivial
 have HHY:=qh hy
 have q1:IntKind.i64.wrap tq=tq:=by rw [IntKind.wrap_i64];omega
 have q2:wrap64 tq=tq:=by unfold wrap64;omega
 clear d1 d2 hm
 go_enter Tryz.func194,Tryz.ntmps194
 go_wp2_with fail
 go_fit (zxb x y none none 0 0 0 0 _)
 rintro e W1 ⟨rfl,hb0⟩
 simp only [Option.isNone_none,Bool.and_self]
 have hT:=keep22 hb0 (start22 w (.int .i64 x) (.slice none 0 0) (.int .i64 y) (.slice none 0 0))
 clear hb0
 have hT':=hT
 obtain ⟨hbW,hbox,hbox2,hc0,hc1,hc2,hc3⟩:=hT'
 go_wp2_with fail
 go_region_held3 (fun w'=>Two w (.int .i64 x) (.slice none 0 0) (.int .i64 y) (.slice none 0 0) w'/\w'.cell? ⟨w.heap.size,0,none⟩=some (.int .i64 x)/\w'.cell? ⟨w.heap.size,1,none⟩=some (.slice none 0 0)/\w'.cell? ⟨w.heap.size+1,0,none⟩=some (.int .i64 y)/\w'.cell? ⟨w.heap.size+1,1,none⟩=some (.slice none 0 0))
  (first | exact ⟨hT.drew,hc0,hc1,hc2,hc3⟩ | exact keep22c (by assumption) (And.left (by assumption)) | exact store22c (And.left (by assumption)) (by first | exact Or.inl rfl | exact Or.inr rfl))
  (first | (go_at_call 102;have _t:=tok1;go_fit (of_any tq _);rintro e w7 ⟨rfl,hb7⟩;clear tok1) | (go_at_call 102;go_fit (of_any tr _);rintro e w8 ⟨rfl,hb8⟩;have hT8:Two w (.int .i64 x) (.slice none 0 0) (.int .i64 y) (.slice none 0 0) w8:=keep22 hb8 (And.left (show Two w (.int .i64 x) (.slice none 0 0) (.int .i64 y) (.slice none 0 0) _/\_ from by assumption));obtain ⟨x0,a0,n0,c0,x1,a1',n1',c1',g0,g1,g2,g3,gf,gf2⟩:=boxes22 (Below.refl _ _) hT8))
 go_wp2
 obtain ⟨b1,b2,b3,b4,b5,b6,b7⟩:=both22 hT8 (Zr.near 1 d3 d4) (Zr.near 1 d5 d6)
 exact bodyPost_ret (v:=.tuple #[.agg #[.int .i64 tq,.slice none 0 0],.agg #[.int .i64 tr,.slice none 0 0]]) (by simp [results,Tryz.results194,go_sem,b1,b2,b3,b4]) rfl ⟨⟨_,_,_,_,rfl,b5,b6,uh D1,uh D2⟩,b7.1⟩
theorem cutOff_one (x:Int) (w:World) (hx0:-9223372036854775808<=x) (hx1:x<=9223372036854775807) :
 Calls Tryz.prog 194 #[.agg #[.int .i64 x,.slice none 0 0],.agg #[.int .i64 (-1),.slice none 0 0]] w fun e w'=>(∃ vq vr,e=.returned (.tuple #[vq,vr])/\Zr 1 w' vq (-x)/\Zr 1 w' vr 0)/\Below w.heap.size w w':=by
 go_enter Tryz.func194,Tryz.ntmps194
 go_wp2_with fail
 go_fit (zxb x (-1) none none 0 0 0 0 _)
 rintro e W1 ⟨rfl,hb0⟩
 simp only [Option.isNone_none,Bool.and_self]
 have hT:=keep22 hb0 (start22 w (.int .i64 x) (.slice none 0 0) (.int .i64 (-1)) (.slice none 0 0))
 clear hb0
 have hT':=hT
 obtain ⟨hbW,hbox,hbox2,hc0,hc1,hc2,hc3⟩:=hT'
 go_wp2_with fail
 go_fit (neg_any (N:=0) (z:=x) _ (Zr.near 1 hx0 hx1))
 rintro e w8 ⟨⟨v8,rfl,hZ8⟩,hb8⟩
 obtain ⟨u8,a8,n8,c8,hv8⟩:=hZ8.shape
 subst hv8
 have hT8:=keep22 hb8 hT
 obtain ⟨x0,a0,n0,c0,x1,a1',n1',c1',g0,g1,g2,g3,gf,gf2⟩:=boxes22 (Below.refl _ _) hT8
 go_wp2
 obtain ⟨b1,b2,b3,b4,b5,b6,b7⟩:=both22 (u2:=0) (a2:=none) (n2:=0) (c2:=0) (M:=1) (z2:=0) hT8 hZ8 (Zr.near 1 (by decide) (by decide))
 exact bodyPost_ret (v:=.tuple #[.agg #[.int .i64 u8,.slice a8 n8 c8],.agg #[.int .i64 0,.slice none 0 0]]) (by simp [results,Tryz.results194,go_sem,b1,b2,b3,b4]) rfl ⟨⟨_,_,rfl,b5,b6⟩,b7.1⟩
theorem cutOff_any {N:Nat}{v u:Value}{z o:Int} (w:World) (hz:Zr (N+1) w v z) (ho:Zr (N+1) w u o) (ho0:o≠0) (hlim:N<=800000) :
 Calls Tryz.prog 194 #[v,u] w fun e w'=>(∃ vq vr q r,e=.returned (.tuple #[vq,vr])/\Zr (N+2) w' vq q/\Zr (N+2) w' vr r/\q*o+r=z/\iabs r<iabs o)/\Below w.heap.size w w':=by
 obtain ⟨x,a1,n1,c1,rfl,h1,h2,h3⟩:=hz.sgn
 obtain ⟨y,a2,n2,c2,rfl,k1,k2,k3⟩:=ho.sgn
 cases hbn:(a1.isNone && a2.isNone)
 ·exact cutOff_far x y a1 a2 n1 c1 n2 c2 z o w hz ho ho0 hbn hlim
 ·simp at hbn
  obtain ⟨rfl,rfl,rfl,b0,b1⟩:=h2 hbn.1
  obtain ⟨rfl,rfl,rfl,d0,d1⟩:=k2 hbn.2
  obtain ⟨rfl,rfl⟩:=hbn
  by_cases hm:y = -1
  ·subst hm
   refine (cutOff_one x w b0 b1).mono ?_
   rintro e w' ⟨⟨vq,vr,rfl,hq,hr⟩,hb⟩
   exact ⟨⟨vq,vr,_,_,rfl,hq.mono (by omega),hr.mono (by omega),by omega,by decide⟩,hb⟩
  ·refine (cutOff_near x y w ho0 hm b0 b1 d0 d1).mono ?_
   rintro e w' ⟨⟨vq,vr,q,r,rfl,hq,hr,e1,e2⟩,hb⟩
   exact ⟨⟨vq,vr,q,r,rfl,hq.mono (by omega),hr.mono (by omega),e1,e2⟩,hb⟩
theorem divMod_zero (x y:Int) (a1 a2:Option Addr) (n1 c1 n2 c2:Nat) (w:World) (hy:sgn y=0) :
 Calls Tryz.prog 162 #[.agg #[.int .i64 x,.slice a1 n1 c1],.agg #[.int .i64 y,.slice a2 n2 c2]] w fun e w'=>e=.returned (.tuple #[.agg #[.int .i64 0,.slice none 0 0],.agg #[.int .i64 0,.slice none 0 0],.bool false])/\Below w.heap.size w w':=by
 have HY:=qh hy
 clear hy
 go_enter Tryz.func162,Tryz.ntmps162
 go_wp2_with fail
 go_fit (zqn y _ _)
 rintro e W1 ⟨rfl,hb0⟩
 rw [uh HY]
 have hT:=keep22 hb0 (start22 w (.int .i64 x) (.slice a1 n1 c1) (.int .i64 y) (.slice a2 n2 c2))
 clear hb0
 have hT':=hT
 obtain ⟨hbW,hbox,hbox2,hc0,hc1,hc2,hc3⟩:=hT'
 obtain ⟨x0,a0,n0,c0,x1,a1',n1',c1',g0,g1,g2,g3,gf,gf2⟩:=boxes22 (Below.refl _ _) hT
 go_wp2
 obtain ⟨b1,b2,b3,b4,b5,b6,b7⟩:=both22 (u1:=0) (a1:=none) (n1:=0) (c1:=0) (N:=1) (z1:=0) (u2:=0) (a2:=none) (n2:=0) (c2:=0) (M:=1) (z2:=0) hT (Zr.near 1 (by decide) (by decide)) (Zr.near 1 (by decide) (by decide))
 exact bodyPost_ret (v:=.tuple #[.agg #[.int .i64 0,.slice none 0 0],.agg #[.int .i64 0,.slice none 0 0],.bool false]) (by simp [results,Tryz.results162,go_sem,b1,b2,b3,b4]) rfl ⟨rfl,b7.1⟩
structure DM (N:Nat) (w:World) (y u7 u8:Int) (a2 a7 a8:Option Addr) (n2 c2 n7 c7 n8 c8:Nat) (q r o:Int) (wp:World):Prop where
 below:Below w.heap.size w wp
 box1:Box wp (w.heap.size+2)
 box2:Box wp (w.heap.size+3)
 o0:wp.cell? ⟨w.heap.size+1,0,none⟩=some (.int .i64 y)
 o1:wp.cell? ⟨w.heap.size+1,1,none⟩=some (.slice a2 n2 c2)
 q0:wp.cell? ⟨w.heap.size+2,0,none⟩=some (.int .i64 u7)
 q1:wp.cell? ⟨w.heap.size+2,1,none⟩=some (.slice a7 n7 c7)
 r0:wp.cell? ⟨w.heap.size+3,0,none⟩=some (.int .i64 u8)
 r1:wp.cell? ⟨w.heap.size+3,1,none⟩=some (.slice a8 n8 c8)
 zq:Zr (N+2) wp (.agg #[.int .i64 u7,.slice a7 n7 c7]) q
 zr:Zr (N+2) wp (.agg #[.int .i64 u8,.slice a8 n8 c8]) r
 zo:Zr (N+2) wp (.agg #[.int .i64 y,.slice a2 n2 c2]) o
theorem DM.keep {N:Nat}{w:World}{y u7 u8:Int}{a2 a7 a8:Option Addr}{n2 c2 n7 c7 n8 c8:Nat}{q r o:Int}{wp w1:World} (h:DM N w y u7 u8 a2 a7 a8 n2 c2 n7 c7 n8 c8 q r o wp) (hb:Below wp.heap.size wp w1):DM N w y u7 u8 a2 a7 a8 n2 c2 n7 c7 n8 c8 q r o w1 :=
 ⟨bk hb h.below,h.box1.later hb,h.box2.later hb,ck hb h.o0,ck hb h.o1,ck hb h.q0,ck hb h.q1,ck hb h.r0,ck hb h.r1,h.zq.later hb,h.zr.later hb,h.zo.later hb⟩
theorem DM.drew {N:Nat}{w:World}{y u7 u8:Int}{a2 a7 a8:Option Addr}{n2 c2 n7 c7 n8 c8:Nat}{q r o:Int}{wp:World} (h:DM N w y u7 u8 a2 a7 a8 n2 c2 n7 c7 n8 c8 q r o wp):DM N w y u7 u8 a2 a7 a8 n2 c2 n7 c7 n8 c8 q r o wp.drew :=
 ⟨h.below.drew,h.box1,h.box2,h.o0,h.o1,h.q0,h.q1,h.r0,h.r1,h.zq,h.zr,h.zo⟩
theorem DM.frozen {N:Nat}{w:World}{y u7 u8:Int}{a2 a7 a8:Option Addr}{n2 c2 n7 c7 n8 c8:Nat}{q r o:Int}{wp:World} (h:DM N w y u7 u8 a2 a7 a8 n2 c2 n7 c7 n8 c8 q r o wp):(∀ k,wp.frozen? ⟨w.heap.size+2,k,none⟩=false)/\(∀ k,wp.frozen? ⟨w.heap.size+3,k,none⟩=false):=⟨h.box1.cells.2.2,h.box2.cells.2.2⟩
theorem zjl {w wp:World} (h0:Below w.heap.size w wp) (h1:Box wp (w.heap.size+2)) (h2:Box wp (w.heap.size+3)) {N M:Nat}{u1 u2:Int}{a1 a2:Option Addr}{n1 c1 n2 c2:Nat}{z1 z2:Int} (hZ1:Zr N wp (.agg #[.int .i64 u1,.slice a1 n1 c1]) z1) (hZ2:Zr M wp (.agg #[.int .i64 u2,.slice a2 n2 c2]) z2) :
 let wf:=(((wp.setCell ⟨w.heap.size+2,0,none⟩ (.int .i64 u1)).setCell ⟨w.heap.size+2,1,none⟩ (.slice a1 n1 c1)).setCell ⟨w.heap.size+3,0,none⟩ (.int .i64 u2)).setCell ⟨w.heap.size+3,1,none⟩ (.slice a2 n2 c2)
 wf.cell? ⟨w.heap.size+2,0,none⟩=some (.int .i64 u1)/\wf.cell? ⟨w.heap.size+2,1,none⟩=some (.slice a1 n1 c1)/\wf.cell? ⟨w.heap.size+3,0,none⟩=some (.int .i64 u2)/\wf.cell? ⟨w.heap.size+3,1,none⟩=some (.slice a2 n2 c2) /\
 Zr N wf (.agg #[.int .i64 u1,.slice a1 n1 c1]) z1/\Zr M wf (.agg #[.int .i64 u2,.slice a2 n2 c2]) z2/\Below w.heap.size w wf/\Box wf (w.heap.size+2)/\Box wf (w.heap.size+3):=by
 intro wf
 obtain ⟨s0,s1⟩:=h1.stored (.int .i64 u1) (.slice a1 n1 c1)
 have h2':Box ((wp.setCell ⟨w.heap.size+2,0,none⟩ (.int .i64 u1)).setCell ⟨w.heap.size+2,1,none⟩ (.slice a1 n1 c1)) (w.heap.size+3):=(h2.other (by omega) _).other (by omega) _
 obtain ⟨t0,t1⟩:=h2'.stored (.int .i64 u2) (.slice a2 n2 c2)
 refine ⟨?_,?_,t0,t1,(hZ1.stored h1 _ _).stored h2' _ _,(hZ2.stored h1 _ _).stored h2' _ _,zqc (zqc h0 (by omega) _ _) (by omega) _ _,((h1.stored' _ _ _ _).other (by omega) _).other (by omega) _,h2'.stored' _ _ _ _⟩
 ·show (World.setCell _ _ _).cell? _=_
  rw [zqb _ _ _ _ _ _ (by omega),zqb _ _ _ _ _ _ (by omega)];exact s0
 ·show (World.setCell _ _ _).cell? _=_
  rw [zqb _ _ _ _ _ _ (by omega),zqb _ _ _ _ _ _ (by omega)];exact s1
theorem divmod_up {q r o z:Int} (h:q*o+r=z) (hr:r<0) (hlt:iabs r<iabs o) (ho:0<o):(q - 1)*o+(r+o)=z/\0<=r+o/\r+o<iabs o:=by
 unfold iabs at hlt ⊢
 rw [if_pos hr,if_neg (by omega)] at hlt
 rw [if_neg (by omega)]
 refine ⟨?_,by omega,by omega⟩
 rw [Int.sub_mul,Int.one_mul];omega
theorem divmod_down {q r o z:Int} (h:q*o+r=z) (hr:r<0) (hlt:iabs r<iabs o) (ho:o<0):(q+1)*o+(r - o)=z/\0<=r - o/\r - o<iabs o:=by
 unfold iabs at hlt ⊢
 rw [if_pos hr,if_pos ho] at hlt
 rw [if_pos ho]
 refine ⟨?_,by omega,by omega⟩
 rw [Int.add_mul,Int.one_mul];omega
end Go.Proofs.YtkdobjmhammhbaaGreatDoor
