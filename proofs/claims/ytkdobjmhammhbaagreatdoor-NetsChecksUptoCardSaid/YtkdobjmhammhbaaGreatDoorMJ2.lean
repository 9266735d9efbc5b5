import Derived.Test.YtkdobjmhammhbaaGreatDoorMJ1
namespace Go.Proofs.YtkdobjmhammhbaaGreatDoor
open Go.RowKit
structure F8 (α:Type) where
 a:α
 b:Option Addr
 c:Nat
 d:Nat
 e:α
 f:Option Addr
 g:Nat
 h:Nat
abbrev vq (x:F8 Bool):Value:=.agg #[.bool x.a,.slice x.b x.c x.d,.bool x.e,.slice x.f x.g x.h]
abbrev vr (x:F8 Int):Value:=.agg #[.int .i64 x.a,.slice x.b x.c x.d,.int .i64 x.e,.slice x.f x.g x.h]
theorem Qs.sh {N:Nat}{D s:Int}{w:World}{v:Value} (h:Qs N D w v s):∃ x:F8 Bool,v=.agg #[.bool x.a,.slice x.b x.c x.d,.bool x.e,.slice x.f x.g x.h]:=by
 obtain ⟨x1,x2,x3,x4,x5,x6,x7,x8,rfl⟩:=h.shape
 exact ⟨⟨x1,x2,x3,x4,x5,x6,x7,x8⟩,rfl⟩
theorem Rs.sh {N:Nat}{D s:Int}{w:World}{v:Value} (h:Rs N D w v s):∃ x:F8 Int,v=.agg #[.int .i64 x.a,.slice x.b x.c x.d,.int .i64 x.e,.slice x.f x.g x.h]:=by
 obtain ⟨x1,x2,x3,x4,x5,x6,x7,x8,rfl⟩:=h.shape
 exact ⟨⟨x1,x2,x3,x4,x5,x6,x7,x8⟩,rfl⟩
theorem QsE.sh {N:Nat}{D s:Int}{w:World}{cs:List Value} (h:QsE N D w cs s):∃ x:F8 Bool,cs=[.bool x.a,.slice x.b x.c x.d,.bool x.e,.slice x.f x.g x.h]∧Qs N D w (vq x) s:=by
 obtain ⟨x1,x2,x3,x4,x5,x6,x7,x8,h1,h2⟩:=h
 exact ⟨⟨x1,x2,x3,x4,x5,x6,x7,x8⟩,h1,h2⟩
theorem RsE.sh {N:Nat}{D s:Int}{w:World}{cs:List Value} (h:RsE N D w cs s):∃ x:F8 Int,cs=[.int .i64 x.a,.slice x.b x.c x.d,.int .i64 x.e,.slice x.f x.g x.h]∧Rs N D w (vr x) s:=by
 obtain ⟨x1,x2,x3,x4,x5,x6,x7,x8,h1,h2⟩:=h
 exact ⟨⟨x1,x2,x3,x4,x5,x6,x7,x8⟩,h1,h2⟩
def Q4 (w:World) (b o:Nat) (x:F8 Bool):Prop:=w.cell? ⟨b,o,none⟩=some (.bool x.a)∧w.cell? ⟨b,o+1,none⟩=some (.slice x.b x.c x.d)∧w.cell? ⟨b,o+2,none⟩=some (.bool x.e)∧w.cell? ⟨b,o+3,none⟩=some (.slice x.f x.g x.h)
def R4 (w:World) (b o:Nat) (x:F8 Int):Prop:=w.cell? ⟨b,o,none⟩=some (.int .i64 x.a)∧w.cell? ⟨b,o+1,none⟩=some (.slice x.b x.c x.d)∧w.cell? ⟨b,o+2,none⟩=some (.int .i64 x.e)∧w.cell? ⟨b,o+3,none⟩=some (.slice x.f x.g x.h)
theorem Q4.keep {w w1:World}{b o:Nat}{x:F8 Bool} (h:Q4 w b o x) (hb:Below w.heap.size w w1):Q4 w1 b o x:=⟨ck hb h.1,ck hb h.2.1,ck hb h.2.2.1,ck hb h.2.2.2⟩
theorem R4.keep {w w1:World}{b o:Nat}{x:F8 Int} (h:R4 w b o x) (hb:Below w.heap.size w w1):R4 w1 b o x:=⟨ck hb h.1,ck hb h.2.1,ck hb h.2.2.1,ck hb h.2.2.2⟩
structure QX (N:Nat) (D:Int) (w:World) (r:Nat) (x:F8 Bool) (s:Int):Prop where
 c0:w.cell? ⟨r,0,none⟩=some (.bool x.a)
 c1:w.cell? ⟨r,1,none⟩=some (.slice x.b x.c x.d)
 c2:w.cell? ⟨r,2,none⟩=some (.bool x.e)
 c3:w.cell? ⟨r,3,none⟩=some (.slice x.f x.g x.h)
 box:QBox w r
 q:Qs N D w (vq x) s
structure RX (N:Nat) (D:Int) (w:World) (r:Nat) (x:F8 Int) (s:Int):Prop where
 c0:w.cell? ⟨r,0,none⟩=some (.int .i64 x.a)
 c1:w.cell? ⟨r,1,none⟩=some (.slice x.b x.c x.d)
 c2:w.cell? ⟨r,2,none⟩=some (.int .i64 x.e)
 c3:w.cell? ⟨r,3,none⟩=some (.slice x.f x.g x.h)
 box:RBox w r
 q:Rs N D w (vr x) s
theorem QX.keep {N:Nat}{D s:Int}{w w1:World}{r:Nat}{x:F8 Bool} (h:QX N D w r x s) (hb:Below w.heap.size w w1):QX N D w1 r x s:=⟨ck hb h.c0,ck hb h.c1,ck hb h.c2,ck hb h.c3,h.box.later hb,h.q.later hb⟩
theorem RX.keep {N:Nat}{D s:Int}{w w1:World}{r:Nat}{x:F8 Int} (h:RX N D w r x s) (hb:Below w.heap.size w w1):RX N D w1 r x s:=⟨ck hb h.c0,ck hb h.c1,ck hb h.c2,ck hb h.c3,h.box.later hb,h.q.later hb⟩
theorem QX.new {N:Nat}{D s:Int}{w:World}{x:F8 Bool} (h:Qs N D w (vq x) s):QX N D (w.alloc (.cells #[.bool x.a,.slice x.b x.c x.d,.bool x.e,.slice x.f x.g x.h] 59)) w.heap.size x s :=
 ⟨by rw [nc rfl];rfl,by rw [nc rfl];rfl,by rw [nc rfl];rfl,by rw [nc rfl];rfl,zkl _ _ _ _ _ _ _ _ _,h.later (zqa w _)⟩
theorem RX.new {N:Nat}{D s:Int}{w:World}{x:F8 Int} (h:Rs N D w (vr x) s):RX N D (w.alloc (.cells #[.int .i64 x.a,.slice x.b x.c x.d,.int .i64 x.e,.slice x.f x.g x.h] 39)) w.heap.size x s :=
 ⟨by rw [nc rfl];rfl,by rw [nc rfl];rfl,by rw [nc rfl];rfl,by rw [nc rfl];rfl,zjb _ _ _ _ _ _ _ _ _,h.later (zqa w _)⟩
theorem Qs.stored {N:Nat}{D s:Int}{w:World}{v:Value}{r:Nat} (h:Qs N D w v s) (hb:QBox w r) (u0 u1 u2 u3:Value):Qs N D ((((w.setCell ⟨r,0,none⟩ u0).setCell ⟨r,1,none⟩ u1).setCell ⟨r,2,none⟩ u2).setCell ⟨r,3,none⟩ u3) v s:=by
 obtain ⟨p,d,h1,h2⟩:=h
 exact ⟨p,d,h1.qstored hb _ _ _ _,h2⟩
theorem Rs.stored {N:Nat}{D s:Int}{w:World}{v:Value}{r:Nat} (h:Rs N D w v s) (hb:RBox w r) (u0 u1 u2 u3:Value):Rs N D ((((w.setCell ⟨r,0,none⟩ u0).setCell ⟨r,1,none⟩ u1).setCell ⟨r,2,none⟩ u2).setCell ⟨r,3,none⟩ u3) v s:=by
 obtain ⟨p,d,h1,h2⟩:=h
 exact ⟨p,d,h1.rstored hb _ _ _ _,h2⟩
theorem QX.put {N:Nat}{D s:Int}{w:World}{r:Nat}{x:F8 Bool} (hr:QBox w r) (h:Qs N D w (vq x) s):QX N D ((((w.setCell ⟨r,0,none⟩ (.bool x.a)).setCell ⟨r,1,none⟩ (.slice x.b x.c x.d)).setCell ⟨r,2,none⟩ (.bool x.e)).setCell ⟨r,3,none⟩ (.slice x.f x.g x.h)) r x s:=by
 obtain ⟨s0,s1,s2,s3⟩:=hr.stored (.bool x.a) (.slice x.b x.c x.d) (.bool x.e) (.slice x.f x.g x.h)
 exact ⟨s0,s1,s2,s3,hr.after _ _ _ _ _ _ _ _,h.stored hr _ _ _ _⟩
theorem RX.put {N:Nat}{D s:Int}{w:World}{r:Nat}{x:F8 Int} (hr:RBox w r) (h:Rs N D w (vr x) s):RX N D ((((w.setCell ⟨r,0,none⟩ (.int .i64 x.a)).setCell ⟨r,1,none⟩ (.slice x.b x.c x.d)).setCell ⟨r,2,none⟩ (.int .i64 x.e)).setCell ⟨r,3,none⟩ (.slice x.f x.g x.h)) r x s:=by
 obtain ⟨s0,s1,s2,s3⟩:=hr.stored (.int .i64 x.a) (.slice x.b x.c x.d) (.int .i64 x.e) (.slice x.f x.g x.h)
 exact ⟨s0,s1,s2,s3,hr.stored' _ _ _ _ _ _ _ _,h.stored hr _ _ _ _⟩
theorem Rows.qarc {N:Nat}{D:Int}{w:World}{a:Option Addr}{n c i:Nat}{L:List (Int×Int×Int×Int)}{x:Int×Int×Int×Int} (h:Rows 10 (ArE (QsE N D)) w (.slice a n c) L) (hx:L[i]? = some x):∃ b o y z,a=some ⟨b,o,none⟩∧(w.cell? ⟨b,o+i*10,none⟩=some (.int .i64 x.1)∧w.cell? ⟨b,o+i*10+1,none⟩=some (.int .i64 x.2.1)∧Q4 w b (o+i*10+2) y∧Q4 w b (o+i*10+6) z)∧(Qs N D w (vq y) x.2.2.1∧Qs N D w (vq z) x.2.2.2)∧I64 x.1∧I64 x.2.1:=by
 obtain ⟨b,o,rfl,cs,_,hcs,c1,c2,rfl,h1,h2,h3,h4⟩:=h.at hx
 obtain ⟨y,rfl,hy⟩:=h3.sh
 obtain ⟨z,rfl,hz⟩:=h4.sh
 exact ⟨b,o,y,z,rfl,⟨by simpa using hcs 0 _ rfl,hcs 1 _ rfl,⟨hcs 2 _ rfl,hcs 3 _ rfl,hcs 4 _ rfl,hcs 5 _ rfl⟩,⟨hcs 6 _ rfl,hcs 7 _ rfl,hcs 8 _ rfl,hcs 9 _ rfl⟩⟩,⟨hy,hz⟩,h1,h2⟩
theorem Rows.rarc {N:Nat}{D:Int}{w:World}{a:Option Addr}{n c i:Nat}{L:List (Int×Int×Int×Int)}{x:Int×Int×Int×Int} (h:Rows 10 (ArE (RsE N D)) w (.slice a n c) L) (hx:L[i]? = some x):∃ b o y z,a=some ⟨b,o,none⟩∧(w.cell? ⟨b,o+i*10,none⟩=some (.int .i64 x.1)∧w.cell? ⟨b,o+i*10+1,none⟩=some (.int .i64 x.2.1)∧R4 w b (o+i*10+2) y∧R4 w b (o+i*10+6) z)∧(Rs N D w (vr y) x.2.2.1∧Rs N D w (vr z) x.2.2.2)∧I64 x.1∧I64 x.2.1:=by
 obtain ⟨b,o,rfl,cs,_,hcs,c1,c2,rfl,h1,h2,h3,h4⟩:=h.at hx
 obtain ⟨y,rfl,hy⟩:=h3.sh
 obtain ⟨z,rfl,hz⟩:=h4.sh
 exact ⟨b,o,y,z,rfl,⟨by simpa using hcs 0 _ rfl,hcs 1 _ rfl,⟨hcs 2 _ rfl,hcs 3 _ rfl,hcs 4 _ rfl,hcs 5 _ rfl⟩,⟨hcs 6 _ rfl,hcs 7 _ rfl,hcs 8 _ rfl,hcs 9 _ rfl⟩⟩,⟨hy,hz⟩,h1,h2⟩
theorem Rows.qnum {N:Nat}{D:Int}{w:World}{a:Option Addr}{n c i:Nat}{L:List Int}{s:Int} (h:Rows 4 (QsE N D) w (.slice a n c) L) (hx:L[i]? = some s):∃ b o y,a=some ⟨b,o,none⟩∧Q4 w b (o+i*4) y∧Qs N D w (vq y) s:=by
 obtain ⟨b,o,rfl,cs,_,hcs,h1⟩:=h.at hx
 obtain ⟨y,rfl,hy⟩:=h1.sh
 exact ⟨b,o,y,rfl,⟨by simpa using hcs 0 _ rfl,hcs 1 _ rfl,hcs 2 _ rfl,hcs 3 _ rfl⟩,hy⟩
theorem Rows.rnum {N:Nat}{D:Int}{w:World}{a:Option Addr}{n c i:Nat}{L:List Int}{s:Int} (h:Rows 4 (RsE N D) w (.slice a n c) L) (hx:L[i]? = some s):∃ b o y,a=some ⟨b,o,none⟩∧R4 w b (o+i*4) y∧Rs N D w (vr y) s:=by
 obtain ⟨b,o,rfl,cs,_,hcs,h1⟩:=h.at hx
 obtain ⟨y,rfl,hy⟩:=h1.sh
 exact ⟨b,o,y,rfl,⟨by simpa using hcs 0 _ rfl,hcs 1 _ rfl,hcs 2 _ rfl,hcs 3 _ rfl⟩,hy⟩
abbrev badArc (n:Int) (x:Int×Int×Int×Int):Prop:=x.1<0∨n≤x.1∨x.2.1<0∨n≤x.2.1∨x.2.2.1<0
def netV (n:Int) (L:List (Int×Int×Int×Int)):Int:=if n<1∨60<n∨300<L.length then 2 else if L.any (fun x=>decide (x.1<0∨n≤x.1∨x.2.1<0∨n≤x.2.1∨x.2.2.1<0)) then 4 else 0
theorem zjg {n:Int}{L:List (Int×Int×Int×Int)} (h:n<1∨60<n∨300<L.length):netV n L=2:=by unfold netV;rw [if_pos h]
theorem netV_bad {n:Int}{L:List (Int×Int×Int×Int)}{x:Int×Int×Int×Int} (h:¬ (n<1∨60<n∨300<L.length)) (hx:x ∈ L) (hb:badArc n x):netV n L=4:=by unfold netV;rw [if_neg h,if_pos (List.any_eq_true.2 ⟨x,hx,decide_eq_true hb⟩)]
theorem netV_good {n:Int}{L:List (Int×Int×Int×Int)} (h:¬ (n<1∨60<n∨300<L.length)) (hx:∀ x ∈ L,¬ badArc n x):netV n L=0:=by
 unfold netV
 rw [if_neg h,if_neg]
 intro h1
 obtain ⟨x,h1,h2⟩:=List.any_eq_true.1 h1
 exact hx x h1 (of_decide_eq_true h2)
theorem all_take {α:Type}{L:List α}{p:α → Prop}{i:Nat}{x:α} (h:∀ y ∈ L.take i,p y) (hx:L[i]? = some x) (hp:p x):∀ y ∈ L.take (i+1),p y:=by
 intro y hy
 rw [tkn hx,List.mem_append] at hy
 rcases hy with hy | hy
 · exact h y hy
 · simp at hy
   rw [hy]
   exact hp
set_option maxHeartbeats 8000000 in
set_option maxRecDepth 8000 in
theorem rnetv_any {N:Nat}{D n:Int}{v:Value}{L:List (Int×Int×Int×Int)} (w:World) (D0:0<D) (h:Rows 10 (ArE (QsE N D)) w v L) :
   Calls Tryz.prog 17 #[.int .i64 n,v] w fun e w'=>e=.returned (.int .i64 (netV n L))∧Below w.heap.size w w':=by
 obtain ⟨sa,sc,rfl⟩:=h.shape
 have hsm:=h.small
 unfold maxLen at hsm
 have HR:=qh h
 have HD:=qh D0
 clear h D0
 go_enter Tryz.func17,Tryz.ntmps17
 by_cases h1:n<1
 · go_wp2
   go_ret
   exact ⟨by rw [zjg (Or.inl h1)];rfl,Below.refl _ _⟩
 by_cases h2:60<n
 · go_wp2
   go_ret
   exact ⟨by rw [zjg (Or.inr (Or.inl h2))];rfl,Below.refl _ _⟩
 by_cases h3:(300:Int)<(L.length:Int)
 · go_wp2
   go_ret
   exact ⟨by rw [zjg (Or.inr (Or.inr (by omega)))];rfl,Below.refl _ _⟩
 have HN:=qh (show ¬ (n<1∨60<n∨300<L.length) by omega)
 go_wp2_with fail
 go_loopg [5] L.length (fun gk iv wr=>∃ i:Nat,i≤L.length∧gk=L.length - i∧iv=.int .i64 (i:Int)∧Hid (∀ y ∈ L.take i,¬ badArc n y)∧Hid (Below w.heap.size w wr))
 case atStart=>exact ⟨0,by omega,by omega,rfl,qh (by simp),qh (Below.refl _ _)⟩
 case round =>
   obtain ⟨i,hi,hgk,rfl,HA,HB⟩:=hrel
   by_cases hil:i<L.length
   · obtain ⟨⟨fr,to',cp,co⟩,hx⟩:∃ x,L[i]? = some x:=⟨L[i],by simp [hil]⟩
     obtain ⟨b,o,y,z,rfl,⟨c0,c1,c2,_⟩,⟨hy,_⟩,_⟩:=(uh HR).qarc hx
     simp only at c0 c1 hy
     have c0:=ck (uh HB) c0
     have c1:=ck (uh HB) c1
     obtain ⟨d0,d1,d2,d3⟩:=c2.keep (uh HB)
     have HY:=qh (hy.later (uh HB))
     have HX:=qh hx
     have hil':(i:Int)<(L.length:Int):=by omega
     have him:(i:Int)+1≤1000:=by omega
     clear hx hy c2
     go_wp2_with fail
     go_fit (qs_sign _ (uh HD) (uh HY))
     rintro e W1 ⟨rfl,B1⟩
     have BB:=qh (bk B1 (uh HB))
     have e0:=ck B1 c0
     have e1:=ck B1 c1
     clear d0 d1 d2 d3 c0 c1 B1
     have HM:=qh (List.mem_of_getElem? (uh HX))
     rcases (show badArc n (fr,to',cp,co)∨¬ badArc n (fr,to',cp,co) from Classical.em _) with hb | hg
     · have HBA:=qh hb
       have fin:netV n L=4:=netV_bad (uh HN) (uh HM) (uh HBA)
       have FIN:=qh fin
       clear fin
       rcases (show fr<0∨(0≤fr∧n≤fr)∨(0≤fr∧fr<n∧to'<0)∨(0≤fr∧fr<n∧0≤to'∧n≤to')∨(0≤fr∧fr<n∧0≤to'∧to'<n∧cp<0) by unfold badArc at hb;simp only at hb;omega) with q | q | q | q | ⟨q1,q2,q3,q4,q5⟩
       · go_wp2
         go_ret
         exact ⟨by rw [uh FIN];rfl,uh BB⟩
       · go_wp2
         go_ret
         exact ⟨by rw [uh FIN];rfl,uh BB⟩
       · go_wp2
         go_ret
         exact ⟨by rw [uh FIN];rfl,uh BB⟩
       · go_wp2
         go_ret
         exact ⟨by rw [uh FIN];rfl,uh BB⟩
       · rw [zqk q5]
         go_wp2
         go_ret
         exact ⟨by rw [uh FIN];rfl,uh BB⟩
     · obtain ⟨q1,q2,q3,q4,q5⟩:0≤fr∧fr<n∧0≤to'∧to'<n∧0≤cp:=by unfold badArc at hg;simp only at hg;omega
       have HG:=qh hg
       have hsg:0≤sgn cp:=by rcases zql cp with ⟨h,e,_⟩ | ⟨h,e,_⟩ | ⟨h,e,_⟩ <;> omega
       obtain ⟨sg,hsg'⟩:∃ s,s=sgn cp:=⟨_,rfl⟩
       rw [← hsg'] at hsg ⊢
       clear hg hsg'
       go_wp2
       go_roundg (L.length - (i+1))
       case measure=>omega
       case rel=>exact ⟨i+1,by omega,rfl,by go_num,qh (all_take (uh HA) (uh HX) (uh HG)),BB⟩
   · obtain rfl:i=L.length:=by omega
     clear hil hi hgk
     go_wp2
     go_ret
     refine ⟨?_,uh HB⟩
     have:=uh HA
     rw [List.take_length] at this
     rw [netV_good (uh HN) this]
     rfl
theorem ck5 {w w1:World}{b0 b1 b2 b3 b4 o0 o1 o2 o3 o4:Nat}{v0 v1 v2 v3 v4:Value} (hb:Below w.heap.size w w1) (h:w.cell? ⟨b0,o0,none⟩=some v0∧w.cell? ⟨b1,o1,none⟩=some v1∧w.cell? ⟨b2,o2,none⟩=some v2∧w.cell? ⟨b3,o3,none⟩=some v3∧w.cell? ⟨b4,o4,none⟩=some v4):w1.cell? ⟨b0,o0,none⟩=some v0∧w1.cell? ⟨b1,o1,none⟩=some v1∧w1.cell? ⟨b2,o2,none⟩=some v2∧w1.cell? ⟨b3,o3,none⟩=some v3∧w1.cell? ⟨b4,o4,none⟩=some v4:=⟨ck hb h.1,ck hb h.2.1,ck hb h.2.2.1,ck hb h.2.2.2.1,ck hb h.2.2.2.2⟩
theorem ck9 {w w1:World}{b0 b1 b2 b3 b4 b5 b6 b7 b8 o0 o1 o2 o3 o4 o5 o6 o7 o8:Nat}{v0 v1 v2 v3 v4 v5 v6 v7 v8:Value} (hb:Below w.heap.size w w1) (h:w.cell? ⟨b0,o0,none⟩=some v0∧w.cell? ⟨b1,o1,none⟩=some v1∧w.cell? ⟨b2,o2,none⟩=some v2∧w.cell? ⟨b3,o3,none⟩=some v3∧w.cell? ⟨b4,o4,none⟩=some v4∧w.cell? ⟨b5,o5,none⟩=some v5∧w.cell? ⟨b6,o6,none⟩=some v6∧w.cell? ⟨b7,o7,none⟩=some v7∧w.cell? ⟨b8,o8,none⟩=some v8):w1.cell? ⟨b0,o0,none⟩=some v0∧w1.cell? ⟨b1,o1,none⟩=some v1∧w1.cell? ⟨b2,o2,none⟩=some v2∧w1.cell? ⟨b3,o3,none⟩=some v3∧w1.cell? ⟨b4,o4,none⟩=some v4∧w1.cell? ⟨b5,o5,none⟩=some v5∧w1.cell? ⟨b6,o6,none⟩=some v6∧w1.cell? ⟨b7,o7,none⟩=some v7∧w1.cell? ⟨b8,o8,none⟩=some v8:=⟨ck hb h.1,ck hb h.2.1,ck hb h.2.2.1,ck hb h.2.2.2.1,ck hb h.2.2.2.2.1,ck hb h.2.2.2.2.2.1,ck hb h.2.2.2.2.2.2.1,ck hb h.2.2.2.2.2.2.2.1,ck hb h.2.2.2.2.2.2.2.2⟩
theorem ck10 {w w1:World}{b0 b1 b2 b3 b4 b5 b6 b7 b8 b9 o0 o1 o2 o3 o4 o5 o6 o7 o8 o9:Nat}{v0 v1 v2 v3 v4 v5 v6 v7 v8 v9:Value} (hb:Below w.heap.size w w1) (h:w.cell? ⟨b0,o0,none⟩=some v0∧w.cell? ⟨b1,o1,none⟩=some v1∧w.cell? ⟨b2,o2,none⟩=some v2∧w.cell? ⟨b3,o3,none⟩=some v3∧w.cell? ⟨b4,o4,none⟩=some v4∧w.cell? ⟨b5,o5,none⟩=some v5∧w.cell? ⟨b6,o6,none⟩=some v6∧w.cell? ⟨b7,o7,none⟩=some v7∧w.cell? ⟨b8,o8,none⟩=some v8∧w.cell? ⟨b9,o9,none⟩=some v9):w1.cell? ⟨b0,o0,none⟩=some v0∧w1.cell? ⟨b1,o1,none⟩=some v1∧w1.cell? ⟨b2,o2,none⟩=some v2∧w1.cell? ⟨b3,o3,none⟩=some v3∧w1.cell? ⟨b4,o4,none⟩=some v4∧w1.cell? ⟨b5,o5,none⟩=some v5∧w1.cell? ⟨b6,o6,none⟩=some v6∧w1.cell? ⟨b7,o7,none⟩=some v7∧w1.cell? ⟨b8,o8,none⟩=some v8∧w1.cell? ⟨b9,o9,none⟩=some v9:=⟨ck hb h.1,ck hb h.2.1,ck hb h.2.2.1,ck hb h.2.2.2.1,ck hb h.2.2.2.2.1,ck hb h.2.2.2.2.2.1,ck hb h.2.2.2.2.2.2.1,ck hb h.2.2.2.2.2.2.2.1,ck hb h.2.2.2.2.2.2.2.2.1,ck hb h.2.2.2.2.2.2.2.2.2⟩
theorem ck15 {w w1:World}{b0 b1 b2 b3 b4 b5 b6 b7 b8 b9 b10 b11 b12 b13 b14 o0 o1 o2 o3 o4 o5 o6 o7 o8 o9 o10 o11 o12 o13 o14:Nat}{v0 v1 v2 v3 v4 v5 v6 v7 v8 v9 v10 v11 v12 v13 v14:Value} (hb:Below w.heap.size w w1) (h:w.cell? ⟨b0,o0,none⟩=some v0∧w.cell? ⟨b1,o1,none⟩=some v1∧w.cell? ⟨b2,o2,none⟩=some v2∧w.cell? ⟨b3,o3,none⟩=some v3∧w.cell? ⟨b4,o4,none⟩=some v4∧w.cell? ⟨b5,o5,none⟩=some v5∧w.cell? ⟨b6,o6,none⟩=some v6∧w.cell? ⟨b7,o7,none⟩=some v7∧w.cell? ⟨b8,o8,none⟩=some v8∧w.cell? ⟨b9,o9,none⟩=some v9∧w.cell? ⟨b10,o10,none⟩=some v10∧w.cell? ⟨b11,o11,none⟩=some v11∧w.cell? ⟨b12,o12,none⟩=some v12∧w.cell? ⟨b13,o13,none⟩=some v13∧w.cell? ⟨b14,o14,none⟩=some v14):w1.cell? ⟨b0,o0,none⟩=some v0∧w1.cell? ⟨b1,o1,none⟩=some v1∧w1.cell? ⟨b2,o2,none⟩=some v2∧w1.cell? ⟨b3,o3,none⟩=some v3∧w1.cell? ⟨b4,o4,none⟩=some v4∧w1.cell? ⟨b5,o5,none⟩=some v5∧w1.cell? ⟨b6,o6,none⟩=some v6∧w1.cell? ⟨b7,o7,none⟩=some v7∧w1.cell? ⟨b8,o8,none⟩=some v8∧w1.cell? ⟨b9,o9,none⟩=some v9∧w1.cell? ⟨b10,o10,none⟩=some v10∧w1.cell? ⟨b11,o11,none⟩=some v11∧w1.cell? ⟨b12,o12,none⟩=some v12∧w1.cell? ⟨b13,o13,none⟩=some v13∧w1.cell? ⟨b14,o14,none⟩=some v14:=⟨ck hb h.1,ck hb h.2.1,ck hb h.2.2.1,ck hb h.2.2.2.1,ck hb h.2.2.2.2.1,ck hb h.2.2.2.2.2.1,ck hb h.2.2.2.2.2.2.1,ck hb h.2.2.2.2.2.2.2.1,ck hb h.2.2.2.2.2.2.2.2.1,ck hb h.2.2.2.2.2.2.2.2.2.1,ck hb h.2.2.2.2.2.2.2.2.2.2.1,ck hb h.2.2.2.2.2.2.2.2.2.2.2.1,ck hb h.2.2.2.2.2.2.2.2.2.2.2.2.1,ck hb h.2.2.2.2.2.2.2.2.2.2.2.2.2.1,ck hb h.2.2.2.2.2.2.2.2.2.2.2.2.2.2⟩
theorem RBox.aside4 {w:World}{b q:Nat} (h:RBox w b) (hne:b≠q) (u0 u1 u2 u3:Value):RBox ((((w.setCell ⟨q,0,none⟩ u0).setCell ⟨q,1,none⟩ u1).setCell ⟨q,2,none⟩ u2).setCell ⟨q,3,none⟩ u3) b:=by
 obtain ⟨x,a,n,c,y,b',m,k,h⟩:=h
 exact ⟨x,a,n,c,y,b',m,k,by rw [Below.heap_setCell _ _ _ _ hne,Below.heap_setCell _ _ _ _ hne,Below.heap_setCell _ _ _ _ hne,Below.heap_setCell _ _ _ _ hne];exact h⟩
theorem zqy {w:World}{g o b p:Nat}{v:Value} (h:w.cell? ⟨b,p,none⟩=some v) (hne:b≠g) (u0 u1 u2 u3:Value):((((w.setCell ⟨g,o,none⟩ u0).setCell ⟨g,o+1,none⟩ u1).setCell ⟨g,o+2,none⟩ u2).setCell ⟨g,o+3,none⟩ u3).cell? ⟨b,p,none⟩=some v:=by
 rw [zqb _ _ _ _ _ _ (by omega),zqb _ _ _ _ _ _ (by omega),zqb _ _ _ _ _ _ (by omega),zqb _ _ _ _ _ _ (by omega)]
 exact h
def Abv (V:World):Type:={w':World // Below V.heap.size V w'}
theorem Abv.some (V:World):Nonempty (Abv V):=⟨⟨V,Below.refl _ _⟩⟩
theorem zqm {P:Program}{id:Nat}{Q:Exit→Act→World→Prop}{a:Act}{w:World}{l:List Oper} (hm:P.follows .mixedOrders=true) (hB:Region.lexB .any l.toArray=true)
   (h:wpQuiet P l.toArray (fun w'=>∃ x:Abv w,w'=x.val) (fun a'=>∀ w',(∃ x:Abv w,w'=x.val)→Q .normal a' w') l a):(Code.region id l.toArray true).wp P Q a w :=
 wp_region_quiet (C:=fun w'=>∃ x:Abv w,w'=x.val) hm hB ⟨⟨_,(Below.refl _ _).drew⟩,rfl⟩ (by simpa using h)
theorem Calls.abv {P:Program}{f:FuncId}{args:Array Value}{V:World}{x:Abv V}{v:Value} (h:Calls P f args x.val fun e w'=>e=.returned v∧Below x.val.heap.size x.val w'):Calls P f args x.val fun e w''=>e=.returned v∧∃ m:Abv V,w''=m.val :=
 h.mono fun _ w' ⟨he,hb⟩=>⟨he,⟨w',bk hb x.property⟩,rfl⟩
def flagAt (s:List Bool) (k:Int):Bool:=s.getD k.toNat false
def thru (side:List Bool) (L:List (Int×Int×Int×Int)):Int:=(L.map fun x=>if flagAt side x.1=true∧flagAt side x.2.1=false then x.2.2.1 else 0).sum
theorem sum_next {α:Type}{L:List α}{f:α → Int}{i:Nat}{x:α} (hx:L[i]? = some x):((L.take (i+1)).map f).sum=((L.take i).map f).sum+f x:=by
 rw [tkn hx,List.map_append,List.sum_append]
 simp
theorem sum_ins {α:Type}{f:α → Int}{B:Int} (hB:0≤B):∀ (L:List α),(∀ x ∈ L,-B≤f x∧f x≤B) → -(L.length*B)≤(L.map f).sum∧(L.map f).sum≤L.length*B
 | [],_=>by simp
 | x :: L,h=>by
   have h1:=h x (by simp)
   have h2:=sum_ins hB L (fun y hy=>h y (by simp [hy]))
   simp only [List.map_cons,List.sum_cons,List.length_cons]
   have e:((L.length+1:Nat):Int)*B=L.length*B+B:=by rw [Int.natCast_add,Int.add_mul];simp
   rw [e]
   omega
theorem sum_take {α:Type}{f:α → Int}{B T:Int}{L:List α} (i:Nat) (h:∀ x ∈ L,-B≤f x∧f x≤B) (hB:0≤B) (hT:(L.length:Int)*B<T):Ins T ((L.take i).map f).sum:=by
 have h1:=sum_ins hB (L.take i) (fun x hx=>h x (List.mem_of_mem_take hx))
 have h2:((L.take i).length:Int)*B≤(L.length:Int)*B:=Int.mul_le_mul_of_nonneg_right (by rw [List.length_take];omega) hB
 unfold Ins
 omega
set_option maxHeartbeats 8000000 in
set_option maxRecDepth 8000 in
theorem rthru_any {K N:Nat}{T D B:Int}{v sv:Value}{L:List (Int×Int×Int×Int)}{side:List Bool} (w:World) (hBg:Big K N T) (hD:Dn T D) (h:Rows 10 (ArE (QsE N D)) w v L) (hs:Rows 1 BE w sv side) (hn:∀ x ∈ L,¬ badArc side.length x) (hl:L.length≤300) (hc:∀ x ∈ L,-B≤x.2.2.1∧x.2.2.1≤B) (hB:0≤B) (hT:(L.length:Int)*B<T) :
   Calls Tryz.prog 42 #[v,sv] w fun e w'=>(∃ v,e=.returned v∧Qs N D w' v (thru side L))∧Below w.heap.size w w':=by
 obtain ⟨sa,sc,rfl⟩:=h.shape
 obtain ⟨ta,tc,rfl⟩:=hs.shape
 have hsm:=hs.small
 unfold maxLen at hsm
 have hins:∀ i,Ins T ((L.take i).map fun x=>if flagAt side x.1=true∧flagAt side x.2.1=false then x.2.2.1 else 0).sum:=fun i=>sum_take i (fun x hx=>by have:=hc x hx;split <;> omega) hB hT
 have HI:=qh hins
 have HG:=qh (And.intro hBg hD)
 have HR:=qh h
 have HS:=qh hs
 have HNB:=qh hn
 clear h hs hn hc hBg hD hT hins
 have kn:=zqa w (.cells #[.bool false,.slice none 0 0,.bool false,.slice none 0 0] 59)
 have HQ0:=qh (zkl w false none 0 0 false none 0 0)
 obtain ⟨W0,hW0⟩:∃ W0,W0=w.alloc (.cells #[.bool false,.slice none 0 0,.bool false,.slice none 0 0] 59):=⟨_,rfl⟩
 obtain ⟨g,hg⟩:∃ g,g=w.heap.size:=⟨_,rfl⟩
 have hgw:w.heap.size≤g:=by omega
 rw [← hW0] at kn HQ0
 rw [← hg] at HQ0
 obtain ⟨m,hm⟩:∃ m,m=side.length:=⟨_,rfl⟩
 rw [← hm] at HS HNB hsm ⊢
 have HM:=qh hm
 clear hm
 go_enter Tryz.func42,Tryz.ntmps42
 go_upto_region 1 with fail
 rw [← hW0,← hg]
 have HB0:=qh kn
 have HGW:=qh hgw
 clear hW0 hg kn hgw
 go_wp2_with fail
 go_fit (qs_zero (D:=D) _ (uh HG).1)
 rintro e W1 ⟨⟨v0,rfl,hv0⟩,B1⟩
 obtain ⟨x0,rfl⟩:=hv0.sh
 have HX0:=qh (QX.new hv0)
 have kn:=zqa W1 (.cells #[.bool x0.a,.slice x0.b x0.c x0.d,.bool x0.e,.slice x0.f x0.g x0.h] 59)
 have hlt:=((uh HQ0).later B1).lt
 have hsz:=(bk B1 (uh HB0)).size
 have HQ0:=qh (((uh HQ0).later B1).later kn)
 have HB0:=qh (bk kn (bk B1 (uh HB0)))
 obtain ⟨g2,hg2⟩:∃ g,g=W1.heap.size:=⟨_,rfl⟩
 rw [← hg2] at HX0 hlt hsz
 obtain ⟨V,hV⟩:∃ V,V=W1.alloc (.cells #[.bool x0.a,.slice x0.b x0.c x0.d,.bool x0.e,.slice x0.f x0.g x0.h] 59):=⟨_,rfl⟩
 rw [← hV] at HX0 HQ0 HB0
 have HG2:=qh (And.intro hlt hsz)
 clear hlt hsz B1 kn hv0
 go_upto_region 3 with fail
 rw [← hV,← hg2]
 clear hV hg2
 go_loopg [6] L.length (fun gk iv wr=>∃ (i:Nat) (x:F8 Bool),i≤L.length∧gk=L.length - i∧iv=.int .i64 (i:Int)∧Hid (Below w.heap.size w wr)∧Hid (QBox wr g)∧Hid (QX N D wr g2 x ((L.take i).map fun x=>if flagAt side x.1=true∧flagAt side x.2.1=false then x.2.2.1 else 0).sum))
 case atStart=>exact ⟨0,x0,by omega,by omega,rfl,HB0,HQ0,qh (by simpa using uh HX0)⟩
 case round =>
   clear HX0 HQ0 HB0
   obtain ⟨i,x,hi,hgk,rfl,HB,HQ,HX⟩:=hrel
   by_cases hil:i<L.length
   · obtain ⟨⟨fr,to',cp,co⟩,hx⟩:∃ x,L[i]? = some x:=⟨L[i],by simp [hil]⟩
     have hg:=uh HNB _ (List.mem_of_getElem? hx)
     obtain ⟨q1,q2,q3,q4,q5⟩:0≤fr∧fr<m∧0≤to'∧to'<m∧0≤cp:=by unfold badArc at hg;simp only at hg;omega
     obtain ⟨f,rfl⟩:∃ f:Nat,fr=(f:Int):=⟨fr.toNat,by omega⟩
     obtain ⟨t,rfl⟩:∃ f:Nat,to'=(f:Int):=⟨to'.toNat,by omega⟩
     obtain ⟨b1,hb1⟩:∃ b,side[f]? = some b:=⟨side[f]'(by have:=uh HM;omega),by simp⟩
     obtain ⟨b2,hb2⟩:∃ b,side[t]? = some b:=⟨side[t]'(by have:=uh HM;omega),by simp⟩
     obtain ⟨b,o,y,z,rfl,⟨c0,c1,c2,_⟩,⟨hy,_⟩,_⟩:=(uh HR).qarc hx
     obtain ⟨tb,tq,rfl,f0⟩:=(uh HS).flag hb1
     obtain ⟨tb',tq',e,f1⟩:=(uh HS).flag hb2
     obtain ⟨rfl,rfl⟩:tb=tb'∧tq=tq':=by simpa using e
     simp only at c0 c1 hy
     have c0:=ck (uh HB) c0
     have c1:=ck (uh HB) c1
     have f0:=ck (uh HB) f0
     have f1:=ck (uh HB) f1
     have HC:=qh (c2.keep (uh HB))
     have HY:=qh (hy.later (uh HB))
     have hF:flagAt side ((f:Int))=b1:=by simp [flagAt,List.getD,hb1]
     have hF2:flagAt side ((t:Int))=b2:=by simp [flagAt,List.getD,hb2]
     have HN:=qh (sum_next (f:=fun x:Int×Int×Int×Int=>if flagAt side x.1=true∧flagAt side x.2.1=false then x.2.2.1 else 0) hx)
     simp only [hF,hF2] at HN
     have hil':(i:Int)<(L.length:Int):=by omega
     have him:(i:Int)+1≤1000:=by omega
     clear hx hy c2 hg hb1 hb2 e hF hF2
     rcases b1 with _ | _
     · go_wp2
       go_roundg (L.length - (i+1))
       case measure=>omega
       case rel=>exact ⟨i+1,x,by omega,rfl,by go_num,HB,HQ,qh (by rw [uh HN];simpa using uh HX)⟩
     rcases b2 with _ | _
     rotate_left
     · go_wp2
       go_roundg (L.length - (i+1))
       case measure=>omega
       case rel=>exact ⟨i+1,x,by omega,rfl,by go_num,HB,HQ,qh (by rw [uh HN];simpa using uh HX)⟩
     simp only [and_self,if_true] at HN
     go_upto_region 6 with fail
     obtain ⟨k0,k1,k2,k3⟩:=uh HC
     have x0:=(uh HX).c0
     have x1:=(uh HX).c1
     have x2:=(uh HX).c2
     have x3:=(uh HX).c3
     clear f0 f1 c0 c1
     go_region_with (first
       | (go_at_call 40;go_fit (qs_add _ (uh HG).1 (uh HG).2 ((uh HX).q.later (Below.refl _ _).drew) ((uh HY).later (Below.refl _ _).drew) (by rw [← uh HN];exact uh HI _));rintro e W2 ⟨⟨v2,rfl,hv2⟩,B2⟩;obtain ⟨z2,rfl⟩:=hv2.sh;have HB:=qh (bk B2 (uh HB).drew);have HQ:=qh (((uh HQ).later (Below.refl _ _).drew).later B2);have HX:=qh (((uh HX).keep (Below.refl _ _).drew).keep B2);obtain ⟨⟨j0,h0⟩,⟨j1,j2,j3,h1⟩,⟨j4,h2⟩,⟨j5,j6,j7,h3⟩,gf⟩:=(uh HX).box.cells;have hlt:=(uh HX).box.lt;clear x0 x1 x2 x3 k0 k1 k2 k3))
     all_goals
       go_wp2
       go_roundg (L.length - (i+1))
       case measure=>omega
       case rel=>exact ⟨i+1,z2,by omega,rfl,by go_num,qh (zqd (uh HB) (uh HG2).2 _ _ _ _),qh ((uh HQ).aside (Nat.ne_of_lt (uh HG2).1) _ _ _ _),qh (by rw [uh HN];exact QX.put (uh HX).box hv2)⟩
   · obtain rfl:i=L.length:=by omega
     clear hil hi hgk
     rw [List.take_length] at HX
     have x0:=(uh HX).c0
     have x1:=(uh HX).c1
     have x2:=(uh HX).c2
     have x3:=(uh HX).c3
     obtain ⟨⟨j0,h0⟩,⟨j1,j2,j3,h1⟩,⟨j4,h2⟩,⟨j5,j6,j7,h3⟩,gf⟩:=(uh HQ).cells
     have hlt:=(uh HQ).lt
     go_wp2
     obtain ⟨st0,st1,st2,st3⟩:=(uh HQ).stored (.bool x.a) (.slice x.b x.c x.d) (.bool x.e) (.slice x.f x.g x.h)
     exact bodyPost_ret (v:=.agg #[.bool x.a,.slice x.b x.c x.d,.bool x.e,.slice x.f x.g x.h]) (by simp [results,Tryz.results42,go_sem,st0,st1,st2,st3]) rfl ⟨⟨_,rfl,(uh HX).q.stored (uh HQ) _ _ _ _⟩,zqd (uh HB) (uh HGW) _ _ _ _⟩
def wiP (L:List (Int×Int×Int×Int)) (F:List Int):Prop:=F.length=L.length∧∀ (i:Nat) (x:Int×Int×Int×Int) (f:Int),L[i]? = some x→F[i]? = some f→0≤f∧f≤x.2.2.1
theorem two_next {α β:Type}{L:List α}{F:List β}{p:α → β → Prop}{i:Nat}{x:α}{f:β} (h:∀ j y g,j<i→L[j]? = some y→F[j]? = some g→p y g) (hx:L[i]? = some x) (hf:F[i]? = some f) (hp:p x f):∀ j y g,j<i+1→L[j]? = some y→F[j]? = some g→p y g:=by
 intro j y g hj hy hg
 rcases Nat.lt_or_ge j i with h1 | h1
 · exact h j y g h1 hy hg
 · obtain rfl:j=i:=by omega
   rw [hx] at hy
   rw [hf] at hg
   obtain rfl:=Option.some.inj hy
   obtain rfl:=Option.some.inj hg
   exact hp
theorem sgn_lt {x:Int}:sgn x<0↔x<0:=by rcases zql x with ⟨h,e,_⟩ | ⟨h,e,_⟩ | ⟨h,e,_⟩ <;> omega
theorem sgn_gt {x:Int}:0<sgn x↔0<x:=by rcases zql x with ⟨h,e,_⟩ | ⟨h,e,_⟩ | ⟨h,e,_⟩ <;> omega
set_option maxHeartbeats 8000000 in
set_option maxRecDepth 8000 in
theorem rwithin_any {K N:Nat}{T D:Int}{v fv:Value}{L:List (Int×Int×Int×Int)}{F:List Int} (w:World) (hBg:Big K N T) (D0:0<D) (h:Rows 10 (ArE (QsE N D)) w v L) (hf:Rows 4 (QsE N D) w fv F) (hl:L.length≤300) :
   Calls Tryz.prog 43 #[v,fv] w fun e w'=>YesP e (wiP L F)∧Below w.heap.size w w':=by
 obtain ⟨sa,sc,rfl⟩:=h.shape
 obtain ⟨ta,tc,rfl⟩:=hf.shape
 have hsm:=hf.small
 unfold maxLen at hsm
 have HG:=qh (And.intro hBg D0)
 have HR:=qh h
 have HF:=qh hf
 clear h hf hBg D0
 obtain ⟨m,hm⟩:∃ m,m=F.length:=⟨_,rfl⟩
 obtain ⟨n,hn⟩:∃ m,m=L.length:=⟨_,rfl⟩
 rw [← hm] at HF hsm ⊢
 rw [← hn] at HR hl ⊢
 have HM:=qh (And.intro hm hn)
 clear hm hn
 go_enter Tryz.func43,Tryz.ntmps43
 by_cases hmn:m=n
 rotate_left
 · have hd:((m:Int) != (n:Int))=true:=by simp;omega
   go_wp2
   go_ret
   exact ⟨YesP.no fun h=>hmn (by have:=h.1;have:=uh HM;omega),Below.refl _ _⟩
 subst hmn
 have hd:((m:Int) != (m:Int))=false:=by simp
 go_wp2_with fail
 go_loopg [5] m (fun gk iv wr=>∃ i:Nat,i≤m∧gk=m - i∧iv=.int .i64 (i:Int)∧Hid (∀ (j:Nat) (y:Int×Int×Int×Int) (g:Int),j<i→L[j]? = some y→F[j]? = some g→0≤g∧g≤y.2.2.1)∧Hid (Below w.heap.size w wr))
 case atStart=>exact ⟨0,by omega,by omega,rfl,qh (fun j _ _ h=>by omega),qh (Below.refl _ _)⟩
 case round =>
   obtain ⟨i,hi,hgk,rfl,HA,HB⟩:=hrel
   by_cases hil:i<m
   · obtain ⟨⟨fr,to',cp,co⟩,hx⟩:∃ x,L[i]? = some x:=⟨L[i]'(by have:=uh HM;omega),by simp⟩
     obtain ⟨f,hf⟩:∃ x,F[i]? = some x:=⟨F[i]'(by have:=uh HM;omega),by simp⟩
     obtain ⟨b,o,y,z,rfl,⟨_,_,c2,_⟩,⟨hy,_⟩,_⟩:=(uh HR).qarc hx
     obtain ⟨b',o',u,rfl,d,hu⟩:=(uh HF).qnum hf
     simp only at hy
     obtain ⟨d0,d1,d2,d3⟩:=d.keep (uh HB)
     have HC:=qh c2
     have HD4:=qh d
     have HY:=qh (And.intro hy hu)
     have HX:=qh (And.intro hx hf)
     have hil':(i:Int)<(m:Int):=by omega
     have him:(i:Int)+1≤1000:=by omega
     clear hx hy hf hu c2 d
     go_wp2_with fail
     go_fit (qs_sign _ (uh HG).2 ((uh HY).2.later (uh HB)))
     rintro e W1 ⟨rfl,B1⟩
     have HB:=qh (bk B1 (uh HB))
     clear d0 d1 d2 d3 B1
     obtain ⟨sf,hsf⟩:∃ s,s=sgn f:=⟨_,rfl⟩
     rw [← hsf]
     have HSF:=qh hsf
     clear hsf
     obtain ⟨d0,d1,d2,d3⟩:=(uh HD4).keep (uh HB)
     obtain ⟨e0,e1,e2,e3⟩:=(uh HC).keep (uh HB)
     go_upto_region 7 with fail
     go_region_with (first
       | (go_at_call 41;go_fit (qs_cmp _ (uh HG).1 (uh HG).2 (((uh HY).2.later (uh HB)).later (Below.refl _ _).drew) (((uh HY).1.later (uh HB)).later (Below.refl _ _).drew));rintro e W2 ⟨rfl,B2⟩;have HB:=qh (bk B2 (uh HB).drew);clear B2 d0 d1 d2 d3 e0 e1 e2 e3))
     all_goals
       obtain ⟨sc',hsc⟩:∃ s,s=sgn (f - cp):=⟨_,rfl⟩
       rw [← hsc]
       by_cases q1:sf<0
       · go_wp2
         go_ret
         exact ⟨YesP.no fun h=>by have:=h.2 i _ _ (uh HX).1 (uh HX).2;have:=uh HSF;rw [this,sgn_lt] at q1;omega,uh HB⟩
       by_cases q2:0<sc'
       · go_wp2
         go_ret
         exact ⟨YesP.no fun h=>by have:=h.2 i _ _ (uh HX).1 (uh HX).2;rw [hsc,sgn_gt] at q2;simp only at this;omega,uh HB⟩
       have HQ:=qh (show 0≤f∧f≤cp by rw [uh HSF,sgn_lt] at q1;rw [hsc,sgn_gt] at q2;omega)
       clear hsc
       go_wp2
       go_roundg (m - (i+1))
       case measure=>omega
       case rel=>exact ⟨i+1,by omega,rfl,by go_num,qh (two_next (p:=fun y g=>0≤g∧g≤y.2.2.1) (uh HA) (uh HX).1 (uh HX).2 (uh HQ)),HB⟩
   · obtain rfl:i=m:=by omega
     clear hil hi hgk
     go_wp2
     go_ret
     exact ⟨YesP.yes ⟨by have:=uh HM;omega,fun j x f hx hf=>uh HA j x f (by have:=(List.getElem?_eq_some_iff.1 hx).1;have:=uh HM;omega) hx hf⟩,uh HB⟩
end Go.Proofs.YtkdobjmhammhbaaGreatDoor
