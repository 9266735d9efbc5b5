import Derived.Test.YtkdobjmhammhbaaGreatDoorMPA
import Derived.Test.YtkdobjmhammhbaaGreatDoorMI2
namespace Go.Proofs.YtkdobjmhammhbaaGreatDoor
open Go.RowKit
theorem sgn_lt {x:Int}:sgn x<0↔x<0:=by unfold sgn;split <;> (try split) <;> omega
theorem sgn_gt {x:Int}:0<sgn x↔0<x:=by unfold sgn;split <;> (try split) <;> omega
theorem sgn_nil {x:Int}:sgn x=0↔x=0:=by unfold sgn;split <;> (try split) <;> omega
def PredI (g:Nat) (lb:Array Value) (p:List Int→Bool) (w:World):Prop :=
 ∀ (W:World) (v:Value) (l:List Int),Below w.heap.size w W→Rows 1 JE W v l→Calls Tryz.prog g (#[v]++lb) W fun e w'=>e=.returned (.bool (p l))∧Below W.heap.size W w'
set_option maxHeartbeats 4000000 in
set_option maxRecDepth 8000 in
theorem idxI_any {g:Nat}{lb:Array Value}{p:List Int→Bool}{v:Value}{L:List (List Int)} (w:World) (eg:∀ args w,(callFunc g args).run Tryz.prog w=.ok (.enter g args) w) (h:Rows 1 (LE 1 JE) w v L) (hp:PredI g lb p w) :
   Calls Tryz.prog 158 #[v,.func (.func g) #[] lb] w fun e w'=>(∃ i:Int,e=.returned (.int .i64 i)∧(L.any p=decide (0≤i)))∧Below w.heap.size w w':=by
 obtain ⟨sa,sc,rfl⟩:=h.shape
 have HR:=qh h
 have hsm:=h.small
 unfold maxLen at hsm
 have HP:=qh hp
 clear h hp
 go_enter Tryz.func158,Tryz.ntmps158
 go_wp2_with fail
 go_loopg [5,8] L.length (fun gk _ iv wr=>∃ i:Nat,i≤L.length∧gk=L.length - i∧iv=.int .i64 (i:Int)∧Hid (Below w.heap.size w wr)∧Hid ((L.take i).any p=false))
 case atStart=>exact ⟨0,by omega,by omega,rfl,qh (Below.refl _ _),qh rfl⟩
 case round =>
   obtain ⟨i,hi,hgk,rfl,HB,HN⟩:=hrel
   by_cases hil:i<L.length
   · obtain ⟨x,hx⟩:∃ x,L[i]? = some x:=⟨L[i],by simp [hil]⟩
     obtain ⟨b,o,ra,rc,rfl,d,hu⟩:=(uh HR).row hx
     have c0:=ck (uh HB) d
     have HC:=qh (uh HP wr _ x (uh HB) (hu.later (JE.stays NoWord 0) (uh HB)))
     have hil':(i:Int)<(L.length:Int):=by omega
     have HS:=qh hx
     clear hx d hu
     go_wp2_with fail
     go_fit (uh HC)
     rintro e W1 ⟨rfl,hb⟩
     have HB':=qh (bk hb (uh HB))
     clear hb
     cases hq:p x
     · go_wp2
       go_roundg (L.length - (i+1))
       case measure=>omega
       case rel=>exact ⟨i+1,by omega,rfl,by go_num,HB',qh (by rw [tkn (uh HS)];simp only [List.any_append,List.any_cons,List.any_nil,hq];simpa using uh HN)⟩
     · go_wp2
       go_ret
       refine ⟨⟨_,rfl,?_⟩,uh HB'⟩
       rw [show L.any p=true from List.any_eq_true.2 ⟨x,List.mem_of_getElem? (uh HS),hq⟩]
       simp
   · obtain rfl:i=L.length:=by omega
     clear hil hi hgk
     go_wp2
     go_ret
     refine ⟨⟨_,rfl,?_⟩,uh HB⟩
     have:=uh HN
     rw [List.take_length] at this
     rw [this]
     rfl
set_option maxHeartbeats 4000000 in
set_option maxRecDepth 8000 in
theorem hasI_any {g:Nat}{lb:Array Value}{p:List Int→Bool}{v:Value}{L:List (List Int)} (w:World) (eg:∀ args w,(callFunc g args).run Tryz.prog w=.ok (.enter g args) w) (h:Rows 1 (LE 1 JE) w v L) (hp:PredI g lb p w) :
   Calls Tryz.prog 97 #[v,.func (.func g) #[] lb] w fun e w'=>e=.returned (.bool (L.any p))∧Below w.heap.size w w':=by
 have HC:=qh (idxI_any w eg h hp)
 obtain ⟨sa,sc,rfl⟩:=h.shape
 clear h hp
 go_enter Tryz.func97,Tryz.ntmps97
 go_wp2_with fail
 go_fit (uh HC)
 rintro e W1 ⟨⟨i,rfl,hi⟩,hb⟩
 have HI:=qh hi
 clear hi
 go_wp2
 go_ret
 exact ⟨by rw [uh HI];rfl,hb⟩
theorem below_any {K:Nat}{D:Int}{x:F8 Int}{s:Int} (w:World) (D0:0<D) (h:Rs K D w (vr x) s):Calls Tryz.prog 98 #[vr x] w fun e w'=>e=.returned (.bool (decide (s<0)))∧Below w.heap.size w w':=by
 have kn:=zqa w (.cells #[.int .i64 x.a,.slice x.b x.c x.d,.int .i64 x.e,.slice x.f x.g x.h] 39)
 have hx:=RX.new h
 have c0:=hx.c0
 have c1:=hx.c1
 have c2:=hx.c2
 have c3:=hx.c3
 have HX:=qh hx
 have HB:=qh kn
 clear h hx kn
 go_enter Tryz.func98,Tryz.ntmps98
 go_wp2_with fail
 go_fit (rs_sign _ D0 (uh HX).q)
 rintro e W1 ⟨rfl,B1⟩
 have HB:=qh (bk B1 (uh HB))
 obtain ⟨sg,hsg⟩:∃ t,t=sgn s:=⟨_,rfl⟩
 rw [← hsg]
 have HSG:=qh hsg
 clear hsg B1 c0 c1 c2 c3
 go_wp2
 go_ret
 refine ⟨?_,uh HB⟩
 have h1:=@sgn_lt s
 rw [← uh HSG] at h1
 show Ending.returned (.bool (decide (sg<0)))=_
 congr 2
 exact decide_eq_decide.2 h1
noncomputable def patB (r:Int) (L:List (Int×Int)) (p:List Int):Bool:=@decide (patP r L p) (Classical.propDecidable _)
theorem patB_iff {r:Int}{L:List (Int×Int)}{p:List Int}:patB r L p=true↔patP r L p:=by
 unfold patB
 exact @decide_eq_true_iff _ (Classical.propDecidable _)
theorem eg_none:∀ args w,(callFunc 95 args).run Tryz.prog w=.ok (.enter 95 args) w:=enters_of Tryz.func95 (by kernel_rfl) rfl
theorem eg_below:∀ args w,(callFunc 98 args).run Tryz.prog w=.ok (.enter 98 args) w:=enters_of Tryz.func98 (by kernel_rfl) rfl
set_option maxHeartbeats 4000000 in
theorem none_any {r:Int}{g1 g2:Nat}{v:Value}{L:List (Int×Int)} (w:World) (c1:w.cell? ⟨g1,0,none⟩=some (.int .i64 r)) (c2:w.cell? ⟨g2,0,none⟩=some v) (h:Rows 2 SzE w v L) (hr:1≤r∧r≤200) (hl:L.length≤12) (hL:∀ y ∈ L,okS r y) :
   PredI 95 #[.pointer (some ⟨g1,0,none⟩),.pointer (some ⟨g2,0,none⟩)] (fun p => !patB r L p) w:=by
 intro W pv p hb hp
 obtain ⟨sa,sc,rfl⟩:=h.shape
 have c1:=ck hb c1
 have c2:=ck hb c2
 have HC:=qh (isPat_any W (h.later (SzE.stays NoWord 0) hb) hp hr hl hL)
 obtain ⟨pa,pc,rfl⟩:=hp.shape
 clear h hp hb
 go_enter Tryz.func95,Tryz.ntmps95
 go_wp2_with fail
 go_fit (uh HC)
 rintro e W1 ⟨⟨b,rfl,h1⟩,rfl⟩
 have HQ:=qh (show (!b) = !patB r L p by rw [← patB_iff] at h1;cases b <;> cases hq:patB r L p <;> simp_all)
 clear h1
 go_wp2
 go_ret
 exact ⟨by rw [← uh HQ];rfl,Below.refl _ _⟩
structure CutR (w:World) (pg:Nat) (pa:Option Addr) (pn pc:Nat) (ta:Option Addr) (tn tc:Nat) (wa:Option Addr) (wn wc:Nat) (x:F8 Int):Prop where
 c0:w.cell? ⟨pg,0,none⟩=some (.slice pa pn pc)
 c1:w.cell? ⟨pg,1,none⟩=some (.slice ta tn tc)
 c2:w.cell? ⟨pg,2,none⟩=some (.slice wa wn wc)
 c3:R4 w pg 3 x
theorem CutR.keep {w w1:World}{pg:Nat}{pa:Option Addr}{pn pc:Nat}{ta:Option Addr}{tn tc:Nat}{wa:Option Addr}{wn wc:Nat}{x:F8 Int} (h:CutR w pg pa pn pc ta tn tc wa wn wc x) (hb:Below w.heap.size w w1):CutR w1 pg pa pn pc ta tn tc wa wn wc x:=⟨ck hb h.c0,ck hb h.c1,ck hb h.c2,h.c3.keep hb⟩
def fitP (r:Int) (L:List (Int×Int)) (Pt:List (List Int)) (T W:List Int):Prop:=(T.length=Pt.length∧W.length=L.length)∧(∀ p ∈ Pt,patP r L p)∧(∀ t ∈ T,0≤t)∧∀ t ∈ W,0≤t
theorem any_neg {l:List Int}:l.any (fun s=>decide (s<0))=false↔∀ t ∈ l,0≤t:=by
 rw [List.any_eq_false]
 exact ⟨fun h t ht=>by have:=h t ht;simp at this;exact this,fun h t ht=>by have:=h t ht;simp;exact this⟩
theorem any_nopat {r:Int}{L:List (Int×Int)}{Pt:List (List Int)}:Pt.any (fun p => !patB r L p)=false↔∀ p ∈ Pt,patP r L p:=by
 rw [List.any_eq_false]
 exact ⟨fun h t ht=>by have:=h t ht;rw [← patB_iff];simpa using this,fun h t ht=>by have:=patB_iff.2 (h t ht);simp [this]⟩
set_option maxHeartbeats 8000000 in
set_option maxRecDepth 8000 in
theorem fits_any {K pg:Nat}{r D:Int}{v:Value}{L:List (Int×Int)}{Pt:List (List Int)}{T W:List Int}{pa ta wa:Option Addr}{pn pc tn tc wn wc:Nat}{x:F8 Int} (w:World) (D0:0<D) (h:Rows 2 SzE w v L) (hp:CutR w pg pa pn pc ta tn tc wa wn wc x) (hpt:Rows 1 (LE 1 JE) w (.slice pa pn pc) Pt) (ht:Rows 4 (RsE K D) w (.slice ta tn tc) T) (hw:Rows 4 (RsE K D) w (.slice wa wn wc) W) (hr:1≤r∧r≤200) (hl:L.length≤12) (hL:∀ y ∈ L,okS r y) :
   Calls Tryz.prog 49 #[.int .i64 r,v,.pointer (some ⟨pg,0,none⟩)] w fun e w'=>YesP e (fitP r L Pt T W)∧Below w.heap.size w w':=by
 obtain ⟨sa,sc,rfl⟩:=h.shape
 have sl1:=hpt.small
 have sl2:=ht.small
 have sl3:=hw.small
 unfold maxLen at sl1 sl2 sl3
 obtain rfl:=hpt.len
 obtain rfl:=ht.len
 obtain rfl:=hw.len
 obtain ⟨V,hV⟩:∃ V,V=(w.alloc (.cells #[.int .i64 r] 3)).alloc (.cells #[.slice sa L.length sc] 72):=⟨_,rfl⟩
 obtain ⟨g,hg⟩:∃ g,g=w.heap.size:=⟨_,rfl⟩
 have k1:=bk (zqa (w.alloc (.cells #[.int .i64 r] 3)) (.cells #[.slice sa L.length sc] 72)) (zqa w _)
 have q1:V.cell? ⟨g,0,none⟩=some (.int .i64 r):=by rw [hV,hg];exact ck (zqa _ _) (by rw [zqe rfl];rfl)
 have q2:V.cell? ⟨g+1,0,none⟩=some (.slice sa L.length sc):=by
   rw [hV,hg,show w.heap.size+1=(w.alloc (.cells #[.int .i64 r] 3)).heap.size by simp,zqe rfl];rfl
 rw [← hV] at k1
 obtain ⟨p0,p1,p2,_⟩:=hp.keep k1
 have HH:=qh (And.intro (h.later (SzE.stays NoWord 0) k1) (And.intro (hpt.later (LE.stays (JE.stays IsSl 0) JE.other) k1) (And.intro (ht.later (RsE.stays K D 0 nww) k1) (hw.later (RsE.stays K D 0 nww) k1))))
 have HQ:=qh (And.intro q1 q2)
 have HB:=qh k1
 have HL:=qh hL
 clear h hp hpt ht hw hL k1
 go_enter Tryz.func49,Tryz.ntmps49
 go_upto_region 1 with fail
 rw [← hV,← hg]
 clear hV hg
 by_cases hl1:T.length=Pt.length
 rotate_left
 · have hd:((T.length:Int) != (Pt.length:Int))=true:=by simp;omega
   have FIN:=qh (show ¬ fitP r L Pt T W from fun h=>hl1 h.1.1)
   go_quiet (fail)
   have HB:=qh (zqi (uh HB) nq)
   go_wp2
   go_ret
   exact ⟨YesP.no (uh FIN),uh HB⟩
 have hd:((T.length:Int) != (Pt.length:Int))=false:=by simp;omega
 by_cases hl2:W.length=L.length
 rotate_left
 · have hd2:((W.length:Int) != (L.length:Int))=true:=by simp;omega
   have FIN:=qh (show ¬ fitP r L Pt T W from fun h=>hl2 h.1.2)
   go_quiet (fail)
   have HB:=qh (zqi (uh HB) nq)
   go_wp2
   go_ret
   exact ⟨YesP.no (uh FIN),uh HB⟩
 have hd2:((W.length:Int) != (L.length:Int))=false:=by simp;omega
 have HLL:=qh (And.intro hl1 hl2)
 go_quiet (fail)
 have kq:=zqi (Below.refl V.heap.size V) nq
 obtain ⟨V1,hV1⟩:∃ V1,V1=V.drewN nq:=⟨_,rfl⟩
 rw [← hV1] at kq ⊢
 have HB:=qh (bk kq (uh HB))
 obtain ⟨h1,h2,h3,h4⟩:=uh HH
 have p0:=ck kq p0
 have p1:=ck kq p1
 have p2:=ck kq p2
 have HP:=qh (And.intro p0 (And.intro p1 p2))
 have HC1:=qh (fun (Y:World) (hb:Below V1.heap.size V1 Y)=>hasI_any Y eg_none (h2.later (LE.stays (JE.stays IsSl 0) JE.other) (bk hb kq)) (none_any Y (ck (bk hb kq) (uh HQ).1) (ck (bk hb kq) (uh HQ).2) (h1.later (SzE.stays NoWord 0) (bk hb kq)) hr hl (uh HL)))
 have HC2:=qh (fun (Y:World) (hb:Below V1.heap.size V1 Y)=>hasQ_any (K:=K) (D:=D) (g:=98) (lb:=#[]) (p:=fun s=>decide (s<0)) Y eg_below (h3.later (RsE.stays K D 0 nww) (bk hb kq)) (fun Z x s _ hs=>below_any Z D0 hs))
 have HC3:=qh (fun (Y:World) (hb:Below V1.heap.size V1 Y)=>hasQ_any (K:=K) (D:=D) (g:=98) (lb:=#[]) (p:=fun s=>decide (s<0)) Y eg_below (h4.later (RsE.stays K D 0 nww) (bk hb kq)) (fun Z x s _ hs=>below_any Z D0 hs))
 clear hV1 kq hd hd2 q1 q2 p0 p1 p2 h1 h2 h3 h4 hl1 hl2
 go_upto_region 4 with fail
 have HF:=qh (show fitP r L Pt T W↔(Pt.any fun p => !patB r L p)=false∧(T.any fun s=>decide (s<0))=false∧(W.any fun s=>decide (s<0))=false by
   rw [any_nopat,any_neg,any_neg]
   exact ⟨fun h=>h.2,fun h=>⟨uh HLL,h⟩⟩)
 obtain ⟨b1,hb1⟩:∃ b,b=Pt.any fun p => !patB r L p:=⟨_,rfl⟩
 obtain ⟨b2,hb2⟩:∃ b,b=T.any fun s=>decide (s<0):=⟨_,rfl⟩
 obtain ⟨b3,hb3⟩:∃ b,b=W.any fun s=>decide (s<0):=⟨_,rfl⟩
 rw [← hb1,← hb2,← hb3] at HF
 rw [← hb1] at HC1
 rw [← hb2] at HC2
 rw [← hb3] at HC3
 clear hb1 hb2 hb3
 obtain ⟨p0,p1,p2⟩:=uh HP
 go_wp2_with fail
 go_fit (uh HC1 _ (Below.refl _ _))
 rintro e W1 ⟨rfl,B1⟩
 have HB:=qh (bk B1 (uh HB))
 have HBV:=qh B1
 clear B1
 rcases b1 with _ | _
 rotate_left
 · have FIN:=qh (show ¬ fitP r L Pt T W from fun h=>by have:=(uh HF).1 h;simp at this)
   go_wp2
   go_ret
   exact ⟨YesP.no (uh FIN),uh HB⟩
 have p0:=ck (uh HBV) p0
 have p1:=ck (uh HBV) p1
 have p2:=ck (uh HBV) p2
 go_wp2_with fail
 go_fit (uh HC2 _ (uh HBV))
 rintro e W2 ⟨rfl,B2⟩
 have HB:=qh (bk B2 (uh HB))
 have HBV:=qh (bk B2 (uh HBV))
 have p2:=ck B2 p2
 clear B2
 rcases b2 with _ | _
 rotate_left
 · have FIN:=qh (show ¬ fitP r L Pt T W from fun h=>by have:=(uh HF).1 h;simp at this)
   go_wp2
   go_ret
   exact ⟨YesP.no (uh FIN),uh HB⟩
 go_wp2_with fail
 go_fit (uh HC3 _ (uh HBV))
 rintro e W3 ⟨rfl,B3⟩
 have HB:=qh (bk B3 (uh HB))
 have FIN:=qh (show b3=false↔fitP r L Pt T W from ⟨fun h=>(uh HF).2 (by simpa using h),fun h=>by have:=(uh HF).1 h;simpa using this⟩)
 clear B3
 go_wp2
 go_ret
 exact ⟨YesP.of (by rw [← uh FIN];cases b3 <;> simp),uh HB⟩
theorem else4o {g:Nat} (w:World) (o:Nat) (u0 u1 u2 u3:Value):Elsewhere g w ((((w.setCell ⟨g,o,none⟩ u0).setCell ⟨g,o+1,none⟩ u1).setCell ⟨g,o+2,none⟩ u2).setCell ⟨g,o+3,none⟩ u3):=fun b hb=>by
 rw [Below.heap_setCell _ _ _ _ hb,Below.heap_setCell _ _ _ _ hb,Below.heap_setCell _ _ _ _ hb,Below.heap_setCell _ _ _ _ hb]
theorem Fill.elsewhere {α:Type}{K:Value→Prop}{k:Nat}{E:World→List Value → α → Prop}{t:TypeId}{w w':World}{g n q:Nat}{L:List α} (h:Fill K k E t w g n L) (he:Elsewhere q w w') (hne:g≠q) (hE:∀ cs x,E w cs x→E w' cs x):Fill K k E t w' g n L:=by
 obtain ⟨cur,h1,h2,h3,h4,h5⟩:=h
 refine ⟨cur,by rw [he g hne];exact h1,h2,h3,h4,fun i x hx => ?_⟩
 obtain ⟨cs,hl,hcs,hx⟩:=h5 i x hx
 exact ⟨cs,hl,hcs,hE cs x hx⟩
theorem QBox.elsewhere {w w':World}{q r:Nat} (h:QBox w r) (he:Elsewhere q w w') (hne:r≠q):QBox w' r:=by
 obtain ⟨x1,x2,x3,x4,x5,x6,x7,x8,hb⟩:=h
 exact ⟨x1,x2,x3,x4,x5,x6,x7,x8,by rw [he r hne];exact hb⟩
theorem QBox.chgI {w w':World}{q:Nat} (h:QBox w q) (he:Elsewhere q w w'):Chg NoInt 59 w w':=by
 obtain ⟨x,a,n,c,y,b,m,k,h⟩:=h
 exact he.chg h (kd_q x a n c y b m k)
structure RcS (w:World) (N:Nat) (D:Int) (g0 g m:Nat) (t:List Int) (W:World):Prop where
 below:Below w.heap.size w W
 box:QBox W g0
 fill:Fill NoInt 4 (QsE N D) 59 W g m t
theorem RcS.keep {w:World}{N:Nat}{D:Int}{g0 g m:Nat}{t:List Int}{W W':World} (h:RcS w N D g0 g m t W) (hb:Below W.heap.size W W'):RcS w N D g0 g m t W':=⟨bk hb h.below,h.box.later hb,h.fill.later (qse_stays N D) hb⟩
theorem RcS.beside {w:World}{N:Nat}{D:Int}{g0 g m q:Nat}{t:List Int}{W:World} (h:RcS w N D g0 g m t W) (hq:QBox W q) (h0:w.heap.size≤q) (h1:g0≠q) (h2:g≠q) (u0 u1 u2 u3:Value):RcS w N D g0 g m t ((((W.setCell ⟨q,0,none⟩ u0).setCell ⟨q,1,none⟩ u1).setCell ⟨q,2,none⟩ u2).setCell ⟨q,3,none⟩ u3) :=
 have he:=else4 (q:=q) W u0 u1 u2 u3
 ⟨zkn (o:=0) h.below h0 _ _ _ _,h.box.elsewhere he h1,h.fill.elsewhere he h2 fun _ _ hx=>qse_stays N D _ _ _ _ hx (hq.chgI he)⟩
theorem RcS.snoc {w:World}{N:Nat}{D:Int}{g0 g m:Nat}{t:List Int}{W:World}{s:Int}{y:F8 Bool} (h:RcS w N D g0 g m t W) (hlt:t.length<m) (h0:w.heap.size≤g) (h1:g0≠g) (hy:Qs N D W (vq y) s):RcS w N D g0 g m (t++[s]) ((((W.setCell ⟨g,t.length*4,none⟩ (.bool y.a)).setCell ⟨g,t.length*4+1,none⟩ (.slice y.b y.c y.d)).setCell ⟨g,t.length*4+2,none⟩ (.bool y.e)).setCell ⟨g,t.length*4+3,none⟩ (.slice y.f y.g y.h)) :=
 ⟨zkn h.below h0 _ _ _ _,h.box.elsewhere (else4o _ _ _ _ _ _) h1,(h.fill.put4 (qse_stays N D) hlt (kd_q _ _ _ _ _ _ _ _) ⟨_,_,_,_,_,_,_,_,rfl,hy⟩).1⟩
theorem RcS.set {w:World}{N:Nat}{D:Int}{g0 g m i:Nat}{t:List Int}{W:World}{s:Int}{y:F8 Bool} (h:RcS w N D g0 g m t W) (hlt:i<t.length) (h0:w.heap.size≤g) (h1:g0≠g) (hy:Qs N D W (vq y) s):RcS w N D g0 g m (t.set i s) ((((W.setCell ⟨g,i*4,none⟩ (.bool y.a)).setCell ⟨g,i*4+1,none⟩ (.slice y.b y.c y.d)).setCell ⟨g,i*4+2,none⟩ (.bool y.e)).setCell ⟨g,i*4+3,none⟩ (.slice y.f y.g y.h)) :=
 ⟨zkn h.below h0 _ _ _ _,h.box.elsewhere (else4o _ _ _ _ _ _) h1,h.fill.set4 (qse_stays N D) hlt (kd_q _ _ _ _ _ _ _ _) ⟨_,_,_,_,_,_,_,_,rfl,hy⟩⟩
theorem zip_take {L:List (Int×Int)}{W:List Int}{i:Nat}{x:Int×Int}{s:Int} (hx:L[i]? = some x) (hs:W[i]? = some s):(L.zip W).take (i+1)=(L.zip W).take i++[(x,s)]:=tkn (by rw [List.getElem?_zip_eq_some];exact ⟨hx,hs⟩)
theorem lng_zip {r:Int}{L:List (Int×Int)} (W:List Int) (h:∀ y ∈ L,okS r y):Lng (L.zip W):=fun q hq=>(h q.1 (List.of_mem_zip hq).1).2.1
set_option maxHeartbeats 16000000 in
set_option maxRecDepth 8000 in
theorem rrich_any {K N r:Nat}{T D B:Int}{v wv:Value}{L:List (Int×Int)}{W:List Int} (w:World) (hBg:Big K N T) (hD:Dn T D) (h:Rows 2 SzE w v L) (hw:Rows 4 (QsE N D) w wv W) (hr:1≤r∧r≤200) (hL:∀ y ∈ L,okS (r:Int) y) (hlen:W.length=L.length) (hl:L.length≤12) (hB:0≤B) (hW:∀ s ∈ W,-B≤s∧s≤B) (hT:1000*B<T) :
   Calls Tryz.prog 53 #[.int .i64 (r:Int),v,wv] w fun e w'=>(∃ v,e=.returned v∧Qs N D w' v (bz (L.zip W) r))∧Below w.heap.size w w':=by
 obtain ⟨sa,sc,rfl⟩:=h.shape
 obtain ⟨ta,tc,rfl⟩:=hw.shape
 have hz:Lng (L.zip W):=lng_zip W hL
 have hbd:∀ n,n≤200→0≤bz (L.zip W) n∧bz (L.zip W) n≤200*B:=fun n hn=>⟨bz_nonneg _ _,by
   have h1:=bz_ins hz hB (fun q hq=>(hW q.2 (List.of_mem_zip hq).2).2) n
   have h2:(n:Int)*B≤200*B:=Int.mul_le_mul_of_nonneg_right (by omega) hB
   omega⟩
 have HBD:=qh (And.intro hbd (And.intro hW (And.intro hB hT)))
 have HZ:=qh hz
 have HG:=qh (And.intro hBg hD)
 have HR:=qh h
 have HW:=qh hw
 have HL:=qh hL
 obtain ⟨m,hm⟩:∃ m,m=L.length:=⟨_,rfl⟩
 rw [← hm] at HR hl hlen ⊢
 rw [hlen] at HW ⊢
 have HM:=qh (And.intro hm hlen)
 clear h hw hBg hD hz hbd hW hB hT hL hm hlen
 have hmk:=run_make_k (P:=Tryz.prog) 52 59 _ 4 64 Tryz.underlying52 info_q .i64 .i64 (r+1) (by omega) (by omega)
 rw [show ((r+1:Nat):Int)=(r:Int)+1 from rfl] at hmk
 obtain ⟨g0,hg0⟩:∃ g,g=w.heap.size:=⟨_,rfl⟩
 obtain ⟨V,hV⟩:∃ V,V=(w.alloc (.cells #[.bool false,.slice none 0 0,.bool false,.slice none 0 0] 59)).alloc (.cells (madeCells #[Value.bool false,.slice none 0 0,.bool false,.slice none 0 0] ((r+1)*4)) 59):=⟨_,rfl⟩
 have hS0:RcS w N D g0 (g0+1) (r+1) [] V:=by
   have hsz:(w.alloc (.cells #[.bool false,.slice none 0 0,.bool false,.slice none 0 0] 59)).heap.size=g0+1:=by rw [hg0];simp
   rw [hV]
   refine ⟨bk (zqa _ _) (zqa _ _),?_,?_⟩
   · rw [hg0]
     exact (zkc w false none 0 0 false none 0 0).later (zqa _ _)
   · rw [← hsz]
     exact Fill.new (z:=#[Value.bool false,.slice none 0 0,.bool false,.slice none 0 0]) _ _ zk_q (by decide)
 have HS:=qh hS0
 have hw0:(r:Int)+1≤300:=by omega
 clear hS0
 go_enter Tryz.func53,Tryz.ntmps53
 go_upto_region 2 with fail
 rw [← hV,← hg0]
 have HGW:=qh (show w.heap.size≤g0 by omega)
 clear hV hg0 hmk
 go_wp2_with fail
 go_loopg [8] (r+1) (fun gk nv wr=>∃ n:Nat,n≤r+1∧gk=r+1 - n∧nv=.int .i64 (n:Int)∧Hid (RcS w N D g0 (g0+1) (r+1) (bt (L.zip W) n) wr))
 case atStart=>exact ⟨0,by omega,by omega,rfl,HS⟩
 case round =>
   clear HS
   obtain ⟨n,hn,hgk,rfl,HS⟩:=hrel
   by_cases hnr:n<r+1
   · have hnr':(n:Int)≤(r:Int):=by omega
     have hnm:(n:Int)+1≤1000:=by omega
     go_wp2_with fail
     go_fit (qs_zero (D:=D) _ (uh HG).1)
     rintro e W1 ⟨⟨v0,rfl,hv0⟩,B1⟩
     obtain ⟨x0,rfl⟩:=hv0.sh
     have HS:=qh ((uh HS).keep B1)
     have hbl:=bt_len (L.zip W) n
     obtain ⟨u0,h0⟩:=(uh HS).fill.cell (o:=n*4) (by omega)
     obtain ⟨u1,h1⟩:=(uh HS).fill.cell (o:=n*4+1) (by omega)
     obtain ⟨u2,h2⟩:=(uh HS).fill.cell (o:=n*4+2) (by omega)
     obtain ⟨u3,h3⟩:=(uh HS).fill.cell (o:=n*4+3) (by omega)
     have f0:=(uh HS).fill.free (n*4)
     have f1:=(uh HS).fill.free (n*4+1)
     have f2:=(uh HS).fill.free (n*4+2)
     have f3:=(uh HS).fill.free (n*4+3)
     have hlt:=(uh HS).fill.lt
     have hp:=(uh HS).snoc (y:=x0) (s:=0) (by omega) (by have:=uh HGW;omega) (by omega) hv0
     rw [hbl] at hp
     obtain ⟨Y,hY⟩:∃ Y,Y=(((W1.setCell ⟨g0+1,n*4,none⟩ (.bool x0.a)).setCell ⟨g0+1,n*4+1,none⟩ (.slice x0.b x0.c x0.d)).setCell ⟨g0+1,n*4+2,none⟩ (.bool x0.e)).setCell ⟨g0+1,n*4+3,none⟩ (.slice x0.f x0.g x0.h):=⟨_,rfl⟩
     rw [← hY] at hp
     have HP:=qh hp
     clear hp hbl B1 hv0
     go_upto_region 7 with fail
     rw [← hY]
     clear hY h0 h1 h2 h3 f0 f1 f2 f3 hlt HS
     go_loopg [9] m (fun gk iv wr=>∃ (i:Nat),i≤m∧gk=m - i∧iv=.int .i64 (i:Int)∧Hid (RcS w N D g0 (g0+1) (r+1) (bt (L.zip W) n++[fb (bz (L.zip W)) n ((L.zip W).take i) 0]) wr))
     case atStart=>exact ⟨0,by omega,by omega,rfl,qh (by simpa [fb] using uh HP)⟩
     case round =>
       clear HP
       obtain ⟨i,hi,hgk,rfl,HS⟩:=hrel
       by_cases him:i<m
       · obtain ⟨⟨lo,wa⟩,hx⟩:∃ x,L[i]? = some x:=⟨L[i]'(by have:=uh HM;omega),by simp⟩
         obtain ⟨s,hs⟩:∃ x,W[i]? = some x:=⟨W[i]'(by have:=uh HM;omega),by simp⟩
         have hok:=uh HL _ (List.mem_of_getElem? hx)
         obtain ⟨hlo1,hlo2⟩:1≤lo∧lo≤(r:Int):=hok.2
         obtain ⟨k,rfl⟩:∃ k:Nat,lo=(k:Int):=⟨lo.toNat,by omega⟩
         obtain ⟨b,o,rfl,c0,_,_⟩:=(uh HR).size2 hx
         obtain ⟨b',o',y,rfl,d,hy⟩:=(uh HW).qnum hs
         simp only at c0
         have c0:=ck (uh HS).below c0
         have HC:=qh (And.intro (d.keep (uh HS).below) (hy.later (uh HS).below))
         have HX:=qh (zip_take hx hs)
         have HSB:=qh (And.intro ((uh HBD).2.1 s (List.mem_of_getElem? hs)) (And.intro hlo1 (List.mem_of_getElem? (show (L.zip W)[i]? = some (((k:Int),wa),s) by rw [List.getElem?_zip_eq_some];exact ⟨hx,hs⟩))))
         have him':(i:Int)<(m:Int):=by omega
         have him2:(i:Int)+1≤1000:=by omega
         obtain ⟨cu,hcu⟩:∃ c,c=fb (bz (L.zip W)) n ((L.zip W).take i) 0:=⟨_,rfl⟩
         rw [← hcu] at HS
         have HCU:=qh hcu
         clear hx hs d hy hok hcu
         by_cases hkn:(n:Int)<(k:Int)
         · have HN:=qh (show fb (bz (L.zip W)) n ((L.zip W).take (i+1)) 0=cu by rw [uh HX,fb_snoc,if_neg (by simp only;omega),← uh HCU])
           go_wp2
           go_roundg (m - (i+1))
           case measure=>omega
           case rel=>exact ⟨i+1,by omega,rfl,by go_num,qh (by rw [uh HN];exact uh HS)⟩
         have hkn':k≤n:=by omega
         have hbl:=bt_len (L.zip W) n
         obtain ⟨j,hj⟩:∃ j,j=n - k:=⟨_,rfl⟩
         have hje:(n:Int) - (k:Int)=(j:Int):=by omega
         have hjn:j<n:=by omega
         have htj:(bt (L.zip W) n++[cu])[j]? = some (bz (L.zip W) j):=by rw [List.getElem?_append_left (by omega),bt_at _ hjn]
         have htn:(bt (L.zip W) n++[cu])[n]? = some cu:=by rw [List.getElem?_append_right (by omega),hbl];simp
         obtain ⟨yj,hyj4,hyj⟩:=(uh HS).fill.q4 htj
         obtain ⟨yn,hyn4,hyn⟩:=(uh HS).fill.q4 htn
         have hbj:=(uh HBD).1 j (by omega)
         have HI:=qh (show Ins T (bz (L.zip W) j+s) by have:=(uh HSB).1;have:=(uh HBD).2.2;unfold Ins;omega)
         have HN:=qh (show fb (bz (L.zip W)) n ((L.zip W).take (i+1)) 0=max cu (bz (L.zip W) j+s) by rw [uh HX,fb_snoc,if_pos (by simp only;omega),← uh HCU];simp only [Int.toNat_natCast];rw [← hj])
         have HS0:=qh (uh HS).below
         have HYJ:=qh hyj
         have HYN:=qh (And.intro hyn4 hyn)
         have HJ:=qh (And.intro hj (And.intro hjn hbl))
         have ew:wrap64 ((n:Int) - (k:Int))=(j:Int):=by rw [hje];unfold wrap64;omega
         have ew2:IntKind.i64.wrap ((n:Int) - (k:Int))=(j:Int):=by rw [wrapI64];exact ew
         have hj0:(0:Int)≤(j:Int):=by omega
         have hj1:(j:Int)<(r:Int)+1:=by omega
         have HS00:=qh (show wr.cell? ⟨b,o+i*2,none⟩=_∧wr.cell? ⟨g0+1,j*4,none⟩=_∧wr.cell? ⟨g0+1,j*4+1,none⟩=_∧wr.cell? ⟨g0+1,j*4+2,none⟩=_∧wr.cell? ⟨g0+1,j*4+3,none⟩=_∧wr.cell? ⟨b',o'+i*4,none⟩=_∧wr.cell? ⟨b',o'+i*4+1,none⟩=_∧wr.cell? ⟨b',o'+i*4+2,none⟩=_∧wr.cell? ⟨b',o'+i*4+3,none⟩=_ from ⟨c0,hyj4.1,hyj4.2.1,hyj4.2.2.1,hyj4.2.2.2,(uh HC).1.1,(uh HC).1.2.1,(uh HC).1.2.2.1,(uh HC).1.2.2.2⟩)
         clear htj htn hyj4 hyj hyn4 hyn hbj hje hj hbl
         go_upto_region 10 with fail
         go_cut [10] (fun tv wx=>∃ (q:Nat) (z:F8 Bool),tv=.pointer (some ⟨q,0,none⟩)∧g0+1<q∧Hid (QX N D wx q z (bz (L.zip W) j+s))∧Hid (Below wr.heap.size wr wx)∧Hid (RcS w N D g0 (g0+1) (r+1) (bt (L.zip W) n++[cu]) wx))
         case first =>
           have hgl:=(uh HS).fill.lt
           go_region_held3 (fun w'=>w'.cell? ⟨b,o+i*2,none⟩=some (.int .i64 (k:Int))∧w'.cell? ⟨g0+1,j*4,none⟩=some (.bool yj.a)∧w'.cell? ⟨g0+1,j*4+1,none⟩=some (.slice yj.b yj.c yj.d)∧w'.cell? ⟨g0+1,j*4+2,none⟩=some (.bool yj.e)∧w'.cell? ⟨g0+1,j*4+3,none⟩=some (.slice yj.f yj.g yj.h)∧w'.cell? ⟨b',o'+i*4,none⟩=some (.bool y.a)∧w'.cell? ⟨b',o'+i*4+1,none⟩=some (.slice y.b y.c y.d)∧w'.cell? ⟨b',o'+i*4+2,none⟩=some (.bool y.e)∧w'.cell? ⟨b',o'+i*4+3,none⟩=some (.slice y.f y.g y.h))
             (first | with_reducible exact ck9 (Below.refl _ _).drew (uh HS00) | with_reducible exact ck9 (zqa _ _).drew (uh HS00) | with_reducible exact ck9 (uh BW) (uh HS00) | with_reducible exact ck9 (bk (zqa _ _) (uh BW)) (uh HS00) | with_reducible exact ck9 (zqf (uh BW) (by omega) _ _ _ _) (uh HS00))
             (first
             | (go_at_call 40;(first | go_fit (qs_add _ (uh HG).1 (uh HG).2 ((uh HYJ).later (Below.refl _ _).drew) ((uh HC).2.later (Below.refl _ _).drew) (uh HI)) | go_fit (qs_add _ (uh HG).1 (uh HG).2 ((uh HYJ).later (zqa _ _).drew) ((uh HC).2.later (zqa _ _).drew) (uh HI)));rintro e9 Y1 ⟨⟨vm,rfl,hM⟩,hb⟩;obtain ⟨z,rfl⟩:=hM.sh;(first | (have BW:=qh (bk hb (Below.refl wr.heap.size wr).drew);have HS:=qh (((uh HS).keep (Below.refl _ _).drew).keep hb)) | (have BW:=qh (bk hb (zqa wr (.cells #[.bool false,.slice none 0 0,.bool false,.slice none 0 0] 59)).drew);have HS:=qh ((((uh HS).keep (zqa wr (.cells #[.bool false,.slice none 0 0,.bool false,.slice none 0 0] 59))).keep (Below.refl _ _).drew).keep hb);have hbx:=(show QBox (wr.alloc (.cells #[.bool false,.slice none 0 0,.bool false,.slice none 0 0] 59)).drew wr.heap.size from zkc wr false none 0 0 false none 0 0).later hb;obtain ⟨⟨x0,e0⟩,⟨x1,x2,x3,e1⟩,⟨x4,e2⟩,⟨x5,x6,x7,e3⟩,gf⟩:=hbx.cells;have hxlt:=hbx.lt));clear hb))
           all_goals
             have hsz:=(uh BW).size
             have hgw:=uh HGW
             go_wp2
             go_meet
             first
               | exact ⟨_,_,rfl,by omega,qh (QX.new hM),qh (bk (zqa _ _) (uh BW)),qh ((uh HS).keep (zqa _ _))⟩
               | exact ⟨_,_,rfl,by omega,qh (QX.put hbx hM),qh (zkn (o:=0) (uh BW) (Nat.le_refl _) _ _ _ _),qh ((uh HS).beside hbx (by have:=(uh HS0).size;omega) (by omega) (by omega) _ _ _ _)⟩
         case rest =>
           obtain ⟨q,z,rfl,hq,HT,HBW,HS⟩:=hcut
           obtain ⟨Z,rfl⟩:∃ X,X=wc:=⟨_,rfl⟩
           have HQC:=qh (fun (y:Abv Z)=>qs_cmp y.val (uh HG).1 (uh HG).2.1 ((uh HT).q.later y.property) ((uh HYN).2.later (bk y.property (uh HBW))))
           obtain ⟨sg,hsg⟩:∃ x,x=sgn (bz (L.zip W) j+s - cu):=⟨_,rfl⟩
           rw [← hsg] at HQC
           have hgt:=@sgn_gt (bz (L.zip W) j+s - cu)
           rw [← hsg] at hgt
           have HGT:=qh hgt
           have ne:=Abv.some Z
           have t0:∀ y:Abv Z,y.val.cell? ⟨q,0,none⟩=_:=fun y=>ck y.property (uh HT).c0
           have t1:∀ y:Abv Z,y.val.cell? ⟨q,1,none⟩=_:=fun y=>ck y.property (uh HT).c1
           have t2:∀ y:Abv Z,y.val.cell? ⟨q,2,none⟩=_:=fun y=>ck y.property (uh HT).c2
           have t3:∀ y:Abv Z,y.val.cell? ⟨q,3,none⟩=_:=fun y=>ck y.property (uh HT).c3
           have n0:∀ y:Abv Z,y.val.cell? ⟨g0+1,n*4,none⟩=_:=fun y=>ck (bk y.property (uh HBW)) (uh HYN).1.1
           have n1:∀ y:Abv Z,y.val.cell? ⟨g0+1,n*4+1,none⟩=_:=fun y=>ck (bk y.property (uh HBW)) (uh HYN).1.2.1
           have n2:∀ y:Abv Z,y.val.cell? ⟨g0+1,n*4+2,none⟩=_:=fun y=>ck (bk y.property (uh HBW)) (uh HYN).1.2.2.1
           have n3:∀ y:Abv Z,y.val.cell? ⟨g0+1,n*4+3,none⟩=_:=fun y=>ck (bk y.property (uh HBW)) (uh HYN).1.2.2.2
           clear hsg hgt HS00 c0 ew ew2 hj0 hj1 hkn hkn' hjn
           go_upto_region 11 with fail
           refine zxb (by kernel_rfl) (by kernel_rfl) ?_
           repeat (go_big_quiet_step (exact Calls.abv (uh HQC _)))
           refine wpQuiet_nil ?_
           rintro Z1 ⟨⟨Z2,B1⟩,rfl⟩
           have HS:=qh ((uh HS).keep B1)
           have HT:=qh ((uh HT).keep B1)
           clear t0 t1 t2 t3 n0 n1 n2 n3 ne HQC HBW B1
           by_cases hs0:0<sg
           · have HM2:=qh (show bt (L.zip W) n++[fb (bz (L.zip W)) n ((L.zip W).take (i+1)) 0]=(bt (L.zip W) n++[cu]).set n (bz (L.zip W) j+s) by
               have h1:=(uh HGT).1 hs0
               rw [uh HN,Int.max_eq_right (by omega),List.set_append_right _ _ (by rw [bt_len];omega),bt_len,Nat.sub_self]
               rfl)
             have hbl:=bt_len (L.zip W) n
             obtain ⟨u0,h0⟩:=(uh HS).fill.cell (o:=n*4) (by omega)
             obtain ⟨u1,h1⟩:=(uh HS).fill.cell (o:=n*4+1) (by omega)
             obtain ⟨u2,h2⟩:=(uh HS).fill.cell (o:=n*4+2) (by omega)
             obtain ⟨u3,h3⟩:=(uh HS).fill.cell (o:=n*4+3) (by omega)
             have f0:=(uh HS).fill.free (n*4)
             have f1:=(uh HS).fill.free (n*4+1)
             have f2:=(uh HS).fill.free (n*4+2)
             have f3:=(uh HS).fill.free (n*4+3)
             have hlt:=(uh HS).fill.lt
             have t0:=(uh HT).c0
             have t1:=(uh HT).c1
             have t2:=(uh HT).c2
             have t3:=(uh HT).c3
             have hp:=(uh HS).set (i:=n) (y:=z) (s:=bz (L.zip W) j+s) (by simp;omega) (by have:=uh HGW;omega) (by omega) (uh HT).q
             obtain ⟨Y,hY⟩:∃ Y,Y=(((Z1.setCell ⟨g0+1,n*4,none⟩ (.bool z.a)).setCell ⟨g0+1,n*4+1,none⟩ (.slice z.b z.c z.d)).setCell ⟨g0+1,n*4+2,none⟩ (.bool z.e)).setCell ⟨g0+1,n*4+3,none⟩ (.slice z.f z.g z.h):=⟨_,rfl⟩
             rw [← hY,← uh HM2] at hp
             have HP:=qh hp
             clear hp hbl
             go_upto_region 8 with fail
             rw [← hY]
             clear hY h0 h1 h2 h3 f0 f1 f2 f3 hlt t0 t1 t2 t3
             go_wp2
             go_roundg (m - (i+1))
             case measure=>omega
             case rel=>exact ⟨i+1,by omega,rfl,by go_num,HP⟩
           · have HM2:=qh (show fb (bz (L.zip W)) n ((L.zip W).take (i+1)) 0=cu by
               have h1:¬ 0<bz (L.zip W) j+s - cu:=fun h=>hs0 ((uh HGT).2 h)
               rw [uh HN,Int.max_eq_left (by omega)])
             go_wp2
             go_roundg (m - (i+1))
             case measure=>omega
             case rel=>exact ⟨i+1,by omega,rfl,by go_num,qh (by rw [uh HM2];exact uh HS)⟩
       · obtain rfl:m=i:=by omega
         clear him hi hgk
         have HS:=qh (show RcS w N D g0 (g0+1) (r+1) (bt (L.zip W) (n+1)) wr by
           have h1:=uh HS
           rw [List.take_of_length_le (by rw [List.length_zip];have:=uh HM;omega),← bz_eq (uh HZ)] at h1
           exact h1)
         go_wp2
         go_roundg (r+1 - (n+1))
         case measure=>omega
         case rel=>exact ⟨n+1,by omega,rfl,by go_num,HS⟩
   · obtain rfl:n=r+1:=by omega
     clear hnr hn hgk
     have hat:=bt_at (L.zip W) (show r<r+1 by omega)
     obtain ⟨y,hy4,hy⟩:=(uh HS).fill.q4 hat
     have HY:=qh hy
     obtain ⟨y0,y1,y2,y3⟩:=hy4
     obtain ⟨⟨j0,h0⟩,⟨j1,j2,j3,h1⟩,⟨j4,h2⟩,⟨j5,j6,j7,h3⟩,gf⟩:=(uh HS).box.cells
     have hlt:=(uh HS).box.lt
     have hr1:(r:Int)<(r:Int)+1:=by omega
     clear hat hy
     go_wp2
     obtain ⟨st0,st1,st2,st3⟩:=(uh HS).box.stored (.bool y.a) (.slice y.b y.c y.d) (.bool y.e) (.slice y.f y.g y.h)
     exact bodyPost_ret (v:=.agg #[.bool y.a,.slice y.b y.c y.d,.bool y.e,.slice y.f y.g y.h]) (by simp [results,Tryz.results53,go_sem,st0,st1,st2,st3]) rfl ⟨⟨_,rfl,(uh HY).stored (uh HS).box _ _ _ _⟩,zkn (o:=0) (uh HS).below (uh HGW) _ _ _ _⟩
theorem ck4 {w w1:World}{b0 b1 b2 b3 o0 o1 o2 o3:Nat}{v0 v1 v2 v3:Value} (hb:Below w.heap.size w w1) (h:w.cell? ⟨b0,o0,none⟩=some v0∧w.cell? ⟨b1,o1,none⟩=some v1∧w.cell? ⟨b2,o2,none⟩=some v2∧w.cell? ⟨b3,o3,none⟩=some v3):w1.cell? ⟨b0,o0,none⟩=some v0∧w1.cell? ⟨b1,o1,none⟩=some v1∧w1.cell? ⟨b2,o2,none⟩=some v2∧w1.cell? ⟨b3,o3,none⟩=some v3:=⟨ck hb h.1,ck hb h.2.1,ck hb h.2.2.1,ck hb h.2.2.2⟩
theorem ck6 {w w1:World}{b0 b1 b2 b3 b4 b5 o0 o1 o2 o3 o4 o5:Nat}{v0 v1 v2 v3 v4 v5:Value} (hb:Below w.heap.size w w1) (h:w.cell? ⟨b0,o0,none⟩=some v0∧w.cell? ⟨b1,o1,none⟩=some v1∧w.cell? ⟨b2,o2,none⟩=some v2∧w.cell? ⟨b3,o3,none⟩=some v3∧w.cell? ⟨b4,o4,none⟩=some v4∧w.cell? ⟨b5,o5,none⟩=some v5):w1.cell? ⟨b0,o0,none⟩=some v0∧w1.cell? ⟨b1,o1,none⟩=some v1∧w1.cell? ⟨b2,o2,none⟩=some v2∧w1.cell? ⟨b3,o3,none⟩=some v3∧w1.cell? ⟨b4,o4,none⟩=some v4∧w1.cell? ⟨b5,o5,none⟩=some v5:=⟨ck hb h.1,ck hb h.2.1,ck hb h.2.2.1,ck hb h.2.2.2.1,ck hb h.2.2.2.2.1,ck hb h.2.2.2.2.2⟩
def cm (Pt:List (List Int)) (T:List Int) (i:Nat):Int:=((T.zip Pt).map fun q=>q.1*q.2.getD i 0).sum
def cmN (Pt:List (List Int)) (T:List Int) (i k:Nat):Int:=(((T.zip Pt).take k).map fun q=>q.1*q.2.getD i 0).sum
def wsum (L:List (Int×Int)) (W:List Int):Int:=((L.zip W).map fun q=>q.2*q.1.2).sum
def wsN (L:List (Int×Int)) (W:List Int) (i:Nat):Int:=(((L.zip W).take i).map fun q=>q.2*q.1.2).sum
def cutP (D:Int) (r:Nat) (L:List (Int×Int)) (Pt:List (List Int)) (T W:List Int) (c:Int):Prop :=
 fitP (r:Int) L Pt T W∧((∀ (i:Nat) (x:Int×Int),L[i]? = some x→x.2*D≤cm Pt T i)∧T.sum=c)∧wsum L W=c∧bz (L.zip W) r≤D
structure CtB (D B T':Int) (T W:List Int) (c:Int):Prop where
 t:∀ s ∈ T,-B≤s∧s≤B
 w:∀ s ∈ W,-B≤s∧s≤B
 c:-B≤c∧c≤B
 d:0<D∧D≤B
 b:1000000000000*B<T'
theorem pat_le {r:Int}{L:List (Int×Int)}{p:List Int} (h:patP r L p) (hL:∀ y ∈ L,okS r y) (hr:r≤200) (i:Nat):0≤p.getD i 0∧p.getD i 0≤200:=by
 rw [List.getD_eq_getElem?_getD]
 cases hm:p[i]? with
 | none=>simp
 | some m =>
   simp only [Option.getD_some]
   have h0:=h.2.1 m (List.mem_of_getElem? hm)
   obtain ⟨x,hx⟩:∃ x,L[i]? = some x:=⟨L[i]'(by rw [← h.1];exact (List.getElem?_eq_some_iff.1 hm).1),by simp⟩
   have h1:=hL x (List.mem_of_getElem? hx)
   have h2:=dotN_up hL h.2.1 (i+1)
   rw [dotN_next hx hm] at h2
   have h3:0≤dotN L p i:=by
     have key:∀ l:List ((Int×Int)×Int),(∀ q ∈ l,0≤q.2*q.1.1)→0≤(l.map fun q=>q.2*q.1.1).sum:=by
       intro l hl
       induction l with
       | nil=>simp
       | cons y l ih =>
         have:=hl y (by simp)
         have:=ih fun z hz=>hl z (by simp [hz])
         simp only [List.map_cons,List.sum_cons]
         omega
     exact key _ fun q hq=>Int.mul_nonneg (h.2.1 q.2 (List.of_mem_zip (List.mem_of_mem_take hq)).2) (by have:=(hL q.1 (List.of_mem_zip (List.mem_of_mem_take hq)).1).2.1;omega)
   have h4:=h.2.2
   have h5:m*1≤m*x.1:=Int.mul_le_mul_of_nonneg_left h1.2.1 h0
   omega
theorem mul_in {a b A B:Int} (ha:-A≤a∧a≤A) (hb:0≤b∧b≤B) (hA:0≤A):-(B*A)≤a*b∧a*b≤B*A:=by
 have h:=mul_abs (x:=a) (y:=b) (B:=A) (C:=B) ha ⟨by omega,hb.2⟩ hA (by omega)
 rw [Int.mul_comm A B] at h
 exact h
theorem cm_in {r:Int}{L:List (Int×Int)}{Pt:List (List Int)}{T:List Int}{B:Int} (hB:0≤B) (hT:∀ s ∈ T,-B≤s∧s≤B) (hP:∀ p ∈ Pt,patP r L p) (hL:∀ y ∈ L,okS r y) (hr:r≤200) (h40:T.length≤40) (i k:Nat):-(8000*B)≤cmN Pt T i k∧cmN Pt T i k≤8000*B:=by
 have h1:=sum_ins (f:=fun q:Int×List Int=>q.1*q.2.getD i 0) (B:=200*B) (by omega) ((T.zip Pt).take k) (fun q hq=>mul_in (hT q.1 (List.of_mem_zip (List.mem_of_mem_take hq)).1) (pat_le (hP q.2 (List.of_mem_zip (List.mem_of_mem_take hq)).2) hL hr i) hB)
 have h2:(((T.zip Pt).take k).length:Int)*(200*B)≤40*(200*B):=Int.mul_le_mul_of_nonneg_right (by rw [List.length_take,List.length_zip];omega) (by omega)
 unfold cmN
 omega
theorem ws_in {r:Int}{L:List (Int×Int)}{W:List Int}{B:Int} (hB:0≤B) (hW:∀ s ∈ W,-B≤s∧s≤B) (hL:∀ y ∈ L,okS r y) (hl:L.length≤12) (i:Nat):-(1200000000*B)≤wsN L W i∧wsN L W i≤1200000000*B:=by
 have h1:=sum_ins (f:=fun q:(Int×Int)×Int=>q.2*q.1.2) (B:=100000000*B) (by omega) ((L.zip W).take i) (fun q hq=>mul_in (hW q.2 (List.of_mem_zip (List.mem_of_mem_take hq)).2) (hL q.1 (List.of_mem_zip (List.mem_of_mem_take hq)).1).1 hB)
 have h2:(((L.zip W).take i).length:Int)*(100000000*B)≤12*(100000000*B):=Int.mul_le_mul_of_nonneg_right (by rw [List.length_take,List.length_zip];omega) (by omega)
 unfold wsN
 omega
theorem ts_in {T:List Int}{B:Int} (hB:0≤B) (hT:∀ s ∈ T,-B≤s∧s≤B) (h40:T.length≤40) (k:Nat):-(40*B)≤(T.take k).sum∧(T.take k).sum≤40*B:=by
 have h1:=sum_ins (f:=fun s:Int=>s) hB (T.take k) (fun s hs=>hT s (List.mem_of_mem_take hs))
 have h2:((T.take k).length:Int)*B≤40*B:=Int.mul_le_mul_of_nonneg_right (by rw [List.length_take];omega) hB
 rw [List.map_id'] at h1
 omega
theorem ts_next {T:List Int}{k:Nat}{s:Int} (h:T[k]? = some s):(T.take (k+1)).sum=(T.take k).sum+s:=by
 rw [tkn h,List.sum_append]
 simp
structure CtS (w:World) (g:Nat) (pa:Option Addr) (pn pc:Nat) (ta:Option Addr) (tn tc:Nat) (wa:Option Addr) (wn wc:Nat) (x:F8 Bool) (W:World):Prop where
 below:Below w.heap.size w W
 c0:W.cell? ⟨g,0,none⟩=some (.slice pa pn pc)
 c1:W.cell? ⟨g,1,none⟩=some (.slice ta tn tc)
 c2:W.cell? ⟨g,2,none⟩=some (.slice wa wn wc)
 c3:Q4 W g 3 x
 gw:w.heap.size≤g
theorem CtS.keep {w:World}{g:Nat}{pa:Option Addr}{pn pc:Nat}{ta:Option Addr}{tn tc:Nat}{wa:Option Addr}{wn wc:Nat}{x:F8 Bool}{W W':World} (h:CtS w g pa pn pc ta tn tc wa wn wc x W) (hb:Below W.heap.size W W'):CtS w g pa pn pc ta tn tc wa wn wc x W':=⟨bk hb h.below,ck hb h.c0,ck hb h.c1,ck hb h.c2,h.c3.keep hb,h.gw⟩
theorem CtS.beside {w:World}{g:Nat}{pa:Option Addr}{pn pc:Nat}{ta:Option Addr}{tn tc:Nat}{wa:Option Addr}{wn wc:Nat}{x:F8 Bool}{W:World}{q:Nat} (h:CtS w g pa pn pc ta tn tc wa wn wc x W) (hq:g<q) (u0 u1 u2 u3:Value):CtS w g pa pn pc ta tn tc wa wn wc x ((((W.setCell ⟨q,0,none⟩ u0).setCell ⟨q,1,none⟩ u1).setCell ⟨q,2,none⟩ u2).setCell ⟨q,3,none⟩ u3) :=
 have h1:=h.gw
 ⟨zkn (o:=0) h.below (by omega) _ _ _ _,zxd (o:=0) h.c0 (by omega) _ _ _ _,zxd (o:=0) h.c1 (by omega) _ _ _ _,zxd (o:=0) h.c2 (by omega) _ _ _ _,h.c3.put (p:=0) (by omega) _ _ _ _,h1⟩
structure Ct2 (w:World) (N:Nat) (D:Int) (g gr gw:Nat) (pa:Option Addr) (pn pc:Nat) (ta:Option Addr) (tn tc:Nat) (wa:Option Addr) (wn wc:Nat) (x y z:F8 Bool) (s t:Int) (W:World):Prop where
 cs:CtS w g pa pn pc ta tn tc wa wn wc x W
 xr:QX N D W gr y s
 xw:QX N D W gw z t
 lt:g<gr∧gr<gw
section
variable {w:World}{N:Nat}{D:Int}{g gr gw:Nat}{pa:Option Addr}{pn pc:Nat}{ta:Option Addr}{tn tc:Nat}{wa:Option Addr}{wn wc:Nat}{x y z:F8 Bool}{s t:Int}{W:World}
theorem Ct2.keep {W':World} (h:Ct2 w N D g gr gw pa pn pc ta tn tc wa wn wc x y z s t W) (hb:Below W.heap.size W W'):Ct2 w N D g gr gw pa pn pc ta tn tc wa wn wc x y z s t W':=⟨h.cs.keep hb,h.xr.keep hb,h.xw.keep hb,h.lt⟩
theorem Ct2.beside {q:Nat} (h:Ct2 w N D g gr gw pa pn pc ta tn tc wa wn wc x y z s t W) (hb:QBox W q) (hq:gw<q) (u0 u1 u2 u3:Value):Ct2 w N D g gr gw pa pn pc ta tn tc wa wn wc x y z s t ((((W.setCell ⟨q,0,none⟩ u0).setCell ⟨q,1,none⟩ u1).setCell ⟨q,2,none⟩ u2).setCell ⟨q,3,none⟩ u3) :=
 have h1:=h.lt
 ⟨h.cs.beside (by omega) _ _ _ _,h.xr.beside hb (by omega) _ _ _ _,h.xw.beside hb (by omega) _ _ _ _,h1⟩
theorem Ct2.put {z':F8 Bool}{t':Int} (h:Ct2 w N D g gr gw pa pn pc ta tn tc wa wn wc x y z s t W) (hz:Qs N D W (vq z') t'):Ct2 w N D g gr gw pa pn pc ta tn tc wa wn wc x y z' s t' ((((W.setCell ⟨gw,0,none⟩ (.bool z'.a)).setCell ⟨gw,1,none⟩ (.slice z'.b z'.c z'.d)).setCell ⟨gw,2,none⟩ (.bool z'.e)).setCell ⟨gw,3,none⟩ (.slice z'.f z'.g z'.h)) :=
 have h1:=h.lt
 ⟨h.cs.beside (by omega) _ _ _ _,h.xr.beside h.xw.box (by omega) _ _ _ _,QX.put h.xw.box hz,h1⟩
end
theorem cmN_next {Pt:List (List Int)}{T:List Int}{i k:Nat}{t:Int}{p:List Int} (ht:T[k]? = some t) (hp:Pt[k]? = some p):cmN Pt T i (k+1)=cmN Pt T i k+t*p.getD i 0:=sum_next (L:=T.zip Pt) (f:=fun q=>q.1*q.2.getD i 0) (x:=(t,p)) (by rw [List.getElem?_zip_eq_some];exact ⟨ht,hp⟩)
theorem cmN_all {Pt:List (List Int)}{T:List Int}{i k:Nat} (h:T.length≤k):cmN Pt T i k=cm Pt T i:=by
 unfold cmN cm
 rw [List.take_of_length_le (by rw [List.length_zip];omega)]
theorem wsN_next {L:List (Int×Int)}{W:List Int}{i:Nat}{x:Int×Int}{s:Int} (hx:L[i]? = some x) (hs:W[i]? = some s):wsN L W (i+1)=wsN L W i+s*x.2:=sum_next (L:=L.zip W) (f:=fun q=>q.2*q.1.2) (x:=(x,s)) (by rw [List.getElem?_zip_eq_some];exact ⟨hx,hs⟩)
theorem wsN_all {L:List (Int×Int)}{W:List Int}{i:Nat} (h:L.length≤i):wsN L W i=wsum L W:=by
 unfold wsN wsum
 rw [List.take_of_length_le (by rw [List.length_zip];omega)]
end Go.Proofs.YtkdobjmhammhbaaGreatDoor
