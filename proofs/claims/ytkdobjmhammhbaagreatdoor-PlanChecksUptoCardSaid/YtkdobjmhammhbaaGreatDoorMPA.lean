import Derived.Test.YtkdobjmhammhbaaGreatDoorMJ6
namespace Go.Proofs.YtkdobjmhammhbaaGreatDoor
open Go.RowKit
def SzE (_w:World) (cs:List Value) (x:Int×Int):Prop:=cs=[.int .i64 x.1,.int .i64 x.2]∧I64 x.1∧I64 x.2
theorem SzE.stays (K:Value→Prop) (e:TypeId):Stays K e SzE:=fun _ _ _ _ h _=>h
theorem Rows.size2 {w:World}{a:Option Addr}{n c i:Nat}{L:List (Int×Int)}{x:Int×Int} (h:Rows 2 SzE w (.slice a n c) L) (hx:L[i]? = some x):∃ b o,a=some ⟨b,o,none⟩∧w.cell? ⟨b,o+i*2,none⟩=some (.int .i64 x.1)∧w.cell? ⟨b,o+i*2+1,none⟩=some (.int .i64 x.2)∧I64 x.1∧I64 x.2:=by
 obtain ⟨b,o,rfl,cs,_,hcs,rfl,h1,h2⟩:=h.at hx
 exact ⟨b,o,rfl,by simpa using hcs 0 _ rfl,hcs 1 _ rfl,h1,h2⟩
def badS (r:Int):List (Int×Int)→Int
 | []=>0
 | x :: l=>if x.2<0∨100000000<x.2 then 2 else if x.1<1∨r<x.1 then 4 else badS r l
def stockV (r:Int) (L:List (Int×Int)):Int:=if r<1∨200<r∨12<L.length then 2 else badS r L
def okS (r:Int) (x:Int×Int):Prop:=(0≤x.2∧x.2≤100000000)∧1≤x.1∧x.1≤r
theorem badS_at {r:Int}{L:List (Int×Int)}{i:Nat}{x:Int×Int} (h:∀ y ∈ L.take i,okS r y) (hx:L[i]? = some x) (hb:¬ okS r x):badS r L=if x.2<0∨100000000<x.2 then 2 else 4:=by
 induction L generalizing i with
 | nil=>simp at hx
 | cons y l ih =>
   cases i with
   | zero =>
     obtain rfl:y=x:=by simpa using hx
     unfold badS
     unfold okS at hb
     split
     · rfl
     · rw [if_pos (by omega)]
   | succ i =>
     have h0:=h y (by simp)
     unfold okS at h0
     unfold badS
     rw [if_neg (by omega),if_neg (by omega)]
     exact ih (i:=i) (fun z hz=>h z (by simp [hz])) (by simpa using hx)
theorem badS_good {r:Int}{L:List (Int×Int)} (h:∀ y ∈ L,okS r y):badS r L=0:=by
 induction L with
 | nil=>rfl
 | cons y l ih =>
   have h0:=h y (by simp)
   unfold okS at h0
   unfold badS
   rw [if_neg (by omega),if_neg (by omega)]
   exact ih fun z hz=>h z (by simp [hz])
theorem badS_codes (r:Int) (L:List (Int×Int)):(badS r L=0∧∀ y ∈ L,okS r y)∨badS r L=2∨badS r L=4:=by
 induction L with
 | nil=>exact Or.inl ⟨rfl,by simp⟩
 | cons y l ih =>
   unfold badS
   split
   · exact Or.inr (Or.inl rfl)
   · split
     · exact Or.inr (Or.inr rfl)
     · rcases ih with ⟨h1,h2⟩ | h | h
       · refine Or.inl ⟨h1,fun z hz => ?_⟩
         rcases List.mem_cons.1 hz with rfl | hz
         · unfold okS;omega
         · exact h2 z hz
       · exact Or.inr (Or.inl h)
       · exact Or.inr (Or.inr h)
theorem stock_codes (r:Int) (L:List (Int×Int)):(stockV r L=0∧1≤r∧r≤200∧L.length≤12∧∀ y ∈ L,okS r y)∨stockV r L=2∨stockV r L=4:=by
 unfold stockV
 split
 · exact Or.inr (Or.inl rfl)
 · rcases badS_codes r L with ⟨h1,h2⟩ | h | h
   · exact Or.inl ⟨h1,by omega,by omega,by omega,h2⟩
   · exact Or.inr (Or.inl h)
   · exact Or.inr (Or.inr h)
theorem zkh (a b c:Int) (w:World):Calls Tryz.prog 94 #[.int .i64 a,.int .i64 b,.int .i64 c] w fun e w'=>e=.returned (.bool (decide (b≤a∧a≤c)))∧w'=w:=by
 go_enter Tryz.func94,Tryz.ntmps94
 by_cases h:b≤a
 · by_cases h2:a≤c
   · rw [decide_eq_true (show b≤a∧a≤c by omega)]
     go_wp2
     go_ret
     exact ⟨rfl,rfl⟩
   · rw [decide_eq_false (show ¬ (b≤a∧a≤c) by omega)]
     go_wp2
     go_ret
     exact ⟨rfl,rfl⟩
 · rw [decide_eq_false (show ¬ (b≤a∧a≤c) by omega)]
   go_wp2
   go_ret
   exact ⟨rfl,rfl⟩
theorem size_new (w:World) (a b:Int):let w1:=w.alloc (.cells #[.int .i64 a,.int .i64 b] 76)
   w1.cell? ⟨w.heap.size,0,none⟩=some (.int .i64 a)∧w1.cell? ⟨w.heap.size,1,none⟩=some (.int .i64 b):=by
 intro w1
 have h:∀ k u,(#[Value.int .i64 a,.int .i64 b])[k]? = some u→w1.cell? ⟨w.heap.size,k,none⟩=some u:=fun k u hu=>by show (World.alloc _ _).cell? _=_;rw [zqe rfl];exact hu
 exact ⟨h 0 _ rfl,h 1 _ rfl⟩
set_option maxHeartbeats 8000000 in
set_option maxRecDepth 8000 in
theorem vsizes_any {A:Nat→Addr}{r:Int}{v:Value}{L:List (Int×Int)} (w:World) (hS:Sents w A) (h:Rows 2 SzE w v L) :
   Calls Tryz.prog 48 #[.int .i64 r,v] w fun e w'=>e=.returned (errV A (stockV r L))∧Below w.heap.size w w':=by
 obtain ⟨sa,sc,rfl⟩:=h.shape
 have hsm:=h.small
 unfold maxLen at hsm
 have HR:=qh h
 have HS:=qh hS
 have e2:=hS.h1
 have e4:=hS.h3
 clear h hS
 go_enter Tryz.func48,Tryz.ntmps48
 by_cases h1:1≤r∧r≤200
 rotate_left
 · have FIN:=qh (show stockV r L=2 by unfold stockV;rw [if_pos (by omega)])
   go_wp2_with fail
   go_fit (zkh _ _ _ _)
   rintro e W1 ⟨rfl,rfl⟩
   rw [decide_eq_false h1]
   go_wp2
   go_ret
   exact ⟨by rw [uh FIN];rfl,Below.refl _ _⟩
 go_wp2_with fail
 go_fit (zkh _ _ _ _)
 rintro e W1 ⟨rfl,rfl⟩
 rw [decide_eq_true h1]
 by_cases h3:(12:Int)<(L.length:Int)
 · have FIN:=qh (show stockV r L=2 by unfold stockV;rw [if_pos (by omega)])
   go_wp2
   go_ret
   exact ⟨by rw [uh FIN];rfl,Below.refl _ _⟩
 have HN:=qh (show stockV r L=badS r L by unfold stockV;rw [if_neg (by omega)])
 clear e2 e4
 go_wp2_with fail
 go_loopg [18] L.length (fun gk iv wr=>∃ i:Nat,i≤L.length∧gk=L.length - i∧iv=.int .i64 (i:Int)∧Hid (∀ y ∈ L.take i,okS r y)∧Hid (Below W1.heap.size W1 wr))
 case atStart=>exact ⟨0,by omega,by omega,rfl,qh (by simp),qh (Below.refl _ _)⟩
 case round =>
   obtain ⟨i,hi,hgk,rfl,HA,HB⟩:=hrel
   by_cases hil:i<L.length
   · obtain ⟨⟨lo,wa⟩,hx⟩:∃ x,L[i]? = some x:=⟨L[i],by simp [hil]⟩
     obtain ⟨b,o,rfl,c0,c1,_⟩:=(uh HR).size2 hx
     simp only at c0 c1
     have c0:=ck (uh HB) c0
     have c1:=ck (uh HB) c1
     have HX:=qh hx
     have hil':(i:Int)<(L.length:Int):=by omega
     have him:(i:Int)+1≤1000:=by omega
     obtain ⟨V,hV⟩:∃ V,V=wr.alloc (.cells #[.int .i64 lo,.int .i64 wa] 76):=⟨_,rfl⟩
     obtain ⟨q,hq⟩:∃ q,q=wr.heap.size:=⟨_,rfl⟩
     have hn:=size_new wr lo wa
     have kn:=zqa wr (.cells #[.int .i64 lo,.int .i64 wa] 76)
     simp only [← hV,← hq] at hn
     rw [← hV] at kn
     have BB:=qh (bk kn (uh HB))
     clear hx kn
     go_upto_region 6 with fail
     rw [← hV,← hq]
     obtain ⟨m0,m1⟩:=hn
     clear hV hq c0 c1
     have e2:=((uh HS).later (uh BB)).h1
     have e4:=((uh HS).later (uh BB)).h3
     by_cases g1:0≤wa∧wa≤100000000
     rotate_left
     · have FIN:=qh (show badS r L=2 by rw [badS_at (uh HA) (uh HX) (by unfold okS;simp only;omega),if_pos (by simp only;omega)])
       go_wp2_with fail
       go_fit (zkh _ _ _ _)
       rintro e W1 ⟨rfl,rfl⟩
       rw [decide_eq_false g1]
       go_wp2
       go_ret
       exact ⟨by rw [uh HN,uh FIN];rfl,uh BB⟩
     go_wp2_with fail
     go_fit (zkh _ _ _ _)
     rintro e W2 ⟨rfl,rfl⟩
     rw [decide_eq_true g1]
     by_cases g2:1≤lo∧lo≤r
     rotate_left
     · have FIN:=qh (show badS r L=4 by rw [badS_at (uh HA) (uh HX) (by unfold okS;simp only;omega),if_neg (by simp only;omega)])
       go_wp2_with fail
       go_fit (zkh _ _ _ _)
       rintro e W1 ⟨rfl,rfl⟩
       rw [decide_eq_false g2]
       go_wp2
       go_ret
       exact ⟨by rw [uh HN,uh FIN];rfl,uh BB⟩
     have HG:=qh (show okS r (lo,wa) by unfold okS;simp only;omega)
     go_wp2_with fail
     go_fit (zkh _ _ _ _)
     rintro e W3 ⟨rfl,rfl⟩
     rw [decide_eq_true g2]
     clear e2 e4 m0 m1
     go_wp2
     go_roundg (L.length - (i+1))
     case measure=>omega
     case rel=>exact ⟨i+1,by omega,rfl,by go_num,qh (zjl (uh HA) (uh HX) (uh HG)),BB⟩
   · obtain rfl:i=L.length:=by omega
     clear hil hi hgk
     go_wp2
     go_ret
     refine ⟨?_,uh HB⟩
     have:=uh HA
     rw [List.take_length] at this
     rw [uh HN,badS_good this]
     rfl
set_option maxHeartbeats 8000000 in
set_option maxRecDepth 8000 in
theorem rstock_any {r:Int}{v:Value}{L:List (Int×Int)} (w:World) (h:Rows 2 SzE w v L) :
   Calls Tryz.prog 21 #[.int .i64 r,v] w fun e w'=>e=.returned (.int .i64 (stockV r L))∧w'=w:=by
 obtain ⟨sa,sc,rfl⟩:=h.shape
 have hsm:=h.small
 unfold maxLen at hsm
 have HR:=qh h
 clear h
 go_enter Tryz.func21,Tryz.ntmps21
 by_cases h1:r<1
 · have FIN:=qh (show stockV r L=2 by unfold stockV;rw [if_pos (by omega)])
   go_wp2
   go_ret
   exact ⟨by rw [uh FIN];rfl,rfl⟩
 by_cases h2:200<r
 · have FIN:=qh (show stockV r L=2 by unfold stockV;rw [if_pos (by omega)])
   go_wp2
   go_ret
   exact ⟨by rw [uh FIN];rfl,rfl⟩
 by_cases h3:(12:Int)<(L.length:Int)
 · have FIN:=qh (show stockV r L=2 by unfold stockV;rw [if_pos (by omega)])
   go_wp2
   go_ret
   exact ⟨by rw [uh FIN];rfl,rfl⟩
 have HN:=qh (show stockV r L=badS r L by unfold stockV;rw [if_neg (by omega)])
 go_wp2_with fail
 go_loopg [5] L.length (fun gk iv wr=>∃ i:Nat,i≤L.length∧gk=L.length - i∧iv=.int .i64 (i:Int)∧Hid (∀ y ∈ L.take i,okS r y)∧wr=w)
 case atStart=>exact ⟨0,by omega,by omega,rfl,qh (by simp),rfl⟩
 case round =>
   obtain ⟨i,hi,hgk,rfl,HA,rfl⟩:=hrel
   by_cases hil:i<L.length
   · obtain ⟨⟨lo,wa⟩,hx⟩:∃ x,L[i]? = some x:=⟨L[i],by simp [hil]⟩
     obtain ⟨b,o,rfl,c0,c1,_⟩:=(uh HR).size2 hx
     simp only at c0 c1
     have HX:=qh hx
     have hil':(i:Int)<(L.length:Int):=by omega
     have him:(i:Int)+1≤1000:=by omega
     clear hx
     by_cases g1:wa<0
     · have FIN:=qh (show badS r L=2 by rw [badS_at (uh HA) (uh HX) (by unfold okS;simp only;omega),if_pos (by simp only;omega)])
       go_wp2
       go_ret
       exact ⟨by rw [uh HN,uh FIN];rfl,rfl⟩
     by_cases g2:100000000<wa
     · have FIN:=qh (show badS r L=2 by rw [badS_at (uh HA) (uh HX) (by unfold okS;simp only;omega),if_pos (by simp only;omega)])
       go_wp2
       go_ret
       exact ⟨by rw [uh HN,uh FIN];rfl,rfl⟩
     by_cases g3:lo<1
     · have FIN:=qh (show badS r L=4 by rw [badS_at (uh HA) (uh HX) (by unfold okS;simp only;omega),if_neg (by simp only;omega)])
       go_wp2
       go_ret
       exact ⟨by rw [uh HN,uh FIN];rfl,rfl⟩
     by_cases g4:r<lo
     · have FIN:=qh (show badS r L=4 by rw [badS_at (uh HA) (uh HX) (by unfold okS;simp only;omega),if_neg (by simp only;omega)])
       go_wp2
       go_ret
       exact ⟨by rw [uh HN,uh FIN];rfl,rfl⟩
     have HG:=qh (show okS r (lo,wa) by unfold okS;simp only;omega)
     go_wp2
     go_roundg (L.length - (i+1))
     case measure=>omega
     case rel=>exact ⟨i+1,by omega,rfl,by go_num,qh (zjl (uh HA) (uh HX) (uh HG)),rfl⟩
   · obtain rfl:i=L.length:=by omega
     clear hil hi hgk
     go_wp2
     go_ret
     refine ⟨?_,rfl⟩
     have:=uh HA
     rw [List.take_length] at this
     rw [uh HN,badS_good this]
     rfl
def dotI (L:List (Int×Int)) (p:List Int):Int:=((L.zip p).map fun q=>q.2*q.1.1).sum
def patP (r:Int) (L:List (Int×Int)) (p:List Int):Prop:=p.length=L.length∧(∀ m ∈ p,0≤m)∧dotI L p≤r
def dotN (L:List (Int×Int)) (p:List Int) (i:Nat):Int:=(((L.zip p).take i).map fun q=>q.2*q.1.1).sum
theorem dotN_next {L:List (Int×Int)}{p:List Int}{i:Nat}{x:Int×Int}{m:Int} (hx:L[i]? = some x) (hm:p[i]? = some m):dotN L p (i+1)=dotN L p i+m*x.1:=sum_next (L:=L.zip p) (x:=(x,m)) (by rw [List.getElem?_zip_eq_some];exact ⟨hx,hm⟩)
theorem dotN_all (L:List (Int×Int)) (p:List Int) {i:Nat} (h:L.length≤i):dotN L p i=dotI L p:=by
 unfold dotN dotI
 rw [List.take_of_length_le (by rw [List.length_zip];omega)]
theorem dotN_up {r:Int}{L:List (Int×Int)}{p:List Int} (hL:∀ y ∈ L,okS r y) (hp:∀ m ∈ p,0≤m) (i:Nat):dotN L p i≤dotI L p:=by
 have key:∀ l:List ((Int×Int)×Int),(∀ q ∈ l,0≤q.2*q.1.1)→∀ i,((l.take i).map fun q=>q.2*q.1.1).sum≤(l.map fun q=>q.2*q.1.1).sum:=by
   intro l hl
   induction l with
   | nil=>intro i;simp
   | cons y l ih =>
     intro i
     have h0:=hl y (by simp)
     have hpos:∀ l:List ((Int×Int)×Int),(∀ q ∈ l,0≤q.2*q.1.1)→0≤(l.map fun q=>q.2*q.1.1).sum:=by
       intro l hl
       induction l with
       | nil=>simp
       | cons y l ih =>
         have:=hl y (by simp)
         have:=ih fun z hz=>hl z (by simp [hz])
         simp only [List.map_cons,List.sum_cons]
         omega
     cases i with
     | zero =>
       have:=hpos (y :: l) hl
       simpa using this
     | succ i =>
       have:=ih (fun z hz=>hl z (by simp [hz])) i
       simp only [List.take_succ_cons,List.map_cons,List.sum_cons]
       omega
 exact key _ (fun q hq=>by
   have h1:=hp q.2 (List.of_mem_zip hq).2
   have h2:=(hL q.1 (List.of_mem_zip hq).1).2.1
   exact Int.mul_nonneg h1 (by omega)) i
theorem pat_over {r:Int}{L:List (Int×Int)}{p:List Int}{i:Nat}{x:Int×Int}{m:Int} (hL:∀ y ∈ L,okS r y) (hx:L[i]? = some x) (hm:p[i]? = some m) (h:m<0∨r - dotN L p i<m*x.1):¬ patP r L p:=by
 rintro ⟨h1,h2,h3⟩
 have h4:=dotN_up hL h2 (i+1)
 rw [dotN_next hx hm] at h4
 have h5:=h2 m (List.mem_of_getElem? hm)
 omega
theorem mul_small {a b:Int} (ha:0≤a∧a≤200) (hb:0≤b∧b≤200):0≤a*b∧a*b≤40000:=by
 refine ⟨Int.mul_nonneg ha.1 hb.1,?_⟩
 have:a*b≤200*200:=Int.mul_le_mul ha.2 hb.2 hb.1 (by decide)
 omega
set_option maxHeartbeats 8000000 in
set_option maxRecDepth 8000 in
theorem isPat_any {r:Int}{v pv:Value}{L:List (Int×Int)}{p:List Int} (w:World) (h:Rows 2 SzE w v L) (hp:Rows 1 JE w pv p) (hr:1≤r∧r≤200) (hl:L.length≤12) (hL:∀ y ∈ L,okS r y) :
   Calls Tryz.prog 96 #[.int .i64 r,v,pv] w fun e w'=>YesP e (patP r L p)∧w'=w:=by
 obtain ⟨sa,sc,rfl⟩:=h.shape
 obtain ⟨ta,tc,rfl⟩:=hp.shape
 have hsm:=hp.small
 unfold maxLen at hsm
 have HR:=qh h
 have HP:=qh hp
 have HL:=qh hL
 clear h hp hL
 go_enter Tryz.func96,Tryz.ntmps96
 by_cases hpl:p.length=L.length
 rotate_left
 · have hd:((p.length:Int) != (L.length:Int))=true:=by simp;omega
   have FIN:=qh (show ¬ patP r L p from fun h=>hpl h.1)
   go_wp2
   go_ret
   exact ⟨YesP.no (uh FIN),rfl⟩
 have hd:((p.length:Int) != (L.length:Int))=false:=by simp;omega
 obtain ⟨n,hn⟩:∃ n,n=L.length:=⟨_,rfl⟩
 rw [hpl] at HP hd hsm ⊢
 rw [← hn] at HR HP hl hd hsm ⊢
 have HN:=qh (And.intro hn hpl)
 clear hn hpl
 go_wp2_with fail
 go_loopg [7,8,9,18] n (fun gk rv _ _ iv wr=>∃ (i:Nat) (s:Int),i≤n∧gk=n - i∧rv=.int .i64 s∧iv=.int .i64 (i:Int)∧wr=w∧Hid (s=r - dotN L p i∧r - 40000*(i:Int)≤s∧s≤r)∧Hid (∀ m ∈ p.take i,0≤m))
 case atStart=>exact ⟨0,r,by omega,by omega,rfl,rfl,rfl,qh ⟨by simp [dotN],by omega,by omega⟩,qh (by simp)⟩
 case round =>
   obtain ⟨i,s,hi,hgk,rfl,rfl,rfl,HA,HZ⟩:=hrel
   by_cases hil:i<n
   · obtain ⟨⟨lo,wa⟩,hx⟩:∃ x,L[i]? = some x:=⟨L[i]'(by have:=uh HN;omega),by simp⟩
     obtain ⟨m,hm⟩:∃ x,p[i]? = some x:=⟨p[i]'(by have:=uh HN;omega),by simp⟩
     obtain ⟨b,o,rfl,c0,_,_⟩:=(uh HR).size2 hx
     obtain ⟨b',o',rfl,d0,_⟩:=(uh HP).int hm
     simp only at c0
     have hok:=uh HL _ (List.mem_of_getElem? hx)
     have HX:=qh (And.intro hx hm)
     have hil':(i:Int)<(n:Int):=by omega
     have him:(i:Int)+1≤1000:=by omega
     by_cases g1:0≤m∧m≤r
     rotate_left
     · have FIN:=qh (show ¬ patP r L p from pat_over (uh HL) hx hm (by
         unfold okS at hok
         simp only at hok ⊢
         rcases Int.lt_or_le m 0 with h | h
         · exact Or.inl h
         · right
           have hA:=uh HA
           have hm1:m*1≤m*lo:=Int.mul_le_mul_of_nonneg_left (by omega) h
           omega))
       clear hx hm hok
       go_wp2_with fail
       go_fit (zkh _ _ _ _)
       rintro e W1 ⟨rfl,rfl⟩
       rw [decide_eq_false g1]
       go_wp2
       go_ret
       exact ⟨YesP.no (uh FIN),rfl⟩
     obtain ⟨t,ht⟩:∃ t,t=m*lo:=⟨_,rfl⟩
     have htb:0≤t∧t≤40000:=by
       unfold okS at hok
       simp only at hok
       rw [ht]
       exact mul_small (by omega) (by omega)
     have hA:=uh HA
     have e1:wrap64 (m*lo)=t:=by rw [← ht];unfold wrap64;omega
     have e2:wrap64 (s - t)=s - t:=by unfold wrap64;omega
     have HT:=qh (And.intro ht htb)
     clear hx hm hok hA ht htb
     go_wp2_with fail
     go_fit (zkh _ _ _ _)
     rintro e W1 ⟨rfl,rfl⟩
     rw [decide_eq_true g1]
     go_wp2
     go_roundg (n - (i+1))
     case measure=>omega
     case rel =>
       have hA:=uh HA
       have hT:=uh HT
       refine ⟨i+1,s - t,by omega,rfl,(by first | rfl | (rw [e2]) | simp [e1,e2]),by go_num,rfl,qh ⟨?_,by omega,by omega⟩,qh ?_⟩
       · rw [dotN_next (uh HX).1 (uh HX).2]
         simp only
         rw [← hT.1]
         omega
       · exact zjl (uh HZ) (uh HX).2 g1.1
   · obtain rfl:n=i:=by omega
     clear hil hi hgk
     have hA:=(uh HA).1
     rw [dotN_all L p (by have:=uh HN;omega)] at hA
     have hz:=uh HZ
     rw [List.take_of_length_le (by have:=uh HN;omega)] at hz
     by_cases g:0≤s
     · have FIN:=qh (show patP r L p from ⟨(uh HN).2,hz,by omega⟩)
       clear hA hz
       go_wp2
       go_ret
       exact ⟨YesP.yes (uh FIN),rfl⟩
     · have FIN:=qh (show ¬ patP r L p from fun h=>by have:=h.2.2;omega)
       clear hA hz
       go_wp2
       go_ret
       exact ⟨YesP.no (uh FIN),rfl⟩
theorem tdiv_lt {m s lo:Int} (hs:0≤s) (hlo:1≤lo):s.tdiv lo<m↔s<m*lo:=by
 rw [Int.tdiv_eq_ediv_of_nonneg hs]
 exact Int.ediv_lt_iff_lt_mul (by omega)
set_option maxHeartbeats 8000000 in
set_option maxRecDepth 8000 in
theorem rpat_any {r:Int}{v pv:Value}{L:List (Int×Int)}{p:List Int} (w:World) (h:Rows 2 SzE w v L) (hp:Rows 1 JE w pv p) (hr:1≤r∧r≤200) (hl:L.length≤12) (hL:∀ y ∈ L,okS r y) :
   Calls Tryz.prog 52 #[.int .i64 r,v,pv] w fun e w'=>YesP e (patP r L p)∧Below w.heap.size w w':=by
 obtain ⟨sa,sc,rfl⟩:=h.shape
 obtain ⟨ta,tc,rfl⟩:=hp.shape
 have hsm:=hp.small
 unfold maxLen at hsm
 have HR:=qh h
 have HP:=qh hp
 have HL:=qh hL
 clear h hp hL
 go_enter Tryz.func52,Tryz.ntmps52
 by_cases hpl:p.length=L.length
 rotate_left
 · have hd:((p.length:Int) != (L.length:Int))=true:=by simp;omega
   have FIN:=qh (show ¬ patP r L p from fun h=>hpl h.1)
   go_wp2
   go_ret
   exact ⟨YesP.no (uh FIN),Below.refl _ _⟩
 have hd:((p.length:Int) != (L.length:Int))=false:=by simp;omega
 obtain ⟨n,hn⟩:∃ n,n=L.length:=⟨_,rfl⟩
 rw [hpl] at HP hd hsm ⊢
 rw [← hn] at HR HP hl hd hsm ⊢
 have HN:=qh (And.intro hn hpl)
 clear hn hpl
 go_wp2_with fail
 go_loopg [7,8] n (fun gk rv iv wr=>∃ (i:Nat) (s:Int),i≤n∧gk=n - i∧rv=.int .i64 s∧iv=.int .i64 (i:Int)∧Hid (Below w.heap.size w wr)∧Hid (s=r - dotN L p i∧0≤s∧s≤r)∧Hid (∀ m ∈ p.take i,0≤m))
 case atStart=>exact ⟨0,r,by omega,by omega,rfl,rfl,qh (Below.refl _ _),qh ⟨by simp [dotN],by omega,by omega⟩,qh (by simp)⟩
 case round =>
   obtain ⟨i,s,hi,hgk,rfl,rfl,HB,HA,HZ⟩:=hrel
   by_cases hil:i<n
   · obtain ⟨⟨lo,wa⟩,hx⟩:∃ x,L[i]? = some x:=⟨L[i]'(by have:=uh HN;omega),by simp⟩
     obtain ⟨m,hm⟩:∃ x,p[i]? = some x:=⟨p[i]'(by have:=uh HN;omega),by simp⟩
     obtain ⟨b,o,rfl,c0,_,_⟩:=(uh HR).size2 hx
     obtain ⟨b',o',rfl,d0,_⟩:=(uh HP).int hm
     simp only at c0
     have c0:=ck (uh HB) c0
     have d0:=ck (uh HB) d0
     have hok:=uh HL _ (List.mem_of_getElem? hx)
     have HX:=qh (And.intro hx hm)
     have hil':(i:Int)<(n:Int):=by omega
     have him:(i:Int)+1≤1000:=by omega
     have hA:=uh HA
     have hlo:lo≠0:=by unfold okS at hok;simp only at hok;omega
     by_cases g0:m<0
     · have FIN:=qh (show ¬ patP r L p from pat_over (uh HL) hx hm (Or.inl g0))
       clear hx hm hok hA
       go_upto_region 7 with fail
       go_quiet (fail)
       have HB:=qh (zqi (uh HB) nq)
       go_wp2
       go_ret
       exact ⟨YesP.no (uh FIN),uh HB⟩
     have hdv:=tdiv_lt (m:=m) (s:=s) (lo:=lo) (by omega) (by unfold okS at hok;simp only at hok;omega)
     have hyb:0≤s.tdiv lo∧s.tdiv lo≤s:=by
       unfold okS at hok
       simp only at hok
       rw [Int.tdiv_eq_ediv_of_nonneg (by omega)]
       exact ⟨Int.ediv_nonneg (by omega) (by omega),Int.ediv_le_self _ (by omega)⟩
     obtain ⟨t,ht⟩:∃ t,t=m*lo:=⟨_,rfl⟩
     obtain ⟨y,hy⟩:∃ y,y=s.tdiv lo:=⟨_,rfl⟩
     rw [← hy,← ht] at hdv
     rw [← hy] at hyb
     have ed:wrap64 (s.tdiv lo)=y:=by rw [← hy];unfold wrap64;omega
     by_cases g1:y<m
     · have FIN:=qh (show ¬ patP r L p from pat_over (uh HL) hx hm (Or.inr (by have:=hdv.1 g1;simp only;omega)))
       clear hx hm hok hA hdv ht hy
       go_upto_region 7 with fail
       go_quiet (fail)
       have HB:=qh (zqi (uh HB) nq)
       go_wp2
       go_ret
       exact ⟨YesP.no (uh FIN),uh HB⟩
     have htb:0≤t∧t≤s:=by
       have h1:¬ s<t:=fun h=>g1 (hdv.2 h)
       unfold okS at hok
       simp only at hok
       have h2:0≤m*lo:=Int.mul_nonneg (by omega) (by omega)
       omega
     have e1:wrap64 (m*lo)=t:=by rw [← ht];unfold wrap64;omega
     have e2:wrap64 (s - t)=s - t:=by unfold wrap64;omega
     have HT:=qh (And.intro ht htb)
     clear hx hm hok hA ht htb hdv hy hyb
     have HB0:=HB
     go_upto_region 7 with fail
     go_quiet (fail)
     have HB:=qh (zqi (uh HB) nq)
     have c0:=ck (zqi (Below.refl _ _) nq) c0
     have d0:=ck (zqi (Below.refl _ _) nq) d0
     go_upto_region 9 with fail
     go_quiet (fail)
     go_wp2
     go_roundg (n - (i+1))
     case measure=>omega
     case rel =>
       have hA:=uh HA
       have hT:=uh HT
       refine ⟨i+1,s - t,by omega,rfl,(by first | rfl | (rw [e2]) | simp [e1,e2]),by go_num,qh (zqi (uh HB0) _),qh ⟨?_,by omega,by omega⟩,qh ?_⟩
       · rw [dotN_next (uh HX).1 (uh HX).2]
         simp only
         rw [← hT.1]
         omega
       · exact zjl (uh HZ) (uh HX).2 (by omega)
   · obtain rfl:n=i:=by omega
     clear hil hi hgk
     have hA:=uh HA
     rw [dotN_all L p (by have:=uh HN;omega)] at hA
     have hz:=uh HZ
     rw [List.take_of_length_le (by have:=uh HN;omega)] at hz
     have FIN:=qh (show patP r L p from ⟨(uh HN).2,hz,by omega⟩)
     clear hA hz
     go_wp2
     go_ret
     exact ⟨YesP.yes (uh FIN),uh HB⟩
def fb (f:Nat→Int) (n:Nat) (z:List ((Int×Int)×Int)) (b:Int):Int:=z.foldl (fun b q=>if q.1.1≤(n:Int) then max b (f (n - q.1.1.toNat)+q.2) else b) b
theorem fb_cons (f:Nat→Int) (n:Nat) (q:(Int×Int)×Int) (z:List ((Int×Int)×Int)) (b:Int):fb f n (q :: z) b=fb f n z (if q.1.1≤(n:Int) then max b (f (n - q.1.1.toNat)+q.2) else b):=rfl
theorem fb_snoc (f:Nat→Int) (n:Nat) (q:(Int×Int)×Int) (z:List ((Int×Int)×Int)) (b:Int):fb f n (z++[q]) b=if q.1.1≤(n:Int) then max (fb f n z b) (f (n - q.1.1.toNat)+q.2) else fb f n z b:=by
 unfold fb
 rw [List.foldl_append]
 rfl
theorem fb_le {f:Nat→Int}{n:Nat}{z:List ((Int×Int)×Int)}{b X:Int}:fb f n z b≤X↔b≤X∧∀ q ∈ z,q.1.1≤(n:Int)→f (n - q.1.1.toNat)+q.2≤X:=by
 induction z generalizing b with
 | nil=>simp [fb]
 | cons q z ih =>
   rw [fb_cons,ih]
   constructor
   · rintro ⟨h1,h2⟩
     refine ⟨by split at h1 <;> omega,fun p hp hle => ?_⟩
     rcases List.mem_cons.1 hp with rfl | hp
     · rw [if_pos hle] at h1;omega
     · exact h2 p hp hle
   · rintro ⟨h1,h2⟩
     refine ⟨?_,fun p hp=>h2 p (List.mem_cons_of_mem _ hp)⟩
     split
     · rename_i h;have:=h2 q (by simp) h;omega
     · exact h1
theorem fb_ge (f:Nat→Int) (n:Nat) (z:List ((Int×Int)×Int)) (b:Int):b≤fb f n z b:=(fb_le.1 (Int.le_refl _)).1
theorem fb_at {f:Nat→Int}{n:Nat}{z:List ((Int×Int)×Int)}{b:Int}{q:(Int×Int)×Int} (hq:q ∈ z) (h:q.1.1≤(n:Int)):f (n - q.1.1.toNat)+q.2≤fb f n z b:=(fb_le.1 (Int.le_refl _)).2 q hq h
theorem fb_congr {f g:Nat→Int}{n:Nat}{z:List ((Int×Int)×Int)}{b:Int} (h:∀ q ∈ z,q.1.1≤(n:Int)→f (n - q.1.1.toNat)=g (n - q.1.1.toNat)):fb f n z b=fb g n z b:=by
 induction z generalizing b with
 | nil=>rfl
 | cons q z ih =>
   rw [fb_cons,fb_cons,ih fun p hp=>h p (List.mem_cons_of_mem _ hp)]
   congr 1
   split
   · rename_i hle;rw [h q (by simp) hle]
   · rfl
def bt (z:List ((Int×Int)×Int)):Nat→List Int
 | 0=>[]
 | n+1=>bt z n++[fb (fun k=>(bt z n).getD k 0) n z 0]
def bz (z:List ((Int×Int)×Int)) (n:Nat):Int:=fb (fun k=>(bt z n).getD k 0) n z 0
theorem bt_len (z:List ((Int×Int)×Int)) (n:Nat):(bt z n).length=n:=by
 induction n with
 | zero=>rfl
 | succ n ih=>simp [bt,ih]
theorem bt_at (z:List ((Int×Int)×Int)) {n k:Nat} (h:k<n):(bt z n)[k]? = some (bz z k):=by
 induction n with
 | zero=>omega
 | succ n ih =>
   unfold bt
   rcases Nat.lt_or_ge k n with h1 | h1
   · rw [List.getElem?_append_left (by rw [bt_len];exact h1),ih h1]
   · obtain rfl:k=n:=by omega
     rw [List.getElem?_append_right (by rw [bt_len];omega),bt_len]
     simp [bz]
theorem bt_getD (z:List ((Int×Int)×Int)) {n k:Nat} (h:k<n):(bt z n).getD k 0=bz z k:=by rw [List.getD_eq_getElem?_getD,bt_at z h];rfl
def Lng (z:List ((Int×Int)×Int)):Prop:=∀ q ∈ z,1≤q.1.1
theorem bz_eq {z:List ((Int×Int)×Int)} (hz:Lng z) (n:Nat):bz z n=fb (bz z) n z 0 :=
 fb_congr fun q hq h=>bt_getD z (by have:=hz q hq;omega)
theorem bz_nonneg (z:List ((Int×Int)×Int)) (n:Nat):0≤bz z n:=fb_ge _ _ _ _
theorem bz_zero {z:List ((Int×Int)×Int)} (hz:Lng z):bz z 0=0:=by
 have h1:bz z 0≤0:=by
   rw [bz_eq hz,fb_le]
   exact ⟨by omega,fun q hq h=>by have:=hz q hq;omega⟩
 have:=bz_nonneg z 0
 omega
theorem bz_mono {z:List ((Int×Int)×Int)} (hz:Lng z) (n:Nat):bz z n≤bz z (n+1):=by
 induction n using Nat.strongRecOn with
 | _ n ih =>
   rw [bz_eq hz n,fb_le]
   refine ⟨bz_nonneg _ _,fun q hq h => ?_⟩
   have h1:=hz q hq
   have h2:=ih (n - q.1.1.toNat) (by omega)
   have h3:=fb_at (f:=bz z) (n:=n+1) (b:=0) hq (by omega)
   rw [← bz_eq hz,show n+1 - q.1.1.toNat=n - q.1.1.toNat+1 by omega] at h3
   omega
theorem bz_ins {z:List ((Int×Int)×Int)}{B:Int} (hz:Lng z) (hB:0≤B) (h:∀ q ∈ z,q.2≤B) (n:Nat):bz z n≤n*B:=by
 induction n using Nat.strongRecOn with
 | _ n ih =>
   rw [bz_eq hz n,fb_le]
   refine ⟨Int.mul_nonneg (by omega) hB,fun q hq hle => ?_⟩
   have h1:=hz q hq
   have h2:=ih (n - q.1.1.toNat) (by omega)
   have h3:((n - q.1.1.toNat:Nat):Int)*B+B≤n*B:=by
     have:(((n - q.1.1.toNat:Nat):Int)+1)*B≤n*B:=Int.mul_le_mul_of_nonneg_right (by omega) hB
     rw [Int.add_mul,Int.one_mul] at this
     exact this
   have:=h q hq
   omega
theorem fb_max (f:Nat→Int) (n:Nat) (z:List ((Int×Int)×Int)) (b c:Int):fb f n z (max b c)=max b (fb f n z c):=by
 induction z generalizing c with
 | nil=>rfl
 | cons q z ih =>
   rw [fb_cons,fb_cons]
   split
   · rw [show max (max b c) (f (n - q.1.1.toNat)+q.2)=max b (max c (f (n - q.1.1.toNat)+q.2)) by omega,ih]
   · exact ih c
theorem bz_next {z:List ((Int×Int)×Int)} (hz:Lng z) (n:Nat):fb (bz z) (n+1) z (bz z n)=bz z (n+1):=by
 have h1:=bz_mono hz n
 have h2:=bz_nonneg z n
 have h3:=fb_max (bz z) (n+1) z (bz z n) 0
 rw [show max (bz z n) 0=bz z n by omega,← bz_eq hz] at h3
 omega
theorem fb_scale {f g:Nat→Int}{n:Nat}{z:List ((Int×Int)×Int)}{b c:Int} (c0:0<c) (h:∀ q ∈ z,q.1.1≤(n:Int)→g (n - q.1.1.toNat)=c*f (n - q.1.1.toNat)):fb g n (z.map fun q=>(q.1,c*q.2)) (c*b)=c*fb f n z b:=by
 induction z generalizing b with
 | nil=>rfl
 | cons q z ih =>
   rw [List.map_cons,fb_cons,fb_cons]
   simp only
   have ih2:=fun b'=>ih (b:=b') fun p hp=>h p (List.mem_cons_of_mem _ hp)
   split
   · rename_i hle
     rw [h q (by simp) hle,← Int.mul_add,show max (c*b) (c*(f (n - q.1.1.toNat)+q.2))=c*max b (f (n - q.1.1.toNat)+q.2) from ?_,ih2]
     rcases Int.le_total b (f (n - q.1.1.toNat)+q.2) with h1 | h1
     · rw [Int.max_eq_right h1,Int.max_eq_right (Int.mul_le_mul_of_nonneg_left h1 (by omega))]
     · rw [Int.max_eq_left h1,Int.max_eq_left (Int.mul_le_mul_of_nonneg_left h1 (by omega))]
   · exact ih2 b
theorem bz_scale {z:List ((Int×Int)×Int)}{c:Int} (hz:Lng z) (c0:0<c) (n:Nat):bz (z.map fun q=>(q.1,c*q.2)) n=c*bz z n:=by
 have hz':Lng (z.map fun q=>(q.1,c*q.2)):=fun q hq=>by
   obtain ⟨p,hp,rfl⟩:=List.mem_map.1 hq
   exact hz p hp
 induction n using Nat.strongRecOn with
 | _ n ih =>
   rw [bz_eq hz',bz_eq hz n,← fb_scale c0 (f:=bz z) (g:=bz (z.map fun q=>(q.1,c*q.2))) (fun q hq h=>ih _ (by have:=hz q hq;omega)),Int.mul_zero]
set_option maxHeartbeats 2000000 in
set_option maxRecDepth 8000 in
theorem rsmalls_any (n:Int) (w:World) (h0:0≤n) (h1:n<1000000000000) :
   Calls Tryz.prog 82 #[.int .i64 n] w fun e w'=>(∃ v,e=.returned v∧Nr 3 w' v n)∧Below w.heap.size w w':=by
 have hbx:=zkr w false none 0 0
 have hk0:=zqa w (.cells #[.bool false,.slice none 0 0] 57)
 have hnl:¬ n<0:=by omega
 go_enter Tryz.func82,Tryz.ntmps82
 go_wp2_with fail
 go_loopg [0,4] n.toNat (fun k nv dv wr=>∃ (D:List Int) (r:Int),k=r.toNat∧0≤r∧r≤n∧nv=.int .i64 r∧Below w.heap.size w wr∧NBox wr w.heap.size∧wr.ownsRow (w.heap.size+1) 3 1 dv D.length (D.map (Value.int .i64))∧Hid (P4 D∧n=v4 D+10000 ^ D.length*r∧(r=0→Trim D)∧D.length≤3))
 case atStart=>exact ⟨[],n,rfl,h0,by omega,rfl,hk0,hbx,World.ownsRow_nil _ _ _ _,qh ⟨P4.nil,by simp [v4],fun _=>Or.inl rfl,by simp⟩⟩
 case round =>
   obtain ⟨D,r,hgk,hr0,hrn,rfl,hB,hbx1,hown,HD⟩:=hrel
   by_cases hr:0<r
   · have hlt:w.heap.size+1≤wr.heap.size:=by obtain ⟨⟨x0,g0⟩,_⟩:=hbx1.cells;exact World.block_lt_of_cell? wr _ g0
     obtain ⟨hP,hn,hT,hl⟩:=uh HD
     have hl3:D.length<3:=by
       rcases Nat.lt_or_ge D.length 3 with h | h
       · exact h
       · have e3:D.length=3:=by omega
         rw [e3] at hn
         have:=zqp hP
         omega
     have HN:=qh (show P4 (D++[r % 10000])∧n=v4 (D++[r % 10000])+10000 ^ (D++[r % 10000]).length*(r / 10000)∧(r / 10000=0→Trim (D++[r % 10000]))∧(D++[r % 10000]).length≤3 from ⟨hP.snoc (by omega) (by omega),by
         rw [v4_snoc,List.length_append,List.length_singleton,Int.pow_succ]
         have e:r=10000*(r / 10000)+r % 10000:=(Int.mul_ediv_add_emod r 10000).symm
         generalize r / 10000=q at *
         generalize r % 10000=m at *
         subst e
         rw [hn]
         grind,fun h=>Or.inr (by rw [List.length_append,List.length_singleton,Nat.add_sub_cancel,nth_snoc];omega),by rw [List.length_append,List.length_singleton];omega⟩)
     have hlen:D.length≤100000000:=by omega
     have hm1:0≤r % 10000∧r % 10000<10000:=by omega
     have hm2:0≤r / 10000∧r / 10000<r:=by omega
     clear hP hn hT hl hl3
     go_wp2_with (at_builtin;refine zqw rfl _ _ rfl (w.heap.size+1) _ _ _ rfl hown (r % 10000) rfl rfl hlen hlt ?_;intro v' w1 hown' hgrow)
     obtain ⟨k1,k2⟩:=grow_keep hB hbx1 hown hgrow
     obtain ⟨va',vn',vc',rfl⟩:=zqt hown'
     go_wp2
     go_roundg (r / 10000).toNat
     case measure=>omega
     case rel=>exact ⟨D++[r % 10000],r / 10000,rfl,by omega,by omega,by go_num,k1,k2,by simpa using hown',HN⟩
   · obtain rfl:r=0:=by omega
     obtain ⟨hP,hn,hT,hl⟩:=uh HD
     have hsl:Sl wr _ D:=sl_own hown
     have HQ:=qh (And.intro hP (And.intro hn (And.intro (hT rfl) hl)))
     obtain ⟨va',vn',vc',rfl⟩:=zqt hown
     obtain ⟨⟨x0,g0⟩,⟨a0,n0,c0,g1⟩,gf⟩:=hbx1.cells
     have hlt:w.heap.size<wr.heap.size:=World.block_lt_of_cell? wr _ g0
     clear hP hn hT hl
     go_wp2
     obtain ⟨st0,st1⟩:=hbx1.stored (.bool false) (.slice va' vn' vc')
     obtain ⟨hP,hn,hT,hl⟩:=uh HQ
     exact bodyPost_ret (v:=.agg #[.bool false,.slice va' vn' vc']) (by simp [results,Tryz.results82,go_sem,st0,st1]) rfl ⟨⟨_,rfl,false,_,D,rfl,hsl.stored hbx1 _ _,hP,hT,hl,fun _=>rfl,by simp;omega⟩,zqc hB (Nat.le_refl _) _ _⟩
theorem rints_any (n:Int) (w:World) (h0:0≤n) (h1:n<1000000000000):Calls Tryz.prog 39 #[.int .i64 n] w fun e w'=>(∃ v,e=.returned v∧Qr 4 w' v n 1)∧Below w.heap.size w w':=rint_of (N:=3) w fun w=>rsmalls_any n w h0 h1
theorem qs_int {K N:Nat}{T:Int} (D:Int) (n:Int) (w:World) (hB:Big K N T) (h0:0≤n) (h1:n<1000000000000):Calls Tryz.prog 39 #[.int .i64 n] w fun e w'=>(∃ v,e=.returned v∧Qs N D w' v (n*D))∧Below w.heap.size w w' :=
 (rints_any n w h0 h1).mono fun e w' ⟨⟨v,he,h⟩,hb⟩=>⟨⟨v,he,n,1,h.mono (by have:=hB.n;omega),by omega⟩,hb⟩
theorem rs_int {K N:Nat}{T:Int} (D:Int) (n:Int) (w:World) (hB:Big K N T) (h0:-9223372036854775808≤n) (h1:n≤9223372036854775807):Calls Tryz.prog 99 #[.int .i64 n] w fun e w'=>(∃ v,e=.returned v∧Rs K D w' v (n*D))∧Below w.heap.size w w' :=
 (rint_any n w h0 h1).mono fun e w' ⟨⟨v,he,h⟩,hb⟩=>⟨⟨v,he,n,1,h.mono (by have:=hB.k;omega),by omega⟩,hb⟩
theorem rs_times {K N:Nat}{T D s n:Int}{v v':Value} (w:World) (hB:Big K N T) (hD:Dn T D) (h:Rs K D w v s) (h':Rs K 1 w v' (n*1)) (hs:Ins T (s*n)) (hT:Tab64 w) :
   Calls Tryz.prog 76 #[v,v'] w fun e w'=>(∃ v,e=.returned v∧Rs K D w' v (s*n))∧Below w.heap.size w w':=by
 have h1:=rs_mul (D:=D) (D':=1) (s':=n) w hB (by rw [Int.mul_one];exact hD) h (by rw [Int.mul_one] at h';exact h') hs hT
 rw [Int.mul_one] at h1
 exact h1
theorem qs_times {K N:Nat}{T D s n:Int}{v v':Value} (w:World) (hB:Big K N T) (hD:Dn T D) (h:Qs N D w v s) (h':Qs N 1 w v' (n*1)) (hs:Ins T (s*n)) :
   Calls Tryz.prog 46 #[v,v'] w fun e w'=>(∃ v,e=.returned v∧Qs N D w' v (s*n))∧Below w.heap.size w w':=by
 have h1:=qs_mul (D:=D) (D':=1) (s':=n) w hB (by rw [Int.mul_one];exact hD) h (by rw [Int.mul_one] at h';exact h') hs
 rw [Int.mul_one] at h1
 exact h1
end Go.Proofs.YtkdobjmhammhbaaGreatDoor
