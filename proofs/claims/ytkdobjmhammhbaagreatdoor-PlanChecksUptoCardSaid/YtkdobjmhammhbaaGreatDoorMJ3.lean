import Derived.Test.YtkdobjmhammhbaaGreatDoorMK3
import Derived.Test.YtkdobjmhammhbaaGreatDoorMJ1
namespace Go.Proofs.YtkdobjmhammhbaaGreatDoor
open Go.RowKit
def hsum (side:List Bool) (S:List Int):Int:=((side.zip S).map fun p=>if p.1=true then p.2 else 0).sum
def Raw (K:Value→Prop) (t:TypeId) (w:World) (g m:Nat):Prop:=∃ cur,w.heap[g]? = some (.cells cur t (0,0))∧cur.size=m∧∀ u ∈ cur.toList,K u
theorem Raw.store {K:Value→Prop}{t:TypeId}{w:World}{g m o:Nat}{v:Value} (h:Raw K t w g m) (hv:K v):Raw K t (w.setCell ⟨g,o,none⟩ v) g m∧Chg K t w (w.setCell ⟨g,o,none⟩ v):=by
 obtain ⟨cur,h1,h2,h3⟩:=h
 refine ⟨⟨_,setCell_block h1 v,by simp [h2],fun u hu => ?_⟩,setCell_chg (o:=o) h1 h3 v⟩
 obtain ⟨i,hi⟩:=List.getElem?_of_mem hu
 rw [Array.getElem?_toList,Array.getElem?_setIfInBounds] at hi
 split at hi
 · split at hi
   · obtain rfl:v=u:=by simpa using hi
     exact hv
   · cases hi
 · exact h3 u (by rw [← Array.mem_def];exact Array.mem_of_getElem? hi)
theorem Fill.raw {α:Type}{K:Value→Prop}{k:Nat}{E:World→List Value → α → Prop}{t:TypeId}{w:World}{g n:Nat}{L:List α} (h:Fill K k E t w g n L):Raw K t w g (n*k):=by
 obtain ⟨cur,h1,h2,h3,_⟩:=h
 exact ⟨cur,h1,h2,h3⟩
theorem Fill.at {α:Type}{K:Value→Prop}{k:Nat}{E:World→List Value → α → Prop}{t:TypeId}{w:World}{g n i:Nat}{L:List α}{x:α} (h:Fill K k E t w g n L) (hx:L[i]? = some x):∃ cs,cs.length=k∧(∀ j u,cs[j]? = some u→w.cell? ⟨g,i*k+j,none⟩=some u)∧E w cs x:=by
 obtain ⟨cur,h1,h2,h3,h4,h5⟩:=h
 obtain ⟨cs,hl,hcs,he⟩:=h5 i x hx
 exact ⟨cs,hl,fun j u hu=>zjg h1 (hcs j u hu),he⟩
theorem Raw.fill {α:Type}{K:Value→Prop}{k:Nat}{E:World→List Value → α → Prop}{t:TypeId}{w:World}{g n:Nat}{L:List α} (h:Raw K t w g (n*k)) (hn:L.length≤n) (hx:∀ i x,L[i]? = some x→∃ cs,cs.length=k∧(∀ j u,cs[j]? = some u→w.cell? ⟨g,i*k+j,none⟩=some u)∧E w cs x):Fill K k E t w g n L:=by
 obtain ⟨cur,h1,h2,h3⟩:=h
 refine ⟨cur,h1,h2,h3,hn,fun i x hi => ?_⟩
 obtain ⟨cs,hl,hcs,he⟩:=hx i x hi
 exact ⟨cs,hl,fun j u hu=>by simpa [World.cell?,h1] using hcs j u hu,he⟩
theorem Fill.len {α:Type}{K:Value→Prop}{k:Nat}{E:World→List Value → α → Prop}{t:TypeId}{w:World}{g n:Nat}{L:List α} (h:Fill K k E t w g n L):L.length≤n:=by
 obtain ⟨cur,h1,h2,h3,h4,_⟩:=h
 exact h4
theorem Fill.set4 {α:Type}{K:Value→Prop}{E:World→List Value → α → Prop}{t:TypeId}{w:World}{g n i:Nat}{L:List α}{u0 u1 u2 u3:Value}{x:α} (h:Fill K 4 E t w g n L) (hE:Stays K t E) (hi:i<L.length) (hk:∀ u ∈ [u0,u1,u2,u3],K u) (he:E w [u0,u1,u2,u3] x) :
   Fill K 4 E t ((((w.setCell ⟨g,i*4,none⟩ u0).setCell ⟨g,i*4+1,none⟩ u1).setCell ⟨g,i*4+2,none⟩ u2).setCell ⟨g,i*4+3,none⟩ u3) g n (L.set i x):=by
 have hl:=h.len
 obtain ⟨a0,e0⟩:=h.cell (o:=i*4) (by omega)
 obtain ⟨a1,e1⟩:=h.cell (o:=i*4+1) (by omega)
 obtain ⟨a2,e2⟩:=h.cell (o:=i*4+2) (by omega)
 obtain ⟨a3,e3⟩:=h.cell (o:=i*4+3) (by omega)
 obtain ⟨r0,c0⟩:=h.raw.store (o:=i*4) (hk u0 (by simp))
 obtain ⟨r1,c1⟩:=r0.store (o:=i*4+1) (hk u1 (by simp))
 obtain ⟨r2,c2⟩:=r1.store (o:=i*4+2) (hk u2 (by simp))
 obtain ⟨r3,c3⟩:=r2.store (o:=i*4+3) (hk u3 (by simp))
 have hc:=((c0.trans c1).trans c2).trans c3
 refine r3.fill (by simpa using hl) fun j y hy => ?_
 rw [List.getElem?_set] at hy
 by_cases hji:i=j
 · subst hji
   rw [if_pos rfl,if_pos hi] at hy
   obtain rfl:=Option.some.inj hy
   refine ⟨_,rfl,fun k u hu => ?_,hE _ _ _ _ he hc⟩
   match k,hu with
   | 0,hu =>
     obtain rfl:u0=u:=by simpa using hu
     rw [Nat.add_zero,zqb _ _ _ _ _ _ (by omega),zqb _ _ _ _ _ _ (by omega),zqb _ _ _ _ _ _ (by omega)]
     exact zqd e0
   | 1,hu =>
     obtain rfl:u1=u:=by simpa using hu
     rw [zqb _ _ _ _ _ _ (by omega),zqb _ _ _ _ _ _ (by omega)]
     exact zqd (by rw [zqb _ _ _ _ _ _ (by omega)];exact e1)
   | 2,hu =>
     obtain rfl:u2=u:=by simpa using hu
     rw [zqb _ _ _ _ _ _ (by omega)]
     exact zqd (by rw [zqb _ _ _ _ _ _ (by omega),zqb _ _ _ _ _ _ (by omega)];exact e2)
   | 3,hu =>
     obtain rfl:u3=u:=by simpa using hu
     exact zqd (by rw [zqb _ _ _ _ _ _ (by omega),zqb _ _ _ _ _ _ (by omega),zqb _ _ _ _ _ _ (by omega)];exact e3)
 · rw [if_neg hji] at hy
   obtain ⟨cs,hcl,hcs,hex⟩:=h.at hy
   refine ⟨cs,hcl,fun k u hu => ?_,hE _ _ _ _ hex hc⟩
   have hk4:k<4:=by rw [← hcl];exact (List.getElem?_eq_some_iff.1 hu).1
   rw [zqb _ _ _ _ _ _ (by omega),zqb _ _ _ _ _ _ (by omega),zqb _ _ _ _ _ _ (by omega),zqb _ _ _ _ _ _ (by omega)]
   exact hcs k u hu
theorem Fill.q4 {N:Nat}{D:Int}{K:Value→Prop}{t:TypeId}{w:World}{g n i:Nat}{L:List Int}{s:Int} (h:Fill K 4 (QsE N D) t w g n L) (hx:L[i]? = some s):∃ y,Q4 w g (i*4) y∧Qs N D w (vq y) s:=by
 obtain ⟨cs,_,hcs,h1⟩:=h.at hx
 obtain ⟨y,rfl,hy⟩:=h1.sh
 exact ⟨y,⟨by simpa using hcs 0 _ rfl,hcs 1 _ rfl,hcs 2 _ rfl,hcs 3 _ rfl⟩,hy⟩
theorem qse_stays (N:Nat) (D:Int):Stays NoInt 59 (QsE N D):=QsE.stays N D NoInt (by decide)
theorem getD_some {a:List Int}{i:Nat}{s:Int} (h:a[i]? = some s):a.getD i 0=s:=by rw [List.getD_eq_getElem?_getD,h];rfl
structure Sh (w:World) (N:Nat) (D:Int) (g gc:Nat) (fa:Option Addr) (fn fc:Nat) (pa:Option Addr) (pn pc:Nat) (x y:F8 Bool) (s:Int) (wr:World):Prop where
 below:Below w.heap.size w wr
 p1:wr.cell? ⟨g,1,none⟩=some (.slice fa fn fc)
 p2:wr.cell? ⟨g,2,none⟩=some (.slice pa pn pc)
 c:Q4 wr g 4 x
 acc:QX N (D*D) wr gc y s
 ne:g<gc
 gw:w.heap.size≤g
theorem Sh.keep {w:World}{N:Nat}{D:Int}{g gc:Nat}{fa:Option Addr}{fn fc:Nat}{pa:Option Addr}{pn pc:Nat}{x y:F8 Bool}{s:Int}{w1 w2:World} (h:Sh w N D g gc fa fn fc pa pn pc x y s w1) (hb:Below w1.heap.size w1 w2):Sh w N D g gc fa fn fc pa pn pc x y s w2:=⟨bk hb h.below,ck hb h.p1,ck hb h.p2,h.c.keep hb,h.acc.keep hb,h.ne,h.gw⟩
theorem QX.beside {N:Nat}{D s:Int}{w:World}{q r:Nat}{x:F8 Bool} (h:QX N D w r x s) (hq:QBox w q) (hne:r≠q) (u0 u1 u2 u3:Value):QX N D ((((w.setCell ⟨q,0,none⟩ u0).setCell ⟨q,1,none⟩ u1).setCell ⟨q,2,none⟩ u2).setCell ⟨q,3,none⟩ u3) r x s :=
 ⟨zxd (o:=0) h.c0 hne _ _ _ _,zxd (o:=0) h.c1 hne _ _ _ _,zxd (o:=0) h.c2 hne _ _ _ _,zxd (o:=0) h.c3 hne _ _ _ _,h.box.aside hne _ _ _ _,h.q.stored hq _ _ _ _⟩
theorem Q4.put {w:World}{b o g p:Nat}{x:F8 Bool} (h:Q4 w b o x) (hne:b≠g) (u0 u1 u2 u3:Value):Q4 ((((w.setCell ⟨g,p,none⟩ u0).setCell ⟨g,p+1,none⟩ u1).setCell ⟨g,p+2,none⟩ u2).setCell ⟨g,p+3,none⟩ u3) b o x:=⟨zxd h.1 hne _ _ _ _,zxd h.2.1 hne _ _ _ _,zxd h.2.2.1 hne _ _ _ _,zxd h.2.2.2 hne _ _ _ _⟩
theorem Sh.beside {w:World}{N:Nat}{D:Int}{g gc q:Nat}{fa:Option Addr}{fn fc:Nat}{pa:Option Addr}{pn pc:Nat}{x y:F8 Bool}{s:Int}{w1:World} (h:Sh w N D g gc fa fn fc pa pn pc x y s w1) (hq:QBox w1 q) (hgt:gc<q) (u0 u1 u2 u3:Value):Sh w N D g gc fa fn fc pa pn pc x y s ((((w1.setCell ⟨q,0,none⟩ u0).setCell ⟨q,1,none⟩ u1).setCell ⟨q,2,none⟩ u2).setCell ⟨q,3,none⟩ u3):=by
 have h1:=h.ne
 have h2:=h.gw
 exact ⟨zqf h.below (by omega) _ _ _ _,zxd (o:=0) h.p1 (by omega) _ _ _ _,zxd (o:=0) h.p2 (by omega) _ _ _ _,h.c.put (p:=0) (by omega) _ _ _ _,h.acc.beside hq (by omega) _ _ _ _,h1,h2⟩
theorem Sh.put {w:World}{N:Nat}{D:Int}{g gc:Nat}{fa:Option Addr}{fn fc:Nat}{pa:Option Addr}{pn pc:Nat}{x y z:F8 Bool}{s t:Int}{w1:World} (h:Sh w N D g gc fa fn fc pa pn pc x y s w1) (hz:Qs N (D*D) w1 (vq z) t):Sh w N D g gc fa fn fc pa pn pc x z t ((((w1.setCell ⟨gc,0,none⟩ (.bool z.a)).setCell ⟨gc,1,none⟩ (.slice z.b z.c z.d)).setCell ⟨gc,2,none⟩ (.bool z.e)).setCell ⟨gc,3,none⟩ (.slice z.f z.g z.h)):=by
 have h1:=h.ne
 have h2:=h.gw
 exact ⟨zqf h.below (by omega) _ _ _ _,zxd (o:=0) h.p1 (by omega) _ _ _ _,zxd (o:=0) h.p2 (by omega) _ _ _ _,h.c.put (p:=0) (by omega) _ _ _ _,QX.put h.acc.box hz,h1,h2⟩
structure ShB (T B:Int) (L:List (Int×Int×Int×Int)) (S F P:List Int):Prop where
 l:∀ x ∈ L,(-B≤x.2.2.1∧x.2.2.1≤B) ∧ -B≤x.2.2.2∧x.2.2.2≤B
 s:∀ f ∈ S,-B≤f∧f≤B
 f:∀ f ∈ F,-B≤f∧f≤B
 p:∀ f ∈ P,-B≤f∧f≤B
 b:0≤B
 t:1000*B<T
 u:1000*(B*B)<T
theorem ShB.prod {T B:Int}{L:List (Int×Int×Int×Int)}{S F P:List Int} (h:ShB T B L S F P) {x:Int×Int×Int×Int}{f:Int} (hx:x ∈ L) (hf:f ∈ F):-(B*B)≤x.2.2.2*f∧x.2.2.2*f≤B*B:=mul_abs (h.l x hx).2 (h.f f hf) h.b h.b
theorem ShB.sum {T B:Int}{L:List (Int×Int×Int×Int)}{S F P:List Int} (h:ShB T B L S F P) (hl:L.length≤300) (i:Nat):Ins T (((L.zip F).take i).map fun p=>p.1.2.2.2*p.2).sum :=
 sum_take i (B:=B*B) (fun p hp=>h.prod (List.of_mem_zip hp).1 (List.of_mem_zip hp).2) (Int.mul_nonneg h.b h.b) (by
   have:=h.u
   have h2:((L.zip F).length:Int)*(B*B)≤300*(B*B):=Int.mul_le_mul_of_nonneg_right (by rw [List.length_zip];omega) (Int.mul_nonneg h.b h.b)
   have:=Int.mul_nonneg h.b h.b
   omega)
end Go.Proofs.YtkdobjmhammhbaaGreatDoor
