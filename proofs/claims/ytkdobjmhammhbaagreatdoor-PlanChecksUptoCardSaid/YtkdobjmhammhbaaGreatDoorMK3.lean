import Derived.Test.YtkdobjmhammhbaaGreatDoorMK2
namespace Go.Proofs.YtkdobjmhammhbaaGreatDoor
open Go.RowKit
def qt (x:Int×Int):ByteArray:=qtext x.1 x.2
theorem qtext_size {p d:Int}{a b:Nat} (ha:(⟨(Lib.itoa p).toArray⟩:ByteArray).size≤a) (hb:(⟨(Lib.itoa d).toArray⟩:ByteArray).size≤b):(qtext p d).size≤a+b+1:=by
 unfold qtext
 split
 · omega
 · rw [ByteArray.size_append,ByteArray.size_append]
   have:(⟨#[47]⟩:ByteArray).size=1:=rfl
   omega
theorem QE.size {N:Nat}{w:World}{cs:List Value}{x:Int×Int} (h:QE N w cs x) (hN:N≤100000):(qt x).size≤maxLen:=by
 obtain ⟨x1,x2,x3,x4,x5,x6,x7,x8,rfl,_,_,_,_,_,_,_,_,_,h2,h3,_⟩:=h
 have:=qtext_size h2.short h3.short
 unfold qt maxLen;omega
theorem RE.size {N:Nat}{w:World}{cs:List Value}{x:Int×Int} (h:RE N w cs x) (hN:N≤100000):(qt x).size≤maxLen:=by
 obtain ⟨x1,x2,x3,x4,x5,x6,x7,x8,rfl,_,_,_,_,_,_,_,_,e,_,h2,h3,d0,_,hd⟩:=h
 have:(qt x).size≤(20*N+21)+(20*N+21)+1:=by
   unfold qt
   rcases hd with ⟨hd,_⟩ | ⟨_,rfl⟩
   · unfold qtext;rw [if_pos hd];have:=h2.short;omega
   · exact qtext_size h2.short h3.short
 unfold maxLen;omega
theorem TE.other (w:World) (cs:List Value) (x:ByteArray) (h:TE w cs x):∃ u ∈ cs,¬ IsSl u:=by
 obtain ⟨rfl,_⟩:=h
 exact ⟨.string x,by simp,fun ⟨_,_,_,h⟩=>by cases h⟩
theorem run_make_k {P:Program} (t e:TypeId) (z:Value) (k bytes:Nat) (ht:P.underlying t=some (.slice e)) (hinfo:(P.info? e).map (fun i=>(i.zero,i.size,i.bytes))=some (some z,k,bytes))
   (kl kc:IntKind) (n:Nat) (hbytes:bytes*n≤281474976710656) (h63:n≤9223372036854775807) (w:World) :
   (Instr.makeSlice t (.int kl (n:Int)) (.int kc (n:Int))).run P w=.ok (.slice (some ⟨w.heap.size,0,none⟩) n n) (w.alloc (.cells (madeCells z.cells (n*k)) e)):=by
 obtain ⟨i,hi,hz,hs,hb⟩:=info_parts hinfo
 subst hb hs
 have hb':(i.bytes:Int)*(n:Int)≤281474976710656:=by
   have h:((i.bytes*n:Nat):Int)≤281474976710656:=by omega
   rwa [Int.natCast_mul] at h
 have hr:=run_make (P:=P) w t e i z ht hi hz kl kc n n (by omega) (Int.le_refl _) hb' (by omega)
 simp only [Int.toNat_natCast] at hr
 exact hr
theorem setCell_block {w:World}{g o:Nat}{cur:Array Value}{t:TypeId}{f:Nat×Nat} (h:w.heap[g]? = some (.cells cur t f)) (v:Value):(w.setCell ⟨g,o,none⟩ v).heap[g]? = some (.cells (cur.setIfInBounds o v) t f):=by
 simp [World.setCell,Array.getElem?_modify,h]
theorem setCell_chg {K:Value→Prop}{w:World}{g o:Nat}{cur:Array Value}{t:TypeId}{f:Nat×Nat} (h:w.heap[g]? = some (.cells cur t f)) (hk:∀ u ∈ cur.toList,K u) (v:Value):Chg K t w (w.setCell ⟨g,o,none⟩ v):=by
 intro b c t' f' hb hc
 have hne:b≠g:=by
   rintro rfl
   rw [h] at hb
   obtain ⟨rfl,rfl,rfl⟩:cur=c∧t=t'∧f=f':=by simpa using hb
   rcases hc with hc | ⟨i,u,hu,hku⟩
   · exact hc rfl
   · exact hku (hk u (by rw [← Array.mem_def];exact Array.mem_of_getElem? hu))
 rw [Below.heap_setCell _ _ _ _ hne]
 exact hb
def Fill {α:Type} (K:Value→Prop) (k:Nat) (E:World→List Value → α → Prop) (t:TypeId) (w:World) (g n:Nat) (L:List α):Prop :=
 ∃ cur,w.heap[g]? = some (.cells cur t (0,0))∧cur.size=n*k∧(∀ u ∈ cur.toList,K u)∧L.length≤n∧∀ i x,L[i]? = some x→∃ cs,cs.length=k∧(∀ j u,cs[j]? = some u→cur[i*k+j]? = some u)∧E w cs x
theorem made_kinds {K:Value→Prop}{z:Array Value}{n:Nat} (hz:∀ u ∈ z.toList,K u) (hs:0<z.size):∀ u ∈ (madeCells z n).toList,K u:=by
 intro u hu
 simp only [madeCells,Array.toList_map,List.mem_map] at hu
 obtain ⟨i,_,rfl⟩:=hu
 have hi:i % z.size<z.size:=Nat.mod_lt _ hs
 rw [getElem!_pos z (i % z.size) hi]
 exact hz _ (by simp)
theorem Fill.new {α:Type}{K:Value→Prop}{k:Nat}{E:World→List Value → α → Prop}{t:TypeId} (w:World) {z:Array Value} (n:Nat) (hz:∀ u ∈ z.toList,K u) (hs:0<z.size):Fill K k E t (w.alloc (.cells (madeCells z (n*k)) t)) w.heap.size n [] :=
 ⟨_,heap_alloc_new w _,size_madeCells _ _,made_kinds hz hs,Nat.zero_le _,fun i x hx=>by simp at hx⟩
theorem Fill.later {α:Type}{K:Value→Prop}{k:Nat}{E:World→List Value → α → Prop}{t:TypeId}{w w':World}{g n:Nat}{L:List α} (h:Fill K k E t w g n L) (hE:Stays K t E) (hb:Below w.heap.size w w'):Fill K k E t w' g n L:=by
 obtain ⟨cur,h1,h2,h3,h4,h5⟩:=h
 refine ⟨cur,by rw [hb.block g (Array.getElem?_eq_some_iff.1 h1).1];exact h1,h2,h3,h4,fun i x hx => ?_⟩
 obtain ⟨cs,hl,hcs,he⟩:=h5 i x hx
 exact ⟨cs,hl,hcs,hE _ _ _ _ he (Chg.below hb)⟩
theorem Fill.lt {α:Type}{K:Value→Prop}{k:Nat}{E:World→List Value → α → Prop}{t:TypeId}{w:World}{g n:Nat}{L:List α} (h:Fill K k E t w g n L):g<w.heap.size:=by
 obtain ⟨cur,h1,_⟩:=h
 exact (Array.getElem?_eq_some_iff.1 h1).1
theorem Fill.cell {α:Type}{K:Value→Prop}{k:Nat}{E:World→List Value → α → Prop}{t:TypeId}{w:World}{g n o:Nat}{L:List α} (h:Fill K k E t w g n L) (ho:o<n*k):∃ u,w.cell? ⟨g,o,none⟩=some u:=by
 obtain ⟨cur,h1,h2,_⟩:=h
 exact ⟨cur[o]'(by omega),zjg h1 (by simp)⟩
theorem Fill.free {α:Type}{K:Value→Prop}{k:Nat}{E:World→List Value → α → Prop}{t:TypeId}{w:World}{g n:Nat}{L:List α} (h:Fill K k E t w g n L) (o:Nat):w.frozen? ⟨g,o,none⟩=false:=by
 obtain ⟨cur,h1,_⟩:=h
 simp [World.frozen?,h1]
theorem Fill.rows {α:Type}{K:Value→Prop}{k:Nat}{E:World→List Value → α → Prop}{t:TypeId}{w:World}{g n:Nat}{L:List α} (h:Fill K k E t w g n L) (hL:L.length=n) (hn:n≤maxLen):Rows k E w (.slice (some ⟨g,0,none⟩) n n) L:=by
 obtain ⟨cur,h1,h2,h3,h4,h5⟩:=h
 refine ⟨_,n,by rw [hL],by omega,hn,Or.inr ⟨g,0,rfl,fun i x hx => ?_⟩⟩
 obtain ⟨cs,hl,hcs,he⟩:=h5 i x hx
 exact ⟨cs,hl,fun j u hu=>by rw [Nat.zero_add];exact zjg h1 (hcs j u hu),he⟩
theorem Fill.store {α:Type}{K:Value→Prop}{k:Nat}{E:World→List Value → α → Prop}{t:TypeId}{w:World}{g n o:Nat}{L:List α}{v:Value} (h:Fill K k E t w g n L) (hE:Stays K t E) (ho:L.length*k≤o) (hv:K v):Fill K k E t (w.setCell ⟨g,o,none⟩ v) g n L∧Chg K t w (w.setCell ⟨g,o,none⟩ v):=by
 obtain ⟨cur,h1,h2,h3,h4,h5⟩:=h
 have hc:=setCell_chg (o:=o) h1 h3 v
 refine ⟨⟨_,setCell_block h1 v,by simp [h2],fun u hu => ?_,h4,fun i x hx => ?_⟩,hc⟩
 · obtain ⟨i,hi⟩:=List.getElem?_of_mem hu
   rw [Array.getElem?_toList,Array.getElem?_setIfInBounds] at hi
   split at hi
   · split at hi
     · obtain rfl:v=u:=by simpa using hi
       exact hv
     · cases hi
   · exact h3 u (by rw [← Array.mem_def];exact Array.mem_of_getElem? hi)
 · obtain ⟨cs,hl,hcs,he⟩:=h5 i x hx
   refine ⟨cs,hl,fun j u hu => ?_,hE _ _ _ _ he hc⟩
   have hi:=(List.getElem?_eq_some_iff.1 hx).1
   have hj:=(List.getElem?_eq_some_iff.1 hu).1
   have h6:(i+1)*k≤L.length*k:=Nat.mul_le_mul_right _ hi
   rw [Nat.add_mul,Nat.one_mul] at h6
   rw [Array.getElem?_setIfInBounds,if_neg (by omega)]
   exact hcs j u hu
theorem Fill.snoc {α:Type}{K:Value→Prop}{k:Nat}{E:World→List Value → α → Prop}{t:TypeId}{w:World}{g n:Nat}{L:List α}{cs:List Value}{x:α} (h:Fill K k E t w g n L) (hlt:L.length<n) (hl:cs.length=k) (hcs:∀ j u,cs[j]? = some u→w.cell? ⟨g,L.length*k+j,none⟩=some u) (he:E w cs x):Fill K k E t w g n (L++[x]):=by
 obtain ⟨cur,h1,h2,h3,h4,h5⟩:=h
 refine ⟨cur,h1,h2,h3,by rw [List.length_append,List.length_singleton];exact hlt,fun i y hy => ?_⟩
 rcases Nat.lt_or_ge i L.length with hi | hi
 · rw [List.getElem?_append_left hi] at hy
   exact h5 i y hy
 · rw [List.getElem?_append_right hi] at hy
   have hi':i=L.length:=by
     have:=(List.getElem?_eq_some_iff.1 hy).1
     simp at this;omega
   subst hi'
   simp at hy
   subst hy
   refine ⟨cs,hl,fun j u hu => ?_,he⟩
   have:=hcs j u hu
   simpa [World.cell?,h1] using this
theorem Fill.put4 {α:Type}{K:Value→Prop}{E:World→List Value → α → Prop}{t:TypeId}{w:World}{g n:Nat}{L:List α}{u0 u1 u2 u3:Value}{x:α} (h:Fill K 4 E t w g n L) (hE:Stays K t E) (hlt:L.length<n) (hk:∀ u ∈ [u0,u1,u2,u3],K u) (he:E w [u0,u1,u2,u3] x) :
   Fill K 4 E t ((((w.setCell ⟨g,L.length*4,none⟩ u0).setCell ⟨g,L.length*4+1,none⟩ u1).setCell ⟨g,L.length*4+2,none⟩ u2).setCell ⟨g,L.length*4+3,none⟩ u3) g n (L++[x])∧Chg K t w ((((w.setCell ⟨g,L.length*4,none⟩ u0).setCell ⟨g,L.length*4+1,none⟩ u1).setCell ⟨g,L.length*4+2,none⟩ u2).setCell ⟨g,L.length*4+3,none⟩ u3):=by
 obtain ⟨a0,e0⟩:=h.cell (o:=L.length*4) (by omega)
 obtain ⟨a1,e1⟩:=h.cell (o:=L.length*4+1) (by omega)
 obtain ⟨a2,e2⟩:=h.cell (o:=L.length*4+2) (by omega)
 obtain ⟨a3,e3⟩:=h.cell (o:=L.length*4+3) (by omega)
 obtain ⟨f0,c0⟩:=h.store (o:=L.length*4) (v:=u0) hE (by omega) (hk _ (by simp))
 obtain ⟨f1,c1⟩:=f0.store (o:=L.length*4+1) (v:=u1) hE (by omega) (hk _ (by simp))
 obtain ⟨f2,c2⟩:=f1.store (o:=L.length*4+2) (v:=u2) hE (by omega) (hk _ (by simp))
 obtain ⟨f3,c3⟩:=f2.store (o:=L.length*4+3) (v:=u3) hE (by omega) (hk _ (by simp))
 have hc:=((c0.trans c1).trans c2).trans c3
 refine ⟨f3.snoc hlt rfl (fun j u hu => ?_) (hE _ _ _ _ he hc),hc⟩
 match j,hu with
 | 0,hu =>
   obtain rfl:u0=u:=by simpa using hu
   rw [Nat.add_zero,zqb _ _ _ _ _ _ (by omega),zqb _ _ _ _ _ _ (by omega),zqb _ _ _ _ _ _ (by omega)]
   exact zqd e0
 | 1,hu =>
   obtain rfl:u1=u:=by simpa using hu
   rw [zqb _ _ _ _ _ _ (by omega),zqb _ _ _ _ _ _ (by omega)]
   exact zqd (by rw [zqb _ _ _ _ _ _ (by omega)];exact e1)
 | 2,hu =>
   obtain rfl:u2=u:=by simpa using hu
   rw [zqb _ _ _ _ _ _ (by omega)]
   exact zqd (by rw [zqb _ _ _ _ _ _ (by omega),zqb _ _ _ _ _ _ (by omega)];exact e2)
 | 3,hu =>
   obtain rfl:u3=u:=by simpa using hu
   exact zqd (by rw [zqb _ _ _ _ _ _ (by omega),zqb _ _ _ _ _ _ (by omega),zqb _ _ _ _ _ _ (by omega)];exact e3)
theorem zkn {B:Nat}{w w':World}{g o:Nat} (h:Below B w w') (hg:B≤g) (u0 u1 u2 u3:Value):Below B w ((((w'.setCell ⟨g,o,none⟩ u0).setCell ⟨g,o+1,none⟩ u1).setCell ⟨g,o+2,none⟩ u2).setCell ⟨g,o+3,none⟩ u3) :=
 (((h.setCell (p:=⟨g,o,none⟩) hg _).setCell (p:=⟨g,o+1,none⟩) hg _).setCell (p:=⟨g,o+2,none⟩) hg _).setCell (p:=⟨g,o+3,none⟩) hg _
end Go.Proofs.YtkdobjmhammhbaaGreatDoor
