import Derived.Test.YtkifiolkfdicoaaGreatDoorMK5
import Derived.Test.YtkifiolkfdicoaaGreatDoorMNC
import Derived.Deep.Slices
namespace Go.Proofs.YtkifiolkfdicoaaGreatDoor
open Go.RowKit
def Frs (w w':World):Prop:=∀ (b:Nat) (c:Array Value) (t:TypeId) (f:Nat×Nat),w.heap[b]? = some (.cells c t f)→∃ c' n,w'.heap[b]? = some (.cells c' t f)∧(∀ i,i<n→c'[i]? = c[i]?)∧∀ (i:Nat) (u:Value),n≤i→c[i]? = some u→u=.int .i64 0
theorem Frs.below {w w':World} (hb:Below w.heap.size w w'):Frs w w':=fun b c t f h=>⟨c,c.size,by rw [hb.block b (Array.getElem?_eq_some_iff.1 h).1];exact h,fun _ _=>rfl,fun i u hi hu=>by have:=(Array.getElem?_eq_some_iff.1 hu).1;omega⟩
theorem Frs.cell {w w':World}{b o:Nat}{u:Value} (h:Frs w w') (hu:w.cell? ⟨b,o,none⟩=some u) (h0:u≠.int .i64 0):w'.cell? ⟨b,o,none⟩=some u:=by
 obtain ⟨c,t,f,h1,_,h3⟩:=zjj hu
 obtain ⟨c',n,k1,k2,k3⟩:=h b c t f h1
 have hlt:o<n:=by
   rcases Nat.lt_or_ge o n with hl | hl
   · exact hl
   · exact absurd (k3 o u hl h3) h0
 exact zqn k1 (by rw [k2 o hlt];exact h3)
theorem Sl.frs {w w':World}{sl:Value}{D:List Int} (h:Sl w sl D) (hT:Trim D) (hf:Frs w w'):Sl w' sl D:=by
 rcases h with h | ⟨b,cap,h1,h2,h3,h4,cur,h5⟩
 · exact Or.inl h
 · obtain ⟨c',n,k1,k2,k3⟩:=hf b cur _ _ h5
   refine Or.inr ⟨b,cap,h1,h2,h3,fun k hk => ?_,c',k1⟩
   have hcell:∀ k,k<D.length→cur[k]? = some (.int .i64 (nth D k)):=fun k hk=>by
     obtain ⟨c,t,f,q1,_,q3⟩:=zjj (h4 k hk)
     rw [show (⟨b,k,none⟩:Addr).block=b from rfl,h5] at q1
     obtain ⟨rfl,rfl,rfl⟩:cur=c∧_=t∧_=f:=by simpa using q1
     exact q3
   have hn:D.length≤n:=by
     rcases hT with rfl | hT
     · simp
     · rcases Nat.lt_or_ge n D.length with hl | hl
       · exfalso
         have:=k3 (D.length - 1) _ (by omega) (hcell (D.length - 1) (by omega))
         simp at this
         exact hT this
       · exact hl
   exact zqn k1 (by rw [k2 k (by omega)];exact hcell k hk)
theorem Nr.frs {N:Nat}{w w':World}{v:Value}{z:Int} (h:Nr N w v z) (hf:Frs w w'):Nr N w' v z:=by
 obtain ⟨neg,sl,D,h1,h2,h3,h4,h5⟩:=h
 exact ⟨neg,sl,D,h1,h2.frs h4 hf,h3,h4,h5⟩
theorem Qr.frs {N:Nat}{w w':World}{v:Value}{p d:Int} (h:Qr N w v p d) (hf:Frs w w'):Qr N w' v p d:=by
 obtain ⟨x,a,n,c,y,b,m,k,h1,h2,h3,h4⟩:=h
 exact ⟨x,a,n,c,y,b,m,k,h1,h2.frs hf,h3.frs hf,h4⟩
theorem Rows.frs {N:Nat}{w w':World}{v:Value}{L:List (Int×Int)} (h:Rows 4 (QE N) w v L) (hf:Frs w w'):Rows 4 (QE N) w' v L:=by
 obtain ⟨a,c,h1,h2,h3,h4⟩:=h
 refine ⟨a,c,h1,h2,h3,?_⟩
 rcases h4 with h4 | ⟨b,o,h4,h5⟩
 · exact Or.inl h4
 · refine Or.inr ⟨b,o,h4,fun i x hx => ?_⟩
   obtain ⟨cs,hl,hcs,x1,x2,x3,x4,x5,x6,x7,x8,rfl,hq⟩:=h5 i x hx
   refine ⟨_,hl,fun j u hu=>hf.cell (hcs j u hu) ?_,x1,x2,x3,x4,x5,x6,x7,x8,rfl,hq.frs hf⟩
   have:=List.mem_of_getElem? hu
   simp at this
   rcases this with rfl | rfl | rfl | rfl <;> simp
theorem Rows.frs2 {N:Nat}{w w':World}{v:Value}{L:List (List (Int×Int))} (h:Rows 1 (LE 4 (QE N)) w v L) (hf:Frs w w'):Rows 1 (LE 4 (QE N)) w' v L:=by
 obtain ⟨a,c,h1,h2,h3,h4⟩:=h
 refine ⟨a,c,h1,h2,h3,?_⟩
 rcases h4 with h4 | ⟨b,o,h4,h5⟩
 · exact Or.inl h4
 · refine Or.inr ⟨b,o,h4,fun i x hx => ?_⟩
   obtain ⟨cs,hl,hcs,u,rfl,hq⟩:=h5 i x hx
   refine ⟨_,hl,fun j u' hu=>hf.cell (hcs j u' hu) ?_,u,rfl,hq.frs hf⟩
   obtain ⟨p,q,rfl⟩:=hq.shape
   have:=List.mem_of_getElem? hu
   simp at this
   subst this
   simp
structure OwnF (w:World) (base:Nat) (v:Value) (L:List Nat):Prop where
 own:w.ownsRow base 3 1 v L.length (L.map fun (x:Nat)=>Value.int .i64 (x:Int))
 spare:∀ g,v.ownBlock=some g→∀ o u,L.length≤o→w.cell? ⟨g,o,none⟩=some u→u=.int .i64 0
theorem OwnF.nil (w:World) (base:Nat):OwnF w base (.slice none 0 0) []:=⟨World.ownsRow_nil _ _ _ _,fun g hg=>by simp [Value.ownBlock] at hg⟩
theorem OwnF.later {w w':World}{base:Nat}{v:Value}{L:List Nat} (h:OwnF w base v L) (hb:Below w.heap.size w w'):OwnF w' base v L :=
 ⟨own_later h.own hb,fun g hg o u ho hu=>h.spare g hg o u ho (by rw [hb.cell (p:=⟨g,o,none⟩) (h.own.lt g hg).2] at hu;exact hu)⟩
theorem OwnF.slice {w:World}{base:Nat}{v:Value}{L:List Nat} (h:OwnF w base v L):∃ a c,v=.slice a L.length c:=by
 obtain ⟨_,⟨rfl,h0⟩ | ⟨g,cap,cur,rfl,_⟩⟩:=h.own
 · exact ⟨none,0,by rw [h0]⟩
 · exact ⟨_,_,rfl⟩
theorem info_i:(Tryz.prog.info? 3).map (fun i=>(i.zero,i.size,i.bytes))=some (some (.int .i64 0),1,8):=by kernel_rfl
theorem zero_int {n o:Nat}{u:Value} (h:(Builtin.zeroCells #[.int .i64 0] n)[o]? = some u):u=.int .i64 0:=by
 have h1:=zero_kinds (P:=fun u=>u=.int .i64 0) (z:=#[.int .i64 0]) (n:=n) (fun u hu=>by simpa using hu) (by decide) u (by rw [← Array.mem_def];exact Array.mem_of_getElem? h)
 exact h1
theorem run_append_f (w:World) (base:Nat) (T ty:TypeId) (hT:Tryz.prog.underlying T=some (.slice 3)) {v:Value}{L:List Nat} (h:OwnF w base v L) (x:Nat) (a:Addr) (c:Nat) (ha:w.cell? a=some (.int .i64 (x:Int))) (hn:L.length≤100) (hbase:base≤w.heap.size) :
   ∃ v' w',(Builtin.append_ #[T,T] ty #[v,.slice (some a) 1 c]).run Tryz.prog w=.ok v' w'∧OwnF w' base v' (L++[x])∧Frs w w'∧w.grownBy w' v.ownBlock:=by
 obtain ⟨i0,hi,hz0,hz1,hz2⟩:=info_parts info_i
 have hnews:∀ (j:Nat) (u:Value),[Value.int .i64 (x:Int)][j]? = some u→w.cell? (a.add j)=some u:=fun j u hu=>by
   rcases j with _ | j
   · obtain rfl:_=u:=by simpa using hu
     exact ha
   · simp at hu
 have h1:∀ u ∈ [Value.int .i64 (x:Int)],u.oneCell'=true:=by intro u hu;simp at hu;subst hu;rfl
 obtain ⟨v',w',hr,ho,hg,_⟩:=run_append_own (P:=Tryz.prog) w base T ty 3 i0 (.int .i64 0) 1 8 hT hi hz0 hz1 hz2 rfl (by decide) v L.length _ h.own a 1 c [.int .i64 (x:Int)] rfl hnews h1 (by unfold maxLen;omega) (by omega) hbase
 have ho':w'.ownsRow base 3 1 v' (L++[x]).length ((L++[x]).map fun (x:Nat)=>Value.int .i64 (x:Int)):=by simpa using ho
 have hall:∀ b,b<w.heap.size→some b≠v.ownBlock→w'.heap[b]? = w.heap[b]? := fun b hb hne=>hg.block b hb hne
 have hsp:=h.spare
 rcases h.own with ⟨hxl,⟨rfl,h0⟩ | ⟨g,cap,cur,rfl,hbg,hgg,hnc,hcm,hcs,htake⟩⟩
 · have hr2:=run_append_nil (P:=Tryz.prog) w T ty 3 i0 (.int .i64 0) hT hi hz0 a 1 c [.int .i64 (x:Int)] (by rw [hz1];rfl) hnews (by decide) (by omega) (by rw [hz2];omega)
   rw [hr] at hr2
   obtain ⟨rfl,rfl⟩:v'=_∧w'=_:=by simpa using hr2
   refine ⟨_,_,hr,⟨ho',fun g hg' o u hlo hu => ?_⟩,fun b c' t f hb=>⟨c',c'.size,?_,fun _ _=>rfl,fun i u hi hu=>by have:=(Array.getElem?_eq_some_iff.1 hu).1;omega⟩,hg⟩
   · obtain rfl:w.heap.size=g:=by simpa [Value.ownBlock] using hg'
     rw [nc (X:=w.drew) (n:=w.heap.size) rfl] at hu
     simp only [List.length_append,List.length_singleton] at hlo
     rw [Array.getElem?_append_right (by simp;omega)] at hu
     exact zero_int hu
   · rw [hall b (Array.getElem?_eq_some_iff.1 hb).1 (by simp [Value.ownBlock])];exact hb
 · by_cases hroom:L.length+1≤cap
   · have hr2:=run_append_room (P:=Tryz.prog) w T ty 3 i0 hT hi g L.length cap cur hgg a 1 c [.int .i64 (x:Int)] (by rw [hz1];rfl) hnews h1 hroom (by rw [hz1,hcs];simp;omega)
     rw [hr] at hr2
     obtain ⟨rfl,rfl⟩:v'=_∧w'=_:=by simpa using hr2
     rw [hz1] at *
     simp only [Nat.mul_one,List.length_singleton] at *
     have hblk:=setRow_heap w g cur (cur.toList.take L.length++Value.int .i64 (x:Int) :: cur.toList.drop (L.length+1)).toArray 3 (0,0) hgg
     have hlen:(cur.toList.take L.length).length=L.length:=by have h9:cur.toList.length=cap:=(Array.length_toList).trans hcs;rw [List.length_take,h9];omega
     refine ⟨_,_,hr,⟨ho',fun g' hg' o u hlo hu => ?_⟩,fun b c' t f hb => ?_,hg⟩
     · obtain rfl:g=g':=by simpa [Value.ownBlock] using hg'
       rw [cell_of_row _ g o _ 3 _ hblk] at hu
       simp only [List.length_append,List.length_singleton] at hlo
       refine hsp g rfl o u (by omega) (zqn hgg ?_)
       rw [List.getElem?_toArray,List.getElem?_append_right (by omega),hlen,show o - L.length=(o - L.length - 1)+1 by omega,List.getElem?_cons_succ,List.getElem?_drop,Array.getElem?_toList,show L.length+1+(o - L.length - 1)=o by omega] at hu
       exact hu
     · by_cases hbg':b=g
       · subst hbg'
         rw [hgg] at hb
         obtain ⟨rfl,rfl,rfl⟩:cur=c'∧_=t∧_=f:=by simpa using hb
         refine ⟨_,L.length,hblk,fun i hi => ?_,fun i u hi hu=>hsp b rfl i u hi (zqn hgg hu)⟩
         rw [List.getElem?_toArray,List.getElem?_append_left (by omega),List.getElem?_take_of_lt hi,Array.getElem?_toList]
       · refine ⟨c',c'.size,?_,fun _ _=>rfl,fun i u hi hu=>by have:=(Array.getElem?_eq_some_iff.1 hu).1;omega⟩
         rw [hall b (Array.getElem?_eq_some_iff.1 hb).1 (by simpa [Value.ownBlock] using hbg')];exact hb
   · have hwn:(⟨g,0,none⟩:Addr).block=g:=rfl
     have holds:=h.own.cells (g:=g) rfl
     have hr2:=run_append_grow (P:=Tryz.prog) w T ty 3 i0 (.int .i64 0) hT hi hz0 ⟨g,0,none⟩ L.length cap _ (by rw [hz1];simp) holds a 1 c [.int .i64 (x:Int)] (by rw [hz1];rfl) hnews (by omega) (by omega) (by rw [hz2];exact growslice_fits (by omega) (by omega))
     rw [hr] at hr2
     obtain ⟨rfl,rfl⟩:v'=_∧w'=_:=by simpa using hr2
     refine ⟨_,_,hr,⟨ho',fun g' hg' o u hlo hu => ?_⟩,fun b c' t f hb=>⟨c',c'.size,?_,fun _ _=>rfl,fun i u hi hu=>by have:=(Array.getElem?_eq_some_iff.1 hu).1;omega⟩,hg⟩
     · obtain rfl:w.heap.size=g':=by simpa [Value.ownBlock] using hg'
       rw [nc (X:=w.drew) (n:=w.heap.size) rfl] at hu
       simp only [List.length_append,List.length_singleton] at hlo
       rw [Array.getElem?_append_right (by simp;omega)] at hu
       exact zero_int hu
     · have hlt:=(Array.getElem?_eq_some_iff.1 hb).1
       rw [← hb]
       show (w.drew.alloc _).heap[b]? = _
       exact Array.getElem?_push_lt hlt ▸ by simp
theorem wpList_pushF {ops:Array Oper}{rest:List Oper}{o:Oper}{A:Act}{w w0:World}{Q:Exit→Act→World→Prop} (hgd:o.guard=none) (s x:Operand) (T:TypeId)
   (ho:o.op=.call { callee:=.builtin .append,args:=#[s,x],argTypes:=#[T,T] }) (ht:Tryz.prog.underlying T=some (.slice 3)) (base:Nat) (v:Value) {L:List Nat} (hs:A.eval s=v) (hown:OwnF w0 base v L)
   (c:Nat) (hx:A.eval x=.slice (some ⟨w0.heap.size,0,none⟩) 1 1) (hw:w=w0.alloc (.cells #[.int .i64 (c:Int)] 3)) (hn:L.length≤100) (hbase:base≤w0.heap.size)
   (h:∀ v' w',OwnF w' base v' (L++[c])→Frs w w'→w.grownBy w' v.ownBlock→(∀ g,v.ownBlock=some g→base≤g)→wpList Tryz.prog ops Q rest (A.put o.dst v') w'):wpList Tryz.prog ops Q (o :: rest) A w:=by
 subst hw
 have hown':=hown.later (zqa w0 (.cells #[.int .i64 (c:Int)] 3))
 obtain ⟨v',w',hr,h2,h3,h4⟩:=run_append_f _ base T o.type ht hown' c ⟨w0.heap.size,0,none⟩ 1 (by rw [nc rfl];rfl) hn (by simp;omega)
 refine wpList_plain hgd fun _ hK => ?_
 unfold Oper.wp execOp
 simp only [ho,resolve,invoke,builtin,Sem.run_bind,Sem.run_pure,Result.andThen_ok,List.map_toArray,List.map_cons,List.map_nil,hs,hx,hr]
 exact hK _ _ (h v' w' h2 h3 h4 (fun g hg=>(hown.own.lt g hg).1))
def nzq (M:List (List (Int×Int))) (col i:Nat):Prop:=((M.getD i []).getD col (0,1)).1≠0
instance (M:List (List (Int×Int))) (col i:Nat):Decidable (nzq M col i):=by unfold nzq;infer_instance
def pvt (M:List (List (Int×Int))) (col:Nat):Nat→Nat→Option Nat
 | 0,_=>none
 | t+1,i=>if nzq M col i then some i else pvt M col t (i+1)
def pv (M:List (List (Int×Int))) (col k:Nat):Option Nat:=pvt M col (M.length - k) k
theorem pv_next {M:List (List (Int×Int))}{col i:Nat} (h:i<M.length):pv M col i=if nzq M col i then some i else pv M col (i+1):=by
 unfold pv
 rw [show M.length - i=(M.length - (i+1))+1 by omega]
 rfl
theorem pv_end {M:List (List (Int×Int))}{col i:Nat} (h:M.length≤i):pv M col i=none:=by
 unfold pv
 rw [show M.length - i=0 by omega]
 rfl
theorem pvt_lt {M:List (List (Int×Int))}{col a:Nat}:∀ (t i:Nat),pvt M col t i=some a→i≤a∧a<i+t∧nzq M col a
 | 0,i,h=>by simp [pvt] at h
 | t+1,i,h=>by
   simp only [pvt] at h
   split at h
   · rename_i hz
     obtain rfl:i=a:=by simpa using h
     exact ⟨by omega,by omega,hz⟩
   · have:=pvt_lt t (i+1) h
     exact ⟨by omega,by omega,this.2.2⟩
theorem pv_some {M:List (List (Int×Int))}{col k a:Nat} (h:pv M col k=some a):k≤a∧a<M.length∧nzq M col a:=by
 have:=pvt_lt _ _ h
 exact ⟨this.1,by omega,this.2.2⟩
def stepD (col:Nat) (s:List (List (Int×Int))×List Nat):List (List (Int×Int))×List Nat :=
 match pv s.1 col s.2.length with
 | none=>s
 | some a=>(redT s.1 s.2.length a col,s.2++[col])
def redD (M:List (List (Int×Int))):Nat→List (List (Int×Int))×List Nat
 | 0=>(M,[])
 | j+1=>stepD j (redD M j)
theorem redD_len (M:List (List (Int×Int))):∀ j,(redD M j).1.length=M.length∧(redD M j).2.length≤j
 | 0=>⟨rfl,Nat.le_refl _⟩
 | j+1=>by
   have ih:=redD_len M j
   simp only [redD,stepD]
   split
   · exact ⟨ih.1,by omega⟩
   · exact ⟨by simp [redT_len,ih.1],by simp;omega⟩
theorem oneR_len (h:List (Int×Int)) (c:Int×Int):(oneR h c).length=h.length:=by simp [oneR]
theorem getD_mem {α:Type}{M:List (List α)}{a:Nat} (h:a<M.length):M.getD a [] ∈ M:=by
 rw [List.getD_eq_getElem?_getD,List.getElem?_eq_getElem h]
 exact List.getElem_mem h
theorem redT_wide {M:List (List (Int×Int))}{k a col d:Nat} (hk:k<M.length) (ha:a<M.length) (hw:∀ r ∈ M,r.length=d):∀ r ∈ redT M k a col,r.length=d:=by
 intro r hr
 rw [redT,List.mem_map] at hr
 obtain ⟨i,hi,rfl⟩:=hr
 have hi:=List.mem_range.1 hi
 have h1:=hw _ (getD_mem ha)
 split
 · rw [oneR_len,h1]
 · have h2:(M.getD (if i=a then k else i) []).length=d:=hw _ (getD_mem (by split <;> omega))
   rw [wout_len (by rw [oneR_len,h1,h2]),h2]
theorem redD_wide {M:List (List (Int×Int))}{d:Nat} (hw:∀ r ∈ M,r.length=d):∀ j,∀ r ∈ (redD M j).1,r.length=d
 | 0=>hw
 | j+1=>by
   have ih:=redD_wide hw j
   simp only [redD,stepD]
   split
   · exact ih
   · rename_i a ha
     have:=pv_some ha
     exact redT_wide (by omega) this.2.1 ih
theorem redD_stop {M:List (List (Int×Int))}{j:Nat} (h:M.length≤(redD M j).2.length):∀ t,redD M (j+t)=redD M j
 | 0=>rfl
 | t+1=>by
   have ih:=redD_stop h t
   rw [← Nat.add_assoc]
   simp only [redD,ih,stepD]
   rw [pv_end (by rw [(redD_len M j).1];exact h)]
def GoodR (N T:Nat) (M:List (List (Int×Int))) (k a col:Nat):Prop:=∀ head c,M[a]? = some head→head[col]? = some c→(∀ x ∈ oneR head c,Fit N x)∧(∀ r ∈ M,∀ y,r[col]? = some y→∀ x ∈ oneR head c,Fit T (qm x y))∧(∀ r ∈ redT M k a col,∀ x ∈ r,Fit N x)
def IE (_w:World) (cs:List Value) (x:Nat):Prop:=cs=[.int .i64 (x:Int)]
theorem IE.stays (K:Value→Prop) (e:TypeId):Stays K e IE:=fun _ _ _ _ h _=>h
theorem OwnF.rows {w:World}{base:Nat}{v:Value}{L:List Nat} (h:OwnF w base v L):Rows 1 IE w v L:=by
 have hc:=@World.ownsRow.cells _ _ _ _ _ _ _ h.own
 obtain ⟨_,⟨rfl,h3⟩ | ⟨g,cap,cur,rfl,_,_,h6,h7,_⟩⟩:=h.own
 · exact ⟨none,0,by rw [h3],by omega,by unfold maxLen;omega,Or.inl (List.eq_nil_of_length_eq_zero h3)⟩
 · refine ⟨_,cap,rfl,h6,h7,Or.inr ⟨g,0,rfl,fun i x hx=>⟨[.int .i64 (x:Int)],rfl,fun j u hu => ?_,rfl⟩⟩⟩
   have hj:j=0:=by have:=(List.getElem?_eq_some_iff.1 hu).1;simpa using this
   subst hj
   obtain rfl:_=u:=by simpa using hu
   have:=hc (g:=g) rfl i (.int .i64 (x:Int)) (by rw [List.getElem?_map,hx];rfl)
   rw [show (⟨g,0,none⟩:Addr).add i=⟨g,0+(i*1+0),none⟩ by unfold Addr.add;split <;> simp_all] at this
   exact this
theorem run_copy {α:Type}{E:World→List Value → α → Prop}{K:Value→Prop} (w:World) (T ty e:TypeId) (z:Value) (bytes:Nat) (ht:Tryz.prog.underlying T=some (.slice e)) (hinfo:(Tryz.prog.info? e).map (fun i=>(i.zero,i.size,i.bytes))=some (some z,1,bytes)) (hby:bytes≤1000) {v:Value}{L:List α} (h:Rows 1 E w v L) (hE:Stays K e E) (hn:L.length≤100) :
   ∃ v' w',(Builtin.append_ #[T,T] ty #[.slice none 0 0,v]).run Tryz.prog w=.ok v' w'∧Rows 1 E w' v' L∧Below w.heap.size w w':=by
 obtain ⟨i0,hi,hz0,hz1,hz2⟩:=info_parts hinfo
 obtain ⟨a,cap,rfl,h2,h3,h4⟩:=h
 by_cases hL:L=[]
 · subst hL
   have hf:(Builtin.firstCells 1 0 (.slice a 0 cap)).run Tryz.prog w=.ok #[] w:=by
     cases a with
     | none=>exact run_firstCells_none (P:=Tryz.prog) w 1 0 0 cap
     | some b=>exact run_firstCells_some (P:=Tryz.prog) w 1 0 b 0 cap [] rfl (fun j u hu=>by simp at hu)
   refine ⟨.slice none 0 0,w,?_,⟨none,0,rfl,Nat.le_refl _,Nat.zero_le _,Or.inl rfl⟩,Below.refl _ _⟩
   simp [Builtin.append_,run_underlying ht,sizeOf,typeInfo,hi,hz1,Builtin.lenOf,hf]
 · rcases h4 with h4 | ⟨b,o,rfl,h5⟩
   · exact absurd h4 hL
   have hlen:0<L.length:=List.length_pos_iff.2 hL
   obtain ⟨V,hV⟩:=Go.Deep.choose_lt (α := Value) (n:=L.length) (p:=fun i u=>w.cell? ⟨b,o+i,none⟩=some u∧∀ x,L[i]? = some x→E w [u] x) (fun i hi=>by
     obtain ⟨cs,hl,hcs,he⟩:=h5 i L[i] (by simp [hi])
     match cs,hl with
     | [u],_=>exact ⟨u,by simpa using hcs 0 u rfl,fun x hx=>by
         obtain rfl:L[i]=x:=by simpa [hi] using hx
         exact he⟩)
   have hnl:((List.range L.length).map V).length=L.length:=by simp
   have hr:=run_append_nil (P:=Tryz.prog) w T ty e i0 z ht hi hz0 ⟨b,o,none⟩ L.length cap ((List.range L.length).map V) (by rw [hz1];simp) (fun j u hu=>by
     have hj:j<L.length:=by have:=(List.getElem?_eq_some_iff.1 hu).1;simpa using this
     rw [List.getElem?_map,List.getElem?_range hj] at hu
     obtain rfl:V j=u:=by simpa using hu
     rw [show (⟨b,o,none⟩:Addr).add j=⟨b,o+j,none⟩ by unfold Addr.add;split <;> simp_all]
     exact (hV j hj).1) hlen (by omega) (by rw [hz2];have:L.length*bytes≤100*1000:=Nat.mul_le_mul hn hby;omega)
   have hb:Below w.heap.size w (w.drew.alloc (.cells (((List.range L.length).map V).toArray++Builtin.zeroCells z.cells (grownCap w L.length 0 e - L.length)) e)):=bk (zqa w.drew _) (Below.refl _ _).drew
   refine ⟨_,_,hr,⟨_,_,rfl,grownCap_ge _ _ _ _,grownCap_le_maxLen _ _ _ _ (by unfold maxLen;omega),Or.inr ⟨w.heap.size,0,rfl,fun i x hx => ?_⟩⟩,hb⟩
   have hi':=(List.getElem?_eq_some_iff.1 hx).1
   refine ⟨[V i],rfl,fun j u hu => ?_,hE _ _ _ _ ((hV i hi').2 x hx) (Chg.below hb)⟩
   have hj:j=0:=by have:=(List.getElem?_eq_some_iff.1 hu).1;simpa using this
   subst hj
   obtain rfl:_=u:=by simpa using hu
   rw [nc (X:=w.drew) (n:=w.heap.size) rfl,Array.getElem?_append_left (by simp;omega)]
   simp [hi']
theorem wpList_copy {α:Type}{E:World→List Value → α → Prop}{K:Value→Prop}{ops:Array Oper}{rest:List Oper}{o:Oper}{A:Act}{w:World}{Q:Exit→Act→World→Prop} (hgd:o.guard=none) (s x:Operand) (T:TypeId)
   (ho:o.op=.call { callee:=.builtin .append,args:=#[s,x],argTypes:=#[T,T] }) {e:TypeId}{z:Value}{bytes:Nat} (ht:Tryz.prog.underlying T=some (.slice e)) (hinfo:(Tryz.prog.info? e).map (fun i=>(i.zero,i.size,i.bytes))=some (some z,1,bytes)) (hby:bytes≤1000) {v:Value}{L:List α} (hs:A.eval s=.slice none 0 0) (hx:A.eval x=v) (hR:Rows 1 E w v L) (hE:Stays K e E) (hn:L.length≤100)
   (h:∀ v' w',Rows 1 E w' v' L→Below w.heap.size w w'→wpList Tryz.prog ops Q rest (A.put o.dst v') w'):wpList Tryz.prog ops Q (o :: rest) A w:=by
 obtain ⟨v',w',hr,h2,h3⟩:=run_copy w T o.type e z bytes ht hinfo hby hR hE hn
 refine wpList_plain hgd fun _ hK => ?_
 unfold Oper.wp execOp
 simp only [ho,resolve,invoke,builtin,Sem.run_bind,Sem.run_pure,Result.andThen_ok,List.map_toArray,List.map_cons,List.map_nil,hs,hx,hr]
 exact hK _ _ (h v' w' h2 h3)
def atv:Option Nat→Int
 | none => -1
 | some a=>a
set_option maxHeartbeats 16000000 in
set_option maxRecDepth 8000 in
theorem rreduced_any {N T:Nat}{v:Value}{M:List (List (Int×Int))} (w:World) (h:Rows 1 (LE 4 (QE N)) w v M) (hw:∀ r ∈ M,r.length=wide M) (hl:M.length≤6) (hw6:wide M≤6) (hNT:N≤T) (hT:T≤38000)
   (hg:∀ j a,j<wide M→pv (redD M j).1 j (redD M j).2.length=some a→GoodR N T (redD M j).1 (redD M j).2.length a j) :
   Calls Tryz.prog 76 #[v] w fun e w'=>(∃ vm vf,e=.returned (.tuple #[vm,vf])∧Rows 1 (LE 4 (QE N)) w' vm (redD M (wide M)).1∧Rows 1 IE w' vf (redD M (wide M)).2)∧Below w.heap.size w w':=by
 obtain ⟨sa,sc,rfl⟩:=h.shape
 have HR:=qh h
 have HG:=qh hg
 have HW:=qh hw
 obtain ⟨d,hd⟩:∃ d,d=wide M:=⟨_,rfl⟩
 rw [← hd] at HG HW hw6
 have HD:=qh hd
 obtain ⟨n,hn⟩:∃ n,n=M.length:=⟨_,rfl⟩
 rw [← hn] at hl HR
 rw [← hn,← hd]
 have HN:=qh hn
 clear h hg hw hd hn
 have hM100:M.length≤100:=by have:=uh HN;omega
 go_enter Tryz.func76,Tryz.ntmps76
 go_wp2_with (at_builtin;refine wpList_copy (K:=IsSl) rfl _ _ _ rfl Tryz.underlying88 info_qs (by decide) rfl rfl (uh HR) (zqk _ (by decide)) hM100 ?_;intro mv W0 hM0 hb0)
 obtain ⟨ma,mc,rfl⟩:=hM0.shape
 have HM0:=qh hM0
 have HB0:=qh hb0
 have HR:=qh ((uh HR).later (zqk N (e:=0) (by decide)) hb0)
 clear hM0 hb0 hM100
 go_wp2_with fail
 go_fit (rwide_any _ (uh HR))
 rintro e W1 ⟨rfl,B1⟩
 have HB1:=qh (bk B1 (uh HB0))
 have HM0:=qh ((uh HM0).later (zqk N (e:=0) (by decide)) B1)
 clear B1 HB0
 rw [← uh HD]
 go_wp2_with fail
 go_loopg [4,5,7] d (fun gk mv fv jv wr=>∃ (j:Nat),j≤d∧gk=d - j∧jv=.int .i64 (j:Int)∧Hid (Rows 1 (LE 4 (QE N)) wr mv (redD M j).1)∧Hid (OwnF wr W1.heap.size fv (redD M j).2)∧Hid (Below W1.heap.size W1 wr))
 case atStart=>exact ⟨0,by omega,by omega,rfl,HM0,qh (OwnF.nil _ _),qh (Below.refl _ _)⟩
 case round =>
   obtain ⟨j,hj,hgk,rfl,HM,HF,HB⟩:=hrel
   obtain ⟨xa,xc,rfl⟩:=(uh HM).shape
   obtain ⟨fa,fc,rfl⟩:=(uh HF).slice
   have hln:=redD_len M j
   obtain ⟨k,hk⟩:∃ k,k=(redD M j).2.length:=⟨_,rfl⟩
   have hlen:(redD M j).1.length=n:=by rw [hln.1,uh HN]
   rw [hlen] at HM ⊢
   rw [← hk] at hln HF ⊢
   have HLEN:=qh hlen
   have HKE:=qh hk
   have hkj:k≤j:=hln.2
   clear hln hlen hk
   by_cases hjd:j<d
   · by_cases hkn:k<n
     · have hjd':(j:Int)<(d:Int):=by omega
       have hkn':(k:Int)<(n:Int):=by omega
       have HGK:=qh (And.intro hgk (And.intro hj (And.intro hjd hkn)))
       have hrw:∀ r ∈ (redD M j).1,r.length=d:=redD_wide (uh HW) j
       have HRW:=qh hrw
       have hn1:(n:Int) - 1≤100:=by omega
       have hn0:-100≤(n:Int) - 1:=by omega
       clear hrw hgk hj
       obtain ⟨wi,rfl⟩:∃ X,X=wr:=⟨_,rfl⟩
       go_wp2_with fail
       go_loopg [9,10] (n - k) (fun g2 av iv w2=>∃ (i:Nat) (z:Int),k≤i∧i≤n∧g2=i - k∧av=.int .i64 z∧iv=.int .i64 ((i:Int) - 1)∧Hid (z=atv (pv (redD M j).1 j i))∧Hid (Below wi.heap.size wi w2))
       case atStart=>exact ⟨n,-1,by omega,by omega,by omega,rfl,by go_num,qh (by rw [pv_end (by rw [uh HLEN];omega)];rfl),qh (Below.refl _ _)⟩
       case round =>
         obtain ⟨i,z,hki,hin,hg2,rfl,rfl,HAV,HB2⟩:=hrel
         by_cases hik:k<i
         · obtain ⟨t,rfl⟩:∃ t,i=t+1:=⟨i - 1,by omega⟩
           have e1:((t+1:Nat):Int) - 1=(t:Int):=by omega
           rw [e1]
           obtain ⟨r,hr⟩:∃ r,(redD M j).1[t]? = some r:=⟨(redD M j).1[t]'(by rw [uh HLEN];omega),by simp⟩
           have hrl:=uh HRW r (List.mem_of_getElem? hr)
           obtain ⟨p,hp⟩:∃ p,r[j]? = some p:=⟨r[j]'(by omega),by simp⟩
           obtain ⟨mb,mo,rfl,cs,_,hcs1,u,rfl,hU⟩:=(uh HM).at hr
           obtain ⟨ua,uc,rfl⟩:=hU.shape
           obtain ⟨rb,ro,rfl,cs,_,hcs2,p1,p2,p3,p4,p5,p6,p7,p8,rfl,hP⟩:=hU.at hp
           have hBB:=uh HB2
           have c0:wr.cell? ⟨mb,mo+t,none⟩=some (.slice (some ⟨rb,ro,none⟩) r.length uc):=ck hBB (by simpa using hcs1 0 _ rfl)
           have c1:wr.cell? ⟨rb,ro+j*4,none⟩=some (.bool p1):=ck hBB (by simpa using hcs2 0 _ rfl)
           have c2:wr.cell? ⟨rb,ro+j*4+1,none⟩=some (.slice p2 p3 p4):=ck hBB (hcs2 1 _ rfl)
           have c3:wr.cell? ⟨rb,ro+j*4+2,none⟩=some (.bool p5):=ck hBB (hcs2 2 _ rfl)
           have c4:wr.cell? ⟨rb,ro+j*4+3,none⟩=some (.slice p6 p7 p8):=ck hBB (hcs2 3 _ rfl)
           have HP:=qh (hP.later hBB)
           have htn:(t:Int)<(n:Int):=by omega
           have hkt:(k:Int)≤(t:Int):=by omega
           have htm:-100≤(t:Int) - 1:=by omega
           have hjr:(j:Int)<(r.length:Int):=by omega
           have hnz:nzq (redD M j).1 j t↔p.1≠0:=by simp [nzq,List.getD,hr,hp]
           have HNZ:=qh (And.intro hnz (pv_next (M:=(redD M j).1) (col:=j) (i:=t) (by rw [uh HLEN];omega)))
           have HII:=qh (And.intro hki (And.intro hin hg2))
           clear hnz hr hrl hp hcs1 hcs2 hU hP hBB e1 hki hin hg2 hik
           go_wp2_with fail
           go_fit (rqsign_any _ (uh HP))
           rintro e V1 ⟨rfl,B1⟩
           have HB2:=qh (bk B1 (uh HB2))
           clear B1 c0 c1 c2 c3 c4 HP
           by_cases hp0:p.1=0
           · have hsg:(sgn p.1 != 0)=false:=by rw [hp0];rfl
             have hpv:=uh HNZ
             rw [if_neg (by rw [hpv.1];simp [hp0])] at hpv
             have HPV:=qh hpv.2
             clear hpv hp0
             obtain ⟨hki,hin,hg2⟩:=uh HII
             go_wp2
             go_roundg (t - k)
             case measure=>omega
             case rel=>exact ⟨t,z,by omega,by omega,rfl,rfl,by go_num,qh (by rw [uh HPV];exact uh HAV),HB2⟩
           · have hsg:(sgn p.1 != 0)=true:=by simp [sgn];omega
             have hpv:=uh HNZ
             rw [if_pos (by rw [hpv.1];exact hp0)] at hpv
             have HPV:=qh hpv.2
             clear hpv hp0
             obtain ⟨hki,hin,hg2⟩:=uh HII
             go_wp2
             go_roundg (t - k)
             case measure=>omega
             case rel=>exact ⟨t,(t:Int),by omega,by omega,rfl,rfl,by go_num,qh (by rw [uh HPV];rfl),HB2⟩
         · obtain rfl:i=k:=by omega
           have hkk:¬ (i:Int)≤(i:Int) - 1:=by omega
           clear hik hki hin hg2
           have HM:=qh ((uh HM).later (zqk N (e:=0) (by decide)) (uh HB2))
           have HF:=qh ((uh HF).later (uh HB2))
           have HB:=qh (bk (uh HB2) (uh HB))
           obtain ⟨hgk,hj,hjd2,hkn2⟩:=uh HGK
           have hj1:(j:Int)+1≤100:=by omega
           rcases hpv:pv (redD M j).1 j i with _ | a
           · have hz:z = -1:=by rw [uh HAV,hpv];rfl
             subst hz
             have HST:Hid (redD M (j+1)=redD M j):=qh (by simp only [redD,stepD];rw [← uh HKE,hpv])
             clear hpv
             go_wp2
             go_roundg (d - (j+1))
             case measure=>omega
             case rel=>exact ⟨j+1,by omega,rfl,by go_num,qh (by rw [uh HST];exact uh HM),qh (by rw [uh HST];exact uh HF),HB⟩
           · have hz:z=(a:Int):=by rw [uh HAV,hpv];rfl
             subst hz
             obtain ⟨ha1,ha2,ha3⟩:=pv_some hpv
             rw [uh HLEN] at ha2
             obtain ⟨head,hh⟩:∃ r,(redD M j).1[a]? = some r:=⟨(redD M j).1[a]'(by rw [uh HLEN];omega),by simp⟩
             have hhl:=uh HRW head (List.mem_of_getElem? hh)
             obtain ⟨c,hc⟩:∃ p,head[j]? = some p:=⟨head[j]'(by omega),by simp⟩
             have hc0:c.1≠0:=by simpa [nzq,List.getD,hh,hc] using ha3
             have hgd:=uh HG j a hjd (by rw [← uh HKE];exact hpv) head c hh hc
             have HCALL:=qh (rreduce_any (N:=N) (T:=T) (k:=i) (at':=a) (col:=j) wr (uh HM) (by rw [uh HLEN];omega) hh hc (fun r hr=>by rw [hhl];exact uh HRW r hr) hc0 (by rw [uh HLEN];exact hl) (by omega) hNT hT hgd.1 hgd.2.1 (by rw [uh HKE];exact hgd.2.2))
             have HST:Hid (redD M (j+1)=(redT (redD M j).1 i a j,(redD M j).2++[j])):=qh (by simp only [redD,stepD];rw [← uh HKE,hpv])
             have ha0:¬ (a:Int)<0:=by omega
             clear hpv ha1 ha2 ha3 hh hhl hc hc0 hgd
             go_wp2_with fail
             go_fit (uh HCALL)
             rintro e V1 ⟨⟨vx,rfl,hX⟩,B1⟩
             obtain ⟨ya,yc,rfl⟩:=hX.shape
             have HX:=qh hX
             have HF:=qh ((uh HF).later B1)
             have HB:=qh (bk B1 (uh HB))
             have hbs:W1.heap.size≤V1.heap.size:=(uh HB).size
             have hL100:(redD M j).2.length≤100:=by rw [← uh HKE];omega
             clear hX B1 HCALL
             obtain ⟨xl,hxl⟩:∃ n,n=(redT (redD M j).1 i a j).length:=⟨_,rfl⟩
             rw [← hxl] at HX ⊢
             clear hxl
             go_wp2_with (at_builtin;refine wpList_pushF rfl _ _ _ rfl Tryz.underlying22 W1.heap.size _ rfl (uh HF) j rfl rfl hL100 hbs ?_;intro fv' Z1 hO1 hfr hgr1 hge1)
             go_roundg (d - (j+1))
             case measure=>omega
             case rel=>exact ⟨j+1,by omega,rfl,by go_num,qh (by rw [uh HST];exact ((uh HX).later (zqk N (e:=0) (by decide)) (zqa _ _)).frs2 hfr),qh (by rw [uh HST];exact hO1),qh ((bk (zqa _ _) (uh HB)).grown hgr1 (bk (zqa _ _) (uh HB)).size hge1)⟩
     · have hst:redD M d=redD M j:=by
         have:=redD_stop (M:=M) (j:=j) (by rw [← uh HKE,← uh HN];omega) (d - j)
         rwa [show j+(d - j)=d by omega] at this
       have HST:=qh hst
       have hjd':(j:Int)<(d:Int):=by omega
       have hkn':¬ (k:Int)<(n:Int):=by omega
       clear hst hkn hjd hgk hj
       go_wp2
       refine bodyPost_ret (v:=.tuple #[.slice xa n xc,.slice fa k fc]) (by simp [results,Tryz.results76,go_sem]) rfl ?_
       exact ⟨⟨_,_,rfl,by rw [uh HST];exact uh HM,by rw [uh HST];exact (uh HF).rows⟩,bk (uh HB) (uh HB1)⟩
   · obtain rfl:j=d:=by omega
     clear hjd hj hgk
     go_wp2
     refine bodyPost_ret (v:=.tuple #[.slice xa n xc,.slice fa k fc]) (by simp [results,Tryz.results76,go_sem]) rfl ?_
     exact ⟨⟨_,_,rfl,uh HM,(uh HF).rows⟩,bk (uh HB) (uh HB1)⟩
def nzz (R:List (List Int)) (col i:Nat):Prop:=(R.getD i []).getD col 0≠0
instance (R:List (List Int)) (col i:Nat):Decidable (nzz R col i):=by unfold nzz;infer_instance
def pzt (R:List (List Int)) (col:Nat):Nat→Nat→Option Nat
 | 0,_=>none
 | t+1,i=>if nzz R col i then some i else pzt R col t (i+1)
def pz (R:List (List Int)) (col k:Nat):Option Nat:=pzt R col (R.length - k) k
theorem pz_next {R:List (List Int)}{col i:Nat} (h:i<R.length):pz R col i=if nzz R col i then some i else pz R col (i+1):=by
 unfold pz
 rw [show R.length - i=(R.length - (i+1))+1 by omega]
 rfl
theorem pz_end {R:List (List Int)}{col i:Nat} (h:R.length≤i):pz R col i=none:=by
 unfold pz
 rw [show R.length - i=0 by omega]
 rfl
theorem ZE.other {N:Nat} (w:World) (cs:List Value) (x:Int) (h:ZE N w cs x):∃ u ∈ cs,¬ IsSl u:=by
 obtain ⟨x1,x2,x3,x4,rfl,_⟩:=h
 exact ⟨.int .i64 x1,by simp,fun ⟨_,_,_,h⟩=>by cases h⟩
set_option maxHeartbeats 16000000 in
set_option maxRecDepth 8000 in
theorem firstWith_any {T col k:Nat}{v:Value}{R:List (List Int)} (w:World) (h:Rows 1 (LE 2 (ZE T)) w v R) (hw:∀ r ∈ R,col<r.length) (hl:R.length≤6) (hk:k≤6) :
   Calls Tryz.prog 145 #[v,.int .i64 (col:Int),.int .i64 (k:Int)] w fun e w'=>e=.returned (.int .i64 (atv (pz R col k)))∧Below w.heap.size w w':=by
 obtain ⟨sa,sc,rfl⟩:=h.shape
 have HR:=qh h
 have HW:=qh hw
 obtain ⟨n,hn⟩:∃ n,n=R.length:=⟨_,rfl⟩
 rw [← hn] at hl HR
 rw [← hn]
 have HN:=qh hn
 clear h hw hn
 go_enter Tryz.func145,Tryz.ntmps145
 go_wp2_with fail
 go_loopg [7] (6 - k) (fun gk iv wr=>∃ (i:Nat),k≤i∧i≤6∧gk=6 - i∧iv=.int .i64 (i:Int)∧Hid (pz R col i=pz R col k)∧Hid (Below w.heap.size w wr))
 case atStart=>exact ⟨k,by omega,by omega,by omega,rfl,qh rfl,qh (Below.refl _ _)⟩
 case round =>
   obtain ⟨i,hki,hi6,hgk,rfl,HP,HB⟩:=hrel
   by_cases hin:i<n
   · obtain ⟨r,hr⟩:∃ r,R[i]? = some r:=⟨R[i]'(by have:=uh HN;omega),by simp⟩
     have hrl:=uh HW r (List.mem_of_getElem? hr)
     obtain ⟨x,hx⟩:∃ x,r[col]? = some x:=⟨r[col],by simp [hrl]⟩
     obtain ⟨mb,mo,rfl,cs,_,hcs1,u,rfl,hU⟩:=(uh HR).at hr
     obtain ⟨ua,uc,rfl⟩:=hU.shape
     obtain ⟨rb,ro,rfl,cs,_,hcs2,p1,p2,p3,p4,rfl,hX⟩:=hU.at hx
     have hBB:=uh HB
     have c0:wr.cell? ⟨mb,mo+i,none⟩=some (.slice (some ⟨rb,ro,none⟩) r.length uc):=ck hBB (by simpa using hcs1 0 _ rfl)
     have c1:wr.cell? ⟨rb,ro+col*2,none⟩=some (.int .i64 p1):=ck hBB (by simpa using hcs2 0 _ rfl)
     have c2:wr.cell? ⟨rb,ro+col*2+1,none⟩=some (.slice p2 p3 p4):=ck hBB (hcs2 1 _ rfl)
     have HX:=qh (hX.later hBB)
     have hin':(i:Int)<(n:Int):=by omega
     have hcr:(col:Int)<(r.length:Int):=by omega
     have him:(i:Int)+1≤100:=by omega
     have hnz:nzz R col i↔x≠0:=by simp [nzz,List.getD,hr,hx]
     have HNZ:=qh (And.intro hnz (pz_next (R:=R) (col:=col) (i:=i) (by have:=uh HN;omega)))
     clear hnz hr hrl hx hcs1 hcs2 hU hX hBB
     go_wp2_with fail
     go_fit (sign_zr _ (uh HX))
     rintro e V1 ⟨rfl,B1⟩
     have HB:=qh (bk B1 (uh HB))
     clear B1 c0 c1 c2 HX
     by_cases hx0:x=0
     · have hsg:(sgn x != 0)=false:=by rw [hx0];rfl
       have hpv:=uh HNZ
       rw [if_neg (by rw [hpv.1];simp [hx0])] at hpv
       have HPV:=qh hpv.2
       clear hpv hx0
       go_wp2
       go_roundg (6 - (i+1))
       case measure=>omega
       case rel=>exact ⟨i+1,by omega,by omega,rfl,by go_num,qh (by rw [← uh HPV];exact uh HP),HB⟩
     · have hsg:(sgn x != 0)=true:=by simp [sgn];omega
       have hpv:=uh HNZ
       rw [if_pos (by rw [hpv.1];exact hx0)] at hpv
       have HPV:=qh hpv.2
       clear hpv hx0
       go_wp2
       go_ret
       exact ⟨by rw [← uh HP,uh HPV];rfl,uh HB⟩
   · have HPE:=qh (pz_end (R:=R) (col:=col) (i:=i) (by have:=uh HN;omega))
     have hin':¬ (i:Int)<(n:Int):=by omega
     clear hin
     go_wp2
     go_ret
     exact ⟨by rw [← uh HP,uh HPE];rfl,uh HB⟩
theorem info_zz:(Tryz.prog.info? 183).map (fun i=>(i.zero,i.size,i.bytes))=some (some (.slice none 0 0),1,24):=by kernel_rfl
theorem tablez_start {N:Nat} (w:World) (q n:Nat) :
   let w2:=(w.alloc (.cells (madeCells #[.int .i64 0,.slice none 0 0] (q*2)) 31)).alloc (.cells (madeCells #[.slice none 0 0] n) 183)
   Below w.heap.size w w2∧Fill NoWord 2 (ZE N) 31 w2 w.heap.size q []∧Tab 183 w2 (w.heap.size+1) n (fun _=>.slice none 0 0):=by
 intro w2
 have k1:=zqa w (.cells (madeCells #[.int .i64 0,.slice none 0 0] (q*2)) 31)
 have k2:=zqa (w.alloc (.cells (madeCells #[.int .i64 0,.slice none 0 0] (q*2)) 31)) (.cells (madeCells #[.slice none 0 0] n) 183)
 have h1:=Fill.new (k:=2) (E:=ZE N) (t:=31) w (z:=#[.int .i64 0,.slice none 0 0]) q zk_z (by decide)
 have h2:=Tab.new (t:=183) (w.alloc (.cells (madeCells #[.int .i64 0,.slice none 0 0] (q*2)) 31)) n (.slice none 0 0)
 rw [show (w.alloc (.cells (madeCells #[.int .i64 0,.slice none 0 0] (q*2)) 31)).heap.size=w.heap.size+1 by simp] at h2
 exact ⟨bk k2 k1,h1.later (ZE.stays _ _ nww) k2,h2⟩
set_option maxHeartbeats 4000000 in
set_option maxRecDepth 8000 in
theorem tablez_any {N n m:Nat} (w:World) (hn:n≤6) (hm:m≤6) :
   Calls Tryz.prog 209 #[.int .i64 (n:Nat),.int .i64 (m:Nat)] w fun e w'=>(∃ (g1 g2:Nat) (A:Nat→Option Addr),e=.returned (.slice (some ⟨g2,0,none⟩) n n)∧w.heap.size≤g1∧w.heap.size≤g2∧g1≠g2∧(∀ i,i<n→0<m→A i=some ⟨g1,i*m*2,none⟩)∧Fill NoWord 2 (ZE N) 31 w' g1 (n*m) []∧Tab 183 w' g2 n (fun i=>.slice (A i) 0 m))∧Below w.heap.size w w':=by
 obtain ⟨q,hq⟩:∃ q,q=n*m:=⟨_,rfl⟩
 have hq36:q≤36:=by rw [hq];exact Nat.mul_le_mul hn hm
 rw [← hq]
 have HQ:=qh hq
 have hmk:=run_make_k (P:=Tryz.prog) 183 31 _ 2 32 Tryz.underlying183 info_z .i64 .i64 q (by omega) (by omega)
 have hmk2:=run_make_k (P:=Tryz.prog) 182 183 _ 1 24 Tryz.underlying182 info_zz .i64 .i64 n (by omega) (by omega)
 have hwm:wrap64 ((n:Int)*(m:Int))=(q:Int):=wrap_mul (by omega) hq
 clear hq
 go_enter Tryz.func209,Tryz.ntmps209
 go_wp2_with fail
 go_loopg [15] n (fun gk iv wr=>∃ (i:Nat) (f:Nat→Value),i≤n∧gk=n - i∧iv=.int .i64 (i:Int)∧Hid (Below w.heap.size w wr)∧Hid (Fill NoWord 2 (ZE N) 31 wr w.heap.size q [])∧Hid (Tab 183 wr (w.heap.size+1) n f∧∀ k,k<i→∃ a,f k=.slice a 0 m∧(0<m→a=some ⟨w.heap.size,k*m*2,none⟩)))
 case atStart=>exact ⟨0,fun _=>.slice none 0 0,by omega,by omega,rfl,qh (tablez_start (N:=N) w q n).1,qh (tablez_start w q n).2.1,qh ⟨(tablez_start (N:=N) w q n).2.2,fun k hk=>by omega⟩⟩
 case round =>
   obtain ⟨i,f,hi,hgk,rfl,HB,HF,HT⟩:=hrel
   by_cases hil:i<n
   · obtain ⟨p1,hp1⟩:∃ p,p=i*m:=⟨_,rfl⟩
     obtain ⟨p2,hp2⟩:∃ p,p=(i+1)*m:=⟨_,rfl⟩
     have hp12:p2=p1+m:=by rw [hp1,hp2,Nat.add_mul];omega
     have hp2q:p2≤q:=by rw [hp2,uh HQ];exact Nat.mul_le_mul_right _ hil
     have k1:(p1:Int)≤(p2:Int):=by omega
     have k2:(p2:Int)≤(q:Int):=by omega
     have k3:(p1:Int)≤(q:Int):=by omega
     have hil':(i:Int)<(n:Int):=by omega
     have w1:wrap64 ((i:Int)*(m:Int))=(p1:Int):=wrap_mul (by omega) hp1
     have w2:wrap64 (((i:Int)+1)*(m:Int))=(p2:Int):=by rw [show ((i:Int)+1)=((i+1:Nat):Int) by omega];exact wrap_mul (by omega) hp2
     have e1:=(uh HT).1.cell hil
     have gf:=(uh HT).1.free
     have HP:=qh (And.intro hp1 (And.intro hp2 hp12))
     clear hp1 hp2 hp12 hp2q hmk hmk2 hwm
     go_wp2_with fail
     all_goals
       go_roundg (n - (i+1))
       case measure=>clear w1 w2;omega
       case rel =>
         obtain ⟨hp1,hp2,hp12⟩:=uh HP
         clear w1 w2
         have hmm:p2 - p1=m:=by omega
         refine ⟨i+1,_,by omega,rfl,by go_num,qh ((uh HB).setCell (p:=⟨w.heap.size+1,i,none⟩) (by show w.heap.size≤w.heap.size+1;omega) _),qh ((uh HF).nil_aside (by omega) _ _),qh ⟨(uh HT).1.set hil _,fun k hk => ?_⟩⟩
         by_cases hki:k=i
         · subst hki
           rw [if_pos rfl]
           first
             | exact ⟨_,by rw [hmm],fun _=>by rw [hp1]⟩
             | exact ⟨_,by rw [show m=0 by omega],fun h=>by omega⟩
         · rw [if_neg hki]
           exact (uh HT).2 k (by omega)
   · obtain rfl:i=n:=by omega
     clear hil hi hgk
     go_wp2
     go_ret
     obtain ⟨hT,hf⟩:=uh HT
     refine ⟨⟨w.heap.size,w.heap.size+1,fun i=>match f i with | .slice a _ _=>a | _=>none,rfl,Nat.le_refl _,by omega,by omega,?_,uh HF,?_⟩,uh HB⟩
     · intro k hk hm0
       obtain ⟨a,e1,e2⟩:=hf k hk
       simp only [e1]
       exact e2 hm0
     · obtain ⟨cur,h1,h2,h3⟩:=hT
       refine ⟨cur,h1,h2,fun k hk => ?_⟩
       obtain ⟨a,e1,e2⟩:=hf k hk
       rw [h3 k hk,e1]
       simp only [e1]
structure Bes (g:Nat) (w w':World):Prop where
 block:∀ b,b<w.heap.size→b≠g→w'.heap[b]? = w.heap[b]?
 chg:Chg NoWord 31 w w'
 below:Below g w w'
 size:w.heap.size≤w'.heap.size
theorem Bes.refl (g:Nat) (w:World):Bes g w w:=⟨fun _ _ _=>rfl,fun _ _ _ _ h _=>h,Below.refl _ _,Nat.le_refl _⟩
theorem Bes.of {g:Nat}{w w':World} (h:Below w.heap.size w w') (hg:g≤w.heap.size):Bes g w w':=⟨fun b hb _=>h.block b hb,Chg.below h,h.mono hg,h.size⟩
theorem Bes.trans {g:Nat}{w w1 w2:World} (h:Bes g w w1) (h':Bes g w1 w2):Bes g w w2:=⟨fun b hb hne=>by rw [h'.block b (by have:=h.size;omega) hne,h.block b hb hne],h.chg.trans h'.chg,h.below.trans h'.below,Nat.le_trans h.size h'.size⟩
theorem Bes.then {g:Nat}{w w1 w2:World} (h:Bes g w w1) (hb:Below w1.heap.size w1 w2) (hg:g≤w1.heap.size):Bes g w w2:=h.trans (Bes.of hb hg)
theorem Bes.cell {g b o:Nat}{w w':World}{v:Value} (h:Bes g w w') (hne:b≠g) (hv:w.cell? ⟨b,o,none⟩=some v):w'.cell? ⟨b,o,none⟩=some v:=by
 rw [World.cell?_of_block (a:=⟨b,o,none⟩) (h.block b (World.block_lt_of_cell? w _ hv) hne)];exact hv
theorem Zr.bes {g T:Nat}{w w':World}{v:Value}{z:Int} (h:Zr T w v z) (hb:Bes g w w'):Zr T w' v z:=h.chg hb.chg nww
theorem Box.bes {g r:Nat}{w w':World} (h:Box w r) (hb:Bes g w w') (hne:r≠g):Box w' r:=by
 obtain ⟨x,a,n,c,h1⟩:=h
 exact ⟨x,a,n,c,by rw [hb.block r (Array.getElem?_eq_some_iff.1 h1).1 hne];exact h1⟩
theorem Vr.bes {g b:Nat}{w w':World}{u:Int}{a:Option Addr}{n c N:Nat}{z:Int} (h:Vr w b u a n c N z) (hb:Bes g w w') (hne:b≠g):Vr w' b u a n c N z:=⟨hb.cell hne h.c0,hb.cell hne h.c1,h.box.bes hb hne,h.zr.bes hb⟩
def Zo (T g:Nat) (w:World) (v:Value) (zs:List Int):Prop:=Rows 2 (ZE T) w v zs∧∀ b,v.ownBlock=some b→zs≠[]→b≠g
theorem Zo.bes {T g:Nat}{w w':World}{v:Value}{zs:List Int} (h:Zo T g w v zs) (hb:Bes g w w'):Zo T g w' v zs:=by
 obtain ⟨⟨a,c,rfl,h1,h2,h3⟩,h4⟩:=h
 refine ⟨⟨a,c,rfl,h1,h2,?_⟩,h4⟩
 rcases h3 with h3 | ⟨b,o,rfl,h3⟩
 · exact Or.inl h3
 · refine Or.inr ⟨b,o,rfl,fun i x hx => ?_⟩
   obtain ⟨cs,hl,hcs,y1,y2,y3,y4,e,hz⟩:=h3 i x hx
   have hne:b≠g:=h4 b rfl (fun e=>by rw [e] at hx;simp at hx)
   exact ⟨cs,hl,fun j u hu=>hb.cell hne (hcs j u hu),y1,y2,y3,y4,e,hz.bes hb⟩
theorem Zo.later {T g:Nat}{w w':World}{v:Value}{zs:List Int} (h:Zo T g w v zs) (hb:Below w.heap.size w w'):Zo T g w' v zs:=⟨h.1.later (ZE.stays (K:=NoWord) _ 31 nww) hb,h.2⟩
theorem Zo.at {T g i:Nat}{w:World}{a:Option Addr}{n c:Nat}{zs:List Int}{x:Int} (h:Zo T g w (.slice a n c) zs) (hx:zs[i]? = some x):∃ b o x1 x2 x3 x4,a=some ⟨b,o,none⟩∧b≠g∧w.cell? ⟨b,o+i*2,none⟩=some (.int .i64 x1)∧w.cell? ⟨b,o+i*2+1,none⟩=some (.slice x2 x3 x4)∧Zr T w (.agg #[.int .i64 x1,.slice x2 x3 x4]) x:=by
 obtain ⟨b,o,rfl,cs,_,hcs,x1,x2,x3,x4,rfl,hz⟩:=h.1.at hx
 exact ⟨b,o,x1,x2,x3,x4,rfl,h.2 b rfl (fun e=>by rw [e] at hx;simp at hx),by simpa using hcs 0 _ rfl,hcs 1 _ rfl,hz⟩
theorem Tab.bes {t:TypeId}{w w':World}{g g' n:Nat}{f:Nat→Value} (h:Tab t w g' n f) (hb:Bes g w w') (hne:g'≠g):Tab t w' g' n f:=by
 obtain ⟨cur,h1,h2,h3⟩:=h
 exact ⟨cur,by rw [hb.block g' (Array.getElem?_eq_some_iff.1 h1).1 hne];exact h1,h2,h3⟩
theorem Fill.put2 {α:Type}{K:Value→Prop}{E:World→List Value → α → Prop}{t:TypeId}{w:World}{g n:Nat}{L:List α}{u0 u1:Value}{x:α} (h:Fill K 2 E t w g n L) (hE:Stays K t E) (hlt:L.length<n) (hk:∀ u ∈ [u0,u1],K u) (he:E w [u0,u1] x) :
   Fill K 2 E t ((w.setCell ⟨g,L.length*2,none⟩ u0).setCell ⟨g,L.length*2+1,none⟩ u1) g n (L++[x])∧Chg K t w ((w.setCell ⟨g,L.length*2,none⟩ u0).setCell ⟨g,L.length*2+1,none⟩ u1):=by
 obtain ⟨a0,e0⟩:=h.cell (o:=L.length*2) (by omega)
 obtain ⟨a1,e1⟩:=h.cell (o:=L.length*2+1) (by omega)
 obtain ⟨f0,c0⟩:=h.store (o:=L.length*2) (v:=u0) hE (by omega) (hk _ (by simp))
 obtain ⟨f1,c1⟩:=f0.store (o:=L.length*2+1) (v:=u1) hE (by omega) (hk _ (by simp))
 have hc:=c0.trans c1
 refine ⟨f1.snoc hlt rfl (fun j u hu => ?_) (hE _ _ _ _ he hc),hc⟩
 match j,hu with
 | 0,hu =>
   obtain rfl:u0=u:=by simpa using hu
   rw [Nat.add_zero,zqb _ _ _ _ _ _ (by omega)]
   exact zqd e0
 | 1,hu =>
   obtain rfl:u1=u:=by simpa using hu
   exact zqd (by rw [zqb _ _ _ _ _ _ (by omega)];exact e1)
theorem below_put2 {B:Nat}{w w':World}{g o:Nat} (h:Below B w w') (hg:B≤g) (u0 u1:Value):Below B w ((w'.setCell ⟨g,o,none⟩ u0).setCell ⟨g,o+1,none⟩ u1) :=
 (h.setCell (p:=⟨g,o,none⟩) hg _).setCell (p:=⟨g,o+1,none⟩) hg _
theorem bes_put2 {w:World}{g o:Nat}{u0 u1:Value} (hc:Chg NoWord 31 w ((w.setCell ⟨g,o,none⟩ u0).setCell ⟨g,o+1,none⟩ u1)):Bes g w ((w.setCell ⟨g,o,none⟩ u0).setCell ⟨g,o+1,none⟩ u1) :=
 ⟨fun b _ hb=>by rw [Below.heap_setCell _ _ _ _ hb,Below.heap_setCell _ _ _ _ hb],hc,below_put2 (Below.refl _ _) (Nat.le_refl _) _ _,by simp⟩
theorem run_room2 {T g n j m:Nat}{A:Option Addr}{X:List Int}{W:World}{q:Nat}{t1:Int}{t2:Option Addr}{t3 t4:Nat}{x:Int}{b0:Nat} (ty:TypeId) (hroom:Fill NoWord 2 (ZE T) 31 W g n X) (hA:A=some ⟨g,b0*2,none⟩) (hj:j<m) (hb:b0+j=X.length) (hn:X.length<n) (hq:W.cell? ⟨q,0,none⟩=some (.int .i64 t1)∧W.cell? ⟨q,1,none⟩=some (.slice t2 t3 t4)) (hz:Zr T W (.agg #[.int .i64 t1,.slice t2 t3 t4]) x) :
   (Builtin.append_ #[183,183] ty #[.slice A j m,.slice (some ⟨q,0,none⟩) 1 1]).run Tryz.prog W=.ok (.slice A (j+1) m) ((W.setCell ⟨g,X.length*2,none⟩ (.int .i64 t1)).setCell ⟨g,X.length*2+1,none⟩ (.slice t2 t3 t4))∧Fill NoWord 2 (ZE T) 31 ((W.setCell ⟨g,X.length*2,none⟩ (.int .i64 t1)).setCell ⟨g,X.length*2+1,none⟩ (.slice t2 t3 t4)) g n (X++[x])∧Bes g W ((W.setCell ⟨g,X.length*2,none⟩ (.int .i64 t1)).setCell ⟨g,X.length*2+1,none⟩ (.slice t2 t3 t4)):=by
 obtain ⟨f2,c2⟩:=hroom.put2 (u0:=.int .i64 t1) (u1:=.slice t2 t3 t4) (x:=x) (ZE.stays _ _ nww) hn (kd_z _ _ _ _) ⟨_,_,_,_,rfl,hz⟩
 refine ⟨?_,f2,bes_put2 c2⟩
 obtain ⟨i0,hi0,hz0,hz1,hz2⟩:=info_parts info_z
 have hoff:∀ o,b0*2+j*i0.size+o=X.length*2+o:=fun o=>by rw [hz1];omega
 have hrun:=run_append_room_cells (P:=Tryz.prog) W 183 ty 31 i0 Tryz.underlying183 hi0 g (b0*2) j m ⟨q,0,none⟩ 1 1 [.int .i64 t1,.slice t2 t3 t4] (by rw [hz1];rfl) (fun o u hu => ?_) (one_z _ _ _ _) hj (fun o ho => ?_) (fun o ho=>hroom.free _)
 · rw [hA,hrun,hz1,show b0*2+j*2=X.length*2 by omega]
   rfl
 · match o,hu with
   | 0,hu =>
     obtain rfl:_=u:=by simpa using hu
     exact hq.1
   | 1,hu =>
     obtain rfl:_=u:=by simpa using hu
     exact hq.2
 · rw [hoff o]
   obtain ⟨u,hu⟩:=hroom.cell (o:=X.length*2+o) (by simp at ho;omega)
   rw [hu];rfl
theorem wpList_room2 {ops:Array Oper}{rest:List Oper}{o:Oper}{B:Act}{w w0:World}{Q:Exit→Act→World→Prop} (hgd:o.guard=none) (s x:Operand)
   (ho:o.op=.call { callee:=.builtin .append,args:=#[s,x],argTypes:=#[183,183] }) {T g n j m:Nat}{A:Option Addr}{X:List Int}{t1:Int}{t2:Option Addr}{t3 t4:Nat}{z:Int}{b0:Nat} (hs:B.eval s=.slice A j m) (hx:B.eval x=.slice (some ⟨w0.heap.size,0,none⟩) 1 1) (hw:w=w0.alloc (.cells #[.int .i64 t1,.slice t2 t3 t4] 31))
   (hroom:Fill NoWord 2 (ZE T) 31 w0 g n X) (hA:A=some ⟨g,b0*2,none⟩) (hj:j<m) (hb:b0+j=X.length) (hn:X.length<n) (hz:Zr T w0 (.agg #[.int .i64 t1,.slice t2 t3 t4]) z)
   (h:∀ w',Fill NoWord 2 (ZE T) 31 w' g n (X++[z])→Bes g w w'→wpList Tryz.prog ops Q rest (B.put o.dst (.slice A (j+1) m)) w'):wpList Tryz.prog ops Q (o :: rest) B w:=by
 subst hw
 have kn:=zqa w0 (.cells #[.int .i64 t1,.slice t2 t3 t4] 31)
 obtain ⟨h1,h2,h3⟩:=run_room2 o.type (hroom.later (ZE.stays _ _ nww) kn) hA hj hb hn (q:=w0.heap.size) ⟨by rw [nc rfl];rfl,by rw [nc rfl];rfl⟩ (hz.later kn)
 refine wpList_plain hgd fun _ hK => ?_
 unfold Oper.wp execOp
 simp only [ho,resolve,invoke,builtin,Sem.run_bind,Sem.run_pure,Result.andThen_ok,List.map_toArray,List.map_cons,List.map_nil,hs,hx,h1]
 exact hK _ _ (h _ h2 h3)
end Go.Proofs.YtkifiolkfdicoaaGreatDoor
