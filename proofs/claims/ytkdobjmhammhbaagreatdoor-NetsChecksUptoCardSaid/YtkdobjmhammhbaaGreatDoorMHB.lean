import Derived.Test.YtkdobjmhammhbaaGreatDoorMH
namespace Go.Proofs.YtkdobjmhammhbaaGreatDoor
open Go.RowKit
theorem info_u64:(Tryz.prog.info? 200).map (fun i=>(i.zero,i.size,i.bytes))=some (some (.int .u64 0),1,8):=by kernel_rfl
set_option maxRecDepth 8000 in
set_option maxHeartbeats 1000000 in
theorem clone_any (b off cap:Nat) (l:List Int) (w:World) (hr:Row w b off l) (hne:l≠[]) (_hl:l.length≤cap) (_hcap:cap≤9223372036854775807) (hln:l.length≤1000000) :
   Calls Tryz.prog 172 #[.slice (some ⟨b,off,none⟩) l.length cap] w fun e w'=>(∃ g c,e=.returned (.slice (some ⟨g,0,none⟩) l.length c)∧w.heap.size≤g∧Row w' g 0 l∧Free w' g∧l.length≤c∧c≤maxLen)∧Below w.heap.size w w':=by
 obtain ⟨i0,hi,hz0,hz1,hz2⟩:=info_parts info_u64
 have hq:=eql_any (some ⟨b,off,none⟩) l.length cap
 go_enter Tryz.func172,Tryz.ntmps172
 have hown0:(w.alloc (.cells #[] 200)).ownsRow w.heap.size 200 1 (.slice (some ⟨w.heap.size,0,none⟩) 0 0) 0 []:=World.ownsRow_lit w #[] 0 (Nat.le_refl _) (Nat.zero_le _) rfl
 have hk:=zqa w (.cells #[] 200)
 have hr':=hr.later hk
 go_wp2_with (at_builtin;refine wpList_append_own _ rfl _ _ 35 rfl w.heap.size 200 i0 (.int .u64 0) 1 8 Tryz.underlying35 hi hz0 hz1 hz2 rfl (by decide) _ _ _ rfl hown0 ⟨b,off,none⟩ l.length cap (l.map (Value.int .u64)) rfl ?hl ?c1 ?c2 ?c3 ?c4 ?c5 ?_)
 case hl=>simp
 case c1 =>
   intro j u hj
   have hjl:j<l.length:=by
     have:=(List.getElem?_eq_some_iff.1 hj).1
     simpa using this
   have hu:u=.int .u64 (nth l j):=by
     rw [List.getElem?_map,List.getElem?_eq_getElem hjl] at hj
     simp only [Option.map_some,Option.some.injEq] at hj
     rw [← hj]
     simp [nth,hjl]
   rw [hu,show (⟨b,off,none⟩:Addr).add j=⟨b,off+j,none⟩ by unfold Addr.add;split <;> simp_all]
   exact hr' j hjl
 case c2 =>
   intro u hu
   obtain ⟨x,_,rfl⟩:=List.mem_map.1 hu
   rfl
 case c3=>unfold maxLen;omega
 case c4=>omega
 case c5=>simp
 intro v' w1 hown' hgrow hnil
 have hB:Below w.heap.size w w1:=hk.grown hgrow (by simp) (fun k hk'=>by simp [Value.ownBlock] at hk';omega)
 obtain ⟨q1,⟨rfl,q2⟩ | ⟨g,c,cur,rfl,q3,q4,q5,q6,q7,q8⟩⟩:=hown'
 · exfalso;exact hne (List.eq_nil_of_length_eq_zero (by omega))
 · have hrow:Row w1 g 0 l:=by
     intro k hk'
     have e:cur[k]? = (cur.toList.take (l.length*1))[k]? := by
       rw [List.getElem?_take,if_pos (by omega)];simp
     simp only [World.cell?,Nat.zero_add,q4]
     rw [e,q8]
     simp [nth,hk']
   have hfree:Free w1 g:=⟨cur,_,q4⟩
   have hle:l.length≤c:=by omega
   have hcm:=q6
   clear hgrow hnil hown0 hr' hk q1 q4 q5 q6 q7 q8
   go_wp2
   go_ret
   exact ⟨⟨g,c,by simp,q3,hrow,hfree,hle,hcm⟩,hB⟩
abbrev p19:Int:=10000000000000000000
def v19:List Int→Int
 | []=>0
 | d :: l=>d+p19*v19 l
theorem v19_append (a b:List Int):v19 (a++b)=v19 a+p19 ^ a.length*v19 b:=by
 induction a with
 | nil=>simp [v19]
 | cons d l ih=>simp only [List.cons_append,v19,ih,List.length_cons,Int.pow_succ,Int.mul_add];rw [Int.mul_comm (p19 ^ l.length) p19,Int.mul_assoc];omega
def P19 (l:List Int):Prop:=∀ d ∈ l,0≤d∧d<p19
theorem val_zeros {l:List Int} (h:∀ k,nth l k=0):val l=0:=by
 induction l with
 | nil=>simp [val]
 | cons d l ih =>
   have h0:d=0:=by have:=h 0;simpa [nth] using this
   have h1:=ih (fun k=>by have:=h (k+1);simpa [nth] using this)
   simp [val,h0,h1]
theorem val_take {l:List Int}{m:Nat} (hm:m≤l.length) (h:∀ k,m≤k→nth l k=0):val (l.take m)=val l:=by
 rw [zxg l m hm,val_zeros (l:=l.drop m) (fun k=>by have:=h (m+k) (by omega);simpa [nth] using this)]
 omega
theorem trim_cut {l:List Int}{m:Nat} (hm:m≤l.length) (h:m=0∨nth l (m - 1)≠0):Trim (l.take m):=by
 rcases h with rfl | h
 · exact Or.inl (by simp)
 · by_cases hm0:m=0
   · subst hm0;exact Or.inl (by simp)
   · refine Or.inr ?_
     rw [List.length_take,Nat.min_eq_left hm]
     unfold nth at h ⊢
     rw [List.getElem?_take,if_pos (by omega)];exact h
theorem pow_bound {n k:Nat}{v:Int} (h1:p19 ^ k≤v) (h2:v<pw n):k≤2*n:=by
 rcases Nat.lt_or_ge (2*n) k with h | h
 · exfalso
   have e1:∀ n,pw n≤p19 ^ (2*n):=by
     intro n
     induction n with
     | zero=>simp [pw]
     | succ n ih =>
       have hp:(0:Int)<p19 ^ (2*n):=Int.pow_pos (by decide)
       rw [zxn,show 2*(n+1)=2*n+1+1 by omega,Int.pow_succ,Int.pow_succ]
       unfold p19 at *
       omega
   have e2:p19 ^ (2*n)≤p19 ^ k:=by
     obtain ⟨j,rfl⟩:∃ j,k=2*n+j:=⟨k - 2*n,by omega⟩
     rw [Int.pow_add]
     have hp:(0:Int)<p19 ^ (2*n):=Int.pow_pos (by decide)
     have hq:(0:Int)<p19 ^ j:=Int.pow_pos (by decide)
     have:=Int.mul_le_mul_of_nonneg_left (show (1:Int)≤p19 ^ j by omega) (Int.le_of_lt hp)
     omega
   have:=e1 n
   omega
 · exact h
structure GrK (l:List Int) (w:World) (g c:Nat) (L:List Int) (v:Value) (G:List Int) (wr:World):Prop where
 row:Row wr g 0 L
 free:Free wr g
 words:Ws L
 trim:Trim L
 cap:L.length≤c
 less:L.length≤l.length
 own:wr.ownsRow (g+1) 200 1 v G.length (G.map (Value.int .u64))
 groups:P19 G
 sum:val l=v19 G+p19 ^ G.length*val L
 top:G=[]∨L≠[]∨nth G (G.length - 1)≠0
 below:Below w.heap.size w wr
theorem v19_nonneg {l:List Int} (h:P19 l):0≤v19 l:=by
 induction l with
 | nil=>simp [v19]
 | cons d l ih =>
   have h1:=h d (List.mem_cons_self ..)
   have h2:=ih (fun x hx=>h x (List.mem_cons_of_mem _ hx))
   simp only [v19];unfold p19 at *;omega
theorem GrK.count {l:List Int}{w:World}{g c:Nat}{L:List Int}{v:Value}{G:List Int}{wr:World} (h:GrK l w g c L v G wr) (hl:Ws l) (hne:L≠[]):G.length≤2*l.length:=by
 have h1:0<val L:=by
   have:=val_ge h.words h.trim hne
   have:=zxy (L.length - 1)
   omega
 have h2:=v19_nonneg h.groups
 have h3:(p19:Int) ^ G.length*1≤p19 ^ G.length*val L:=Int.mul_le_mul_of_nonneg_left (by omega) (Int.le_of_lt (Int.pow_pos (by decide)))
 have h4:=h.sum
 exact pow_bound (v:=val l) (by omega) (zjn hl)
theorem GrK.apart {l:List Int}{w:World}{g c:Nat}{L:List Int}{v:Value}{G:List Int}{wr:World} (h:GrK l w g c L v G wr):v.ownBlock=none∨v.ownBlock≠some g:=by
 refine Or.inr fun e => ?_
 have:=(h.own.lt g e).1
 omega
theorem GrK.step {l:List Int}{w:World}{g c:Nat}{L out:List Int}{v v':Value}{G:List Int}{wr W1 W2:World}{r:Int}{m:Nat}{o:Obj} (h:GrK l w g c L v G wr) (hg:w.heap.size≤g) (hne:L≠[])
   (hE:Edit g 0 L.length wr W1) (hrow:Row W1 g 0 out) (hlen:out.length=L.length) (hws:Ws out) (hval:val L=val out*p19+r) (r0:0≤r) (r1:r<p19)
   (hown:W2.ownsRow (g+1) 200 1 v' (G.length+1) (G.map (Value.int .u64)++[.int .u64 r])) (hgr:(W1.alloc o).grownBy W2 v.ownBlock)
   (hm:m≤out.length) (hz:∀ k,m≤k→nth out k=0) (ht:m=0∨nth out (m - 1)≠0):GrK l w g c (out.take m) v' (G++[r]) W2:=by
 have hlt:=h.own.lt
 have hgl:=h.free.lt
 have hf1:=hE.free h.free
 have hg1:=hf1.lt
 have hblk:W2.heap[g]? = W1.heap[g]? := by
   rw [hgr.block g (by simp;omega) (fun e=>by have:=(hlt g e.symm).1;omega),Below.heap_alloc _ _ _ hg1]
 have hrow2:Row W2 g 0 out:=fun k hk=>by
   rw [World.cell?_of_block (w:=W1) (a:=⟨g,0+k,none⟩) hblk];exact hrow k hk
 have hB1:Below w.heap.size w W1:=h.below.trans ⟨hE.os,hE.tape,hE.output,hE.size,fun k hk=>hE.other k (Nat.lt_of_lt_of_le hk h.below.size) (by omega)⟩
 refine ⟨hrow2.take m,?_,hws.take m,trim_cut hm ht,?_,?_,by simpa using hown,?_,?_,?_,?_⟩
 · obtain ⟨cur,e,hf⟩:=hf1
   exact ⟨cur,e,hblk.trans hf⟩
 · have:=h.cap;rw [List.length_take];omega
 · have:=h.less;rw [List.length_take];omega
 · intro d hd
   rcases List.mem_append.1 hd with hd | hd
   · exact h.groups d hd
   · have:d=r:=by simpa using hd
     subst this;exact ⟨r0,r1⟩
 · rw [v19_append,h.sum,List.length_append,Int.pow_add,val_take hm hz,hval]
   simp only [v19,List.length_cons,List.length_nil,Int.mul_zero,Int.add_zero,Int.mul_add]
   rw [show (p19:Int) ^ (0+1)=p19 by rw [Int.pow_succ,Int.pow_zero,Int.one_mul],Int.mul_comm (val out) p19,Int.mul_assoc]
   omega
 · by_cases e:out.take m=[]
   · refine Or.inr (Or.inr ?_)
     rw [show (G++[r]).length - 1=G.length by simp]
     have e2:nth (G++[r]) G.length=r:=by simp [nth]
     rw [e2]
     have h0:val out=0:=by rw [← val_take hm hz,e];simp [val]
     have h1:=val_ge h.words h.trim hne
     have h2:=zxy (L.length - 1)
     rw [h0] at hval
     omega
   · exact Or.inr (Or.inl e)
 · exact (hB1.alloc hB1.size o).grown hgr (by have:=hB1.size;simp only [World.alloc,Array.size_push];omega) (fun k hk=>by have:=(hlt k hk).1;omega)
theorem own_row {w:World}{base:Nat}{v:Value}{G:List Int} (h:w.ownsRow base 200 1 v G.length (G.map (Value.int .u64))) (hne:G≠[]):∃ g c,v=.slice (some ⟨g,0,none⟩) G.length c∧Row w g 0 G∧G.length≤c∧∃ cur,w.heap[g]? = some (.cells cur 200 (0,0)):=by
 obtain ⟨h0,⟨rfl,h2⟩ | ⟨g,cap,cur,rfl,h3,h4,h5,h6,h7,h8⟩⟩:=h
 · exact absurd (List.eq_nil_of_length_eq_zero h2) hne
 · refine ⟨g,cap,rfl,fun k hk => ?_,h5,cur,h4⟩
   have e:cur[k]? = (cur.toList.take (G.length*1))[k]? := by
     rw [List.getElem?_take,if_pos (by omega)];simp
   simp only [World.cell?,h4,Nat.zero_add]
   rw [e,h8]
   simp [nth,hk]
theorem GrK.done {l:List Int}{w:World}{g c:Nat}{v:Value}{G:List Int}{wr:World} (h:GrK l w g c [] v G wr) (hw:Ws l) (ht:Trim l) (hne:l≠[]):v19 G=val l∧G≠[]∧Trim G:=by
 have hs:=h.sum
 simp only [val,Int.mul_zero,Int.add_zero] at hs
 refine ⟨hs.symm,?_,?_⟩
 · rintro rfl
   have h1:=val_ge hw ht hne
   have h2:=zxy (l.length - 1)
   simp only [v19] at hs
   omega
 · rcases h.top with e | e | e
   · exact Or.inl e
   · exact absurd rfl e
   · exact Or.inr e
set_option maxHeartbeats 1000000 in
theorem int64_near (n:Int) (w:World) :
   Calls Tryz.prog 133 #[.agg #[.int .i64 n,.slice none 0 0]] w fun e w'=>e=.returned (.tuple #[.int .i64 n,.bool true])∧Below w.heap.size w w':=by
 have hq:=eql_none
 go_enter Tryz.func133,Tryz.ntmps133
 go_wp2
 go_ret2
 exact ⟨rfl,zqa w _⟩
set_option maxHeartbeats 1000000 in
theorem int64_far (u:Int) (b off n c:Nat) (w:World) :
   Calls Tryz.prog 133 #[.agg #[.int .i64 u,.slice (some ⟨b,off,none⟩) n c]] w fun e w'=>e=.returned (.tuple #[.int .i64 0,.bool false])∧Below w.heap.size w w':=by
 have hq:=eql_some b off n c
 go_enter Tryz.func133,Tryz.ntmps133
 go_wp2
 go_ret2
 exact ⟨rfl,zqa w _⟩
theorem int64_any {N:Nat}{v:Value}{z:Int} (w:World) (hz:Zr N w v z) :
   Calls Tryz.prog 133 #[v] w fun e w'=>((-9223372036854775808≤z∧z≤9223372036854775807∧e=.returned (.tuple #[.int .i64 z,.bool true]))∨((z < -9223372036854775808∨9223372036854775807<z)∧e=.returned (.tuple #[.int .i64 0,.bool false])))∧Below w.heap.size w w':=by
 rcases hz with ⟨rfl,h0,h1⟩ | ⟨s,b,off,cap,l,rfl,_,_,_,_,_,_,_,_,_,hbig⟩
 · exact (int64_near z w).mono fun e w' ⟨h,hb⟩=>⟨Or.inl ⟨h0,h1,h⟩,hb⟩
 · exact (int64_far _ _ _ _ _ w).mono fun e w' ⟨h,hb⟩=>⟨Or.inr ⟨hbig,h⟩,hb⟩
theorem grown_new {w w':World} (h:Below w.heap.size w w'):w.grownBy w' none:=⟨h.os,h.tape,h.output,h.size,fun k hk _=>h.block k hk⟩
theorem builderAt_later {T e:TypeId}{B b:Nat}{p:Value}{bs:List Value}{w w':World} (h:Lib.BuilderAtF T e B b p bs w) (hb:Below w.heap.size w w'):Lib.BuilderAtF T e B b p bs w':=by
 obtain ⟨hB,v,hv,hown,hne⟩:=h
 refine ⟨hB,v,by rw [hb.block b (Array.getElem?_eq_some_iff.1 hv).1];exact hv,hown.kept (grown_new hb) ?_,hne⟩
 cases e:v.ownBlock with
 | none=>exact Or.inl rfl
 | some k=>exact Or.inr (by simp)
theorem builder_later {T e:TypeId}{B b:Nat}{bs:List Value}{w w':World} (h:Lib.IsBuilderF T e B b bs w) (hb:Below w.heap.size w w'):Lib.IsBuilderF T e B b bs w' :=
 h.elim (fun x=>.inl (builderAt_later x hb)) (fun x=>.inr (builderAt_later x hb))
theorem Zr.small {N:Nat}{w:World}{v:Value}{z:Int} (h:Zr N w v z) (h0:-9223372036854775808≤z) (h1:z≤9223372036854775807):v=.agg #[.int .i64 z,.slice none 0 0]:=by
 rcases h with ⟨h,_,_⟩ | ⟨s,b,off,cap,l,_,_,_,_,_,_,_,_,_,_,hbig⟩
 · exact h
 · omega
end Go.Proofs.YtkdobjmhammhbaaGreatDoor
