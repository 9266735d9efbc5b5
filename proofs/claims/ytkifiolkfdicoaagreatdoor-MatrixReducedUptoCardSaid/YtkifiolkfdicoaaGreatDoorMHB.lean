import Derived.Test.YtkifiolkfdicoaaGreatDoorMH
namespace Go.Proofs.YtkifiolkfdicoaaGreatDoor
open Go.RowKit
theorem info_u64:(Tryz.prog.info? 143).map (fun i=>(i.zero,i.size,i.bytes))=some (some (.int .u64 0),1,8):=by kernel_rfl
set_option maxRecDepth 8000 in
set_option maxHeartbeats 1000000 in
theorem clone_any (b off cap:Nat) (l:List Int) (w:World) (hr:Row w b off l) (hne:l≠[]) (_hl:l.length≤cap) (_hcap:cap≤9223372036854775807) (hln:l.length≤1000000) :
   Calls Tryz.prog 181 #[.slice (some ⟨b,off,none⟩) l.length cap] w fun e w'=>(∃ g c,e=.returned (.slice (some ⟨g,0,none⟩) l.length c)∧w.heap.size≤g∧Row w' g 0 l∧Free w' g∧l.length≤c∧c≤maxLen)∧Below w.heap.size w w':=by
 obtain ⟨i0,hi,hz0,hz1,hz2⟩:=info_parts info_u64
 have hq:=eql_any (some ⟨b,off,none⟩) l.length cap
 go_enter Tryz.func181,Tryz.ntmps181
 have hown0:(w.alloc (.cells #[] 143)).ownsRow w.heap.size 143 1 (.slice (some ⟨w.heap.size,0,none⟩) 0 0) 0 []:=World.ownsRow_lit w #[] 0 (Nat.le_refl _) (Nat.zero_le _) rfl
 have hk:=zqa w (.cells #[] 143)
 have hr':=hr.later hk
 go_wp2_with (at_builtin;refine wpList_append_own _ rfl _ _ 29 rfl w.heap.size 143 i0 (.int .u64 0) 1 8 Tryz.underlying29 hi hz0 hz1 hz2 rfl (by decide) _ _ _ rfl hown0 ⟨b,off,none⟩ l.length cap (l.map (Value.int .u64)) rfl ?hl ?c1 ?c2 ?c3 ?c4 ?c5 ?_)
 case hl=>simp
 case c1 =>
   intro j u hj
   have hjl:j<l.length:=by
     have:=(List.getElem?_eq_some_iff.1 hj).1
     simpa using this
   have hu:u=.int .u64 (nth l j):=by
     rw [List.getElem?_map,List.getElem?_eq_getElem hjl] at hj
     simp only [Option.map_some,Option.some.injEq] at hj
     rw [← hj]
     simp [nth,hjl]
   rw [hu,show (⟨b,off,none⟩:Addr).add j=⟨b,off+j,none⟩ by unfold Addr.add;split <;> simp_all]
   exact hr' j hjl
 case c2 =>
   intro u hu
   obtain ⟨x,_,rfl⟩:=List.mem_map.1 hu
   rfl
 case c3=>unfold maxLen;omega
 case c4=>omega
 case c5=>simp
 intro v' w1 hown' hgrow hnil
 have hB:Below w.heap.size w w1:=hk.grown hgrow (by simp) (fun k hk'=>by simp [Value.ownBlock] at hk';omega)
 obtain ⟨q1,⟨rfl,q2⟩ | ⟨g,c,cur,rfl,q3,q4,q5,q6,q7,q8⟩⟩:=hown'
 · exfalso;exact hne (List.eq_nil_of_length_eq_zero (by omega))
 · have hrow:Row w1 g 0 l:=by
     intro k hk'
     have e:cur[k]? = (cur.toList.take (l.length*1))[k]? := by
       rw [List.getElem?_take,if_pos (by omega)];simp
     simp only [World.cell?,Nat.zero_add,q4]
     rw [e,q8]
     simp [nth,hk']
   have hfree:Free w1 g:=⟨cur,_,q4⟩
   have hle:l.length≤c:=by omega
   have hcm:=q6
   clear hgrow hnil hown0 hr' hk q1 q4 q5 q6 q7 q8
   go_wp2
   go_ret
   exact ⟨⟨g,c,by simp,q3,hrow,hfree,hle,hcm⟩,hB⟩
abbrev p19:Int:=10000000000000000000
def v19:List Int→Int
 | []=>0
 | d :: l=>d+p19*v19 l
theorem v19_append (a b:List Int):v19 (a++b)=v19 a+p19 ^ a.length*v19 b:=by
 induction a with
 | nil=>simp [v19]
 | cons d l ih=>simp only [List.cons_append,v19,ih,List.length_cons,Int.pow_succ,Int.mul_add];rw [Int.mul_comm (p19 ^ l.length) p19,Int.mul_assoc];omega
def P19 (l:List Int):Prop:=∀ d ∈ l,0≤d∧d<p19
theorem val_zeros {l:List Int} (h:∀ k,nth l k=0):val l=0:=by
 induction l with
 | nil=>simp [val]
 | cons d l ih =>
   have h0:d=0:=by have:=h 0;simpa [nth] using this
   have h1:=ih (fun k=>by have:=h (k+1);simpa [nth] using this)
   simp [val,h0,h1]
theorem val_take {l:List Int}{m:Nat} (hm:m≤l.length) (h:∀ k,m≤k→nth l k=0):val (l.take m)=val l:=by
 rw [zxg l m hm,val_zeros (l:=l.drop m) (fun k=>by have:=h (m+k) (by omega);simpa [nth] using this)]
 omega
theorem trim_cut {l:List Int}{m:Nat} (hm:m≤l.length) (h:m=0∨nth l (m - 1)≠0):Trim (l.take m):=by
 rcases h with rfl | h
 · exact Or.inl (by simp)
 · by_cases hm0:m=0
   · subst hm0;exact Or.inl (by simp)
   · refine Or.inr ?_
     rw [List.length_take,Nat.min_eq_left hm]
     unfold nth at h ⊢
     rw [List.getElem?_take,if_pos (by omega)];exact h
theorem pow_bound {n k:Nat}{v:Int} (h1:p19 ^ k≤v) (h2:v<pw n):k≤2*n:=by
 rcases Nat.lt_or_ge (2*n) k with h | h
 · exfalso
   have e1:∀ n,pw n≤p19 ^ (2*n):=by
     intro n
     induction n with
     | zero=>simp [pw]
     | succ n ih =>
       have hp:(0:Int)<p19 ^ (2*n):=Int.pow_pos (by decide)
       rw [zxf,show 2*(n+1)=2*n+1+1 by omega,Int.pow_succ,Int.pow_succ]
       unfold p19 at *
       omega
   have e2:p19 ^ (2*n)≤p19 ^ k:=by
     obtain ⟨j,rfl⟩:∃ j,k=2*n+j:=⟨k - 2*n,by omega⟩
     rw [Int.pow_add]
     have hp:(0:Int)<p19 ^ (2*n):=Int.pow_pos (by decide)
     have hq:(0:Int)<p19 ^ j:=Int.pow_pos (by decide)
     have:=Int.mul_le_mul_of_nonneg_left (show (1:Int)≤p19 ^ j by omega) (Int.le_of_lt hp)
     omega
   have:=e1 n
   omega
 · exact h
structure GrK (l:List Int) (w:World) (g c:Nat) (L:List Int) (v:Value) (G:List Int) (wr:World):Prop where
 row:Row wr g 0 L
 free:Free wr g
 words:Ws L
 trim:Trim L
 cap:L.length≤c
 less:L.length≤l.length
 own:wr.ownsRow (g+1) 143 1 v G.length (G.map (Value.int .u64))
 groups:P19 G
 sum:val l=v19 G+p19 ^ G.length*val L
 top:G=[]∨L≠[]∨nth G (G.length - 1)≠0
 below:Below w.heap.size w wr
theorem edit_grown {g o n:Nat}{w w':World} (h:Edit g o n w w'):w.grownBy w' (some g):=⟨h.os,h.tape,h.output,h.size,fun k hk hne=>h.other k hk (fun e=>hne (by rw [e]))⟩
theorem v19_nonneg {l:List Int} (h:P19 l):0≤v19 l:=by
 induction l with
 | nil=>simp [v19]
 | cons d l ih =>
   have h1:=h d (List.mem_cons_self ..)
   have h2:=ih (fun x hx=>h x (List.mem_cons_of_mem _ hx))
   simp only [v19];unfold p19 at *;omega
theorem GrK.count {l:List Int}{w:World}{g c:Nat}{L:List Int}{v:Value}{G:List Int}{wr:World} (h:GrK l w g c L v G wr) (hl:Ws l) (hne:L≠[]):G.length≤2*l.length:=by
 have h1:0<val L:=by
   have:=val_ge h.words h.trim hne
   have:=zqu (L.length - 1)
   omega
 have h2:=v19_nonneg h.groups
 have h3:(p19:Int) ^ G.length*1≤p19 ^ G.length*val L:=Int.mul_le_mul_of_nonneg_left (by omega) (Int.le_of_lt (Int.pow_pos (by decide)))
 have h4:=h.sum
 exact pow_bound (v:=val l) (by omega) (zjs hl)
theorem GrK.apart {l:List Int}{w:World}{g c:Nat}{L:List Int}{v:Value}{G:List Int}{wr:World} (h:GrK l w g c L v G wr):v.ownBlock=none∨v.ownBlock≠some g:=by
 refine Or.inr fun e => ?_
 have:=(h.own.lt g e).1
 omega
theorem GrK.row2 {l:List Int}{w:World}{g c:Nat}{L out:List Int}{v:Value}{G:List Int}{wr W1 W2:World}{o:Obj} (h:GrK l w g c L v G wr) (hE:Edit g 0 L.length wr W1) (hrow:Row W1 g 0 out) (hgr:(W1.alloc o).grownBy W2 v.ownBlock):Row W2 g 0 out:=by
 have hlt:=h.own.lt
 have hg1:=(hE.free h.free).lt
 have hblk:W2.heap[g]? = W1.heap[g]? := by
   rw [hgr.block g (by simp;omega) (fun e=>by have:=(hlt g e.symm).1;omega),Below.heap_alloc _ _ _ hg1]
 exact fun k hk=>by
   rw [World.cell?_of_block (w:=W1) (a:=⟨g,0+k,none⟩) hblk];exact hrow k hk
theorem GrK.step {l:List Int}{w:World}{g c:Nat}{L out:List Int}{v v':Value}{G:List Int}{wr W1 W2:World}{r:Int}{m:Nat}{o:Obj} (h:GrK l w g c L v G wr) (hg:w.heap.size≤g) (hne:L≠[])
   (hE:Edit g 0 L.length wr W1) (hrow:Row W1 g 0 out) (hlen:out.length=L.length) (hws:Ws out) (hval:val L=val out*p19+r) (r0:0≤r) (r1:r<p19)
   (hown:W2.ownsRow (g+1) 143 1 v' (G.length+1) (G.map (Value.int .u64)++[.int .u64 r])) (hgr:(W1.alloc o).grownBy W2 v.ownBlock)
   (hm:m≤out.length) (hz:∀ k,m≤k→nth out k=0) (ht:m=0∨nth out (m - 1)≠0):GrK l w g c (out.take m) v' (G++[r]) W2:=by
 have hlt:=h.own.lt
 have hgl:=h.free.lt
 have hf1:=hE.free h.free
 have hg1:=hf1.lt
 have hblk:W2.heap[g]? = W1.heap[g]? := by
   rw [hgr.block g (by simp;omega) (fun e=>by have:=(hlt g e.symm).1;omega),Below.heap_alloc _ _ _ hg1]
 have hrow2:Row W2 g 0 out:=fun k hk=>by
   rw [World.cell?_of_block (w:=W1) (a:=⟨g,0+k,none⟩) hblk];exact hrow k hk
 have hB1:Below w.heap.size w W1:=h.below.trans ⟨hE.os,hE.tape,hE.output,hE.size,fun k hk=>hE.other k (Nat.lt_of_lt_of_le hk h.below.size) (by omega)⟩
 refine ⟨hrow2.take m,?_,hws.take m,trim_cut hm ht,?_,?_,by simpa using hown,?_,?_,?_,?_⟩
 · obtain ⟨cur,e,hf⟩:=hf1
   exact ⟨cur,e,hblk.trans hf⟩
 · have:=h.cap;rw [List.length_take];omega
 · have:=h.less;rw [List.length_take];omega
 · intro d hd
   rcases List.mem_append.1 hd with hd | hd
   · exact h.groups d hd
   · have:d=r:=by simpa using hd
     subst this;exact ⟨r0,r1⟩
 · rw [v19_append,h.sum,List.length_append,Int.pow_add,val_take hm hz,hval]
   simp only [v19,List.length_cons,List.length_nil,Int.mul_zero,Int.add_zero,Int.mul_add]
   rw [show (p19:Int) ^ (0+1)=p19 by rw [Int.pow_succ,Int.pow_zero,Int.one_mul],Int.mul_comm (val out) p19,Int.mul_assoc]
   omega
 · by_cases e:out.take m=[]
   · refine Or.inr (Or.inr ?_)
     rw [show (G++[r]).length - 1=G.length by simp]
     have e2:nth (G++[r]) G.length=r:=by simp [nth]
     rw [e2]
     have h0:val out=0:=by rw [← val_take hm hz,e];simp [val]
     have h1:=val_ge h.words h.trim hne
     have h2:=zqu (L.length - 1)
     rw [h0] at hval
     omega
   · exact Or.inr (Or.inl e)
 · exact (hB1.alloc hB1.size o).grown hgr (by have:=hB1.size;simp only [World.alloc,Array.size_push];omega) (fun k hk=>by have:=(hlt k hk).1;omega)
set_option maxHeartbeats 400000 in
theorem trim_wide (b off cap:Nat) (l:List Int) (w:World) (hr:Row w b off l) (hl:l.length≤cap) (hcap:cap≤9223372036854775807) :
   Calls Tryz.prog 173 #[.slice (some ⟨b,off,none⟩) l.length cap] w fun e w'=>(∃ m,m≤l.length∧e=.returned (.slice (some ⟨b,off,none⟩) m cap)∧(∀ k,m≤k→nth l k=0)∧(m=0∨nth l (m - 1)≠0))∧w'=w:=by
 go_enter Tryz.func173,Tryz.ntmps173
 go_wp2
 go_loop [0] (fun v=>∃ m:Nat,m≤l.length∧v=.slice (some ⟨b,off,none⟩) m cap∧∀ k,m≤k→nth l k=0) lenOf
 case atStart=>exact ⟨l.length,Nat.le_refl _,rfl,fun k hk=>zku hk⟩
 case round =>
   obtain ⟨m,hm,rfl,hz⟩:=hrel
   have HZ:=qh hz
   clear hz
   by_cases hm0:m=0
   · subst hm0
     go_wp2
     go_ret
     exact ⟨⟨0,Nat.zero_le _,rfl,uh HZ,Or.inl rfl⟩,rfl⟩
   · have hc:=hr (m - 1) (by omega)
     by_cases hx:nth l (m - 1)=0
     · have HX:=qh hx
       rw [hx] at hc
       clear hx
       go_wp2
       go_round
       case rel =>
         refine ⟨m - 1,by omega,rfl,fun k hk => ?_⟩
         by_cases e:k=m - 1
         · rw [e];exact uh HX
         · exact uh HZ k (by omega)
       case measure=>simp [lenOf];omega
     · go_wp2
       go_ret
       exact ⟨⟨m,hm,rfl,uh HZ,Or.inr hx⟩,rfl⟩
theorem own_len {w:World}{base:Nat}{v:Value}{n:Nat}{xs:List Value} (h:w.ownsRow base 143 1 v n xs):∃ a k,v=.slice a n k:=by
 obtain ⟨_,⟨rfl,rfl⟩ | ⟨g,cap,cur,rfl,_⟩⟩:=h
 · exact ⟨_,_,rfl⟩
 · exact ⟨_,_,rfl⟩
theorem own_row {w:World}{base:Nat}{v:Value}{G:List Int} (h:w.ownsRow base 143 1 v G.length (G.map (Value.int .u64))) (hne:G≠[]):∃ g c,v=.slice (some ⟨g,0,none⟩) G.length c∧Row w g 0 G∧G.length≤c∧∃ cur,w.heap[g]? = some (.cells cur 143 (0,0)):=by
 obtain ⟨h0,⟨rfl,h2⟩ | ⟨g,cap,cur,rfl,h3,h4,h5,h6,h7,h8⟩⟩:=h
 · exact absurd (List.eq_nil_of_length_eq_zero h2) hne
 · refine ⟨g,cap,rfl,fun k hk => ?_,h5,cur,h4⟩
   have e:cur[k]? = (cur.toList.take (G.length*1))[k]? := by
     rw [List.getElem?_take,if_pos (by omega)];simp
   simp only [World.cell?,h4,Nat.zero_add]
   rw [e,h8]
   simp [nth,hk]
theorem GrK.done {l:List Int}{w:World}{g c:Nat}{v:Value}{G:List Int}{wr:World} (h:GrK l w g c [] v G wr) (hw:Ws l) (ht:Trim l) (hne:l≠[]):v19 G=val l∧G≠[]∧Trim G:=by
 have hs:=h.sum
 simp only [val,Int.mul_zero,Int.add_zero] at hs
 refine ⟨hs.symm,?_,?_⟩
 · rintro rfl
   have h1:=val_ge hw ht hne
   have h2:=zqu (l.length - 1)
   simp only [v19] at hs
   omega
 · rcases h.top with e | e | e
   · exact Or.inl e
   · exact absurd rfl e
   · exact Or.inr e
set_option maxRecDepth 8000 in
set_option maxHeartbeats 2000000 in
theorem groupsOf_any (b off cap:Nat) (l:List Int) (w:World) (hr:Row w b off l) (hw:Ws l) (ht:Trim l) (hne:l≠[]) (hl:l.length≤cap) (hcap:cap≤9223372036854775807) (hsm:l.length≤20000) :
   Calls Tryz.prog 115 #[.slice (some ⟨b,off,none⟩) l.length cap] w fun e w'=>(∃ g c G,e=.returned (.slice (some ⟨g,0,none⟩) G.length c)∧Row w' g 0 G∧P19 G∧Trim G∧G≠[]∧G.length≤40001∧G.length≤c∧v19 G=val l∧∃ cur,w'.heap[g]? = some (.cells cur 143 (0,0)))∧Below w.heap.size w w':=by
 obtain ⟨i0,hi,hz0,hz1,hz2⟩:=info_parts info_u64
 have HW:=qh hw
 go_enter Tryz.func115,Tryz.ntmps115
 go_wp2_with fail
 go_fit (clone_any b off cap l _ hr hne hl hcap (by omega))
 rintro e W0 ⟨⟨g,c,rfl,hg,hrow,hfree,hlc,hcm⟩,hb0⟩
 have hc63:c≤9223372036854775807:=by unfold maxLen at hcm;omega
 clear hcm
 have hK:GrK l w g c l (.slice none 0 0) [] W0:=⟨hrow,hfree,hw,ht,hlc,Nat.le_refl _,World.ownsRow_nil _ _ _ _,fun d hd=>by simp at hd,by simp [v19],Or.inl rfl,hb0⟩
 have HT:=qh ht
 clear hrow hfree hb0 hr ht hw
 go_wp2_with fail
 go_loopw [3,4] (fun v x wr=>∃ (L G:List Int),G.length≤40001∧x=.slice (some ⟨g,0,none⟩) L.length c∧GrK l w g c L v G wr) (fun v _ _=>2*l.length+2 - lenOf v)
 case atStart=>exact ⟨l,[],by simp,rfl,hK⟩
 case round =>
   obtain ⟨L,G,hGl,rfl,hk⟩:=hrel
   clear hK
   obtain ⟨va,vc,rfl⟩:=own_len hk.own
   by_cases hL:L=[]
   · subst hL
     obtain ⟨d1,d2,d3⟩:=hk.done (uh HW) (uh HT) hne
     obtain ⟨g',c',e1,e2,e3,e4⟩:=own_row hk.own d2
     have D1:=qh d1
     have D2:=qh d2
     have hB:=hk.below
     have hP:=hk.groups
     clear d1 d2 hk
     obtain ⟨rfl,_,rfl⟩:va=some ⟨g',0,none⟩∧G.length=G.length∧vc=c':=by simpa using e1
     clear e1
     go_wp2
     go_ret
     exact ⟨⟨g',vc,G,rfl,e2,hP,d3,uh D2,hGl,e3,uh D1,e4⟩,hB⟩
   · have hLp:0<L.length:=List.length_pos_iff.2 hL
     have hLi:(0:Int)<L.length:=by omega
     have hcnt:=hk.count (uh HW) hL
     have hLl:=hk.less
     have HL:=qh hL
     clear hL
     go_wp2_with fail
     go_fit (divideWord_any g 0 c L.length L p19 _ hk.row hk.free hk.words (by constructor <;> decide) (by decide) rfl (by omega))
     rintro e W1 ⟨r,out,rfl,r0,r1,ho,hws,hval,hrow,hE⟩
     have hown1:=hk.own.kept (edit_grown hE) hk.apart
     have HVAL:=qh hval
     have HO:=qh ho
     have R1:=qh r1
     have hr64:r≤18446744073709551615:=by unfold p19 at r1;omega
     have hgW:g<W1.heap.size:=(hE.free hk.free).lt
     clear hval ho r1
     go_wp2_with (at_builtin;refine wpList_append_own _ rfl _ _ 29 rfl (g+1) 143 i0 (.int .u64 0) 1 8 Tryz.underlying29 hi hz0 hz1 hz2 rfl (by decide) _ _ _ rfl (hown1.alloc _) ⟨W1.heap.size,0,none⟩ 1 1 [.int .u64 r] rfl rfl ?c1 ?c2 ?c3 ?c4 ?c5 ?_)
     case c1 =>
       intro j u hj
       match j,hj with
       | 0,hj=>simp at hj;subst hj;simp [Addr.add]
     case c2=>intro u hu;simp at hu;subst hu;rfl
     case c3=>unfold maxLen;omega
     case c4=>omega
     case c5=>simp;omega
     · intro v' W2 hown' hgrow _
       obtain ⟨va',vc',rfl⟩:=own_len hown'
       have hrow2:=hk.row2 hE hrow hgrow
       have hT:=trim_wide g 0 c out W2 hrow2 (by rw [uh HO];exact hk.cap) hc63
       rw [uh HO] at hT
       clear hown1 hrow2
       go_wp2_with fail
       go_fit hT
       rintro e W3 ⟨⟨m,hm,rfl,hz,htr⟩,rfl⟩
       have R:=hk.step hg (uh HL) hE hrow (uh HO) hws (uh HVAL) r0 (uh R1) hown' hgrow (by rw [uh HO];exact hm) hz htr
       clear hown' hgrow hk hE hrow hws hz htr hT
       go_wp2
       go_roundw
       case rel=>exact ⟨out.take m,G++[r],by rw [List.length_append];simp only [List.length_cons,List.length_nil];omega,by rw [List.length_take,uh HO,Nat.min_eq_left hm],R⟩
       case measure=>simp [lenOf];omega
set_option maxHeartbeats 1000000 in
theorem int64_near (n:Int) (w:World) :
   Calls Tryz.prog 69 #[.agg #[.int .i64 n,.slice none 0 0]] w fun e w'=>e=.returned (.tuple #[.int .i64 n,.bool true])∧Below w.heap.size w w':=by
 have hq:=eql_none
 go_enter Tryz.func69,Tryz.ntmps69
 go_wp2
 go_ret2
 exact ⟨rfl,zqa w _⟩
set_option maxHeartbeats 1000000 in
theorem int64_far (u:Int) (b off n c:Nat) (w:World) :
   Calls Tryz.prog 69 #[.agg #[.int .i64 u,.slice (some ⟨b,off,none⟩) n c]] w fun e w'=>e=.returned (.tuple #[.int .i64 0,.bool false])∧Below w.heap.size w w':=by
 have hq:=eql_some b off n c
 go_enter Tryz.func69,Tryz.ntmps69
 go_wp2
 go_ret2
 exact ⟨rfl,zqa w _⟩
theorem int64_any {N:Nat}{v:Value}{z:Int} (w:World) (hz:Zr N w v z) :
   Calls Tryz.prog 69 #[v] w fun e w'=>((-9223372036854775808≤z∧z≤9223372036854775807∧e=.returned (.tuple #[.int .i64 z,.bool true]))∨((z < -9223372036854775808∨9223372036854775807<z)∧e=.returned (.tuple #[.int .i64 0,.bool false])))∧Below w.heap.size w w':=by
 rcases hz with ⟨rfl,h0,h1⟩ | ⟨s,b,off,cap,l,rfl,_,_,_,_,_,_,_,_,_,hbig⟩
 · exact (int64_near z w).mono fun e w' ⟨h,hb⟩=>⟨Or.inl ⟨h0,h1,h⟩,hb⟩
 · exact (int64_far _ _ _ _ _ w).mono fun e w' ⟨h,hb⟩=>⟨Or.inr ⟨hbig,h⟩,hb⟩
set_option maxRecDepth 100000 in
set_option maxHeartbeats 2000000 in
theorem formatUintIn_any (u : Nat) (hu64 : u < 18446744073709551616) (w : World) (htab : Lib.TabIs Tryz.prog w "internal/strconv.uint64pow10" .u64 Lib.pow10Tab) :
   Calls Tryz.prog 185 #[.int .u64 u,.int .i64 10] w fun e w'=>e=.returned (.string ⟨(Lib.decDigits u).toArray⟩)∧Below w.heap.size w w':=by
 by_cases hs:u<100
 · have hsi:(u:Int)<100:=by omega
   go_enter Tryz.func185,Tryz.ntmps185
   go_wp2_with fail
   go_fit (Tryz.internal_strconv_small u hs _)
   rintro e w1 ⟨rfl,rfl⟩
   go_wp2
   go_ret
   exact ⟨rfl,Below.refl _ _⟩
 · have hu1:1≤u:=by omega
   have hsi:¬ (u:Int)<100:=by omega
   have hnd20:Lib.nDigits u≤20:=by have:=Lib.numDigits_eq u hu1 hu64;split at this <;> omega
   have hal:Tryz.prog.arrayLen 260=24:=by simp [Program.arrayLen,Tryz.underlying260]
   have hsl1:∀ W,(Instr.sliceAt 260 (.pointer (some ⟨w.heap.size,0,none⟩)) none (some (.int .i64 (Lib.nDigits u:Int))) none).run Tryz.prog W=.ok (.slice (some ⟨w.heap.size,0,none⟩) (Lib.nDigits u) 24) W:=fun W=>by
     rw [run_sliceAt_array_h W 260 ⟨w.heap.size,0,none⟩ (by simp [Program.arrayLen,Program.elem,Tryz.underlying260]) .i64 (Lib.nDigits u:Int) (by omega) (by rw [hal];omega)]
     go_simp
   have hH0:=Lib.holds_zero0 w 260 (Lib.nDigits u) (by omega)
   have hfmt:=Tryz.internal_strconv_formatBase10 w.heap.size 0 24 u (Array.replicate (Lib.nDigits u) 0) (w.alloc (.cells Lib.zeros24 260)) hH0 (by rw [Array.size_replicate];exact Lib.lt_pow_nDigits u) hu64 (by rw [Array.size_replicate];omega)
   rw [Array.size_replicate] at hfmt
   have HH0:=qh hH0
   have HF:=qh hfmt
   have HTAB:=qh (Lib.tabIs_alloc htab (.cells Lib.zeros24 260))
   clear hH0 hal hfmt htab
   go_enter Tryz.func185,Tryz.ntmps185
   go_wp2_with fail
   go_fit (Tryz.internal_strconv_numDigits u hu1 hu64 _ (uh HTAB))
   rintro e w1 ⟨rfl,rfl⟩
   go_wp2_with fail
   go_fit (uh HF)
   rintro e w2 ⟨rfl,k,v',dk,hw2,hF⟩
   have hcv:(convert 151 9 (.slice (some ⟨w.heap.size,0,none⟩) (Lib.nDigits u) 24)).run Tryz.prog w2=.ok (.string ⟨(Lib.decDigits u).toArray⟩) w2:=by
     have h:=run_convert_bytes_back (P:=Tryz.prog) w2 151 9 5 ⟨w.heap.size,0,none⟩ 24 (Lib.decDigits u) Tryz.underlying151 Tryz.underlying5 Tryz.underlying9 (fun j hj=>by
       rw [Lib.row_is_numeral hF j hj,Lib.add_plain,hw2,World.cell?_drewN]
       exact Sort.cell?_putRow (fun (b:UInt8)=>Value.int .u8 (b.toNat:Int)) _ w.heap.size 0 _ dk (uh HH0) (by rw [hF.size,Array.size_replicate]) j (by rw [hF.size];rw [Lib.decDigits_length] at hj;exact hj))
     rw [Lib.decDigits_length] at h
     exact h
   have hB:Below w.heap.size w w2:=by
     rw [hw2,Sort.alloc_eq_grow]
     obtain ⟨os',_,e⟩:=Sort.putRow_grow_new (fun (b:UInt8)=>Value.int .u8 (b.toNat:Int)) w #[.cells Lib.zeros24 260] w.heap.size 0 dk (Nat.le_refl _)
     rw [e]
     exact below_grow w k os'
   have HFF:=qh hF
   clear hF hw2
   go_wp2
   go_ret
   exact ⟨rfl,hB⟩
set_option maxHeartbeats 1000000 in
theorem formatUint_any (u : Nat) (hu64 : u < 18446744073709551616) (w : World) (htab : Lib.TabIs Tryz.prog w "internal/strconv.uint64pow10" .u64 Lib.pow10Tab) :
   Calls Tryz.prog 116 #[.int .u64 u,.int .i64 10] w fun e w'=>e=.returned (.string ⟨(Lib.decDigits u).toArray⟩)∧Below w.heap.size w w':=by
 have HTAB:=qh htab
 clear htab
 go_enter Tryz.func116,Tryz.ntmps116
 go_wp2_with fail
 go_fit (formatUintIn_any u hu64 _ (uh HTAB))
 rintro e w1 ⟨rfl,hb⟩
 go_wp2
 go_ret
 exact ⟨rfl,hb⟩
theorem wstr_any (B b:Nat) (bs:List Value) (s:ByteArray) (w:World) (h:Lib.IsBuilderF 153 5 B b bs w) (hlen:bs.length+s.size≤140737488355328) (hBw:B≤w.heap.size) :
   Calls Tryz.prog 117 #[.pointer (some ⟨b,0,none⟩),.string s] w fun e w'=>e=.returned (.tuple #[.int .i64 s.size,.nilIface])∧(Lib.BuilderAtF 153 5 B b (.pointer (some ⟨b,0,none⟩)) (bs++Lib.strCells s) w'∧Below B w w'∧Lib.OthersKept 5 (some b) w w') :=
 Any.Builder_WriteString_k { Tryz.lays105 with } Tryz.Builder_Extra_105 B b bs s w h hlen hBw
def lays167_ren:Go.Shelf.Ren:=⟨fun | 167=>114 | n=>Tryz.lays105_ren.f n,fun n=>Tryz.lays105_ren.t n,fun n=>Tryz.lays105_ren.g n⟩
theorem lays167:Go.Proofs.Lays.n167 Tryz.prog lays167_ren:={ Tryz.lays105 with
 f167:=Tryz.func114.trans (congrArg some (by kernel_rfl)) }
set_option maxRecDepth 100000 in
theorem wbyte_any (B b:Nat) (bs:List Value) (c:Int) (w:World) (h:Lib.IsBuilderF 153 5 B b bs w) (hlen:bs.length+1≤140737488355328) (hBw:B≤w.heap.size) :
   Calls Tryz.prog 114 #[.pointer (some ⟨b,0,none⟩),.int .u8 c] w fun e w'=>e=.returned .nilIface∧(Lib.BuilderAtF 153 5 B b (.pointer (some ⟨b,0,none⟩)) (bs++[.int .u8 c]) w'∧Below B w w'∧Lib.OthersKept 5 (some b) w w') :=
 Any.Builder_WriteByte_k lays167 { Tryz.Builder_Extra_105 with } B b bs c w h hlen hBw
theorem grown_new {w w':World} (h:Below w.heap.size w w'):w.grownBy w' none:=⟨h.os,h.tape,h.output,h.size,fun k hk _=>h.block k hk⟩
theorem builderAt_later {T e:TypeId}{B b:Nat}{p:Value}{bs:List Value}{w w':World} (h:Lib.BuilderAtF T e B b p bs w) (hb:Below w.heap.size w w'):Lib.BuilderAtF T e B b p bs w':=by
 obtain ⟨hB,v,hv,hown,hne⟩:=h
 refine ⟨hB,v,by rw [hb.block b (Array.getElem?_eq_some_iff.1 hv).1];exact hv,hown.kept (grown_new hb) ?_,hne⟩
 cases e:v.ownBlock with
 | none=>exact Or.inl rfl
 | some k=>exact Or.inr (by simp)
theorem zkg {T e:TypeId}{B b:Nat}{bs:List Value}{w w':World} (h:Lib.IsBuilderF T e B b bs w) (hb:Below w.heap.size w w'):Lib.IsBuilderF T e B b bs w' :=
 h.elim (fun x=>.inl (builderAt_later x hb)) (fun x=>.inr (builderAt_later x hb))
theorem builder_new (w:World) (B:Nat) (hB:B≤w.heap.size):Lib.IsBuilderF 153 5 B w.heap.size [] (w.alloc (.cells #[.pointer none,.slice none 0 0] 153)) :=
 .inl ⟨hB,.slice none 0 0,heap_alloc_new w _,Go.World.ownsRowF_nil _ _ _ _,by simp [Value.ownBlock]⟩
theorem Zr.small {N:Nat}{w:World}{v:Value}{z:Int} (h:Zr N w v z) (h0:-9223372036854775808≤z) (h1:z≤9223372036854775807):v=.agg #[.int .i64 z,.slice none 0 0]:=by
 rcases h with ⟨h,_,_⟩ | ⟨s,b,off,cap,l,_,_,_,_,_,_,_,_,_,_,hbig⟩
 · exact h
 · omega
end Go.Proofs.YtkifiolkfdicoaaGreatDoor
