import Derived.Test.YtkifiolkfdicoaaGreatDoorMNP
namespace Go.Proofs.YtkifiolkfdicoaaGreatDoor
open Go.RowKit
def ScA (L:List (List (Int×Int))) (Z:List (List Int)):Prop:=∀ (i:Nat) (r:List (Int×Int)) (z:List Int),L[i]? = some r→Z[i]? = some z→∃ x:Int×Int,(0<x.1∧0<x.2∧z.length=r.length∧∀ (i:Nat) (v:Int) (y:Int×Int),z[i]? = some v→r[i]? = some y→v*y.2*x.2=y.1*x.1)∧Int.gcd x.1 x.2=1
def Ovr (R:List (List Int)) (q:Int) (M:List (List (Int×Int))):Prop:=M.length=R.length∧∀ (i:Nat) (r:List Int) (x:List (Int×Int)),R[i]? = some r→M[i]? = some x→x.length=r.length∧∀ (c:Nat) (z:Int) (y:Int×Int),r[c]? = some z→x[c]? = some y→y.1*q=z*y.2∧0<y.2∧Int.gcd y.1 y.2=1
def RedP (A:Nat→Addr) (L:List (List (Int×Int))) (e:Ending) (w':World):Prop :=
 (¬ isTab L∧e=.returned (.tuple #[.slice none 0 0,.slice none 0 0,.iface 307 (.pointer (some (A 3)))])) ∨
 (isTab L∧∃ v u Z M,e=.returned (.tuple #[v,u,.nilIface])∧Z.length=L.length∧(∀ z ∈ Z,z.length=wide L)∧(∀ z ∈ Z,∀ y ∈ z,-pw 547<y∧y<pw 547)∧ScA L Z∧Ovr (redZ Z (wide L)).1 (redZ Z (wide L)).2.1 M∧Rows 1 (LE 4 (RE 20000)) w' v M∧Rows 1 IE w' u (redZ Z (wide L)).2.2)
theorem OwnR.tabset {w:World}{base g n i:Nat}{v:Value}{L:List Nat}{f:Nat→Value} (h:OwnR IsNum 1 IE 3 w base v L) (hT:Tab 183 w g n f) (u:Value):OwnR IsNum 1 IE 3 (w.setCell ⟨g,i,none⟩ u) base v L:=by
 obtain ⟨xs,h1,h2⟩:=h
 obtain ⟨cu,t1,_⟩:=hT
 have hb:∀ g',v.ownBlock=some g'→(w.setCell ⟨g,i,none⟩ u).heap[g']? = w.heap[g']? := fun g' hg'=>by
   refine Below.heap_setCell _ _ _ _ fun e => ?_
   subst e
   obtain ⟨_,⟨rfl,_⟩ | ⟨g2,cap,cur,rfl,_,e3,_⟩⟩:=h1.own
   · simp [Value.ownBlock] at hg'
   · obtain rfl:g2=g':=by simpa [Value.ownBlock] using hg'
     rw [t1] at e3
     simp at e3
 refine ⟨xs,⟨?_,fun g' hg' o x hx=>h1.kinds g' hg' o x (by rw [World.cell?_of_block (a:=⟨g',o,none⟩) (hb g' hg')] at hx;exact hx)⟩,fun k x hx => ?_⟩
 · obtain ⟨h0,h | ⟨g',cap,cur,e1,e2,e3,e4⟩⟩:=h1.own
   · exact ⟨h0,Or.inl h⟩
   · exact ⟨h0,Or.inr ⟨g',cap,cur,e1,e2,by rw [hb g' (by rw [e1];rfl)];exact e3,e4⟩⟩
 · exact h2 k x hx
theorem OwnR.boxset {w:World}{base q:Nat}{v:Value}{L:List Nat} (h:OwnR IsNum 1 IE 3 w base v L) (hq:Box w q) (u u':Value):OwnR IsNum 1 IE 3 ((w.setCell ⟨q,0,none⟩ u).setCell ⟨q,1,none⟩ u') base v L:=by
 obtain ⟨xs,h1,h2⟩:=h
 obtain ⟨x0,a0,n0,c0,t1⟩:=hq
 have hb:∀ g',v.ownBlock=some g'→((w.setCell ⟨q,0,none⟩ u).setCell ⟨q,1,none⟩ u').heap[g']? = w.heap[g']? := fun g' hg'=>by
   have hne:g'≠q:=by
     rintro rfl
     obtain ⟨_,⟨rfl,_⟩ | ⟨g2,cap,cur,rfl,_,e3,_⟩⟩:=h1.own
     · simp [Value.ownBlock] at hg'
     · obtain rfl:g2=g':=by simpa [Value.ownBlock] using hg'
       rw [t1] at e3
       simp at e3
   rw [Below.heap_setCell _ _ _ _ hne,Below.heap_setCell _ _ _ _ hne]
 refine ⟨xs,⟨?_,fun g' hg' o x hx=>h1.kinds g' hg' o x (by rw [World.cell?_of_block (a:=⟨g',o,none⟩) (hb g' hg')] at hx;exact hx)⟩,fun k x hx => ?_⟩
 · obtain ⟨h0,h | ⟨g',cap,cur,e1,e2,e3,e4⟩⟩:=h1.own
   · exact ⟨h0,Or.inl h⟩
   · exact ⟨h0,Or.inr ⟨g',cap,cur,e1,e2,by rw [hb g' (by rw [e1];rfl)];exact e3,e4⟩⟩
 · exact h2 k x hx
theorem zr_one (w:World):Zr 3288 w (.agg #[.int .i64 1,.slice none 0 0]) 1:=Zr.near 3288 (by decide) (by decide)
theorem tab_start {w:World}{n:Nat}:Scs 547 w.heap.size n (fun _=>.slice none 0 0) [] (w.alloc (.cells (madeCells #[.slice none 0 0] n) 183)):=⟨Tab.new _ _ _,fun _ _=>⟨_,_,_,rfl⟩,fun k z hz=>by simp at hz⟩
theorem ScA.next {L:List (List (Int×Int))}{Z:List (List Int)}{r:List (Int×Int)}{z:List Int}{P D:Int} (h:ScA L Z) (hr:L[Z.length]? = some r) (hP:0<P) (hD:0<D) (hg:Int.gcd P D=1) (hl:z.length=r.length) (he:∀ (i:Nat) (v:Int) (x:Int×Int),z[i]? = some v→r[i]? = some x→v*x.2*D=x.1*P):ScA L (Z++[z]):=by
 intro i r' z' hr' hz'
 by_cases e:i=Z.length
 · subst e
   simp at hz'
   subst hz'
   rw [hr] at hr'
   obtain rfl:=Option.some.inj hr'
   exact ⟨(P,D),⟨hP,hD,hl,he⟩,hg⟩
 · have hi:i<(Z++[z]).length:=(List.getElem?_eq_some_iff.1 hz').1
   simp at hi
   rw [List.getElem?_append_left (by omega)] at hz'
   exact h i r' z' hr' hz'
theorem ZE.bound {T:Nat}{w:World}{v:Value}{zs:List Int} (h:Rows 2 (ZE (T+1)) w v zs):∀ y ∈ zs,-pw (T+1)<y∧y<pw (T+1):=by
 intro y hy
 obtain ⟨i,hi⟩:=List.getElem?_of_mem hy
 obtain ⟨a,c,rfl⟩:=h.shape
 obtain ⟨_,_,_,_,_,_,_,_,_,_,_,hz⟩:=h.at hi
 exact hz.inside
theorem pw_mul (a:Nat):∀ k,pw (a*k)=pw a ^ k
 | 0=>by rw [Nat.mul_zero,Int.pow_zero];rfl
 | k+1=>by rw [Nat.mul_add,Nat.mul_one,pw_add,pw_mul a k,Int.pow_succ]
theorem redZ_in {Z:List (List Int)}{m j:Nat} (hw:∀ r ∈ Z,r.length=m) (hn:Z.length≤6) (hj:j≤m) (hb:∀ z ∈ Z,∀ y ∈ z,-pw 547<y∧y<pw 547) (i c:Nat) (hi:i<Z.length):-pw 3288<en (redZ Z j).1 i c∧en (redZ Z j).1 i c<pw 3288:=by
 obtain ⟨A,sg,h⟩:=redZ_inv hw j
 have h0:=zqu 547
 have h1:=h.le (M:=(pw 547).natAbs) (by omega) hn hj (fun r hr x hx=>by have:=hb r hr x hx;omega) i c hi
 have h2:((6*(pw 547).natAbs) ^ 6:Nat)<(pw 3288).natAbs:=by
   have e1:6*(pw 547).natAbs<(pw 548).natAbs:=by
     have e:=zxf 547
     rw [show (548:Nat)=547+1 from rfl]
     generalize pw (547+1)=x at *
     generalize pw 547=y at *
     omega
   have e2:((6*(pw 547).natAbs) ^ 6:Nat)<(pw 548).natAbs ^ 6:=Nat.pow_lt_pow_left e1 (by decide)
   have e3:(pw 548).natAbs ^ 6=(pw 3288).natAbs:=by
     rw [← Int.natAbs_pow,← pw_mul]
   omega
 have h3:=zqu 3288
 omega
def oq (z q:Int):Int×Int:=low (z*q.sign) (q*q.sign)
theorem oq_spec {z q:Int} (h:q≠0):(oq z q).1*q=z*(oq z q).2∧0<(oq z q).2∧Int.gcd (oq z q).1 (oq z q).2=1:=by
 obtain ⟨h1,h2,h3⟩:=low_spec (p:=z*q.sign) (d:=q*q.sign) (sign_pos h)
 refine ⟨?_,h2,h3⟩
 have hs:q.sign≠0:=by intro e;exact h (Int.sign_eq_zero_iff_zero.1 e)
 refine Int.eq_of_mul_eq_mul_right hs ?_
 have:(oq z q).1*(q*q.sign)=z*q.sign*(oq z q).2:=h1
 grind
theorem oq_is {z q P D:Int} (h:q≠0) (hE:P*q=z*D) (D0:0<D) (hg:Int.gcd P D=1):oq z q=(P,D):=low_is (sign_pos h) (by rw [← Int.mul_assoc,hE];grind) D0 hg
def ovr (R:List (List Int)) (q:Int):List (List (Int×Int)):=R.map fun r=>r.map fun z=>oq z q
theorem ovr_is {R:List (List Int)}{q:Int} (h:q≠0):Ovr R q (ovr R q):=by
 refine ⟨by simp [ovr],fun i r x hr hx => ?_⟩
 rw [ovr,List.getElem?_map,hr] at hx
 obtain rfl:(r.map fun z=>oq z q)=x:=by simpa using hx
 refine ⟨by simp,fun c z y hz hy => ?_⟩
 rw [List.getElem?_map,hz] at hy
 obtain rfl:oq z q=y:=by simpa using hy
 exact oq_spec h
theorem ovr_len (R:List (List Int)) (q:Int):(ovr R q).length=R.length:=by simp [ovr]
theorem ovr_wide {R:List (List Int)}{q:Int}{m:Nat} (h:∀ r ∈ R,r.length=m):∀ r ∈ ovr R q,r.length=m:=by
 intro r hr
 obtain ⟨s,hs,rfl⟩:=List.mem_map.1 hr
 simp [h s hs]
theorem ovr_at {R:List (List Int)}{q z:Int}{r:List Int}{k c m:Nat} (hw:∀ r ∈ R,r.length=m) (hr:R[k]? = some r) (hz:r[c]? = some z):(ovr R q).flatten[k*m+c]? = some (oq z q) :=
 flat_at' (ovr R q) k c (r.map fun z=>oq z q) _ (ovr_wide hw) (by rw [ovr,List.getElem?_map,hr];rfl) (by rw [List.getElem?_map,hz];rfl)
structure OS (W7:World) (X:List (Int×Int)) (g1 g2 n m k c:Nat) (AA:Nat→Option Addr) (q3:Nat) (t1:Int) (t2:Option Addr) (t3 t4:Nat) (t5:Int) (t6:Option Addr) (t7 t8:Nat) (x:Int×Int) (j:Nat) (w:World):Prop where
 below:Below W7.heap.size W7 w
 room:Fill NoWord 4 (RE 20000) 52 w g1 (n*m) (X.take (k*m+j))
 tab:Tab 118 w g2 n (fun i=>.slice (AA i) (if i<k then m else if i=k then c else 0) m)
 rb:RB 20000 w q3 t1 t2 t3 t4 t5 t6 t7 t8 x.1 x.2
theorem OS.later {W7 w w':World}{X:List (Int×Int)}{g1 g2 n m k c:Nat}{AA:Nat→Option Addr}{q3:Nat}{t1:Int}{t2:Option Addr}{t3 t4:Nat}{t5:Int}{t6:Option Addr}{t7 t8:Nat}{x:Int×Int}{j:Nat} (h:OS W7 X g1 g2 n m k c AA q3 t1 t2 t3 t4 t5 t6 t7 t8 x j w) (hb:Below w.heap.size w w'):OS W7 X g1 g2 n m k c AA q3 t1 t2 t3 t4 t5 t6 t7 t8 x j w':=⟨bk hb h.below,h.room.later (RE.stays _ _ nww) hb,h.tab.later hb,h.rb.keep hb⟩
theorem OS.append {W7 W:World}{X:List (Int×Int)}{g1 g2 n m k c:Nat}{AA:Nat→Option Addr}{q3 gq:Nat}{t1:Int}{t2:Option Addr}{t3 t4:Nat}{t5:Int}{t6:Option Addr}{t7 t8:Nat}{x:Int×Int} (h:OS W7 X g1 g2 n m k c AA q3 t1 t2 t3 t4 t5 t6 t7 t8 x c W) (ht:RB 20000 W gq t1 t2 t3 t4 t5 t6 t7 t8 x.1 x.2) (hx:X[k*m+c]? = some x) (hk:k<n) (hj:c<m) (hA:AA k=some ⟨g1,k*m*4,none⟩) (hg12:g1≠g2) (hw:W7.heap.size≤g1) (hq:q3≠g1) :
   (Builtin.append_ #[118,118] 118 #[.slice (AA k) c m,.slice (some ⟨gq,0,none⟩) 1 1]).run Tryz.prog W=.ok (.slice (AA k) (c+1) m) ((((W.setCell ⟨g1,(k*m+c)*4,none⟩ (.int .i64 t1)).setCell ⟨g1,(k*m+c)*4+1,none⟩ (.slice t2 t3 t4)).setCell ⟨g1,(k*m+c)*4+2,none⟩ (.int .i64 t5)).setCell ⟨g1,(k*m+c)*4+3,none⟩ (.slice t6 t7 t8))∧OS W7 X g1 g2 n m k c AA q3 t1 t2 t3 t4 t5 t6 t7 t8 x (c+1) ((((W.setCell ⟨g1,(k*m+c)*4,none⟩ (.int .i64 t1)).setCell ⟨g1,(k*m+c)*4+1,none⟩ (.slice t2 t3 t4)).setCell ⟨g1,(k*m+c)*4+2,none⟩ (.int .i64 t5)).setCell ⟨g1,(k*m+c)*4+3,none⟩ (.slice t6 t7 t8))∧Beside g1 W ((((W.setCell ⟨g1,(k*m+c)*4,none⟩ (.int .i64 t1)).setCell ⟨g1,(k*m+c)*4+1,none⟩ (.slice t2 t3 t4)).setCell ⟨g1,(k*m+c)*4+2,none⟩ (.int .i64 t5)).setCell ⟨g1,(k*m+c)*4+3,none⟩ (.slice t6 t7 t8)):=by
 have hlen:(X.take (k*m+c)).length=k*m+c:=by
   rw [List.length_take];have:=(List.getElem?_eq_some_iff.1 hx).1;omega
 have hlt:k*m+c<n*m:=by
   have h1:(k+1)*m≤n*m:=Nat.mul_le_mul_right _ hk
   rw [Nat.add_mul] at h1;omega
 obtain ⟨f2,c2⟩:=h.room.put4 (u0:=.int .i64 t1) (u1:=.slice t2 t3 t4) (u2:=.int .i64 t5) (u3:=.slice t6 t7 t8) (x:=x) (RE.stays _ _ nww) (by rw [hlen];exact hlt) (kd_r _ _ _ _ _ _ _ _) ⟨_,_,_,_,_,_,_,_,rfl,ht.r⟩
 rw [hlen] at f2 c2
 have hbe:=beside_put4 c2
 refine ⟨?_,⟨below_put4 h.below hw _ _ _ _,?_,h.tab.beside hbe (Ne.symm hg12),h.rb.beside hbe hq⟩,hbe⟩
 · obtain ⟨i0,hi0,hz0,hz1,hz2⟩:=info_parts info_r
   have hoff:∀ o,o<4→k*m*4+c*i0.size+o=(k*m+c)*4+o:=fun o ho=>by rw [hz1];omega
   have hrun:=run_append_room_cells (P:=Tryz.prog) W 118 118 52 i0 Tryz.underlying118 hi0 g1 (k*m*4) c m ⟨gq,0,none⟩ 1 1 [.int .i64 t1,.slice t2 t3 t4,.int .i64 t5,.slice t6 t7 t8] (by rw [hz1];rfl) (fun o u hu => ?_) (one_r _ _ _ _ _ _ _ _) hj (fun o ho => ?_) (fun o ho=>h.room.free _)
   · rw [hA,hrun,hz1,show k*m*4+c*4=(k*m+c)*4 by omega]
     rfl
   · match o,hu with
     | 0,hu =>
       obtain rfl:_=u:=by simpa using hu
       exact ht.c.1
     | 1,hu =>
       obtain rfl:_=u:=by simpa using hu
       exact ht.c.2.1
     | 2,hu =>
       obtain rfl:_=u:=by simpa using hu
       exact ht.c.2.2.1
     | 3,hu =>
       obtain rfl:_=u:=by simpa using hu
       exact ht.c.2.2.2
   · rw [hoff o (by simpa using ho)]
     obtain ⟨u,hu⟩:=h.room.cell (o:=(k*m+c)*4+o) (by simp at ho;omega)
     rw [hu];rfl
 · rw [← Nat.add_assoc,tkn hx];exact f2
def OW (S:Nat→World→Prop) (g2 k:Nat) (v:Value) (c:Nat) (L:Nat→Bool) (w:World):Prop:=(L 8=false∧L 10=false∧S c w)∨(L 8=true∧L 10=false∧S (c+1) w)∨(L 10=true∧(∀ i,i<11→L i=true)∧∃ w0,S (c+1) w0∧w=w0.setCell ⟨g2,k,none⟩ v)
theorem OW.open {S:Nat→World→Prop}{g2 k:Nat}{v:Value}{c i:Nat}{L:Nat→Bool}{w:World} (h:OW S g2 k v c L w) (hi:L i=false) (h11:i<11) (h8:i≠8) (h10:i≠10):∃ jr,S jr w∧∀ w',S jr w'→OW S g2 k v c (fun j=>if j=i then true else L j) w':=by
 rcases h with ⟨a1,a2,a3⟩ | ⟨a1,a2,a3⟩ | ⟨_,a2,_⟩
 · exact ⟨c,a3,fun w' h=>Or.inl ⟨by show (if 8=i then true else L 8)=_;rw [if_neg (Ne.symm h8)];exact a1,by show (if 10=i then true else L 10)=_;rw [if_neg (Ne.symm h10)];exact a2,h⟩⟩
 · exact ⟨c+1,a3,fun w' h=>Or.inr (Or.inl ⟨by show (if 8=i then true else L 8)=_;rw [if_neg (Ne.symm h8)];exact a1,by show (if 10=i then true else L 10)=_;rw [if_neg (Ne.symm h10)];exact a2,h⟩)⟩
 · rw [a2 i h11] at hi;cases hi
def OF (g1 g2 n k m c:Nat) (AA:Nat→Option Addr) (t1:Int) (t2:Option Addr) (t3 t4:Nat) (t5:Int) (t6:Option Addr) (t7 t8:Nat) (x:Int×Int):Nat→Value→World→Prop
 | 0,v,_=>v=.slice (some ⟨g2,0,none⟩) n n
 | 1,v,_=>v=.int .i64 (k:Int)
 | 2,v,_=>v=.slice (some ⟨g2,0,none⟩) n n
 | 3,v,_=>v=.int .i64 (k:Int)
 | 4,v,_=>v=.pointer (some ⟨g2,k,none⟩)
 | 5,v,_=>v=.slice (AA k) c m
 | 6,v,_=>v=.agg #[.int .i64 t1,.slice t2 t3 t4,.int .i64 t5,.slice t6 t7 t8]
 | 7,v,w=>∃ gq,v=.slice (some ⟨gq,0,none⟩) 1 1∧(gq≠g1∧gq≠g2)∧RB 20000 w gq t1 t2 t3 t4 t5 t6 t7 t8 x.1 x.2
 | 8,v,_=>v=.slice (AA k) (c+1) m
 | 9,v,_=>v=.pointer (some ⟨g2,k,none⟩)
 | _,_,_=>True
theorem OF.later {g1 g2 n k m c j:Nat}{AA:Nat→Option Addr}{t1:Int}{t2:Option Addr}{t3 t4:Nat}{t5:Int}{t6:Option Addr}{t7 t8:Nat}{x:Int×Int}{v:Value}{w w':World} (h:OF g1 g2 n k m c AA t1 t2 t3 t4 t5 t6 t7 t8 x j v w) (hb:Below w.heap.size w w'):OF g1 g2 n k m c AA t1 t2 t3 t4 t5 t6 t7 t8 x j v w':=by
 rcases j with _ | _ | _ | _ | _ | _ | _ | _ | _ | _ | _
 all_goals first | exact h | skip
 obtain ⟨gq,h1,h2,h3⟩:=h
 exact ⟨gq,h1,h2,h3.keep hb⟩
theorem OF.beside {g1 g2 n k m c j g:Nat}{AA:Nat→Option Addr}{t1:Int}{t2:Option Addr}{t3 t4:Nat}{t5:Int}{t6:Option Addr}{t7 t8:Nat}{x:Int×Int}{v:Value}{w w':World} (h:OF g1 g2 n k m c AA t1 t2 t3 t4 t5 t6 t7 t8 x j v w) (hb:Beside g w w') (hg:g=g1∨g=g2):OF g1 g2 n k m c AA t1 t2 t3 t4 t5 t6 t7 t8 x j v w':=by
 rcases j with _ | _ | _ | _ | _ | _ | _ | _ | _ | _ | _
 all_goals first | exact h | skip
 obtain ⟨gq,h1,h2,h3⟩:=h
 exact ⟨gq,h1,h2,h3.beside hb (by rcases hg with rfl | rfl;exact h2.1;exact h2.2)⟩
theorem OS.done {W7 w:World}{X:List (Int×Int)}{g1 g2 n m k c:Nat}{AA:Nat→Option Addr}{q3:Nat}{t1:Int}{t2:Option Addr}{t3 t4:Nat}{t5:Int}{t6:Option Addr}{t7 t8:Nat}{x:Int×Int} (h:OS W7 X g1 g2 n m k c AA q3 t1 t2 t3 t4 t5 t6 t7 t8 x (c+1) w) (hk:k<n) (hg12:g1≠g2):Outs X g1 g2 n m k (c+1) AA (w.setCell ⟨g2,k,none⟩ (.slice (AA k) (c+1) m)):=by
 have hbe:=h.tab.besideR (fun i _=>⟨_,_,_,rfl⟩) k (.slice (AA k) (c+1) m)
 refine ⟨h.room.beside hbe hg12,(h.tab.set hk _).congr fun i hi => ?_⟩
 by_cases e:i=k
 · subst e
   rw [if_pos rfl,if_neg (by omega),if_pos rfl]
 · rw [if_neg e,if_neg e]
   by_cases e2:i<k
   · rw [if_pos e2,if_pos e2]
   · rw [if_neg e2,if_neg e2,if_neg e]
theorem en_of {R:List (List Int)}{r:List Int}{x:Int}{i c:Nat} (hr:R[i]? = some r) (hx:r[c]? = some x):en R i c=x:=by simp [en,List.getD,hr,hx]
theorem step_facts {Z:List (List Int)}{m j n k a:Nat}{AI:Nat→Nat→Int}{sg:Int} (hZ1:Z.length=n) (hZ2:∀ z ∈ Z,z.length=m) (hZ3:∀ z ∈ Z,∀ y ∈ z,-pw 547<y∧y<pw 547) (hn:n≤6) (hj:j<m) (hI:InvZ Z m j (redZ Z j) AI sg) (hk:k=(redZ Z j).2.2.length) (hpz:pz (redZ Z j).1 j k=some a) :
   redZ Z (j+1)=(clr (swapL (redZ Z j).1 k a) k j (redZ Z j).2.1,en (swapL (redZ Z j).1 k a) k j,(redZ Z j).2.2++[j])∧(swapL (redZ Z j).1 k a).length=n∧(∀ r ∈ swapL (redZ Z j).1 k a,r.length=m)∧(swapL (redZ Z j).1 k a)[k]? = some ((swapL (redZ Z j).1 k a).getD k [])∧((swapL (redZ Z j).1 k a).getD k [])[j]? = some (en (swapL (redZ Z j).1 k a) k j)∧(redZ Z j).2.1≠0∧(clr (swapL (redZ Z j).1 k a) k j (redZ Z j).2.1).length=n∧(∀ r ∈ clr (swapL (redZ Z j).1 k a) k j (redZ Z j).2.1,r.length=m)∧(clr (swapL (redZ Z j).1 k a) k j (redZ Z j).2.1)[k]? = some ((swapL (redZ Z j).1 k a).getD k []) ∧
     (∀ i r c y,i≠k→(swapL (redZ Z j).1 k a)[i]? = some r→(clr (swapL (redZ Z j).1 k a) k j (redZ Z j).2.1)[i]? = some c→r[j]? = some y→∀ (t:Nat) (q x z:Int),c[t]? = some q→r[t]? = some x→((swapL (redZ Z j).1 k a).getD k [])[t]? = some z→q*(redZ Z j).2.1=x*en (swapL (redZ Z j).1 k a) k j - z*y)∧(∀ c ∈ clr (swapL (redZ Z j).1 k a) k j (redZ Z j).2.1,∀ q ∈ c,-pw 3288<q∧q<pw 3288):=by
 subst hk
 obtain ⟨h1,h2,h3⟩:=pz_some hpz
 have hl:=hI.len
 obtain ⟨hI',hd⟩:=hI.found hpz
 have hst:redZ Z (j+1)=(clr (swapL (redZ Z j).1 (redZ Z j).2.2.length a) (redZ Z j).2.2.length j (redZ Z j).2.1,en (swapL (redZ Z j).1 (redZ Z j).2.2.length a) (redZ Z j).2.2.length j,(redZ Z j).2.2++[j]):=by simp only [redZ,stepZ,hpz]
 have hstep:stepZ j (redZ Z j)=redZ Z (j+1):=rfl
 rw [hstep,hst] at hd
 have hb:=redZ_in (j:=j+1) hZ2 (by omega) (by omega) hZ3
 have hq0:=hI.bar.q0
 rw [hst] at hb
 generalize (redZ Z j).2.2.length=k at *
 generalize (redZ Z j).2.1=q at *
 have hls:(swapL (redZ Z j).1 k a).length=n:=by rw [swapL_len];omega
 have hws:=swapL_wide (k:=k) (a:=a) (by omega) h2 hI.wide
 generalize swapL (redZ Z j).1 k a=R1 at *
 have hkn:k<R1.length:=by omega
 have hpr:=getD_some (l:=R1) [] hkn
 have hprl:=hws _ (List.mem_of_getElem? hpr)
 have hlc:(clr R1 k j q).length=n:=by rw [clr_len];exact hls
 have hwc:=clr_wide (col:=j) (d:=q) hkn hws
 refine ⟨hst,hls,hws,hpr,getD_some 0 (by omega),?_,hlc,hwc,?_,fun i r c y hik hr hc hy t q' x z hq hx hz => ?_,fun c hc y hy => ?_⟩
 · exact hq0
 · rw [clr,List.getElem?_map,List.getElem?_range hkn]
   simp
 · have hi:i<Z.length:=by have:=(List.getElem?_eq_some_iff.1 hr).1;omega
   have:=hd i t hi hik
   simp only at this
   rw [en_of hc hq,en_of hr hx,en_of hpr hz,en_of hr hy] at this
   exact this
 · obtain ⟨i,hi⟩:=List.getElem?_of_mem hc
   obtain ⟨t,ht⟩:=List.getElem?_of_mem hy
   have:=hb i t (by have:=(List.getElem?_eq_some_iff.1 hi).1;omega)
   rw [en_of hi ht] at this
   exact this
theorem TabR.bes {T g qb n:Nat}{w w':World}{f:Nat→Value}{C:List (List Int)} (h:TabR T w g n f C) (hb:Bes qb w w') (hne:g≠qb) (hf:∀ t c b,C[t]? = some c→c≠[]→(f t).ownBlock=some b→b≠qb):TabR T w' g n f C:=by
 refine ⟨h.tab.bes hb hne,h.len,fun i c hc=>⟨(Zo.bes (g:=qb) ⟨(h.rows i c hc).1,fun b hb' hn=>hf i c b hc hn hb'⟩ hb).1,(h.rows i c hc).2⟩⟩
theorem box_bes {w:World}{qb:Nat} (hb:Box w qb) (x:Int) (a:Option Addr) (n c:Nat):Bes qb w ((w.setCell ⟨qb,0,none⟩ (.int .i64 x)).setCell ⟨qb,1,none⟩ (.slice a n c)):=by
 obtain ⟨x0,a0,n0,c0,h⟩:=hb
 have k0:∀ u ∈ (#[Value.int .i64 x0,.slice a0 n0 c0]).toList,NoWord u:=kd_z x0 a0 n0 c0
 have c1:=zxj (o:=0) h k0 (.int .i64 x)
 have b1:=zkh (o:=0) h (.int .i64 x)
 have k1:∀ u ∈ ((#[Value.int .i64 x0,.slice a0 n0 c0]).setIfInBounds 0 (.int .i64 x)).toList,NoWord u:=kd_z x a0 n0 c0
 have c2:=zxj (o:=1) b1 k1 (.slice a n c)
 exact bes_put2 (o:=0) (c1.trans c2)
set_option maxHeartbeats 16000000 in
set_option maxRecDepth 8000 in
theorem mreduced_any {A:Nat→Addr}{v:Value}{L:List (List (Int×Int))} (w:World) (hA:Env A w) (hS:Sents w A) (h:Rows 1 (LE 4 (RE 78)) w v L) (hl:L.length≤6) (hl2:∀ r ∈ L,r.length≤6) :
   Calls Tryz.prog 73 #[v] w fun e w'=>RedP A L e w'∧Below w.heap.size w w':=by
 obtain ⟨sa,sc,rfl⟩:=h.shape
 have HR:=qh h
 have HA:=qh hA
 have HSE:=qh hS
 have HL2:=qh hl2
 clear h hA hS hl2
 have HWM:=qh (wide_le (uh HL2))
 obtain ⟨n,hn⟩:∃ n,n=L.length:=⟨_,rfl⟩
 rw [← hn] at HR hl
 rw [← hn]
 have HN:=qh hn
 have hln:L.length≤100000000:=by omega
 clear hn
 go_enter Tryz.func73,Tryz.ntmps73
 have hmk2:=run_make_k (P:=Tryz.prog) 182 183 _ 1 24 Tryz.underlying182 info_zz .i64 .i64 n (by omega) (by omega)
 go_wp2_with fail
 go_fit (widthOf_any _ (uh HR) hln (fun r hr=>by have:=uh HL2 r hr;omega))
 rintro e1 W1 ⟨h1,B1⟩
 have HB:=qh B1
 clear B1 hln
 rcases h1 with ⟨ht,rfl⟩ | ⟨ht,rfl⟩
 rotate_left
 · have HT:=qh ht
   have c3:=((uh HSE).later (uh HB)).h3
   clear ht hmk2
   go_wp2_with fail
   go_quiet (fail)
   go_wp2
   exact bodyPost_ret (v:=.tuple #[.slice none 0 0,.slice none 0 0,.iface 307 (.pointer (some (A 3)))]) (by simp [results,Tryz.results73,go_sem]) rfl ⟨Or.inl ⟨uh HT,rfl⟩,belowN (uh HB) _⟩
 obtain ⟨m,hm⟩:∃ m,m=wide L:=⟨_,rfl⟩
 rw [← hm] at HWM
 rw [← hm]
 have HMW:=qh hm
 have HT:=qh ht
 have hm6:=uh HWM
 clear hm ht
 have HR1:=qh ((uh HR).later (zxp _ 52) (uh HB))
 obtain ⟨g,hg⟩:∃ g,g=W1.heap.size:=⟨_,rfl⟩
 have HSC:=qh (tab_start (w:=W1) (n:=n))
 have kn:=zqa W1 (.cells (madeCells #[.slice none 0 0] n) 183)
 have HBG:=qh (bk kn (uh HB))
 have hwg:w.heap.size≤g:=by rw [hg];exact (uh HB).size
 rw [← hg] at HSC
 clear kn
 go_wp2_with fail
 rw [← hg]
 clear hg hmk2
 go_loopg [35] n (fun gk iv wr=>∃ (i:Nat) (f:Nat→Value) (Z:List (List Int)),i≤n∧gk=n - i∧iv=.int .i64 (i:Int)∧Hid (Z.length=i∧(∀ z ∈ Z,z.length=m)∧(∀ z ∈ Z,∀ y ∈ z,-pw 547<y∧y<pw 547)∧ScA L Z)∧Hid (Scs 547 g n f Z wr)∧Hid (Below w.heap.size w wr))
 case atStart=>exact ⟨0,_,[],by omega,by omega,rfl,qh ⟨rfl,fun _ h=>by simp at h,fun _ h=>by simp at h,fun i r z _ hz=>by simp at hz⟩,HSC,HBG⟩
 case round =>
   clear HSC HBG
   obtain ⟨i,f,Z,hi,hgk,rfl,HZ,HSC,HBG⟩:=hrel
   by_cases hin:i<n
   · obtain ⟨r,hr⟩:∃ r,L[i]? = some r:=⟨L[i]'(by have:=uh HN;omega),by simp⟩
     obtain ⟨mb,mo,rfl,cs,_,hcs,u,rfl,hU⟩:=(uh HR).at hr
     obtain ⟨ua,uc,rfl⟩:=hU.shape
     have c0:wr.cell? ⟨mb,mo+i,none⟩=some (.slice ua r.length uc):=ck (uh HBG) (by simpa using hcs 0 _ rfl)
     have hin':(i:Int)<(n:Int):=by omega
     have hi1:(i:Int)+1≤100:=by omega
     have HU:=qh (hU.later (RE.stays (K:=NoWord) 78 52 nww) (uh HBG))
     have HRR:=qh (And.intro hr (And.intro (uh HL2 r (List.mem_of_getElem? hr)) (tab_wide (uh HT) (List.mem_of_getElem? hr))))
     have HG:=qh (And.intro hgk (And.intro hi hin))
     clear hr hcs hU hgk hi hin
     go_wp2_with fail
     go_fit (scaled_any (N:=77) _ ((uh HA).later (uh HBG)) (uh HU) (uh HRR).2.1 (by decide))
     rintro e2 W2 ⟨⟨va,vb,zs,P,D,rfl,hown,hZs,hR,hP,hzl,hze⟩,B2⟩
     obtain ⟨za,zc,rfl⟩:=hZs.shape
     obtain ⟨p1,p2,p3,p4,p5,p6,p7,p8,rfl⟩:=hR.shape
     have hsz:=(uh HSC).tab.lt
     have HZN:=qh (show Zo 547 g W2 (.slice za zs.length zc) zs from ⟨hZs,fun b hb _=>by have:=hown b hb;omega⟩)
     have HSC:=qh ((uh HSC).later B2)
     have HBG:=qh (bk B2 (uh HBG))
     have HNX:Hid ((Z++[zs]).length=i+1∧(∀ z ∈ Z++[zs],z.length=m)∧(∀ z ∈ Z++[zs],∀ y ∈ z,-pw 547<y∧y<pw 547)∧ScA L (Z++[zs])):=qh (by
       obtain ⟨z1,z2,z3,z4⟩:=uh HZ
       have hrw:r.length=m:=by rw [uh HMW];exact (uh HRR).2.2.symm
       refine ⟨by simp [z1],fun z hz => ?_,fun z hz => ?_,z4.next (by rw [z1];exact (uh HRR).1) hP hR.posD hR.lowD hzl hze⟩
       · rcases List.mem_append.1 hz with hz | hz
         · exact z2 z hz
         · simp at hz;subst hz;omega
       · rcases List.mem_append.1 hz with hz | hz
         · exact z3 z hz
         · simp at hz;subst hz;exact ZE.bound hZs)
     have hZl:Z.length=i:=(uh HZ).1
     have t0:=(uh HSC).tab.cell (uh HG).2.2
     have tf:=(uh HSC).tab.free
     have HNS:=qh ((uh HSC).next (by rw [hZl];exact (uh HG).2.2) (uh HZN))
     rw [hZl] at HNS
     obtain ⟨zl,hzle⟩:∃ l,l=zs.length:=⟨_,rfl⟩
     rw [← hzle] at HNS ⊢
     clear hown hZs hR hP hzl hze B2 c0 hsz hzle hZl
     go_wp2
     obtain ⟨hgk,hi,hin⟩:=uh HG
     go_roundg (n - (i+1))
     case measure=>omega
     case rel=>exact ⟨i+1,_,Z++[zs],by omega,rfl,by go_num,HNX,HNS,qh ((uh HBG).setCell (p:=⟨g,i,none⟩) hwg _)⟩
   · obtain rfl:i=n:=by omega
     clear hin hi hgk
     obtain ⟨hZ1,hZ2,hZ3,hZ4⟩:=uh HZ
     have hTR:=(uh HSC).all (T':=3288) hZ1 (by decide)
     have hgw:=(uh HSC).tab.lt
     have HTR:=qh hTR
     have HZW:=qh (And.intro hZ1 (And.intro hZ2 (And.intro hZ3 hZ4)))
     clear hTR hZ1 hZ2 hZ3 hZ4 HSC HZ
     go_wp2_with fail
     go_fit (of_any 1 _)
     rintro e3 W3 ⟨rfl,B3⟩
     have k3:=zqa W3 (.cells #[.int .i64 1,.slice none 0 0] 31)
     have kk:=bk k3 B3
     have HTR:=qh ((uh HTR).later kk)
     have HBG:=qh (bk kk (uh HBG))
     have HLD:=qh (Vr.new (show Zr 3288 W3 (.agg #[.int .i64 1,.slice none 0 0]) 1 from zr_one W3))
     have hgq:g<W3.heap.size:=Nat.lt_of_lt_of_le hgw B3.size
     obtain ⟨qb,hqb⟩:∃ q,q=W3.heap.size:=⟨_,rfl⟩
     rw [← hqb] at HLD hgq
     have HWQ:Hid (w.heap.size≤qb):=qh (by omega)
     go_wp2_with fail
     rw [← hqb]
     clear k3 kk B3 hqb
     go_loopg [7,11,51] m (fun gk rv av jv wr=>∃ (j g:Nat) (f:Nat→Value) (l1:Int) (l2:Option Addr) (l3 l4:Nat),j≤m∧gk=m - j∧rv=.slice (some ⟨g,0,none⟩) i i∧jv=.int .i64 (j:Int)∧Hid (w.heap.size≤g∧g≠qb)∧Hid (TabR 3288 wr g i f (redZ Z j).1)∧Hid (Vr wr qb l1 l2 l3 l4 3288 (redZ Z j).2.1)∧Hid (OwnR IsNum 1 IE 3 wr w.heap.size av (redZ Z j).2.2)∧Hid (Below w.heap.size w wr))
     case atStart=>exact ⟨0,g,f,_,_,_,_,by omega,by omega,rfl,rfl,qh ⟨hwg,by omega⟩,HTR,HLD,qh (OwnR.nil _ _ _ _ _ _),HBG⟩
     case round =>
       clear HTR HLD HBG hgq hwg
       obtain ⟨j,g,f,l1,l2,l3,l4,hj,hgk,rfl,rfl,HGG,HTR,HLD,HO,HBG⟩:=hrel
       obtain ⟨oa,oc,rfl⟩:=(uh HO).slice
       obtain ⟨hZ1,hZ2,hZ3,hZ4⟩:=uh HZW
       obtain ⟨AI,sg,hI⟩:=redZ_inv hZ2 j
       have hlR:(redZ Z j).1.length=i:=by rw [hI.len,hZ1]
       have hwR:=hI.wide
       have hk6:(redZ Z j).2.2.length≤6:=by have:=hI.bar.gj.kn;omega
       have HI:=qh hI
       obtain ⟨k,hk⟩:∃ k,k=(redZ Z j).2.2.length:=⟨_,rfl⟩
       have hk6':k≤6:=by omega
       have hkn:k≤i:=by have:=hI.bar.gj.kn;omega
       rw [← hk] at HO ⊢
       have HK:=qh hk
       have HRW:=qh (And.intro hlR hwR)
       clear hZ1 hZ2 hZ3 hZ4 hI hlR hwR hk6 hk
       by_cases hjm:j<m
       · have hjm':(j:Int)<(m:Int):=by omega
         have hj1:(j:Int)+1≤100:=by omega
         have HG:=qh (And.intro hgk (And.intro hj hjm))
         have hg7:=uh HGG
         clear hgk hj
         go_wp2_with fail
         go_fit (firstWith_any (T:=3288) (col:=j) (k:=k) _ ((uh HTR).all hl) (fun r hr=>by rw [(uh HRW).2 r hr];exact hjm) (by rw [(uh HRW).1];exact hl) hk6')
         rintro e4 W4 ⟨rfl,B4⟩
         have HTR:=qh ((uh HTR).later B4)
         have HLD:=qh ((uh HLD).keep B4)
         have HO:=qh ((uh HO).later (IE.notNumStays _) B4)
         have HBG:=qh (bk B4 (uh HBG))
         clear B4
         rcases hpz:pz (redZ Z j).1 j k with _ | a
         · have HST:Hid (redZ Z (j+1)=redZ Z j):=qh (by simp only [redZ,stepZ];rw [← uh HK,hpz])
           rw [show atv (none:Option Nat) = -1 from rfl]
           clear hpz
           go_wp2
           obtain ⟨hgk,hj,_⟩:=uh HG
           go_roundg (m - (j+1))
           case measure=>omega
           case rel=>exact ⟨j+1,g,f,l1,l2,l3,l4,by omega,rfl,rfl,by go_num,HGG,qh (by rw [uh HST];exact uh HTR),qh (by rw [uh HST];exact uh HLD),qh (by rw [uh HST];exact uh HO),HBG⟩
         · rw [show atv (some a)=(a:Int) from rfl]
           obtain ⟨ha1,ha2,ha3⟩:=pz_some hpz
           rw [(uh HRW).1] at ha2
           have hka:k<i:=by omega
           have HPZ:=qh hpz
           obtain ⟨ka,kn',kc,hfk⟩:=(uh HTR).sl k hka
           obtain ⟨aa,an,ac,hfa⟩:=(uh HTR).sl a ha2
           have tk:=(uh HTR).tab.cell hka
           have ta:=(uh HTR).tab.cell ha2
           rw [hfk] at tk
           rw [hfa] at ta
           have tf:=(uh HTR).tab.free
           have HFF:=qh (And.intro hfk hfa)
           have hka':(k:Int)<(i:Int):=by omega
           have hai':(a:Int)<(i:Int):=by omega
           have ha0:¬ (a:Int)<0:=by omega
           have HAA:=qh (And.intro hka ha2)
           have hsw:=(uh HTR).swap hka ha2
           rw [hfk,hfa] at hsw
           have HSW:=qh hsw
           have hsl:=(uh HTR).sl
           have HV1:=fun (x y:Value)=>((uh HLD).tabset (i:=k) (uh HTR).tab (Ne.symm hg7.2) (fun t ht=>(hsl t ht).noInt.noWord) x)
           have hkeep:∀ (p q:Nat) (x y:Value),p<i→q<i→IsSl x→Hid (Vr ((W4.setCell ⟨g,p,none⟩ x).setCell ⟨g,q,none⟩ y) qb l1 l2 l3 l4 3288 (redZ Z j).2.1)∧Hid (OwnR IsNum 1 IE 3 ((W4.setCell ⟨g,p,none⟩ x).setCell ⟨g,q,none⟩ y) w.heap.size (.slice oa k oc) (redZ Z j).2.2)∧Hid (Below w.heap.size w ((W4.setCell ⟨g,p,none⟩ x).setCell ⟨g,q,none⟩ y)):=fun p q x y hp hq hx=>by
             have t1:=(uh HTR).tab.set hp x
             have s1:∀ t,t<i→IsSl (if t=p then x else f t):=fun t ht=>by
               split
               · exact hx
               · exact hsl t ht
             exact ⟨qh (((uh HLD).tabset (uh HTR).tab (Ne.symm hg7.2) (fun t ht=>(hsl t ht).noInt.noWord) x).tabset t1 (Ne.symm hg7.2) (fun t ht=>(s1 t ht).noInt.noWord) y),qh (((uh HO).tabset (uh HTR).tab x).tabset t1 y),qh (((uh HBG).setCell (p:=⟨g,p,none⟩) hg7.1 _).setCell (p:=⟨g,q,none⟩) hg7.1 _)⟩
           have HKP:=qh hkeep
           clear hfk hfa hsw hpz ha1 ha3 hkeep hsl HV1
           go_upto_region 18 with fail
           go_cut [] from 62 to 75 (fun wx=>Hid (TabR 3288 wx g i (fun t=>f (swp k a t)) (swapL (redZ Z j).1 k a))∧Hid (Vr wx qb l1 l2 l3 l4 3288 (redZ Z j).2.1)∧Hid (OwnR IsNum 1 IE 3 wx w.heap.size (.slice oa k oc) (redZ Z j).2.2)∧Hid (Below w.heap.size w wx))
           case first =>
             have s1:=((uh HTR).tab.set hka (.slice aa an ac)).cell ha2
             have s2:=((uh HTR).tab.set ha2 (.slice ka kn' kc)).cell hka
             have s3:=((uh HTR).tab.set hka (.slice aa an ac)).free
             have s4:=((uh HTR).tab.set ha2 (.slice ka kn' kc)).free
             go_region
             all_goals
               go_wp2
               go_meet
               first
                 | exact ⟨qh ((uh HSW).1.later (Below.refl _ _).drew),qh ((uh (uh HKP k a _ _ hka ha2 ⟨_,_,_,rfl⟩).1).keep (Below.refl _ _).drew),qh ((uh (uh HKP k a _ _ hka ha2 ⟨_,_,_,rfl⟩).2.1).later (IE.notNumStays _) (Below.refl _ _).drew),qh (uh (uh HKP k a _ _ hka ha2 ⟨_,_,_,rfl⟩).2.2).drew⟩
                 | exact ⟨qh ((uh HSW).2.later (Below.refl _ _).drew),qh ((uh (uh HKP a k _ _ ha2 hka ⟨_,_,_,rfl⟩).1).keep (Below.refl _ _).drew),qh ((uh (uh HKP a k _ _ ha2 hka ⟨_,_,_,rfl⟩).2.1).later (IE.notNumStays _) (Below.refl _ _).drew),qh (uh (uh HKP a k _ _ ha2 hka ⟨_,_,_,rfl⟩).2.2).drew⟩
           case rest =>
             obtain ⟨HTR,HLD,HO,HBG⟩:=hcut
             obtain ⟨V,rfl⟩:∃ X,X=wc:=⟨_,rfl⟩
             obtain ⟨hZ1,hZ2,hZ3,hZ4⟩:=uh HZW
             obtain ⟨e1,e2,e3,e4,e5,e6,e7,e8,e9,e10,e11⟩:=step_facts hZ1 hZ2 hZ3 hl hjm (uh HI) (uh HK) (uh HPZ)
             have l0:=(uh HLD).c0
             have l1c:=(uh HLD).c1
             have HCALL:=qh (cleared_any (N:=3287) V ((uh HTR).all hl) e2 hl e3 hm6 e4 e5 (uh HLD).zr e6 e7 e8 e9 e10 e11 (by decide))
             have HE1:=qh e1
             have HE9:=qh (And.intro e9 (And.intro e5 (And.intro e3 e4)))
             clear hZ1 hZ2 hZ3 hZ4 e1 e2 e3 e4 e5 e6 e7 e8 e9 e10 e11 tk ta tf
             go_wp2_with fail
             go_fit (uh HCALL)
             rintro e5 W5 ⟨⟨g',f',rfl,hg',hTR',hfr⟩,B5⟩
             have hqV:=(uh HLD).lt
             have hVs:=(uh HBG).size
             have HLD:=qh ((uh HLD).keep B5)
             have HO:=qh ((uh HO).later (IE.notNumStays _) B5)
             have HBG:=qh (bk B5 (uh HBG))
             have hz:=hTR'.rows k _ (uh HE9).1
             have hpl:=(uh HE9).2.2.1 _ (List.mem_of_getElem? (uh HE9).2.2.2)
             have t0:=hTR'.tab.cell hka
             obtain ⟨ra,rc,hfe⟩:=hz.1.shape
             rw [hpl] at hfe
             rw [hfe] at hz t0
             obtain ⟨rb,ro,x1,x2,x3,x4,rfl,hne,c0,c1,hX⟩:=hz.at (uh HE9).2.1
             have hbx:=(uh HLD).box
             obtain ⟨⟨y0,b0⟩,⟨y1,y2,y3,b1⟩,bf⟩:=hbx.cells
             have hbe:=box_bes hbx x1 x2 x3 x4
             have HTR:=qh (hTR'.bes hbe (by omega) (fun t c b hc hn hb=>by have:=hfr t c b hc hn hb;omega))
             have HLD:=qh ((uh HLD).store hX)
             have HO:=qh ((uh HO).boxset hbx (.int .i64 x1) (.slice x2 x3 x4))
             have HGG:Hid (w.heap.size≤g'∧g'≠qb):=qh (by omega)
             have hwq:w.heap.size≤qb:=uh HWQ
             have HBG:=qh (below_put2 (o:=0) (uh HBG) hwq (.int .i64 x1) (.slice x2 x3 x4))
             have hOl:(redZ Z j).2.2.length≤100000000:=by rw [← uh HK];omega
             have hbs:w.heap.size≤((W5.setCell ⟨qb,0,none⟩ (.int .i64 x1)).setCell ⟨qb,1,none⟩ (.slice x2 x3 x4)).heap.size:=(uh HBG).size
             clear hz hpl hne hX B5 hTR' hfr hbe hbx hg' hqV hVs HCALL
             obtain ⟨W6,hW6⟩:∃ X,X=(W5.setCell ⟨qb,0,none⟩ (.int .i64 x1)).setCell ⟨qb,1,none⟩ (.slice x2 x3 x4):=⟨_,rfl⟩
             rw [← hW6] at HTR HLD HO HBG hbs
             go_upto_region 21 with fail
             rw [← hW6]
             clear hW6 t0 c0 c1 b0 b1 bf l0 l1c hfe
             go_wp2_with (at_builtin;refine zqm (y:=j) rfl _ _ _ rfl Tryz.underlying22 info_int2 rfl (by decide) (by decide) zk_num (IE.notNumStays _) w.heap.size _ rfl (uh HO) [.int .i64 (j:Int)] rfl (one_num _) (kd_num _) rfl rfl rfl hOl hbs ?_;intro av' Z1 hO1 hc1 hgr1 hge1)
             obtain ⟨hgk,hj,_⟩:=uh HG
             have kn:=zqa W6 (.cells #[.int .i64 (j:Int)] 3)
             go_roundg (m - (j+1))
             case measure=>omega
             case rel=>exact ⟨j+1,g',f',x1,x2,x3,x4,by omega,rfl,rfl,by go_num,HGG,qh (by rw [uh HE1];exact ((uh HTR).later kn).num hc1),qh (by rw [uh HE1];exact ((uh HLD).keep kn).num hc1),qh (by rw [uh HE1];exact hO1),qh ((bk kn (uh HBG)).grown hgr1 (bk kn (uh HBG)).size hge1)⟩
       · obtain rfl:j=m:=by omega
         clear hjm hj hgk
         obtain ⟨hZ1,hZ2,hZ3,hZ4⟩:=uh HZW
         have HQ0:=qh (uh HI).bar.q0
         have HRL:=qh (uh HRW)
         have hg7:=uh HGG
         obtain ⟨R,hR⟩:∃ R,R=(redZ Z j).1:=⟨_,rfl⟩
         obtain ⟨q,hq⟩:∃ q,q=(redZ Z j).2.1:=⟨_,rfl⟩
         have HRQ:=qh (And.intro hR hq)
         rw [← hR] at HTR HRL
         rw [← hq] at HLD HQ0
         have HX:=qh (ovr_is (R:=R) (uh HQ0))
         clear hZ1 hZ2 hZ3 hZ4 hR hq HI
         go_wp2_with fail
         go_fit (table_any (N:=20000) (n:=i) (m:=j) _ hl hm6)
         rintro e6 W8 ⟨⟨g1,g2,AA,rfl,hg1,hg2,hg12,hAA,hF,hT⟩,B8⟩
         obtain ⟨W7,rfl⟩:∃ X,X=wr:=⟨_,rfl⟩
         have HO8:=qh (Outs.start (X:=(ovr R q).flatten) hF hT)
         have HB8:=qh B8
         have HAA:=qh hAA
         have hs7:W7.heap.size≤W8.heap.size:=B8.size
         clear hF hT hAA B8
         go_wp2_with fail
         go_loopg [99] i (fun gk iv wr=>∃ (k2:Nat),k2≤i∧gk=i - k2∧iv=.int .i64 (k2:Int)∧Hid (Below W7.heap.size W7 wr)∧Hid (Outs (ovr R q).flatten g1 g2 i j k2 0 AA wr))
         case atStart=>exact ⟨0,by omega,by omega,rfl,HB8,HO8⟩
         case round =>
           clear HO8 HB8
           obtain ⟨k2,hk2,hgk,rfl,HB8,HO8⟩:=hrel
           by_cases hkl:k2<i
           · obtain ⟨r,hr⟩:∃ r,R[k2]? = some r:=⟨R[k2]'(by have:=(uh HRL).1;omega),by simp⟩
             have hrl:=(uh HRL).2 r (List.mem_of_getElem? hr)
             have hz:=(uh HTR).rows k2 r hr
             obtain ⟨ra,rc,hfe⟩:=hz.1.shape
             rw [hrl] at hfe
             have t0:=ck (uh HB8) ((uh HTR).tab.cell hkl)
             rw [hfe] at hz t0
             have HZR:=qh hz
             have HFE:=qh hfe
             have HRR:=qh (And.intro hr hrl)
             have hkl':(k2:Int)<(i:Int):=by omega
             have hk21:(k2:Int)+1≤100:=by omega
             have HG:=qh (And.intro hgk (And.intro hk2 hkl))
             clear hr hrl hz hfe hgk hk2 hkl
             go_wp2_with fail
             go_loopg [106] j (fun gj cv w2=>∃ (c:Nat),c≤j∧gj=j - c∧cv=.int .i64 (c:Int)∧Hid (Below W7.heap.size W7 w2)∧Hid (Outs (ovr R q).flatten g1 g2 i j k2 c AA w2))
             case atStart=>exact ⟨0,by omega,by omega,rfl,HB8,HO8⟩
             case round =>
               clear HB8 HO8 t0
               obtain ⟨c,hc,hgj,rfl,HB8,HO8⟩:=hrel
               by_cases hcl:c<j
               · obtain ⟨z,hzc⟩:∃ z,r[c]? = some z:=⟨r[c]'(by have:=(uh HRR).2;omega),by simp⟩
                 obtain ⟨rb,ro,z1,z2,z3,z4,rfl,_,c0,c1,hZz⟩:=(uh HZR).at hzc
                 have d0:=ck (uh HB8) c0
                 have d1:=ck (uh HB8) c1
                 have hcl':(c:Int)<(j:Int):=by omega
                 have hc1:(c:Int)+1≤100:=by omega
                 have HGC:=qh (And.intro hgj (And.intro hc hcl))
                 have HZC:=qh hzc
                 have kn:=zqa wr (.cells #[.int .i64 z1,.slice z2 z3 z4] 31)
                 have HVZ:=qh (Vr.new (hZz.later (uh HB8)))
                 have HLV:=qh (((uh HLD).keep (uh HB8)).keep kn)
                 have HEV:=qh ((uh HA).later (bk (bk kn (uh HB8)) (uh HBG)))
                 have HKN:=qh kn
                 clear hzc c0 c1 hZz hgj hc kn
                 have v0:=(uh HVZ).c0
                 have v1:=(uh HVZ).c1
                 have l0:=(uh HLV).c0
                 have l1c:=(uh HLV).c1
                 go_wp2_with fail
                 go_fit (rof_ratio (N:=3287) _ (uh HVZ).zr (uh HLV).zr (by decide) (uh HEV).t64)
                 rintro e9 W9 ⟨hOf,B9⟩
                 rcases hOf with ⟨h0,_⟩ | ⟨_,vr,P,D,rfl,hRr,hE⟩
                 · exact absurd h0 (uh HQ0)
                 have hoq:oq z q=(P,D):=oq_is (uh HQ0) hE hRr.posD hRr.lowD
                 have hRr:=hRr.mono (M:=20000) (by decide)
                 obtain ⟨t1,t2,t3,t4,t5,t6,t7,t8,rfl⟩:=hRr.shape
                 have k9:=zqa W9 (.cells #[.int .i64 t1,.slice t2 t3 t4,.int .i64 t5,.slice t6 t7 t8] 52)
                 have kk:=bk k9 (bk B9 (uh HKN))
                 have hsz9:wr.heap.size≤W9.heap.size:=(bk B9 (uh HKN)).size
                 have HRB:=qh (RB.new hRr)
                 have HO9:=qh ((uh HO8).later kk)
                 have HB9:=qh (bk kk (uh HB8))
                 have hlt1:=(uh HO8).room.lt
                 have hlt2:=(uh HO8).tab.lt
                 obtain ⟨q3,hq3⟩:∃ q,q=W9.heap.size:=⟨_,rfl⟩
                 rw [← hq3] at HRB
                 have HQ3:Hid (q3≠g1∧q3≠g2):=qh (by omega)
                 have HOQ:=qh hoq
                 clear hoq hE hRr k9 kk hsz9 hlt1 hlt2 B9 v0 v1 l0 l1c d0 d1 HVZ HLV HEV HKN
                 go_upto_region 31 with fail
                 obtain ⟨V,hV⟩:∃ X,X=W9.alloc (.cells #[.int .i64 t1,.slice t2 t3 t4,.int .i64 t5,.slice t6 t7 t8] 52):=⟨_,rfl⟩
                 rw [← hV,← hq3]
                 rw [← hV] at HRB HO9 HB9
                 clear hV hq3
                 have hcl3:=(uh HGC).2.2
                 have hkl3:=(uh HG).2.2
                 have hAk:=uh HAA k2 hkl3 (by omega)
                 have HAK:=qh hAk
                 have hXx:(ovr R q).flatten[k2*j+c]? = some (P,D):=by rw [← uh HOQ];exact ovr_at (uh HRL).2 (uh HRR).1 (uh HZC)
                 have HXX:=qh hXx
                 have HS0:OS W7 (ovr R q).flatten g1 g2 i j k2 c AA q3 t1 t2 t3 t4 t5 t6 t7 t8 (P,D) c V.drew:=⟨(uh HB9).drew,(uh HO9).room.later (RE.stays _ _ nww) (Below.refl _ _).drew,(uh HO9).tab.later (Below.refl _ _).drew,(uh HRB).drew⟩
                 clear hAk hXx hcl3 hkl3
                 refine zki (by kernel_rfl) (by kernel_rfl) (by kernel_rfl) (OW (OS W7 (ovr R q).flatten g1 g2 i j k2 c AA q3 t1 t2 t3 t4 t5 t6 t7 t8 (P,D)) g2 k2 (.slice (AA k2) (c+1) j) c) (OF g1 g2 i k2 j c AA t1 t2 t3 t4 t5 t6 t7 t8 (P,D)) (Or.inl ⟨rfl,rfl,HS0⟩) ?_ ?_
                 · clear HS0
                   intro L' vals w1 i' o' hW hF hL ho hdep
                   have hi':i'<11:=(Array.getElem?_eq_some_iff.1 ho).1
                   have hcl3:=(uh HGC).2.2
                   have hkl3:=(uh HG).2.2
                   rcases (by omega:i'=0∨i'=1∨i'=2∨i'=3∨i'=4∨i'=5∨i'=6∨i'=7∨i'=8∨i'=9∨i'=10) with rfl | rfl | rfl | rfl | rfl | rfl | rfl | rfl | rfl | rfl | rfl
                   · obtain rfl:=Option.some.inj ho
                     obtain ⟨jr,hS,hW2⟩:=hW.open hL (by decide) (by decide) (by decide)
                     refine wpOp_step rfl (fun K hK' => ?_)
                     simp only [frs]
                     go_simp
                     exact hK' _ _ ⟨.slice (some ⟨g2,0,none⟩) i i,(by show _=Act.put _ (some 116) _;simp only [frs]),rfl,hW2 _ hS,hF⟩
                   · obtain rfl:=Option.some.inj ho
                     obtain ⟨jr,hS,hW2⟩:=hW.open hL (by decide) (by decide) (by decide)
                     refine wpOp_step rfl (fun K hK' => ?_)
                     simp only [frs]
                     go_simp
                     exact hK' _ _ ⟨.int .i64 (k2:Int),(by show _=Act.put _ (some 117) _;simp only [frs]),rfl,hW2 _ hS,hF⟩
                   · obtain rfl:=Option.some.inj ho
                     obtain ⟨jr,hS,hW2⟩:=hW.open hL (by decide) (by decide) (by decide)
                     refine wpOp_step rfl (fun K hK' => ?_)
                     simp only [frs]
                     go_simp
                     exact hK' _ _ ⟨.slice (some ⟨g2,0,none⟩) i i,(by show _=Act.put _ (some 118) _;simp only [frs]),rfl,hW2 _ hS,hF⟩
                   · obtain rfl:=Option.some.inj ho
                     obtain ⟨jr,hS,hW2⟩:=hW.open hL (by decide) (by decide) (by decide)
                     refine wpOp_step rfl (fun K hK' => ?_)
                     simp only [frs]
                     go_simp
                     exact hK' _ _ ⟨.int .i64 (k2:Int),(by show _=Act.put _ (some 119) _;simp only [frs]),rfl,hW2 _ hS,hF⟩
                   · obtain rfl:=Option.some.inj ho
                     have f2:=hF 2 (hdep ⟨2,.data⟩ (by simp) rfl)
                     have f3:=hF 3 (hdep ⟨3,.data⟩ (by simp) rfl)
                     obtain ⟨jr,hS,hW2⟩:=hW.open hL (by decide) (by decide) (by decide)
                     refine wpOp_step rfl (fun K hK' => ?_)
                     simp only [frs]
                     rw [show vals 2=_ from f2]
                     rw [show vals 3=_ from f3]
                     go_simp
                     exact hK' _ _ ⟨.pointer (some ⟨g2,k2,none⟩),(by show _=Act.put _ (some 120) _;simp only [frs,show vals 2=_ from f2,show vals 3=_ from f3]),rfl,hW2 _ hS,hF⟩
                   · obtain rfl:=Option.some.inj ho
                     have f4:=hF 4 (hdep ⟨4,.data⟩ (by simp) rfl)
                     obtain ⟨jr,hS,hW2⟩:=hW.open hL (by decide) (by decide) (by decide)
                     have t0:=hS.tab.cell hkl3
                     rw [if_neg (by omega),if_pos rfl] at t0
                     refine wpOp_step rfl (fun K hK' => ?_)
                     simp only [frs]
                     rw [show vals 4=_ from f4]
                     go_simp
                     exact hK' _ _ ⟨.slice (AA k2) c j,(by show _=Act.put _ (some 121) _;simp only [frs,show vals 4=_ from f4]),rfl,hW2 _ hS,hF⟩
                   · obtain rfl:=Option.some.inj ho
                     obtain ⟨jr,hS,hW2⟩:=hW.open hL (by decide) (by decide) (by decide)
                     obtain ⟨y0,y1,y2,y3⟩:=hS.rb.c
                     refine wpOp_step rfl (fun K hK' => ?_)
                     simp only [frs]
                     go_simp
                     exact hK' _ _ ⟨.agg #[.int .i64 t1,.slice t2 t3 t4,.int .i64 t5,.slice t6 t7 t8],(by show _=Act.put _ (some 122) _;simp only [frs]),rfl,hW2 _ hS,hF⟩
                   · obtain rfl:=Option.some.inj ho
                     obtain ⟨jr,hS,hW2⟩:=hW.open hL (by decide) (by decide) (by decide)
                     have f6:=hF 6 (hdep ⟨6,.data⟩ (by simp) rfl)
                     have kn:=zqa w1 (.cells #[.int .i64 t1,.slice t2 t3 t4,.int .i64 t5,.slice t6 t7 t8] 52)
                     have q1:=hS.room.lt
                     have q2:=hS.tab.lt
                     refine wpOp_step rfl (fun K hK' => ?_)
                     simp only [frs]
                     rw [show vals 6=_ from f6]
                     go_simp
                     exact hK' _ _ ⟨.slice (some ⟨w1.heap.size,0,none⟩) 1 1,(by show _=Act.put _ (some 123) _;simp only [frs,show vals 6=_ from f6]),⟨w1.heap.size,rfl,by omega,RB.new hS.rb.r⟩,hW2 _ (hS.later kn),fun j hj=>OF.later (hF j hj) kn⟩
                   · obtain rfl:=Option.some.inj ho
                     have f5:=hF 5 (hdep ⟨5,.data⟩ (by simp) rfl)
                     obtain ⟨gq,f7,hgq,hrb⟩:=hF 7 (hdep ⟨7,.data⟩ (by simp) rfl)
                     obtain ⟨h10,hS⟩:L' 10=false∧OS W7 (ovr R q).flatten g1 g2 i j k2 c AA q3 t1 t2 t3 t4 t5 t6 t7 t8 (P,D) c w1:=by
                       rcases hW with ⟨a1,a2,a3⟩ | ⟨a1,_,_⟩ | ⟨_,a2,_⟩
                       · exact ⟨a2,a3⟩
                       · rw [a1] at hL;cases hL
                       · rw [a2 8 (by decide)] at hL;cases hL
                     obtain ⟨hr1,hr2,hr3⟩:=hS.append hrb (uh HXX) hkl3 hcl3 (uh HAK) hg12 hg1 (uh HQ3).1
                     refine wpOp_append rfl rfl (.tmp 121) (.tmp 123) 118 rfl (v1:=.slice (AA k2) c j) (v2:=.slice (some ⟨gq,0,none⟩) 1 1) (by simp only [frs];exact f5) (by simp only [frs];exact f7) hr1 ?_
                     exact ⟨.slice (AA k2) (c+1) j,(by simp only [frs]),rfl,Or.inr (Or.inl ⟨by simp,by simp [h10],hr2⟩),fun j hj=>OF.beside (hF j hj) hr3 (Or.inl rfl)⟩
                   · obtain rfl:=Option.some.inj ho
                     have f0:=hF 0 (hdep ⟨0,.data⟩ (by simp) rfl)
                     have f1:=hF 1 (hdep ⟨1,.data⟩ (by simp) rfl)
                     obtain ⟨jr,hS,hW2⟩:=hW.open hL (by decide) (by decide) (by decide)
                     refine wpOp_step rfl (fun K hK' => ?_)
                     simp only [frs]
                     rw [show vals 0=_ from f0]
                     rw [show vals 1=_ from f1]
                     go_simp
                     exact hK' _ _ ⟨.pointer (some ⟨g2,k2,none⟩),(by show _=Act.put _ (some 125) _;simp only [frs,show vals 0=_ from f0,show vals 1=_ from f1]),rfl,hW2 _ hS,hF⟩
                   · obtain rfl:=Option.some.inj ho
                     have f8:=hF 8 (hdep ⟨8,.data⟩ (by simp) rfl)
                     have f9:=hF 9 (hdep ⟨9,.data⟩ (by simp) rfl)
                     have l8:=hdep ⟨8,.data⟩ (by simp) rfl
                     have hS:OS W7 (ovr R q).flatten g1 g2 i j k2 c AA q3 t1 t2 t3 t4 t5 t6 t7 t8 (P,D) (c+1) w1:=by
                       rcases hW with ⟨a1,_,_⟩ | ⟨_,_,a3⟩ | ⟨_,a2,_⟩
                       · rw [show L' 8=true from l8] at a1;cases a1
                       · exact a3
                       · rw [a2 10 (by decide)] at hL;cases hL
                     have t0:=hS.tab.cell hkl3
                     have tf:=hS.tab.free
                     have hbe:=hS.tab.besideR (fun i _=>⟨_,_,_,rfl⟩) k2 (.slice (AA k2) (c+1) j)
                     refine wpOp_step rfl (fun K hK' => ?_)
                     simp only [frs]
                     rw [show vals 8=_ from f8]
                     rw [show vals 9=_ from f9]
                     go_simp
                     refine hK' _ _ ⟨undef,(by show _=Act.put _ (none) _;simp only [frs,show vals 8=_ from f8,show vals 9=_ from f9]),trivial,Or.inr (Or.inr ⟨rfl,?_,w1,hS,rfl⟩),fun j hj=>OF.beside (hF j hj) hbe (Or.inr rfl)⟩
                     · intro t ht
                       rcases (by omega:t=0∨t=1∨t=2∨t=3∨t=4∨t=5∨t=6∨t=7∨t=8∨t=9∨t=10) with rfl | rfl | rfl | rfl | rfl | rfl | rfl | rfl | rfl | rfl | rfl
                       · exact hdep ⟨0,.phase⟩ (by simp) rfl
                       · exact hdep ⟨1,.phase⟩ (by simp) rfl
                       · exact hdep ⟨2,.phase⟩ (by simp) rfl
                       · exact hdep ⟨3,.phase⟩ (by simp) rfl
                       · exact hdep ⟨4,.phase⟩ (by simp) rfl
                       · exact hdep ⟨5,.phase⟩ (by simp) rfl
                       · exact hdep ⟨6,.phase⟩ (by simp) rfl
                       · exact hdep ⟨7,.phase⟩ (by simp) rfl
                       · exact hdep ⟨8,.data⟩ (by simp) rfl
                       · exact hdep ⟨9,.data⟩ (by simp) rfl
                       · rfl
                 · intro L' vals w1 hW hF
                   rcases hW with ⟨_,h10,_⟩ | ⟨_,h10,_⟩ | ⟨_,_,w0,hS1,rfl⟩
                   · have:=(hF 10 (by decide)).1;rw [h10] at this;cases this
                   · have:=(hF 10 (by decide)).1;rw [h10] at this;cases this
                   have HON:=qh (hS1.done (uh HG).2.2 hg12)
                   have HBN:=qh (hS1.below.setCell (p:=⟨g2,k2,none⟩) hg2 (.slice (AA k2) (c+1) j))
                   clear hS1 hF HS0
                   simp only [frs]
                   obtain ⟨hgj,hc,hcl⟩:=uh HGC
                   go_wp2
                   go_roundg (j - (c+1))
                   case measure=>omega
                   case rel=>exact ⟨c+1,by omega,rfl,by go_num,HBN,HON⟩
               · obtain rfl:c=j:=by omega
                 clear hcl hc hgj
                 obtain ⟨hgk,hk2,hkl⟩:=uh HG
                 go_wp2
                 go_roundg (i - (k2+1))
                 case measure=>omega
                 case rel=>exact ⟨k2+1,by omega,rfl,by go_num,HB8,qh (uh HO8).next⟩
           · obtain rfl:k2=i:=by omega
             clear hkl hk2 hgk
             go_wp2
             obtain ⟨hZ1,hZ2,hZ3,hZ4⟩:=uh HZW
             obtain ⟨hR,hq⟩:=uh HRQ
             have hM:=(uh HO8).rows (by rw [ovr_len];exact (uh HRL).1) (ovr_wide (uh HRL).2) hl hm6 (uh HAA)
             have hU:=(((uh HO).later (IE.notNumStays _) (uh HB8)).rows)
             refine bodyPost_ret (v:=.tuple #[.slice (some ⟨g2,0,none⟩) k2 k2,.slice oa k oc,.nilIface]) (by simp [results,Tryz.results73,go_sem]) rfl ⟨Or.inr ⟨uh HT,_,_,Z,ovr R q,rfl,by rw [hZ1,uh HN],?_,hZ3,hZ4,?_,hM,?_⟩,bk (uh HB8) (uh HBG)⟩
             · rw [← uh HMW];exact hZ2
             · rw [← uh HMW,← hR,← hq];exact uh HX
             · rw [← uh HMW];exact hU
end Go.Proofs.YtkifiolkfdicoaaGreatDoor
