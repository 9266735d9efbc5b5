import Derived.Test.YtkifiolkfdicoaaGreatDoorMNJ
namespace Go.Proofs.YtkifiolkfdicoaaGreatDoor
open Go.RowKit
def CellsOf (T:Nat) (w:World):List Int→List Value→Prop
 | [],vs=>vs=[]
 | z :: zs,vs=>∃ x1 x2 x3 x4 us,vs=.int .i64 x1 :: .slice x2 x3 x4 :: us∧Zr T w (.agg #[.int .i64 x1,.slice x2 x3 x4]) z∧CellsOf T w zs us
theorem CellsOf.len {T:Nat}{w:World}:∀ {zs:List Int}{vs:List Value},CellsOf T w zs vs→vs.length=zs.length*2
 | [],vs,h=>by rw [show vs=[] from h];rfl
 | z :: zs,vs,h=>by
   obtain ⟨x1,x2,x3,x4,us,rfl,_,h2⟩:=h
   simp [h2.len]
   omega
theorem CellsOf.one {T:Nat}{w:World}:∀ {zs:List Int}{vs:List Value},CellsOf T w zs vs→∀ u ∈ vs,u.oneCell'=true
 | [],vs,h,u,hu=>by rw [show vs=[] from h] at hu;cases hu
 | z :: zs,vs,h,u,hu=>by
   obtain ⟨x1,x2,x3,x4,us,rfl,_,h2⟩:=h
   simp at hu
   rcases hu with rfl | rfl | hu
   · rfl
   · rfl
   · exact h2.one u hu
theorem CellsOf.bes {T g:Nat}{w w':World} (hb:Bes g w w'):∀ {zs:List Int}{vs:List Value},CellsOf T w zs vs→CellsOf T w' zs vs
 | [],_,h=>h
 | z :: zs,vs,h=>by
   obtain ⟨x1,x2,x3,x4,us,rfl,hz,h2⟩:=h
   exact ⟨x1,x2,x3,x4,us,rfl,hz.bes hb,h2.bes hb⟩
theorem rows_cells {T b:Nat}{w:World}:∀ (zs:List Int) (o:Nat),(∀ i x,zs[i]? = some x→∃ cs,cs.length=2∧(∀ j u,cs[j]? = some u→w.cell? ⟨b,o+(i*2+j),none⟩=some u)∧ZE T w cs x)→∃ vs,CellsOf T w zs vs∧∀ j u,vs[j]? = some u→w.cell? ⟨b,o+j,none⟩=some u
 | [],o,_=>⟨[],rfl,fun j u hu=>by simp at hu⟩
 | z :: zs,o,h=>by
   obtain ⟨cs,_,hcs,x1,x2,x3,x4,rfl,hz⟩:=h 0 z rfl
   obtain ⟨us,h1,h2⟩:=rows_cells zs (o+2) (fun i x hx=>by
     obtain ⟨cs,hl,hc,he⟩:=h (i+1) x (by simpa using hx)
     exact ⟨cs,hl,fun j u hu=>by rw [show o+2+(i*2+j)=o+((i+1)*2+j) by omega];exact hc j u hu,he⟩)
   refine ⟨.int .i64 x1 :: .slice x2 x3 x4 :: us,⟨x1,x2,x3,x4,us,rfl,hz,h1⟩,fun j u hu => ?_⟩
   match j,hu with
   | 0,hu=>simpa using hcs 0 u (by simpa using hu)
   | 1,hu=>simpa using hcs 1 u (by simpa using hu)
   | j+2,hu =>
     rw [show o+(j+2)=o+2+j by omega]
     exact h2 j u (by simpa using hu)
theorem fill_copy {T g n:Nat}:∀ (zs:List Int) (vs:List Value) (X:List Int) (w:World),CellsOf T w zs vs→Fill NoWord 2 (ZE T) 31 w g n X→X.length+zs.length≤n→Fill NoWord 2 (ZE T) 31 (w.setCells g (X.length*2) vs) g n (X++zs)∧Bes g w (w.setCells g (X.length*2) vs)
 | [],vs,X,w,h,hF,_=>by
   rw [show vs=[] from h]
   exact ⟨by simpa [World.setCells] using hF,Bes.refl _ _⟩
 | z :: zs,vs,X,w,h,hF,hn=>by
   obtain ⟨x1,x2,x3,x4,us,rfl,hz,h2⟩:=h
   simp at hn
   obtain ⟨f2,c2⟩:=hF.put2 (u0:=.int .i64 x1) (u1:=.slice x2 x3 x4) (x:=z) (ZE.stays _ _ nww) (by omega) (kd_z _ _ _ _) ⟨_,_,_,_,rfl,hz⟩
   have hb:=bes_put2 c2
   obtain ⟨k1,k2⟩:=fill_copy zs us (X++[z]) _ (h2.bes hb) f2 (by simp;omega)
   rw [show (X++[z]).length*2=X.length*2+1+1 by simp;omega,List.append_assoc] at k1
   rw [show (X++[z]).length*2=X.length*2+1+1 by simp;omega] at k2
   exact ⟨k1,hb.trans k2⟩
theorem run_roomN {T g n m:Nat}{A:Option Addr}{X zs:List Int}{W:World}{v:Value} (ty:TypeId) (hroom:Fill NoWord 2 (ZE T) 31 W g n X) (hA:0<m→A=some ⟨g,X.length*2,none⟩) (hz:Rows 2 (ZE T) W v zs) (hm:zs.length=m) (hn:X.length+m≤n) :
   ∃ W',(Builtin.append_ #[183,183] ty #[.slice A 0 m,v]).run Tryz.prog W=.ok (.slice A m m) W'∧Fill NoWord 2 (ZE T) 31 W' g n (X++zs)∧Bes g W W':=by
 obtain ⟨i0,hi0,hz0,hz1,hz2⟩:=info_parts info_z
 obtain ⟨a,c,rfl,h2,h3,h4⟩:=hz
 rcases Nat.eq_zero_or_pos m with rfl | hm0
 · have hzs:zs=[]:=List.eq_nil_of_length_eq_zero hm
   subst hzs
   have hf:(Builtin.firstCells 2 0 (.slice a 0 c)).run Tryz.prog W=.ok #[] W:=by
     cases a with
     | none=>exact run_firstCells_none (P:=Tryz.prog) W 2 0 0 c
     | some b=>exact run_firstCells_some (P:=Tryz.prog) W 2 0 b 0 c [] rfl (fun j u hu=>by simp at hu)
   refine ⟨W,?_,by simpa using hroom,Bes.refl _ _⟩
   cases A with
   | none=>simp [Builtin.append_,run_underlying Tryz.underlying183,sizeOf,typeInfo,hi0,hz1,Builtin.lenOf,hf]
   | some A=>simp [Builtin.append_,run_underlying Tryz.underlying183,sizeOf,typeInfo,hi0,hz1,Builtin.lenOf,hf,storeCells]
 · rcases h4 with rfl | ⟨b,o,rfl,h5⟩
   · simp at hm;omega
   obtain ⟨vs,hc,hcell⟩:=rows_cells zs o h5
   have hl:=hc.len
   obtain ⟨f1,b1⟩:=fill_copy zs vs X W hc hroom (by omega)
   have hrun:=run_append_room_cells (P:=Tryz.prog) W 183 ty 31 i0 Tryz.underlying183 hi0 g (X.length*2) 0 m ⟨b,o,none⟩ zs.length c vs (by rw [hz1];omega) (fun j u hu => ?_) hc.one (by omega) (fun j hj => ?_) (fun j hj=>hroom.free _)
   · refine ⟨_,?_,f1,b1⟩
     rw [hA hm0,hrun]
     simp [hm]
   · rw [show (⟨b,o,none⟩:Addr).add j=⟨b,o+j,none⟩ by unfold Addr.add;split <;> simp_all]
     exact hcell j u hu
   · obtain ⟨u,hu⟩:=hroom.cell (o:=X.length*2+j) (by omega)
     rw [Nat.zero_mul,Nat.add_zero,hu];rfl
theorem wpList_roomN {ops:Array Oper}{rest:List Oper}{o:Oper}{B:Act}{w:World}{Q:Exit→Act→World→Prop} (hgd:o.guard=none) (s x:Operand)
   (ho:o.op=.call { callee:=.builtin .append,args:=#[s,x],argTypes:=#[183,183] }) {T g n m:Nat}{A:Option Addr}{X zs:List Int}{v:Value} (hs:B.eval s=.slice A 0 m) (hx:B.eval x=v)
   (hroom:Fill NoWord 2 (ZE T) 31 w g n X) (hA:0<m→A=some ⟨g,X.length*2,none⟩) (hz:Rows 2 (ZE T) w v zs) (hm:zs.length=m) (hn:X.length+m≤n)
   (h:∀ w',Fill NoWord 2 (ZE T) 31 w' g n (X++zs)→Bes g w w'→wpList Tryz.prog ops Q rest (B.put o.dst (.slice A m m)) w'):wpList Tryz.prog ops Q (o :: rest) B w:=by
 obtain ⟨w',h1,h2,h3⟩:=run_roomN o.type hroom hA hz hm hn
 refine wpList_plain hgd fun _ hK => ?_
 unfold Oper.wp execOp
 simp only [ho,resolve,invoke,builtin,Sem.run_bind,Sem.run_pure,Result.andThen_ok,List.map_toArray,List.map_cons,List.map_nil,hs,hx,h1]
 exact hK _ _ (h _ h2 h3)
structure TabR (T:Nat) (w:World) (g n:Nat) (f:Nat→Value) (C:List (List Int)):Prop where
 tab:Tab 183 w g n f
 len:C.length=n
 rows:∀ i c,C[i]? = some c→Zo T g w (f i) c
theorem TabR.later {T:Nat}{w w':World}{g n:Nat}{f:Nat→Value}{C:List (List Int)} (h:TabR T w g n f C) (hb:Below w.heap.size w w'):TabR T w' g n f C:=⟨h.tab.later hb,h.len,fun i c hc=>(h.rows i c hc).later hb⟩
theorem TabR.all {T:Nat}{w:World}{g n:Nat}{f:Nat→Value}{C:List (List Int)} (h:TabR T w g n f C) (hn:n≤6):Rows 1 (LE 2 (ZE T)) w (.slice (some ⟨g,0,none⟩) n n) C:=by
 refine ⟨_,n,by rw [h.len],by have:=h.len;omega,by unfold maxLen;omega,Or.inr ⟨g,0,rfl,fun i r hr=>⟨[f i],rfl,fun j u hu => ?_,⟨_,rfl,(h.rows i r hr).1⟩⟩⟩⟩
 have hi:i<n:=by rw [← h.len];exact (List.getElem?_eq_some_iff.1 hr).1
 have hj:j=0:=by have:=(List.getElem?_eq_some_iff.1 hu).1;simpa using this
 subst hj
 obtain rfl:_=u:=by simpa using hu
 rw [show 0+(i*1+0)=i by omega]
 exact h.tab.cell hi
structure OutZ (T:Nat) (C:List (List Int)) (g1 g2 n m i:Nat) (AA:Nat→Option Addr) (w:World):Prop where
 room:Fill NoWord 2 (ZE T) 31 w g1 (n*m) (C.take i).flatten
 tab:Tab 183 w g2 n (fun k=>.slice (AA k) (if k<i then m else 0) m)
theorem flat_len {α:Type}{m:Nat}:∀ (C:List (List α)),(∀ r ∈ C,r.length=m)→C.flatten.length=C.length*m
 | [],_=>by simp
 | r :: C,h=>by
   rw [List.flatten_cons,List.length_append,flat_len C (fun r hr=>h r (by simp [hr])),h r (by simp),List.length_cons,Nat.add_mul]
   omega
theorem flat_at' {α:Type}{m:Nat}:∀ (T:List (List α)) (k j:Nat) (r:List α) (x:α),(∀ r ∈ T,r.length=m)→T[k]? = some r→r[j]? = some x→T.flatten[k*m+j]? = some x
 | [],_,_,_,_,_,h,_=>by simp at h
 | t :: T,0,j,r,x,hm,h,hx=>by
   obtain rfl:t=r:=by simpa using h
   rw [List.flatten_cons,Nat.zero_mul,Nat.zero_add,List.getElem?_append_left (List.getElem?_eq_some_iff.1 hx).1]
   exact hx
 | t :: T,k+1,j,r,x,hm,h,hx=>by
   have hl:=hm t (by simp)
   have ih:=flat_at' T k j r x (fun r hr=>hm r (by simp [hr])) (by simpa using h) hx
   rw [List.flatten_cons,List.getElem?_append_right (by rw [hl,Nat.add_mul];omega),hl,show (k+1)*m+j - m=k*m+j by rw [Nat.add_mul];omega]
   exact ih
theorem Tab.eq {t:TypeId}{w:World}{g n:Nat}{f f':Nat→Value} (h:Tab t w g n f) (hf:∀ k,k<n→f k=f' k):Tab t w g n f':=by
 obtain ⟨cur,h1,h2,h3⟩:=h
 exact ⟨cur,h1,h2,fun i hi=>by rw [h3 i hi,hf i hi]⟩
theorem OutZ.start {T:Nat}{C:List (List Int)}{g1 g2 n m:Nat}{AA:Nat→Option Addr}{w:World} (h1:Fill NoWord 2 (ZE T) 31 w g1 (n*m) []) (h2:Tab 183 w g2 n (fun i=>.slice (AA i) 0 m)):OutZ T C g1 g2 n m 0 AA w :=
 ⟨by simpa using h1,h2.eq fun k hk=>by simp⟩
theorem OutZ.next {T:Nat}{C:List (List Int)}{g1 g2 n m i:Nat}{AA:Nat→Option Addr}{w w1:World}{c:List Int} (h:OutZ T C g1 g2 n m i AA w) (hc:C[i]? = some c) (hi:i<n) (hF:Fill NoWord 2 (ZE T) 31 w1 g1 (n*m) ((C.take i).flatten++c)) (hb:Bes g1 w w1) (hne:g1≠g2):OutZ T C g1 g2 n m (i+1) AA (w1.setCell ⟨g2,i,none⟩ (.slice (AA i) m m)):=by
 have hT:=h.tab.bes hb (Ne.symm hne)
 refine ⟨?_,(hT.set hi _).eq fun k hk => ?_⟩
 · rw [tkn hc,List.flatten_append]
   simp only [List.flatten_cons,List.flatten_nil,List.append_nil]
   obtain ⟨cur,h1,h2,h3,h4,h5⟩:=hF
   refine ⟨cur,by rw [Below.heap_setCell _ _ _ _ hne];exact h1,h2,h3,h4,fun j x hx => ?_⟩
   obtain ⟨cs,hl,hcs,y1,y2,y3,y4,e,hz⟩:=h5 j x hx
   refine ⟨cs,hl,hcs,y1,y2,y3,y4,e,?_⟩
   obtain ⟨cu,t1,t2,t3⟩:=hT
   exact hz.chg (zxj (K:=NoWord) t1 (fun u hu=>by
     obtain ⟨k,hk⟩:=List.getElem?_of_mem hu
     rw [Array.getElem?_toList] at hk
     have:=t3 k (by have:=(Array.getElem?_eq_some_iff.1 hk).1;omega)
     rw [hk] at this
     obtain rfl:=Option.some.inj this
     intro x;simp) _) nww
 · by_cases e:k=i
   · subst e;rw [if_pos rfl,if_pos (by omega)]
   · rw [if_neg e]
     by_cases e2:k<i
     · rw [if_pos e2,if_pos (by omega)]
     · rw [if_neg e2,if_neg (by omega)]
theorem OutZ.done {T:Nat}{C:List (List Int)}{g1 g2 n m:Nat}{AA:Nat→Option Addr}{w:World} (h:OutZ T C g1 g2 n m n AA w) (hC:C.length=n) (hm:∀ r ∈ C,r.length=m) (hm6:m≤6) (hne:g1≠g2) (hA:∀ i,i<n→0<m→AA i=some ⟨g1,i*m*2,none⟩):TabR T w g2 n (fun k=>.slice (AA k) m m) C:=by
 refine ⟨h.tab.eq fun k hk=>by rw [if_pos hk],hC,fun i c hc => ?_⟩
 have hi:i<n:=by rw [← hC];exact (List.getElem?_eq_some_iff.1 hc).1
 have hcl:=hm c (List.mem_of_getElem? hc)
 rcases Nat.eq_zero_or_pos m with h0 | h0
 · have hc0:c=[]:=List.eq_nil_of_length_eq_zero (by omega)
   exact ⟨⟨_,m,by rw [hcl],by omega,by unfold maxLen;omega,Or.inl hc0⟩,fun b _ hn=>absurd hc0 hn⟩
 · have hAi:=hA i hi h0
   refine ⟨⟨_,m,by rw [hcl],by omega,by unfold maxLen;omega,Or.inr ⟨g1,i*m*2,hAi,fun j x hx => ?_⟩⟩,fun b hb _ => ?_⟩
   · have hj:j<m:=by rw [← hcl];exact (List.getElem?_eq_some_iff.1 hx).1
     have hX:=flat_at' C i j c x hm hc hx
     obtain ⟨cur,h1,h2,h3,h4,h5⟩:=h.room
     rw [show n=C.length from hC.symm,List.take_length] at h5
     obtain ⟨cs,hl,hcs,he⟩:=h5 (i*m+j) x hX
     exact ⟨cs,hl,fun o u hu=>by rw [show i*m*2+(j*2+o)=(i*m+j)*2+o by omega];exact zqn h1 (hcs o u hu),he⟩
   · simp only [hAi,Value.ownBlock,Option.some.injEq] at hb
     omega
def ClW (V:World) (T g1 g2 n m i:Nat) (A:Option Addr) (X Y:List Int) (L:Nat→Bool) (w1:World):Prop :=
 (L 25=false∧Bes g1 V w1∧((L 23=false∧Fill NoWord 2 (ZE T) 31 w1 g1 (n*m) X)∨(L 23=true∧Fill NoWord 2 (ZE T) 31 w1 g1 (n*m) (X++Y))))∨(L 25=true∧(∀ i,i<26→L i=true)∧∃ w0,Bes g1 V w0∧Fill NoWord 2 (ZE T) 31 w0 g1 (n*m) (X++Y)∧w1=w0.setCell ⟨g2,i,none⟩ (.slice A m m))
theorem ClW.open {V:World}{T g1 g2 n m i k:Nat}{A:Option Addr}{X Y:List Int}{L:Nat→Bool}{w1:World} (h:ClW V T g1 g2 n m i A X Y L w1) (hL:L k=false) (hk:k<26) (h23:k≠23) (h25:k≠25):Bes g1 V w1∧ClW V T g1 g2 n m i A X Y (fun j=>if j=k then true else L j) w1:=by
 rcases h with ⟨a1,a2,a3⟩ | ⟨_,a2,_⟩
 · refine ⟨a2,Or.inl ⟨by show (if 25=k then true else L 25)=_;rw [if_neg (Ne.symm h25)];exact a1,a2,?_⟩⟩
   rcases a3 with ⟨b1,b2⟩ | ⟨b1,b2⟩
   · exact Or.inl ⟨by show (if 23=k then true else L 23)=_;rw [if_neg (Ne.symm h23)];exact b1,b2⟩
   · exact Or.inr ⟨by show (if 23=k then true else L 23)=_;rw [if_neg (Ne.symm h23)];exact b1,b2⟩
 · rw [a2 k hk] at hL;cases hL
def ClF (g2 n i at' col mb mo rb ro pb po m:Nat) (A:Option Addr) (vm vr vp vx vy vd vo:Value):Nat→Value→World→Prop
 | 0,v,_=>v=.slice (some ⟨g2,0,none⟩) n n
 | 1,v,_=>v=.int .i64 (i:Int)
 | 2,v,_=>v=.slice (some ⟨g2,0,none⟩) n n
 | 3,v,_=>v=.int .i64 (i:Int)
 | 4,v,_=>v=.pointer (some ⟨g2,i,none⟩)
 | 5,v,_=>v=vo
 | 6,v,_=>v=vr
 | 7,v,_=>v=vm
 | 8,v,_=>v=.int .i64 (at':Int)
 | 9,v,_=>v=.pointer (some ⟨mb,mo+at',none⟩)
 | 10,v,_=>v=vp
 | 11,v,_=>v=vm
 | 12,v,_=>v=.int .i64 (at':Int)
 | 13,v,_=>v=.pointer (some ⟨mb,mo+at',none⟩)
 | 14,v,_=>v=vp
 | 15,v,_=>v=.int .i64 (col:Int)
 | 16,v,_=>v=.pointer (some ⟨pb,po+col*2,none⟩)
 | 17,v,_=>v=vx
 | 18,v,_=>v=vr
 | 19,v,_=>v=.int .i64 (col:Int)
 | 20,v,_=>v=.pointer (some ⟨rb,ro+col*2,none⟩)
 | 21,v,_=>v=vy
 | 22,v,_=>v=vd
 | 23,v,_=>v=.slice A m m
 | 24,v,_=>v=.pointer (some ⟨g2,i,none⟩)
 | _,_,_=>True
theorem ClF.any {g2 n i at' col mb mo rb ro pb po m:Nat}{A:Option Addr}{vm vr vp vx vy vd vo:Value}{j:Nat}{v:Value}{w:World} (w':World) (h:ClF g2 n i at' col mb mo rb ro pb po m A vm vr vp vx vy vd vo j v w):ClF g2 n i at' col mb mo rb ro pb po m A vm vr vp vx vy vd vo j v w':=by
 rcases j with _ | _ | _ | _ | _ | _ | _ | _ | _ | _ | _ | _ | _ | _ | _ | _ | _ | _ | _ | _ | _ | _ | _ | _ | _ | _
 all_goals exact h
theorem Vr.tabset {w:World}{b g n i:Nat}{u:Int}{a:Option Addr}{n' c N:Nat}{z:Int}{f:Nat→Value} (h:Vr w b u a n' c N z) (hT:Tab 183 w g n f) (hne:b≠g) (hsl:∀ k,k<n→NoWord (f k)) (v:Value):Vr (w.setCell ⟨g,i,none⟩ v) b u a n' c N z:=by
 have hc:Chg NoWord 183 w (w.setCell ⟨g,i,none⟩ v):=by
   obtain ⟨cu,t1,t2,t3⟩:=hT
   refine zxj t1 (fun u hu => ?_) _
   obtain ⟨k,hk⟩:=List.getElem?_of_mem hu
   rw [Array.getElem?_toList] at hk
   have hk':k<n:=by have:=(Array.getElem?_eq_some_iff.1 hk).1;omega
   have:=t3 k hk'
   rw [hk] at this
   obtain rfl:=Option.some.inj this
   exact hsl k hk'
 obtain ⟨x,a',n1,c1,hb⟩:=h.box
 exact ⟨by rw [zqb _ _ _ _ _ _ (by omega)];exact h.c0,by rw [zqb _ _ _ _ _ _ (by omega)];exact h.c1,⟨x,a',n1,c1,by rw [Below.heap_setCell _ _ _ _ hne];exact hb⟩,h.zr.chg hc nww⟩
set_option maxHeartbeats 16000000 in
set_option maxRecDepth 8000 in
theorem cleared_any {N n m at' col:Nat}{v:Value}{R C:List (List Int)}{pr:List Int}{p by':Int}{d1:Int}{d2:Option Addr}{d3 d4:Nat} (w:World) (h:Rows 1 (LE 2 (ZE (N+1))) w v R) (hn:R.length=n) (hn6:n≤6) (hw:∀ r ∈ R,r.length=m) (hm6:m≤6) (hat:R[at']? = some pr) (hp:pr[col]? = some p)
   (hby:Zr (N+1) w (.agg #[.int .i64 d1,.slice d2 d3 d4]) by') (by0:by'≠0) (hC:C.length=n) (hCw:∀ r ∈ C,r.length=m) (hCat:C[at']? = some pr)
   (hCe:∀ i r c y,i≠at'→R[i]? = some r→C[i]? = some c→r[col]? = some y→∀ (j:Nat) (q x z:Int),c[j]? = some q→r[j]? = some x→pr[j]? = some z→q*by'=x*p - z*y) (hCf:∀ c ∈ C,∀ q ∈ c,-pw (N+1)<q∧q<pw (N+1)) (hN:N≤100000) :
   Calls Tryz.prog 146 #[v,.int .i64 (at':Int),.int .i64 (col:Int),.agg #[.int .i64 d1,.slice d2 d3 d4]] w fun e w'=>(∃ g f,e=.returned (.slice (some ⟨g,0,none⟩) n n)∧w.heap.size≤g∧TabR (N+1) w' g n f C∧∀ t c b,C[t]? = some c→c≠[]→(f t).ownBlock=some b→w.heap.size≤b)∧Below w.heap.size w w':=by
 obtain ⟨sa,sc,rfl⟩:=h.shape
 have hatl:=(List.getElem?_eq_some_iff.1 hat).1
 have hcoll:=(List.getElem?_eq_some_iff.1 hp).1
 have hprl:=hw pr (List.mem_of_getElem? hat)
 obtain ⟨mb,mo,rfl,cs,_,hcs0,u,rfl,hP⟩:=h.at hat
 obtain ⟨pa,pc,rfl⟩:=hP.shape
 obtain ⟨pb,po,rfl,cs,_,hcs1,x1,x2,x3,x4,rfl,hX⟩:=hP.at hp
 have m0:w.cell? ⟨mb,mo+at',none⟩=some (.slice (some ⟨pb,po,none⟩) pr.length pc):=by simpa using hcs0 0 _ rfl
 have p0:w.cell? ⟨pb,po+col*2,none⟩=some (.int .i64 x1):=by simpa using hcs1 0 _ rfl
 have p1:w.cell? ⟨pb,po+col*2+1,none⟩=some (.slice x2 x3 x4):=hcs1 1 _ rfl
 have lm:=World.block_lt_of_cell? w _ m0
 have lp:=World.block_lt_of_cell? w _ p0
 simp only at lm lp
 have kn:=zqa w (.cells #[.int .i64 d1,.slice d2 d3 d4] 31)
 have HD:=qh (Vr.new hby)
 have HR:=qh h
 have HP:=qh hP
 have HC:=qh (And.intro hC (And.intro hCw (And.intro hCat (And.intro hCe hCf))))
 have HW:=qh hw
 have HMP:=qh (And.intro (And.intro m0 (And.intro p0 p1)) hX)
 have HAT:=qh (And.intro hat hp)
 have HKN:=qh kn
 have HPL:=qh (And.intro hprl hn)
 rw [hn] at HR hatl ⊢
 rw [hprl] at hcoll HP HMP m0
 have c0:=ck kn m0
 have hat':(at':Int)<(n:Int):=by omega
 have hcol':(col:Int)<(m:Int):=by omega
 have HLT:=qh (And.intro lm lp)
 clear h hn hw hat hp hby hC hCw hCat hCe hCf hprl hcs0 hP hcs1 hX m0 p0 p1 kn lm lp
 go_enter Tryz.func146,Tryz.ntmps146
 go_wp2_with fail
 go_fit (tablez_any (N:=N+1) (n:=n) (m:=m) _ hn6 hm6)
 rintro e W1 ⟨⟨g1,g2,AA,rfl,hg1,hg2,hg12,hAA,hF,hT⟩,B1⟩
 obtain ⟨W0,hW0⟩:∃ X,X=w.alloc (.cells #[.int .i64 d1,.slice d2 d3 d4] 31):=⟨_,rfl⟩
 obtain ⟨qd,hqd⟩:∃ X,X=w.heap.size:=⟨_,rfl⟩
 rw [← hW0] at hg1 hg2 B1 HD HKN
 rw [← hqd] at HD
 rw [← hqd]
 have hq1:qd<g1:=by have:=(uh HD).lt;omega
 have hq2:qd<g2:=by have:=(uh HD).lt;omega
 have hwq:w.heap.size≤qd:=by omega
 have HD:=qh ((uh HD).keep B1)
 have HB:=qh (bk B1 (uh HKN))
 have HO:=qh (OutZ.start (C:=C) hF hT)
 have HAA:=qh hAA
 have HQD:=qh hqd
 clear hW0 hF hT hAA hg1 hg2 B1 c0 HKN hqd
 go_wp2_with fail
 go_loopg [22] n (fun gk iv wr=>∃ (i:Nat),i≤n∧gk=n - i∧iv=.int .i64 (i:Int)∧Hid (Below w.heap.size w wr)∧Hid (Vr wr qd d1 d2 d3 d4 (N+1) by')∧Hid (OutZ (N+1) C g1 g2 n m i AA wr))
 case atStart=>exact ⟨0,by omega,by omega,rfl,HB,HD,HO⟩
 case round =>
   clear HB HD HO
   obtain ⟨i,hi,hgk,rfl,HB,HD,HO⟩:=hrel
   by_cases hin:i<n
   · obtain ⟨hlm,hlp⟩:=uh HLT
     obtain ⟨hC,hCw,hCat,hCe,hCf⟩:=uh HC
     obtain ⟨r,hr⟩:∃ r,R[i]? = some r:=⟨R[i]'(by have:=(uh HPL).2;omega),by simp⟩
     obtain ⟨c,hc⟩:∃ r,C[i]? = some r:=⟨C[i]'(by omega),by simp⟩
     have hrl:=uh HW r (List.mem_of_getElem? hr)
     obtain ⟨y,hy⟩:∃ y,r[col]? = some y:=⟨r[col]'(by omega),by simp⟩
     obtain ⟨b1,o1,hee,cs,_,hcs2,u,rfl,hU⟩:=(uh HR).at hr
     obtain ⟨rfl,rfl⟩:mb=b1∧mo=o1:=by simpa using hee
     obtain ⟨ua,uc,rfl⟩:=hU.shape
     obtain ⟨rb,ro,rfl,cs,_,hcs3,y1,y2,y3,y4,rfl,hYy⟩:=hU.at hy
     have c0:w.cell? ⟨mb,mo+i,none⟩=some (.slice (some ⟨rb,ro,none⟩) r.length uc):=by simpa using hcs2 0 _ rfl
     have c1:w.cell? ⟨rb,ro+col*2,none⟩=some (.int .i64 y1):=by simpa using hcs3 0 _ rfl
     have c2:w.cell? ⟨rb,ro+col*2+1,none⟩=some (.slice y2 y3 y4):=hcs3 1 _ rfl
     have hlr:=World.block_lt_of_cell? w _ c1
     simp only at hlr
     rw [hrl] at c0 hU
     have hBB:=uh HB
     have r0:=ck hBB c0
     have HU:=qh (hU.later (ZE.stays (K:=NoWord) _ 31 nww) hBB)
     have HYC:=qh (And.intro (ck hBB c1) (And.intro (ck hBB c2) (hYy.later hBB)))
     have HPC:=qh (And.intro (ck hBB (uh HMP).1.1) (And.intro (ck hBB (uh HMP).1.2.1) (And.intro (ck hBB (uh HMP).1.2.2) ((uh HMP).2.later hBB))))
     have HP2:=qh ((uh HP).later (ZE.stays (K:=NoWord) _ 31 nww) hBB)
     have hin':(i:Int)<(n:Int):=by omega
     have hi1:(i:Int)+1≤100:=by omega
     have HG:=qh (And.intro hgk (And.intro hi hin))
     have HRC:=qh (And.intro hr (And.intro hc (And.intro hy hrl)))
     have hXl:((C.take i).flatten).length=i*m:=by rw [flat_len (m:=m) (C.take i) (fun r hr=>hCw r (List.mem_of_mem_take hr)),List.length_take];congr 1;omega
     have hXn:((C.take i).flatten).length+m≤n*m:=by
       have:(i+1)*m≤n*m:=Nat.mul_le_mul_right _ hin
       rw [Nat.add_mul] at this
       omega
     have HXL:=qh (And.intro hXl hXn)
     have hAi:0<m→AA i=some ⟨g1,((C.take i).flatten).length*2,none⟩:=fun h0=>by rw [hXl];exact uh HAA i hin h0
     have HAi:=qh hAi
     have t0:=(uh HO).tab.cell hin
     rw [if_neg (by omega)] at t0
     have tf:=(uh HO).tab.free
     have hlr2:=hlr
     have HLR:=qh (show rb<g1∧pb<g1∧mb<g1∧mb≠g1 by omega)
     clear hC hCw hCat hCe hCf hr hc hy hcs2 hcs3 hU hYy c0 c1 c2 hBB hgk hi hin hrl hee hXl hXn hAi hlr hlr2 hlm hlp
     by_cases hia:i=at'
     · subst hia
       have hcr:c=r:=by
         have h1:=(uh HC).2.2.1
         have h2:=(uh HAT).1
         rw [(uh HRC).2.1] at h1
         rw [(uh HRC).1] at h2
         obtain rfl:=Option.some.inj h1
         exact (Option.some.inj h2).symm
       subst hcr
       have hcl:c.length=m:=(uh HRC).2.2.2
       have HCL:=qh hcl
       clear hcl
       go_wp2_with (at_builtin;refine wpList_roomN rfl _ _ rfl rfl rfl (uh HO).room (uh HAi) (uh HU) (uh HCL) (uh HXL).2 ?_;intro Z1 hF1 hb1;have t1:=((uh HO).tab.bes hb1 (Ne.symm hg12)).cell (uh HG).2.2;have tf1:=((uh HO).tab.bes hb1 (Ne.symm hg12)).free)
       obtain ⟨hgk,hi,hin⟩:=uh HG
       have hbw:w.heap.size≤g1:=by omega
       have hbw2:w.heap.size≤g2:=by omega
       go_roundg (n - (i+1))
       case measure=>omega
       case rel=>exact ⟨i+1,by omega,rfl,by go_num,qh (((uh HB).trans (hb1.below.mono hbw)).setCell (p:=⟨g2,i,none⟩) hbw2 _),qh (by
         have h1:=(uh HD).bes hb1 (by omega)
         exact h1.tabset (((uh HO).tab.bes hb1 (Ne.symm hg12))) (by omega) (fun k _ x=>by simp) _),qh ((uh HO).next (uh HRC).2.1 hin hF1 hb1 hg12)⟩
     · have hia':¬ (i:Int)=(at':Int):=by omega
       have HIA:=qh hia
       clear hia t0 tf
       go_upto_region 7 with fail
       rw [show ((i:Int) == (at':Int))=false by simpa using hia']
       clear hia'
       obtain ⟨V,rfl⟩:∃ X,X=wr:=⟨_,rfl⟩
       refine zki (by kernel_rfl) (by kernel_rfl) (by kernel_rfl) (ClW V (N+1) g1 g2 n m i (AA i) (C.take i).flatten c) (ClF g2 n i at' col mb mo rb ro pb po m (AA i) (.slice (some ⟨mb,mo,none⟩) n sc) (.slice (some ⟨rb,ro,none⟩) m uc) (.slice (some ⟨pb,po,none⟩) m pc) (.agg #[.int .i64 x1,.slice x2 x3 x4]) (.agg #[.int .i64 y1,.slice y2 y3 y4]) (.agg #[.int .i64 d1,.slice d2 d3 d4]) (.slice (AA i) 0 m)) (Or.inl ⟨rfl,Bes.of (Below.refl _ _).drew (Nat.le_of_lt (uh HO).room.lt),Or.inl ⟨rfl,(uh HO).room.later (ZE.stays _ _ nww) (Below.refl _ _).drew⟩⟩) ?_ ?_
       · intro L' vals w1 i' o' hW hF hL ho hdep
         have hi':i'<26:=(Array.getElem?_eq_some_iff.1 ho).1
         rcases (by omega:i'=0∨i'=1∨i'=2∨i'=3∨i'=4∨i'=5∨i'=6∨i'=7∨i'=8∨i'=9∨i'=10∨i'=11∨i'=12∨i'=13∨i'=14∨i'=15∨i'=16∨i'=17∨i'=18∨i'=19∨i'=20∨i'=21∨i'=22∨i'=23∨i'=24∨i'=25) with rfl | rfl | rfl | rfl | rfl | rfl | rfl | rfl | rfl | rfl | rfl | rfl | rfl | rfl | rfl | rfl | rfl | rfl | rfl | rfl | rfl | rfl | rfl | rfl | rfl | rfl
         · obtain rfl:=Option.some.inj ho
           obtain ⟨hB,hW2⟩:=hW.open hL (by decide) (by decide) (by decide)
           refine wpOp_step rfl (fun K hK' => ?_)
           simp only [frs]
           go_simp
           exact hK' _ _ ⟨.slice (some ⟨g2,0,none⟩) n n,(by show _=Act.put _ (some 39) _;simp only [frs]),rfl,hW2,hF⟩
         · obtain rfl:=Option.some.inj ho
           obtain ⟨hB,hW2⟩:=hW.open hL (by decide) (by decide) (by decide)
           refine wpOp_step rfl (fun K hK' => ?_)
           simp only [frs]
           go_simp
           exact hK' _ _ ⟨.int .i64 (i:Int),(by show _=Act.put _ (some 40) _;simp only [frs]),rfl,hW2,hF⟩
         · obtain rfl:=Option.some.inj ho
           obtain ⟨hB,hW2⟩:=hW.open hL (by decide) (by decide) (by decide)
           refine wpOp_step rfl (fun K hK' => ?_)
           simp only [frs]
           go_simp
           exact hK' _ _ ⟨.slice (some ⟨g2,0,none⟩) n n,(by show _=Act.put _ (some 41) _;simp only [frs]),rfl,hW2,hF⟩
         · obtain rfl:=Option.some.inj ho
           obtain ⟨hB,hW2⟩:=hW.open hL (by decide) (by decide) (by decide)
           refine wpOp_step rfl (fun K hK' => ?_)
           simp only [frs]
           go_simp
           exact hK' _ _ ⟨.int .i64 (i:Int),(by show _=Act.put _ (some 42) _;simp only [frs]),rfl,hW2,hF⟩
         · obtain rfl:=Option.some.inj ho
           have f2:=hF 2 (hdep ⟨2,.data⟩ (by simp) rfl)
           have f3:=hF 3 (hdep ⟨3,.data⟩ (by simp) rfl)
           obtain ⟨hB,hW2⟩:=hW.open hL (by decide) (by decide) (by decide)
           refine wpOp_step rfl (fun K hK' => ?_)
           simp only [frs]
           rw [show vals 2=_ from f2]
           rw [show vals 3=_ from f3]
           go_simp
           exact hK' _ _ ⟨.pointer (some ⟨g2,i,none⟩),(by show _=Act.put _ (some 43) _;simp only [frs,show vals 2=_ from f2,show vals 3=_ from f3]),rfl,hW2,hF⟩
         · obtain rfl:=Option.some.inj ho
           have f4:=hF 4 (hdep ⟨4,.data⟩ (by simp) rfl)
           obtain ⟨hB,hW2⟩:=hW.open hL (by decide) (by decide) (by decide)
           have t0:=((uh HO).tab.bes hB (Ne.symm hg12)).cell (uh HG).2.2
           rw [if_neg (by omega)] at t0
           refine wpOp_step rfl (fun K hK' => ?_)
           simp only [frs]
           rw [show vals 4=_ from f4]
           go_simp
           exact hK' _ _ ⟨.slice (AA i) 0 m,(by show _=Act.put _ (some 44) _;simp only [frs,show vals 4=_ from f4]),rfl,hW2,hF⟩
         · obtain rfl:=Option.some.inj ho
           obtain ⟨hB,hW2⟩:=hW.open hL (by decide) (by decide) (by decide)
           refine wpOp_step rfl (fun K hK' => ?_)
           simp only [frs]
           go_simp
           exact hK' _ _ ⟨.slice (some ⟨rb,ro,none⟩) m uc,(by show _=Act.put _ (some 45) _;simp only [frs]),rfl,hW2,hF⟩
         · obtain rfl:=Option.some.inj ho
           obtain ⟨hB,hW2⟩:=hW.open hL (by decide) (by decide) (by decide)
           refine wpOp_step rfl (fun K hK' => ?_)
           simp only [frs]
           go_simp
           exact hK' _ _ ⟨.slice (some ⟨mb,mo,none⟩) n sc,(by show _=Act.put _ (some 46) _;simp only [frs]),rfl,hW2,hF⟩
         · obtain rfl:=Option.some.inj ho
           obtain ⟨hB,hW2⟩:=hW.open hL (by decide) (by decide) (by decide)
           refine wpOp_step rfl (fun K hK' => ?_)
           simp only [frs]
           go_simp
           exact hK' _ _ ⟨.int .i64 (at':Int),(by show _=Act.put _ (some 47) _;simp only [frs]),rfl,hW2,hF⟩
         · obtain rfl:=Option.some.inj ho
           have f7:=hF 7 (hdep ⟨7,.data⟩ (by simp) rfl)
           have f8:=hF 8 (hdep ⟨8,.data⟩ (by simp) rfl)
           obtain ⟨hB,hW2⟩:=hW.open hL (by decide) (by decide) (by decide)
           refine wpOp_step rfl (fun K hK' => ?_)
           simp only [frs]
           rw [show vals 7=_ from f7]
           rw [show vals 8=_ from f8]
           go_simp
           exact hK' _ _ ⟨.pointer (some ⟨mb,mo+at',none⟩),(by show _=Act.put _ (some 48) _;simp only [frs,show vals 7=_ from f7,show vals 8=_ from f8]),rfl,hW2,hF⟩
         · obtain rfl:=Option.some.inj ho
           have f9:=hF 9 (hdep ⟨9,.data⟩ (by simp) rfl)
           obtain ⟨hB,hW2⟩:=hW.open hL (by decide) (by decide) (by decide)
           have t0:=hB.cell (uh HLR).2.2.2 (uh HPC).1
           refine wpOp_step rfl (fun K hK' => ?_)
           simp only [frs]
           rw [show vals 9=_ from f9]
           go_simp
           exact hK' _ _ ⟨.slice (some ⟨pb,po,none⟩) m pc,(by show _=Act.put _ (some 49) _;simp only [frs,show vals 9=_ from f9]),rfl,hW2,hF⟩
         · obtain rfl:=Option.some.inj ho
           obtain ⟨hB,hW2⟩:=hW.open hL (by decide) (by decide) (by decide)
           refine wpOp_step rfl (fun K hK' => ?_)
           simp only [frs]
           go_simp
           exact hK' _ _ ⟨.slice (some ⟨mb,mo,none⟩) n sc,(by show _=Act.put _ (some 50) _;simp only [frs]),rfl,hW2,hF⟩
         · obtain rfl:=Option.some.inj ho
           obtain ⟨hB,hW2⟩:=hW.open hL (by decide) (by decide) (by decide)
           refine wpOp_step rfl (fun K hK' => ?_)
           simp only [frs]
           go_simp
           exact hK' _ _ ⟨.int .i64 (at':Int),(by show _=Act.put _ (some 51) _;simp only [frs]),rfl,hW2,hF⟩
         · obtain rfl:=Option.some.inj ho
           have f11:=hF 11 (hdep ⟨11,.data⟩ (by simp) rfl)
           have f12:=hF 12 (hdep ⟨12,.data⟩ (by simp) rfl)
           obtain ⟨hB,hW2⟩:=hW.open hL (by decide) (by decide) (by decide)
           refine wpOp_step rfl (fun K hK' => ?_)
           simp only [frs]
           rw [show vals 11=_ from f11]
           rw [show vals 12=_ from f12]
           go_simp
           exact hK' _ _ ⟨.pointer (some ⟨mb,mo+at',none⟩),(by show _=Act.put _ (some 52) _;simp only [frs,show vals 11=_ from f11,show vals 12=_ from f12]),rfl,hW2,hF⟩
         · obtain rfl:=Option.some.inj ho
           have f13:=hF 13 (hdep ⟨13,.data⟩ (by simp) rfl)
           obtain ⟨hB,hW2⟩:=hW.open hL (by decide) (by decide) (by decide)
           have t0:=hB.cell (uh HLR).2.2.2 (uh HPC).1
           refine wpOp_step rfl (fun K hK' => ?_)
           simp only [frs]
           rw [show vals 13=_ from f13]
           go_simp
           exact hK' _ _ ⟨.slice (some ⟨pb,po,none⟩) m pc,(by show _=Act.put _ (some 53) _;simp only [frs,show vals 13=_ from f13]),rfl,hW2,hF⟩
         · obtain rfl:=Option.some.inj ho
           obtain ⟨hB,hW2⟩:=hW.open hL (by decide) (by decide) (by decide)
           refine wpOp_step rfl (fun K hK' => ?_)
           simp only [frs]
           go_simp
           exact hK' _ _ ⟨.int .i64 (col:Int),(by show _=Act.put _ (some 54) _;simp only [frs]),rfl,hW2,hF⟩
         · obtain rfl:=Option.some.inj ho
           have f14:=hF 14 (hdep ⟨14,.data⟩ (by simp) rfl)
           have f15:=hF 15 (hdep ⟨15,.data⟩ (by simp) rfl)
           obtain ⟨hB,hW2⟩:=hW.open hL (by decide) (by decide) (by decide)
           refine wpOp_step rfl (fun K hK' => ?_)
           simp only [frs]
           rw [show vals 14=_ from f14]
           rw [show vals 15=_ from f15]
           go_simp
           exact hK' _ _ ⟨.pointer (some ⟨pb,po+col*2,none⟩),(by show _=Act.put _ (some 55) _;simp only [frs,show vals 14=_ from f14,show vals 15=_ from f15]),rfl,hW2,hF⟩
         · obtain rfl:=Option.some.inj ho
           have f16:=hF 16 (hdep ⟨16,.data⟩ (by simp) rfl)
           obtain ⟨hB,hW2⟩:=hW.open hL (by decide) (by decide) (by decide)
           have t0:=hB.cell (Nat.ne_of_lt (uh HLR).2.1) (uh HPC).2.1
           have t1:=hB.cell (Nat.ne_of_lt (uh HLR).2.1) (uh HPC).2.2.1
           refine wpOp_step rfl (fun K hK' => ?_)
           simp only [frs]
           rw [show vals 16=_ from f16]
           go_simp
           exact hK' _ _ ⟨.agg #[.int .i64 x1,.slice x2 x3 x4],(by show _=Act.put _ (some 56) _;simp only [frs,show vals 16=_ from f16]),rfl,hW2,hF⟩
         · obtain rfl:=Option.some.inj ho
           obtain ⟨hB,hW2⟩:=hW.open hL (by decide) (by decide) (by decide)
           refine wpOp_step rfl (fun K hK' => ?_)
           simp only [frs]
           go_simp
           exact hK' _ _ ⟨.slice (some ⟨rb,ro,none⟩) m uc,(by show _=Act.put _ (some 57) _;simp only [frs]),rfl,hW2,hF⟩
         · obtain rfl:=Option.some.inj ho
           obtain ⟨hB,hW2⟩:=hW.open hL (by decide) (by decide) (by decide)
           refine wpOp_step rfl (fun K hK' => ?_)
           simp only [frs]
           go_simp
           exact hK' _ _ ⟨.int .i64 (col:Int),(by show _=Act.put _ (some 58) _;simp only [frs]),rfl,hW2,hF⟩
         · obtain rfl:=Option.some.inj ho
           have f18:=hF 18 (hdep ⟨18,.data⟩ (by simp) rfl)
           have f19:=hF 19 (hdep ⟨19,.data⟩ (by simp) rfl)
           obtain ⟨hB,hW2⟩:=hW.open hL (by decide) (by decide) (by decide)
           refine wpOp_step rfl (fun K hK' => ?_)
           simp only [frs]
           rw [show vals 18=_ from f18]
           rw [show vals 19=_ from f19]
           go_simp
           exact hK' _ _ ⟨.pointer (some ⟨rb,ro+col*2,none⟩),(by show _=Act.put _ (some 59) _;simp only [frs,show vals 18=_ from f18,show vals 19=_ from f19]),rfl,hW2,hF⟩
         · obtain rfl:=Option.some.inj ho
           have f20:=hF 20 (hdep ⟨20,.data⟩ (by simp) rfl)
           obtain ⟨hB,hW2⟩:=hW.open hL (by decide) (by decide) (by decide)
           have t0:=hB.cell (Nat.ne_of_lt (uh HLR).1) (uh HYC).1
           have t1:=hB.cell (Nat.ne_of_lt (uh HLR).1) (uh HYC).2.1
           refine wpOp_step rfl (fun K hK' => ?_)
           simp only [frs]
           rw [show vals 20=_ from f20]
           go_simp
           exact hK' _ _ ⟨.agg #[.int .i64 y1,.slice y2 y3 y4],(by show _=Act.put _ (some 60) _;simp only [frs,show vals 20=_ from f20]),rfl,hW2,hF⟩
         · obtain rfl:=Option.some.inj ho
           obtain ⟨hB,hW2⟩:=hW.open hL (by decide) (by decide) (by decide)
           have t0:=((uh HD).bes hB (Nat.ne_of_lt hq1)).c0
           have t1:=((uh HD).bes hB (Nat.ne_of_lt hq1)).c1
           refine wpOp_step rfl (fun K hK' => ?_)
           simp only [frs]
           go_simp
           exact hK' _ _ ⟨.agg #[.int .i64 d1,.slice d2 d3 d4],(by show _=Act.put _ (some 61) _;simp only [frs]),rfl,hW2,hF⟩
         · obtain rfl:=Option.some.inj ho
           have f5:=hF 5 (hdep ⟨5,.data⟩ (by simp) rfl)
           have f6:=hF 6 (hdep ⟨6,.data⟩ (by simp) rfl)
           have f10:=hF 10 (hdep ⟨10,.data⟩ (by simp) rfl)
           have f17:=hF 17 (hdep ⟨17,.data⟩ (by simp) rfl)
           have f21:=hF 21 (hdep ⟨21,.data⟩ (by simp) rfl)
           have f22:=hF 22 (hdep ⟨22,.data⟩ (by simp) rfl)
           obtain ⟨a25,hB,hroom⟩:L' 25=false∧Bes g1 V w1∧Fill NoWord 2 (ZE (N+1)) 31 w1 g1 (n*m) (C.take i).flatten:=by
             rcases hW with ⟨a1,a2,⟨b1,b2⟩ | ⟨b1,_⟩⟩ | ⟨_,a2,_⟩
             · exact ⟨a1,a2,b2⟩
             · rw [b1] at hL;cases hL
             · rw [a2 23 (by decide)] at hL;cases hL
           have hHC:=uh HC
           have hRC:=uh HRC
           have hcl:c.length=m:=hHC.2.1 c (List.mem_of_getElem? hRC.2.1)
           have hro:Zo (N+1) g1 w1 (.slice (some ⟨rb,ro,none⟩) m uc) r:=Zo.bes ⟨uh HU,fun b hb _=>by simp only [Value.ownBlock,Option.some.injEq] at hb;have:=uh HLR;omega⟩ hB
           have hpo:Zo (N+1) g1 w1 (.slice (some ⟨pb,po,none⟩) m pc) pr:=Zo.bes ⟨uh HP2,fun b hb _=>by simp only [Value.ownBlock,Option.some.injEq] at hb;have:=uh HLR;omega⟩ hB
           have HCALL:=qh (crossed_any (N:=N) (g:=g1) (n:=n*m) (m:=m) (A:=AA i) (X:=(C.take i).flatten) (r:=r) (oo':=pr) (Y:=c) (more:=p) (less:=y) (d:=by') w1 hroom (uh HAi) (uh HXL).2 hro hpo ((uh HPC).2.2.2.bes hB) ((uh HYC).2.2.bes hB) ((uh HD).zr.bes hB) by0 hRC.2.2.2 (uh HPL).1 hcl (fun j q x z hq hx hz=>hHC.2.2.2.1 i r c y (uh HIA) hRC.1 hRC.2.1 hRC.2.2.1 j q x z hq hx hz) (hHC.2.2.2.2 c (List.mem_of_getElem? hRC.2.1)) hm6 hN)
           clear hHC hRC hcl hro hpo
           refine wpOp_step rfl (fun K hK' => ?_)
           simp only [frs]
           go_simp
           rw [show vals 5=_ from f5]
           rw [show vals 6=_ from f6]
           rw [show vals 10=_ from f10]
           rw [show vals 17=_ from f17]
           rw [show vals 21=_ from f21]
           rw [show vals 22=_ from f22]
           go_fit (uh HCALL)
           rintro e9 Y ⟨rfl,hFY,hbY⟩
           exact hK' _ _ ⟨.slice (AA i) m m,(by show _=Act.put _ (some 62) _;simp only [frs,show vals 5=_ from f5,show vals 6=_ from f6,show vals 10=_ from f10,show vals 17=_ from f17,show vals 21=_ from f21,show vals 22=_ from f22]),rfl,Or.inl ⟨by simp [a25],hB.trans hbY,Or.inr ⟨by simp,hFY⟩⟩,fun j hj=>ClF.any _ (hF j hj)⟩
         · obtain rfl:=Option.some.inj ho
           have f0:=hF 0 (hdep ⟨0,.data⟩ (by simp) rfl)
           have f1:=hF 1 (hdep ⟨1,.data⟩ (by simp) rfl)
           obtain ⟨hB,hW2⟩:=hW.open hL (by decide) (by decide) (by decide)
           refine wpOp_step rfl (fun K hK' => ?_)
           simp only [frs]
           rw [show vals 0=_ from f0]
           rw [show vals 1=_ from f1]
           go_simp
           exact hK' _ _ ⟨.pointer (some ⟨g2,i,none⟩),(by show _=Act.put _ (some 63) _;simp only [frs,show vals 0=_ from f0,show vals 1=_ from f1]),rfl,hW2,hF⟩
         · obtain rfl:=Option.some.inj ho
           have f23:=hF 23 (hdep ⟨23,.data⟩ (by simp) rfl)
           have f24:=hF 24 (hdep ⟨24,.data⟩ (by simp) rfl)
           have l23:=hdep ⟨23,.data⟩ (by simp) rfl
           obtain ⟨hB,hroom⟩:Bes g1 V w1∧Fill NoWord 2 (ZE (N+1)) 31 w1 g1 (n*m) ((C.take i).flatten++c):=by
             rcases hW with ⟨a1,a2,⟨b1,b2⟩ | ⟨b1,b2⟩⟩ | ⟨_,a2,_⟩
             · rw [show L' 23=true from l23] at b1;cases b1
             · exact ⟨a2,b2⟩
             · rw [a2 25 (by decide)] at hL;cases hL
           have t0:=((uh HO).tab.bes hB (Ne.symm hg12)).cell (uh HG).2.2
           have tf:=((uh HO).tab.bes hB (Ne.symm hg12)).free
           refine wpOp_step rfl (fun K hK' => ?_)
           simp only [frs]
           rw [show vals 23=_ from f23]
           rw [show vals 24=_ from f24]
           go_simp
           refine hK' _ _ ⟨undef,(by show _=Act.put _ (none) _;simp only [frs,show vals 23=_ from f23,show vals 24=_ from f24]),trivial,Or.inr ⟨rfl,?_,w1,hB,hroom,rfl⟩,?_⟩
           · intro k hk
             rcases (by omega:k=0∨k=1∨k=2∨k=3∨k=4∨k=5∨k=6∨k=7∨k=8∨k=9∨k=10∨k=11∨k=12∨k=13∨k=14∨k=15∨k=16∨k=17∨k=18∨k=19∨k=20∨k=21∨k=22∨k=23∨k=24∨k=25) with rfl | rfl | rfl | rfl | rfl | rfl | rfl | rfl | rfl | rfl | rfl | rfl | rfl | rfl | rfl | rfl | rfl | rfl | rfl | rfl | rfl | rfl | rfl | rfl | rfl | rfl
             · exact hdep ⟨0,.phase⟩ (by simp) rfl
             · exact hdep ⟨1,.phase⟩ (by simp) rfl
             · exact hdep ⟨2,.phase⟩ (by simp) rfl
             · exact hdep ⟨3,.phase⟩ (by simp) rfl
             · exact hdep ⟨4,.phase⟩ (by simp) rfl
             · exact hdep ⟨5,.phase⟩ (by simp) rfl
             · exact hdep ⟨6,.phase⟩ (by simp) rfl
             · exact hdep ⟨7,.phase⟩ (by simp) rfl
             · exact hdep ⟨8,.phase⟩ (by simp) rfl
             · exact hdep ⟨9,.phase⟩ (by simp) rfl
             · exact hdep ⟨10,.phase⟩ (by simp) rfl
             · exact hdep ⟨11,.phase⟩ (by simp) rfl
             · exact hdep ⟨12,.phase⟩ (by simp) rfl
             · exact hdep ⟨13,.phase⟩ (by simp) rfl
             · exact hdep ⟨14,.phase⟩ (by simp) rfl
             · exact hdep ⟨15,.phase⟩ (by simp) rfl
             · exact hdep ⟨16,.phase⟩ (by simp) rfl
             · exact hdep ⟨17,.phase⟩ (by simp) rfl
             · exact hdep ⟨18,.phase⟩ (by simp) rfl
             · exact hdep ⟨19,.phase⟩ (by simp) rfl
             · exact hdep ⟨20,.phase⟩ (by simp) rfl
             · exact hdep ⟨21,.phase⟩ (by simp) rfl
             · exact hdep ⟨22,.phase⟩ (by simp) rfl
             · exact hdep ⟨23,.data⟩ (by simp) rfl
             · exact hdep ⟨24,.data⟩ (by simp) rfl
             · rfl
           · exact fun j hj=>ClF.any _ (hF j hj)
       · intro L' vals w1 hW hF
         rcases hW with ⟨h9,_⟩ | ⟨_,_,w0,hb1,hF1,rfl⟩
         · have:=(hF 25 (by decide)).1
           rw [h9] at this
           cases this
         clear hF
         simp only [frs]
         obtain ⟨hgk,hi,hin⟩:=uh HG
         have hbw:w.heap.size≤g1:=by omega
         have hbw2:w.heap.size≤g2:=by omega
         go_wp2
         go_roundg (n - (i+1))
         case measure=>omega
         case rel=>exact ⟨i+1,by omega,rfl,by go_num,qh (((uh HB).trans (hb1.below.mono hbw)).setCell (p:=⟨g2,i,none⟩) hbw2 _),qh (by
           have h1:=(uh HD).bes hb1 (by omega)
           exact h1.tabset (((uh HO).tab.bes hb1 (Ne.symm hg12))) (by omega) (fun k _ x=>by simp) _),qh ((uh HO).next (uh HRC).2.1 hin hF1 hb1 hg12)⟩
   · obtain rfl:i=n:=by omega
     clear hin hi hgk
     go_wp2
     go_ret
     obtain ⟨hC,hCw,_⟩:=uh HC
     refine ⟨⟨g2,_,rfl,by omega,(uh HO).done hC hCw hm6 hg12 (uh HAA),fun t c b hc hne hb => ?_⟩,uh HB⟩
     have htn:t<i:=by have:=(List.getElem?_eq_some_iff.1 hc).1;omega
     have hcl:=hCw c (List.mem_of_getElem? hc)
     have hm0:0<m:=by rcases Nat.eq_zero_or_pos m with e | e;exact absurd (List.eq_nil_of_length_eq_zero (by omega)) hne;exact e
     have hAt:=uh HAA t htn hm0
     simp only [hAt,Value.ownBlock,Option.some.injEq] at hb
     omega
end Go.Proofs.YtkifiolkfdicoaaGreatDoor
