import Derived.Test.YtkifiolkfdicoaaGreatDoorMN5
import Derived.Test.YtkifiolkfdicoaaGreatDoorMN4
namespace Go.Proofs.YtkifiolkfdicoaaGreatDoor
open Go.RowKit
def IsNum (u:Value):Prop:=∃ x,u=.int .i64 x
theorem isNum_word (x:Int):¬ IsNum (.int .u64 x):=fun ⟨_,h⟩=>by cases h
theorem Zr.num {T:Nat}{e:TypeId}{w w':World}{v:Value}{z:Int} (h:Zr T w v z) (hc:Chg IsNum e w w'):Zr T w' v z:=h.chg hc isNum_word
theorem ZE.numStays (N:Nat) (e:TypeId):Stays IsNum e (ZE N):=ZE.stays N e isNum_word
theorem ZE.notNum {N:Nat} (w:World) (cs:List Value) (x:Int) (h:ZE N w cs x):∃ u ∈ cs,¬ IsNum u:=by
 obtain ⟨x1,x2,x3,x4,rfl,_⟩:=h
 exact ⟨.slice x2 x3 x4,by simp,fun ⟨_,h⟩=>by cases h⟩
theorem Zo.num {T g:Nat}{w w':World}{v:Value}{zs:List Int} (h:Zo T g w v zs) {e:TypeId} (hc:Chg IsNum e w w'):Zo T g w' v zs:=⟨h.1.chg (ZE.numStays T e) ZE.notNum hc,h.2⟩
theorem Tab.num {t:TypeId}{w w':World}{g n:Nat}{f:Nat→Value} (h:Tab t w g n f) (ht:t≠3) (hc:Chg IsNum 3 w w'):Tab t w' g n f:=by
 obtain ⟨cur,h1,h2,h3⟩:=h
 exact ⟨cur,hc g cur t _ h1 (Or.inl ht),h2,h3⟩
theorem TabR.num {T:Nat}{w w':World}{g n:Nat}{f:Nat→Value}{C:List (List Int)} (h:TabR T w g n f C) (hc:Chg IsNum 3 w w'):TabR T w' g n f C:=⟨h.tab.num (by decide) hc,h.len,fun i c hi=>(h.rows i c hi).num hc⟩
theorem Vr.num {w w':World}{b:Nat}{u:Int}{a:Option Addr}{n c N:Nat}{z:Int} (h:Vr w b u a n c N z) (hc:Chg IsNum 3 w w'):Vr w' b u a n c N z:=by
 obtain ⟨x,a',n',c',hb⟩:=h.box
 exact ⟨hc.cells h.c0 h.c1 (fun ⟨_,h⟩=>by cases h),hc.cells h.c1 h.c1 (fun ⟨_,h⟩=>by cases h),⟨x,a',n',c',hc b _ _ _ hb (Or.inl (by decide))⟩,h.zr.num hc⟩
theorem tab_chg {w:World}{g n i:Nat}{f:Nat→Value} (hT:Tab 183 w g n f) (hsl:∀ k,k<n→IsSl (f k)) (v:Value):Chg NoWord 183 w (w.setCell ⟨g,i,none⟩ v):=by
 obtain ⟨cu,t1,t2,t3⟩:=hT
 refine zxj t1 (fun u hu => ?_) _
 obtain ⟨k,hk⟩:=List.getElem?_of_mem hu
 rw [Array.getElem?_toList] at hk
 have hk':k<n:=by have:=(Array.getElem?_eq_some_iff.1 hk).1;omega
 have:=t3 k hk'
 rw [hk] at this
 obtain rfl:=Option.some.inj this
 exact (hsl k hk').noInt.noWord
theorem Zo.tabset {T g n i:Nat}{w:World}{u:Value}{zs:List Int}{f:Nat→Value} (h:Zo T g w u zs) (hT:Tab 183 w g n f) (hsl:∀ k,k<n→IsSl (f k)) (v:Value):Zo T g (w.setCell ⟨g,i,none⟩ v) u zs:=by
 have hc:=tab_chg (i:=i) hT hsl v
 obtain ⟨⟨a,c,rfl,h1,h2,h3⟩,h4⟩:=h
 refine ⟨⟨a,c,rfl,h1,h2,?_⟩,h4⟩
 rcases h3 with h3 | ⟨b,o,rfl,h3⟩
 · exact Or.inl h3
 · refine Or.inr ⟨b,o,rfl,fun i x hx => ?_⟩
   obtain ⟨cs,hl,hcs,y1,y2,y3,y4,e,hz⟩:=h3 i x hx
   have hne:b≠g:=h4 b rfl (fun e=>by rw [e] at hx;simp at hx)
   exact ⟨cs,hl,fun j u hu=>by rw [zqb _ _ _ _ _ _ (by omega)];exact hcs j u hu,y1,y2,y3,y4,e,hz.chg hc nww⟩
theorem Zo.isSl {T g:Nat}{w:World}{v:Value}{zs:List Int} (h:Zo T g w v zs):IsSl v:=by
 obtain ⟨a,c,e⟩:=h.1.shape
 exact ⟨_,_,_,e⟩
theorem Zo.mono {T T' g:Nat}{w:World}{v:Value}{zs:List Int} (h:Zo T g w v zs) (hT:T≤T'):Zo T' g w v zs:=by
 obtain ⟨⟨a,c,e,h1,h2,h3⟩,h4⟩:=h
 refine ⟨⟨a,c,e,h1,h2,?_⟩,h4⟩
 rcases h3 with h3 | ⟨b,o,e2,h3⟩
 · exact Or.inl h3
 · refine Or.inr ⟨b,o,e2,fun i x hx => ?_⟩
   obtain ⟨cs,hl,hcs,y1,y2,y3,y4,e,hz⟩:=h3 i x hx
   exact ⟨cs,hl,hcs,y1,y2,y3,y4,e,hz.mono hT⟩
structure Scs (T g n:Nat) (f:Nat→Value) (Z:List (List Int)) (w:World):Prop where
 tab:Tab 183 w g n f
 sl:∀ k,k<n→IsSl (f k)
 rows:∀ k z,Z[k]? = some z→Zo T g w (f k) z
theorem Scs.later {T g n:Nat}{f:Nat→Value}{Z:List (List Int)}{w w':World} (h:Scs T g n f Z w) (hb:Below w.heap.size w w'):Scs T g n f Z w':=⟨h.tab.later hb,h.sl,fun k z hz=>(h.rows k z hz).later hb⟩
theorem Scs.next {T g n:Nat}{f:Nat→Value}{Z:List (List Int)}{w:World}{v:Value}{z:List Int} (h:Scs T g n f Z w) (hn:Z.length<n) (hz:Zo T g w v z):Scs T g n (fun j=>if j=Z.length then v else f j) (Z++[z]) (w.setCell ⟨g,Z.length,none⟩ v):=by
 refine ⟨h.tab.set hn v,fun k hk => ?_,fun k y hy => ?_⟩
 · by_cases e:k=Z.length
   · rw [if_pos e];exact hz.isSl
   · rw [if_neg e];exact h.sl k hk
 · by_cases e:k=Z.length
   · subst e
     rw [if_pos rfl]
     simp at hy
     subst hy
     exact hz.tabset h.tab h.sl v
   · rw [if_neg e]
     have hk:k<(Z++[z]).length:=(List.getElem?_eq_some_iff.1 hy).1
     simp at hk
     rw [List.getElem?_append_left (by omega)] at hy
     exact (h.rows k y hy).tabset h.tab h.sl v
theorem Scs.all {T T' g n:Nat}{f:Nat→Value}{Z:List (List Int)}{w:World} (h:Scs T g n f Z w) (hn:Z.length=n) (hT:T≤T'):TabR T' w g n f Z:=⟨h.tab,hn,fun k z hz=>(h.rows k z hz).mono hT⟩
theorem TabR.sl {T:Nat}{w:World}{g n:Nat}{f:Nat→Value}{C:List (List Int)} (h:TabR T w g n f C):∀ k,k<n→IsSl (f k):=fun k hk=>by
 obtain ⟨c,hc⟩:∃ c,C[k]? = some c:=⟨C[k]'(by have:=h.len;omega),by simp⟩
 exact (h.rows k c hc).isSl
theorem TabR.swap {T:Nat}{w:World}{g n k a:Nat}{f:Nat→Value}{C:List (List Int)} (h:TabR T w g n f C) (hk:k<n) (ha:a<n) :
   TabR T ((w.setCell ⟨g,k,none⟩ (f a)).setCell ⟨g,a,none⟩ (f k)) g n (fun i=>f (swp k a i)) (swapL C k a)∧TabR T ((w.setCell ⟨g,a,none⟩ (f k)).setCell ⟨g,k,none⟩ (f a)) g n (fun i=>f (swp k a i)) (swapL C k a):=by
 have hl:=h.len
 have key:∀ (w':World),Tab 183 w' g n (fun i=>f (swp k a i))→(∀ i c,C[i]? = some c→Zo T g w' (f i) c)→TabR T w' g n (fun i=>f (swp k a i)) (swapL C k a):=fun w' h1 h2=>by
   refine ⟨h1,by rw [swapL_len,hl],fun i c hc => ?_⟩
   have hi:i<n:=by have:=(List.getElem?_eq_some_iff.1 hc).1;rw [swapL_len] at this;omega
   rw [swapL,List.getElem?_map,List.getElem?_range (by omega)] at hc
   obtain rfl:C.getD (swp k a i) []=c:=by simpa using hc
   have hs:=swp_lt hk ha hi
   refine h2 _ _ ?_
   rw [List.getD_eq_getElem?_getD,List.getElem?_eq_getElem (by omega)]
   rfl
 have t1:=h.tab.set hk (f a)
 have t2:=h.tab.set ha (f k)
 have s1:∀ j,j<n→IsSl (if j=k then f a else f j):=fun j hj=>by split;exact h.sl a ha;exact h.sl j hj
 have s2:∀ j,j<n→IsSl (if j=a then f k else f j):=fun j hj=>by split;exact h.sl k hk;exact h.sl j hj
 constructor
 · refine key _ ((t1.set ha (f k)).eq fun j hj => ?_) (fun i c hc=>((h.rows i c hc).tabset h.tab h.sl _).tabset t1 s1 _)
   simp only [swp]
   by_cases e:j=a
   · rw [if_pos e]
     by_cases e2:j=k
     · rw [if_pos e2];rw [← e,e2]
     · rw [if_neg e2,if_pos e]
   · rw [if_neg e]
     by_cases e2:j=k
     · rw [if_pos e2,if_pos e2]
     · rw [if_neg e2,if_neg e2,if_neg e]
 · refine key _ ((t2.set hk (f a)).eq fun j hj => ?_) (fun i c hc=>((h.rows i c hc).tabset h.tab h.sl _).tabset t2 s2 _)
   simp only [swp]
   by_cases e2:j=k
   · rw [if_pos e2,if_pos e2]
   · rw [if_neg e2,if_neg e2]
     by_cases e:j=a
     · rw [if_pos e,if_pos e]
     · rw [if_neg e,if_neg e]
theorem IE.notNumStays (e:TypeId):Stays IsNum e IE:=IE.stays _ _
theorem info_int2:(Tryz.prog.info? 3).map (fun i=>(i.zero,i.size,i.bytes))=some (some (.int .i64 0),1,8):=by kernel_rfl
theorem zk_num:∀ u ∈ (Value.int .i64 0).cells.toList,IsNum u:=by intro u hu;simp [Value.cells] at hu;exact ⟨_,hu⟩
theorem kd_num (x:Int):∀ u ∈ [Value.int .i64 x],IsNum u:=by intro u hu;simp at hu;exact ⟨_,hu⟩
theorem one_num (x:Int):∀ u ∈ [Value.int .i64 x],u.oneCell'=true:=by intro u hu;simp at hu;subst hu;rfl
theorem wide_le {M:List (List (Int×Int))} (h:∀ r ∈ M,r.length≤6):wide M≤6:=by
 cases M with
 | nil=>simp [wide]
 | cons r M=>simpa [wide] using h r (by simp)
theorem belowN {n:Nat}{w w':World} (h:Below n w w') (k:Nat):Below n w (w'.drewN k):=by
 exact ⟨h.1,h.2,h.3,h.4,h.5⟩
theorem tab_wide {M:List (List (Int×Int))} (h:isTab M) {r:List (Int×Int)} (hr:r ∈ M):wide M=r.length:=(h.2.2 r hr).symm
end Go.Proofs.YtkifiolkfdicoaaGreatDoor
