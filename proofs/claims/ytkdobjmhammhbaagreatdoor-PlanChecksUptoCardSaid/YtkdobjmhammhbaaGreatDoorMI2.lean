import Derived.Test.YtkdobjmhammhbaaGreatDoorMI1
import Derived.Test.YtkdobjmhammhbaaGreatDoorMJ6
namespace Go.Proofs.YtkdobjmhammhbaaGreatDoor
open Go.RowKit
def sclA (D:Int) (x:Int×Int×(Int×Int)×(Int×Int)):Int×Int×Int×Int:=(x.1,x.2.1,scl D x.2.2.1,scl D x.2.2.2)
theorem ArE.on {β γ:Type}{E:World→List Value → β → Prop}{E':World→List Value → γ → Prop}{w:World}{cs:List Value}{x:Int×Int × β × β} (f:β → γ) (h:ArE E w cs x) (h1:∀ c,E w c x.2.2.1→E' w c (f x.2.2.1)) (h2:∀ c,E w c x.2.2.2→E' w c (f x.2.2.2)):ArE E' w cs (x.1,x.2.1,f x.2.2.1,f x.2.2.2):=by
 obtain ⟨c1,c2,h3,h4,h5,h6,h7⟩:=h
 exact ⟨c1,c2,h3,h4,h5,h1 _ h6,h2 _ h7⟩
def numL (M:List (Int×Int×(Int×Int)×(Int×Int))) (S F P:List (Int×Int)) (c:Int×Int):List (Int×Int):=M.map (fun x=>x.2.2.1)++(M.map (fun x=>x.2.2.2)++(S++(F++(P++[c]))))
theorem allOf_mem {α β:Type}{f:α → Option β}{l:List α}{L:List β}{x:β} (h:allOf f l=some L) (hx:x ∈ L):∃ s ∈ l,f s=some x:=by
 obtain ⟨i,hi⟩:=List.getElem?_of_mem hx
 have hlen:=allOf_len h
 have hil:=(List.getElem?_eq_some_iff.1 hi).1
 obtain ⟨s,hs⟩:∃ s,l[i]? = some s:=⟨l[i]'(by omega),by simp⟩
 obtain ⟨y,hy,hn⟩:=allOf_at h hs
 rw [hi] at hy
 obtain rfl:x=y:=by simpa using hy
 exact ⟨s,List.mem_of_getElem? hs,hn⟩
structure Says (l:List (Int×Int×ByteArray×ByteArray)) (sup fl pr:List ByteArray) (co:ByteArray) (M:List (Int×Int×(Int×Int)×(Int×Int))) (S F P:List (Int×Int)) (c:Int×Int):Prop where
 m:arcsOf l=some M
 s:nums sup=some S
 f:nums fl=some F
 p:nums pr=some P
 c:num co=some c
 a:shortA l
 t:shortT sup∧shortT fl∧shortT pr∧co.size≤24
theorem nums_mod {l:List ByteArray}{L:List (Int×Int)} (h:nums l=some L) (hs:shortT l):L.length≤40∧∀ x ∈ L,Mod MM x:=by
 refine ⟨by rw [allOf_len h];exact hs.1,fun x hx => ?_⟩
 obtain ⟨s,h1,h2⟩:=allOf_mem h hx
 exact num_in (by have:=hs.2 s h1;omega) h2
theorem arcs_mod {l:List (Int×Int×ByteArray×ByteArray)}{M:List (Int×Int×(Int×Int)×(Int×Int))} (h:arcsOf l=some M) (hs:shortA l):M.length≤20∧∀ x ∈ M,Mod MM x.2.2.1∧Mod MM x.2.2.2:=by
 refine ⟨by rw [allOf_len h];exact hs.1,fun x hx => ?_⟩
 obtain ⟨s,h1,h2⟩:=allOf_mem h hx
 have h3:=hs.2 s h1
 unfold arc1 at h2
 split at h2
 · rename_i a b ha hb
   obtain rfl:=Option.some.inj h2
   exact ⟨num_in (by omega) ha,num_in (by omega) hb⟩
 · cases h2
section
variable {l:List (Int×Int×ByteArray×ByteArray)}{sup fl pr:List ByteArray}{co:ByteArray}{M:List (Int×Int×(Int×Int)×(Int×Int))}{S F P:List (Int×Int)}{c:Int×Int}
theorem Says.mod (h:Says l sup fl pr co M S F P c):(numL M S F P c).length≤161∧∀ x ∈ numL M S F P c,Mod MM x:=by
 obtain ⟨m1,m2⟩:=arcs_mod h.m h.a
 obtain ⟨s1,s2⟩:=nums_mod h.s h.t.1
 obtain ⟨f1,f2⟩:=nums_mod h.f h.t.2.1
 obtain ⟨p1,p2⟩:=nums_mod h.p h.t.2.2.1
 refine ⟨by simp only [numL,List.length_append,List.length_map,List.length_cons,List.length_nil];omega,fun x hx => ?_⟩
 simp only [numL,List.mem_append,List.mem_map,List.mem_singleton] at hx
 rcases hx with ⟨y,hy,rfl⟩ | ⟨y,hy,rfl⟩ | hx | hx | hx | rfl
 · exact (m2 y hy).1
 · exact (m2 y hy).2
 · exact s2 x hx
 · exact f2 x hx
 · exact p2 x hx
 · exact num_in (by have:=h.t.2.2.2;omega) h.c
theorem mem_cap {x:Int×Int×(Int×Int)×(Int×Int)} (h:x ∈ M):x.2.2.1 ∈ numL M S F P c:=by simp only [numL,List.mem_append];exact Or.inl (List.mem_map.2 ⟨x,h,rfl⟩)
theorem mem_cost {x:Int×Int×(Int×Int)×(Int×Int)} (h:x ∈ M):x.2.2.2 ∈ numL M S F P c:=by simp only [numL,List.mem_append];exact Or.inr (Or.inl (List.mem_map.2 ⟨x,h,rfl⟩))
theorem mem_s {x:Int×Int} (h:x ∈ S):x ∈ numL M S F P c:=by simp only [numL,List.mem_append];exact Or.inr (Or.inr (Or.inl h))
theorem mem_f {x:Int×Int} (h:x ∈ F):x ∈ numL M S F P c:=by simp only [numL,List.mem_append];exact Or.inr (Or.inr (Or.inr (Or.inl h)))
theorem mem_p {x:Int×Int} (h:x ∈ P):x ∈ numL M S F P c:=by simp only [numL,List.mem_append];exact Or.inr (Or.inr (Or.inr (Or.inr (Or.inl h))))
theorem Says.over (h:Says l sup fl pr co M S F P c):∃ D,D=dens (numL M S F P c)∧Dn TT D∧Dn TT (D*D)∧ShB TT (MM*D) (M.map (sclA D)) (S.map (scl D)) (F.map (scl D)) (P.map (scl D)):=by
 obtain ⟨h1,h2⟩:=h.mod
 have hM:=mm_ge
 obtain ⟨d0,d1⟩:=dens_in h2 (by omega)
 obtain ⟨t1,t2,t3,t4,t5⟩:=tt_of h1 d0 d1
 have key:∀ x ∈ numL M S F P c,-(MM*dens (numL M S F P c))≤scl (dens (numL M S F P c)) x∧scl (dens (numL M S F P c)) x≤MM*dens (numL M S F P c):=fun x hx=>scl_in (h2 x hx) d0 (dens_dvd hx)
 refine ⟨_,rfl,t1,t2,fun x hx => ?_,fun x hx => ?_,fun x hx => ?_,fun x hx => ?_,t3,t4,t5⟩
 · obtain ⟨y,hy,rfl⟩:=List.mem_map.1 hx
   exact ⟨key _ (mem_cap hy),key _ (mem_cost hy)⟩
 · obtain ⟨y,hy,rfl⟩:=List.mem_map.1 hx
   exact key _ (mem_s hy)
 · obtain ⟨y,hy,rfl⟩:=List.mem_map.1 hx
   exact key _ (mem_f hy)
 · obtain ⟨y,hy,rfl⟩:=List.mem_map.1 hx
   exact key _ (mem_p hy)
end
section
variable {w:World}{v:Value}{D:Int}{nl:List (Int×Int)} (hd:D=dens nl)
include hd
theorem rows_qnums {L:List (Int×Int)} (h:Rows 4 (QE 362) w v L) (hm:∀ x ∈ L,x ∈ nl):Rows 4 (QsE 7590 D) w v (L.map (scl D)) :=
 h.map (scl D) fun _ _ hx he=>by subst hd;exact he.parts bigTT (dens_dvd (hm _ hx))
theorem rows_rnums {L:List (Int×Int)} (h:Rows 4 (RE 78) w v L) (hm:∀ x ∈ L,x ∈ nl):Rows 4 (RsE 1649 D) w v (L.map (scl D)) :=
 h.map (scl D) fun _ _ hx he=>by subst hd;exact he.parts bigTT (dens_dvd (hm _ hx))
theorem num_q {c:Int×Int} (h:Qr 362 w v c.1 c.2) (hm:c ∈ nl):Qs 7590 D w v (scl D c):=by
 subst hd
 exact ⟨c.1,c.2,h.mono (by decide),scl_is (dens_dvd hm)⟩
theorem num_r {c:Int×Int} (h:Rr 78 w v c.1 c.2) (hm:c ∈ nl):Rs 1649 D w v (scl D c):=by
 subst hd
 exact ⟨c.1,c.2,h.mono (by decide),scl_is (dens_dvd hm)⟩
end
def numsD (l:List ByteArray):List (Int×Int):=(nums l).getD []
def numD (s:ByteArray):Int×Int:=(num s).getD (0,1)
theorem num1:num ⟨#[49]⟩=some (1,1):=by decide +kernel
def Elsewhere (q:Nat) (w w':World):Prop:=∀ b,b≠q→w'.heap[b]? = w.heap[b]?
theorem Elsewhere.cell {q b o:Nat}{w w':World}{v:Value} (h:Elsewhere q w w') (hb:b≠q) (hv:w.cell? ⟨b,o,none⟩=some v):w'.cell? ⟨b,o,none⟩=some v:=by
 simp only [World.cell?,h b hb] at hv ⊢
 exact hv
theorem Elsewhere.chg {K:Value→Prop}{q:Nat}{w w':World}{c:Array Value}{t:TypeId}{f:Nat×Nat} (h:Elsewhere q w w') (hq:w.heap[q]? = some (.cells c t f)) (hk:∀ u ∈ c.toList,K u):Chg K t w w':=by
 intro b c' t' f' hb hc
 by_cases e:b=q
 · subst e
   rw [hq] at hb
   obtain ⟨rfl,rfl,rfl⟩:c=c'∧t=t'∧f=f':=by simpa using hb
   rcases hc with hc | ⟨o,u,ho,hu⟩
   · exact absurd rfl hc
   · exact absurd (hk u (by rw [Array.mem_toList_iff];exact Array.mem_of_getElem? ho)) hu
 · rw [h b e];exact hb
theorem else4 {q:Nat} (w:World) (u0 u1 u2 u3:Value):Elsewhere q w ((((w.setCell ⟨q,0,none⟩ u0).setCell ⟨q,1,none⟩ u1).setCell ⟨q,2,none⟩ u2).setCell ⟨q,3,none⟩ u3):=fun b hb=>by
 rw [Below.heap_setCell _ _ _ _ hb,Below.heap_setCell _ _ _ _ hb,Below.heap_setCell _ _ _ _ hb,Below.heap_setCell _ _ _ _ hb]
def NoFlag (v:Value):Prop:=∀ b,v≠.bool b
theorem RBox.chg {K:Value→Prop}{w w':World}{q:Nat} (h:RBox w q) (he:Elsewhere q w w') (hi:∀ x,K (.int .i64 x)) (hs:∀ a n c,K (.slice a n c)):Chg K 39 w w':=by
 obtain ⟨x,a,n,c,y,b,m,k,h⟩:=h
 exact he.chg h (fun u hu=>by simp at hu;rcases hu with rfl | rfl | rfl | rfl <;> first | exact hi _ | exact hs _ _ _)
theorem RBox.chgW {w w':World}{q:Nat} (h:RBox w q) (he:Elsewhere q w w'):Chg NoWord 39 w w':=h.chg he (fun _ z e=>by cases e) (fun _ _ _ z e=>by cases e)
theorem RBox.chgF {w w':World}{q:Nat} (h:RBox w q) (he:Elsewhere q w w'):Chg NoFlag 39 w w':=h.chg he (fun _ z e=>by cases e) (fun _ _ _ z e=>by cases e)
theorem Rows.aside {α:Type}{k lo q:Nat}{E:World→List Value → α → Prop}{w w':World}{v:Value}{L:List α} (h:Rows k E w v L) (hi:Hi lo v) (hq:q<lo) (he:Elsewhere q w w') (hE:∀ cs x,E w cs x→E w' cs x):Rows k E w' v L:=by
 obtain ⟨a,c,rfl,h2,h3,h4⟩:=h
 refine ⟨a,c,rfl,h2,h3,?_⟩
 rcases h4 with h4 | ⟨b,o,rfl,h5⟩
 · exact Or.inl h4
 · refine Or.inr ⟨b,o,rfl,fun i x hx => ?_⟩
   obtain ⟨cs,hl,hcs,hx⟩:=h5 i x hx
   exact ⟨cs,hl,fun j u hu=>he.cell (by have:=hi b o _ c rfl;omega) (hcs j u hu),hE _ _ hx⟩
theorem Rows.qflag {N:Nat}{D:Int}{w w':World}{v:Value}{L:List Int} (h:Rows 4 (QsE N D) w v L) (hc:Chg NoFlag 39 w w'):Rows 4 (QsE N D) w' v L :=
 h.chg (QsE.stays N D NoFlag (e:=39) (by decide)) (fun _ cs _ h=>by obtain ⟨x1,x2,x3,x4,x5,x6,x7,x8,rfl,_⟩:=h;exact ⟨.bool x1,by simp,fun h=>h _ rfl⟩) hc
theorem Qs.flag {N:Nat}{D s:Int}{w w':World}{v:Value} (h:Qs N D w v s) (hc:Chg NoFlag 39 w w'):Qs N D w' v s:=by
 obtain ⟨p,d,h1,h2⟩:=h
 exact ⟨p,d,h1.chg hc (by decide),h2⟩
end Go.Proofs.YtkdobjmhammhbaaGreatDoor
