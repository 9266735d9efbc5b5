import Derived.Test.YtkdobjmhammhbaaGreatDoorMI1
namespace Go.Proofs.YtkdobjmhammhbaaGreatDoor
set_option maxHeartbeats 8000000
set_option maxRecDepth 8000
open Go.RowKit
def Elsewhere (q:Nat) (w w':World):Prop:=∀ b,b≠q->w'.heap[b]? = w.heap[b]?
theorem Elsewhere.cell {q b o:Nat}{w w':World}{v:Value} (h:Elsewhere q w w') (hb:b≠q) (hv:w.cell? ⟨b,o,none⟩=some v):w'.cell? ⟨b,o,none⟩=some v:=by
 simp only [World.cell?,h b hb] at hv ⊢
 exact hv
theorem Elsewhere.chg {K:Value->Prop}{q:Nat}{w w':World}{c:Array Value}{t:TypeId}{f:Nat×Nat} (h:Elsewhere q w w') (hq:w.heap[q]? = some (.cells c t f)) (hk:∀ u ∈ c.toList,K u):Chg K t w w':=by
 intro b c' t' f' hb hc
 by_cases e:b=q
 ·subst e
  rw [hq] at hb
  obtain ⟨rfl,rfl,rfl⟩:c=c'/\t=t'/\f=f':=by simpa using hb
  rcases hc with hc | ⟨o,u,ho,hu⟩
  ·exact absurd rfl hc
  ·exact absurd (hk u (by rw [Array.mem_toList_iff];exact Array.mem_of_getElem? ho)) hu
 ·rw [h b e];exact hb
theorem else4 {q:Nat} (w:World) (u0 u1 u2 u3:Value):Elsewhere q w ((((w.setCell ⟨q,0,none⟩ u0).setCell ⟨q,1,none⟩ u1).setCell ⟨q,2,none⟩ u2).setCell ⟨q,3,none⟩ u3):=fun b hb=>by
 rw [Below.heap_setCell _ _ _ _ hb,Below.heap_setCell _ _ _ _ hb,Below.heap_setCell _ _ _ _ hb,Below.heap_setCell _ _ _ _ hb]
def NoFlag (v:Value):Prop:=∀ b,v≠.bool b
theorem RBox.chg {K:Value->Prop}{w w':World}{q:Nat} (h:RBox w q) (he:Elsewhere q w w') (hi:∀ x,K (.int .i64 x)) (hs:∀ a n c,K (.slice a n c)):Chg K 39 w w':=by
 obtain ⟨x,a,n,c,y,b,m,k,h⟩:=h
 exact he.chg h (fun u hu=>by simp at hu;rcases hu with rfl | rfl | rfl | rfl <;> first | exact hi _ | exact hs _ _ _)
theorem RBox.chgW {w w':World}{q:Nat} (h:RBox w q) (he:Elsewhere q w w'):Chg NoWord 39 w w':=h.chg he (fun _ z e=>by cases e) (fun _ _ _ z e=>by cases e)
theorem RBox.chgF {w w':World}{q:Nat} (h:RBox w q) (he:Elsewhere q w w'):Chg NoFlag 39 w w':=h.chg he (fun _ z e=>by cases e) (fun _ _ _ z e=>by cases e)
theorem Rows.aside {α:Type}{k lo q:Nat}{E:World->List Value -> α -> Prop}{w w':World}{v:Value}{L:List α} (h:Rows k E w v L) (hi:Hi lo v) (hq:q<lo) (he:Elsewhere q w w') (hE:∀ cs x,E w cs x->E w' cs x):Rows k E w' v L:=by
 obtain ⟨a,c,rfl,h2,h3,h4⟩:=h
 refine ⟨a,c,rfl,h2,h3,?_⟩
 rcases h4 with h4 | ⟨b,o,rfl,h5⟩
 ·exact Or.inl h4
 ·refine Or.inr ⟨b,o,rfl,fun i x hx => ?_⟩
  obtain ⟨cs,hl,hcs,hx⟩:=h5 i x hx
  exact ⟨cs,hl,fun j u hu=>he.cell (by have:=hi b o _ c rfl;omega) (hcs j u hu),hE _ _ hx⟩
theorem Qs.flag {N:Nat}{D s:Int}{w w':World}{v:Value} (h:Qs N D w v s) (hc:Chg NoFlag 39 w w'):Qs N D w' v s:=by
 obtain ⟨p,d,h1,h2⟩:=h
 exact ⟨p,d,h1.chg hc (by decide),h2⟩
def sclA (D:Int) (x:Int×Int×(Int×Int)×(Int×Int)):Int×Int×Int×Int:=(x.1,x.2.1,scl D x.2.2.1,scl D x.2.2.2)
theorem ArE.on {β γ:Type}{E:World->List Value -> β -> Prop}{E':World->List Value -> γ -> Prop}{w:World}{cs:List Value}{x:Int×Int × β × β} (f:β -> γ) (h:ArE E w cs x) (h1:∀ c,E w c x.2.2.1->E' w c (f x.2.2.1)) (h2:∀ c,E w c x.2.2.2->E' w c (f x.2.2.2)):ArE E' w cs (x.1,x.2.1,f x.2.2.1,f x.2.2.2):=by
 obtain ⟨c1,c2,h3,h4,h5,h6,h7⟩:=h
 exact ⟨c1,c2,h3,h4,h5,h1 _ h6,h2 _ h7⟩
def numL (M:List (Int×Int×(Int×Int)×(Int×Int))) (S F P:List (Int×Int)) (c:Int×Int):List (Int×Int):=M.map (fun x=>x.2.2.1)++(M.map (fun x=>x.2.2.2)++(S++(F++(P++[c]))))
theorem allOf_mem {α β:Type}{f:α -> Option β}{l:List α}{L:List β}{x:β} (h:allOf f l=some L) (hx:x ∈ L):∃ s ∈ l,f s=some x:=by
 obtain ⟨i,hi⟩:=List.getElem?_of_mem hx
 have hlen:=allOf_len h
 have hil:=(List.getElem?_eq_some_iff.1 hi).1
 obtain ⟨s,hs⟩:∃ s,l[i]? = some s:=⟨l[i]'(by omega),by simp⟩
 obtain ⟨y,hy,hn⟩:=allOf_at h hs
 rw [hi] at hy
 obtain rfl:x=y:=by simpa using hy
 exact ⟨s,List.mem_of_getElem? hs,hn⟩
structure Says (l:List (Int×Int×ByteArray×ByteArray)) (sup fl pr:List ByteArray) (co:ByteArray) (M:List (Int×Int×(Int×Int)×(Int×Int))) (S F P:List (Int×Int)) (c:Int×Int):Prop where
 m:arcsOf l=some M
 s:nums sup=some S
 f:nums fl=some F
 p:nums pr=some P
 c:num co=some c
 a:shortA l
 t:shortT sup/\shortT fl/\shortT pr/\co.size<=24
theorem nums_mod {l:List ByteArray}{L:List (Int×Int)} (h:nums l=some L) (hs:shortT l):L.length<=40/\∀ x ∈ L,Mod MM x:=by
 refine ⟨by rw [allOf_len h];exact hs.1,fun x hx => ?_⟩
 obtain ⟨s,h1,h2⟩:=allOf_mem h hx
 exact num_in (by have:=hs.2 s h1;omega) h2
theorem arcs_mod {l:List (Int×Int×ByteArray×ByteArray)}{M:List (Int×Int×(Int×Int)×(Int×Int))} (h:arcsOf l=some M) (hs:shortA l):M.length<=20/\∀ x ∈ M,Mod MM x.2.2.1/\Mod MM x.2.2.2:=by
 refine ⟨by rw [allOf_len h];exact hs.1,fun x hx => ?_⟩
 obtain ⟨s,h1,h2⟩:=allOf_mem h hx
 have h3:=hs.2 s h1
 unfold arc1 at h2
 split at h2
 ·rename_i a b ha hb
  obtain rfl:=Option.some.inj h2
  exact ⟨num_in (by omega) ha,num_in (by omega) hb⟩
 ·cases h2
section
variable {l:List (Int×Int×ByteArray×ByteArray)}{sup fl pr:List ByteArray}{co:ByteArray}{M:List (Int×Int×(Int×Int)×(Int×Int))}{S F P:List (Int×Int)}{c:Int×Int}
theorem Says.mod (h:Says l sup fl pr co M S F P c):(numL M S F P c).length<=161/\∀ x ∈ numL M S F P c,Mod MM x:=by
 obtain ⟨m1,m2⟩:=arcs_mod h.m h.a
 obtain ⟨s1,s2⟩:=nums_mod h.s h.t.1
 obtain ⟨f1,f2⟩:=nums_mod h.f h.t.2.1
 obtain ⟨p1,p2⟩:=nums_mod h.p h.t.2.2.1
 refine ⟨by simp only [numL,List.length_append,List.length_map,List.length_cons,List.length_nil];omega,fun x hx => ?_⟩
 simp only [numL,List.mem_append,List.mem_map,List.mem_singleton] at hx
 rcases hx with ⟨y,hy,rfl⟩ | ⟨y,hy,rfl⟩ | hx | hx | hx | rfl
 ·exact (m2 y hy).1
 ·exact (m2 y hy).2
 ·exact s2 x hx
 ·exact f2 x hx
 ·exact p2 x hx
 ·exact num_in (by have:=h.t.2.2.2;omega) h.c
theorem mem_cap {x:Int×Int×(Int×Int)×(Int×Int)} (h:x ∈ M):x.2.2.1 ∈ numL M S F P c:=by simp only [numL,List.mem_append];exact Or.inl (List.mem_map.2 ⟨x,h,rfl⟩)
theorem mem_cost {x:Int×Int×(Int×Int)×(Int×Int)} (h:x ∈ M):x.2.2.2 ∈ numL M S F P c:=by simp only [numL,List.mem_append];exact Or.inr (Or.inl (List.mem_map.2 ⟨x,h,rfl⟩))
theorem mem_s {x:Int×Int} (h:x ∈ S):x ∈ numL M S F P c:=by simp only [numL,List.mem_append];exact Or.inr (Or.inr (Or.inl h))
theorem mem_f {x:Int×Int} (h:x ∈ F):x ∈ numL M S F P c:=by simp only [numL,List.mem_append];exact Or.inr (Or.inr (Or.inr (Or.inl h)))
theorem mem_p {x:Int×Int} (h:x ∈ P):x ∈ numL M S F P c:=by simp only [numL,List.mem_append];exact Or.inr (Or.inr (Or.inr (Or.inr (Or.inl h))))
theorem mem_c:c ∈ numL M S F P c:=by simp [numL]
theorem Says.over (h:Says l sup fl pr co M S F P c):∃ D,D=dens (numL M S F P c)/\Dn TT D/\Dn TT (D*D)/\ShB TT (MM*D) (M.map (sclA D)) (S.map (scl D)) (F.map (scl D)) (P.map (scl D)):=by
 obtain ⟨h1,h2⟩:=h.mod
 have hM:=mm_ge
 obtain ⟨d0,d1⟩:=dens_in h2 (by omega)
 obtain ⟨t1,t2,t3,t4,t5⟩:=tt_of h1 d0 d1
 have key:∀ x ∈ numL M S F P c,-(MM*dens (numL M S F P c))<=scl (dens (numL M S F P c)) x/\scl (dens (numL M S F P c)) x<=MM*dens (numL M S F P c):=fun x hx=>scl_in (h2 x hx) d0 (zjg hx)
 refine ⟨_,rfl,t1,t2,fun x hx => ?_,fun x hx => ?_,fun x hx => ?_,fun x hx => ?_,t3,t4,t5⟩
 ·obtain ⟨y,hy,rfl⟩:=List.mem_map.1 hx
  exact ⟨key _ (mem_cap hy),key _ (mem_cost hy)⟩
 ·obtain ⟨y,hy,rfl⟩:=List.mem_map.1 hx
  exact key _ (mem_s hy)
 ·obtain ⟨y,hy,rfl⟩:=List.mem_map.1 hx
  exact key _ (mem_f hy)
 ·obtain ⟨y,hy,rfl⟩:=List.mem_map.1 hx
  exact key _ (mem_p hy)
end
section
variable {w:World}{v:Value}{D:Int}{nl:List (Int×Int)} (hd:D=dens nl)
include hd
theorem rows_qarcs {M:List (Int×Int×(Int×Int)×(Int×Int))} (h:Rows 10 (ArE (QE 362)) w v M) (hm:∀ x ∈ M,x.2.2.1 ∈ nl/\x.2.2.2 ∈ nl):Rows 10 (ArE (QsE 7590 D)) w v (M.map (sclA D)) :=
 h.map (sclA D) fun _ _ hx he=>by subst hd;exact he.on (scl _) (fun _ h1=>h1.parts bigTT (zjg (hm _ hx).1)) (fun _ h1=>h1.parts bigTT (zjg (hm _ hx).2))
theorem rows_rarcs {M:List (Int×Int×(Int×Int)×(Int×Int))} (h:Rows 10 (ArE (RE 78)) w v M) (hm:∀ x ∈ M,x.2.2.1 ∈ nl/\x.2.2.2 ∈ nl):Rows 10 (ArE (RsE 1649 D)) w v (M.map (sclA D)) :=
 h.map (sclA D) fun _ _ hx he=>by subst hd;exact he.on (scl _) (fun _ h1=>h1.parts bigTT (zjg (hm _ hx).1)) (fun _ h1=>h1.parts bigTT (zjg (hm _ hx).2))
theorem rows_qnums {L:List (Int×Int)} (h:Rows 4 (QE 362) w v L) (hm:∀ x ∈ L,x ∈ nl):Rows 4 (QsE 7590 D) w v (L.map (scl D)) :=
 h.map (scl D) fun _ _ hx he=>by subst hd;exact he.parts bigTT (zjg (hm _ hx))
theorem rows_rnums {L:List (Int×Int)} (h:Rows 4 (RE 78) w v L) (hm:∀ x ∈ L,x ∈ nl):Rows 4 (RsE 1649 D) w v (L.map (scl D)) :=
 h.map (scl D) fun _ _ hx he=>by subst hd;exact he.parts bigTT (zjg (hm _ hx))
theorem num_q {c:Int×Int} (h:Qr 362 w v c.1 c.2) (hm:c ∈ nl):Qs 7590 D w v (scl D c):=by
 subst hd
 exact ⟨c.1,c.2,h.mono (by decide),scl_is (zjg hm)⟩
theorem num_r {c:Int×Int} (h:Rr 78 w v c.1 c.2) (hm:c ∈ nl):Rs 1649 D w v (scl D c):=by
 subst hd
 exact ⟨c.1,c.2,h.mono (by decide),scl_is (zjg hm)⟩
end
def arcsD (l:List (Int×Int×ByteArray×ByteArray)):List (Int×Int×(Int×Int)×(Int×Int)):=(arcsOf l).getD []
def numsD (l:List ByteArray):List (Int×Int):=(nums l).getD []
def numD (s:ByteArray):Int×Int:=(num s).getD (0,1)
structure NetD (l:List (Int×Int×ByteArray×ByteArray)) (sup fl pr:List ByteArray) (co:ByteArray) (D:Int) (L:List (Int×Int×Int×Int)) (S F P:List Int) (c:Int):Prop where
 dn:Dn TT D
 dd:Dn TT (D*D)
 b:ShB TT (MM*D) L S F P
 qa:∀ {w:World}{v:Value},Rows 10 (ArE (QE 362)) w v (arcsD l)->Rows 10 (ArE (QsE 7590 D)) w v L
 ra:∀ {w:World}{v:Value},Rows 10 (ArE (RE 78)) w v (arcsD l)->Rows 10 (ArE (RsE 1649 D)) w v L
 qs:∀ {w:World}{v:Value},Rows 4 (QE 362) w v (numsD sup)->Rows 4 (QsE 7590 D) w v S
 rs:∀ {w:World}{v:Value},Rows 4 (RE 78) w v (numsD sup)->Rows 4 (RsE 1649 D) w v S
 qf:∀ {w:World}{v:Value},Rows 4 (QE 362) w v (numsD fl)->Rows 4 (QsE 7590 D) w v F
 rf:∀ {w:World}{v:Value},Rows 4 (RE 78) w v (numsD fl)->Rows 4 (RsE 1649 D) w v F
 qp:∀ {w:World}{v:Value},Rows 4 (QE 362) w v (numsD pr)->Rows 4 (QsE 7590 D) w v P
 rp:∀ {w:World}{v:Value},Rows 4 (RE 78) w v (numsD pr)->Rows 4 (RsE 1649 D) w v P
 qc:∀ {w:World}{v:Value},Qr 362 w v (numD co).1 (numD co).2->Qs 7590 D w v c
 rc:∀ {w:World}{v:Value},Rr 78 w v (numD co).1 (numD co).2->Rs 1649 D w v c
theorem Says.net {l:List (Int×Int×ByteArray×ByteArray)}{sup fl pr:List ByteArray}{co:ByteArray} (h:Says l sup fl pr co (arcsD l) (numsD sup) (numsD fl) (numsD pr) (numD co)):∃ D L S F P c,NetD l sup fl pr co D L S F P c:=by
 obtain ⟨D,hd,h1,h2,h3⟩:=h.over
 exact ⟨D,_,_,_,_,_,h1,h2,h3,fun h=>rows_qarcs hd h fun x hx=>⟨mem_cap hx,mem_cost hx⟩,fun h=>rows_rarcs hd h fun x hx=>⟨mem_cap hx,mem_cost hx⟩,fun h=>rows_qnums hd h fun x hx=>mem_s hx,fun h=>rows_rnums hd h fun x hx=>mem_s hx,fun h=>rows_qnums hd h fun x hx=>mem_f hx,fun h=>rows_rnums hd h fun x hx=>mem_f hx,fun h=>rows_qnums hd h fun x hx=>mem_p hx,fun h=>rows_rnums hd h fun x hx=>mem_p hx,fun h=>num_q hd h mem_c,fun h=>num_r hd h mem_c⟩
theorem num0:num ⟨#[48]⟩=some (0,1):=by decide +kernel
theorem info_arc:(Tryz.prog.info? 93).map (fun i=>(i.zero,i.size,i.bytes))=some (some (.agg #[.int .i64 0,.int .i64 0,.int .i64 0,.slice none 0 0,.int .i64 0,.slice none 0 0,.int .i64 0,.slice none 0 0,.int .i64 0,.slice none 0 0]),10,144):=by kernel_rfl
theorem zk_arc:∀ u ∈ (Value.agg #[.int .i64 0,.int .i64 0,.int .i64 0,.slice none 0 0,.int .i64 0,.slice none 0 0,.int .i64 0,.slice none 0 0,.int .i64 0,.slice none 0 0]).cells.toList,NoWord u:=cells_ar 0 0 (kd_r 0 none 0 0 0 none 0 0) (kd_r 0 none 0 0 0 none 0 0)
theorem parcs_hi {A:Nat->Addr}{v:Value}{l:List (Int×Int×ByteArray×ByteArray)}{M:List (Int×Int×(Int×Int)×(Int×Int))} (w:World) (hA:Env A w) (h:Rows 4 SpE w v l) (hl:l.length<=100000000) (hM:arcsOf l=some M) :
 Calls Tryz.prog 8 #[v] w fun e w'=>(∃ v,e=.returned (.tuple #[v,.bool true])/\Rows 10 (ArE (RE 78)) w' v M/\Hi w.heap.size v)/\Below w.heap.size w w':=by
 obtain ⟨sa,sc,rfl⟩:=h.shape
 have HR:=qh h
 have HM:=qh hM
 have HA:=qh hA
 clear h hM hA
 go_enter Tryz.func8,Tryz.ntmps8
 go_wp2_with fail
 go_loopg [4,13] l.length (fun gk ov iv wr=>∃ (i:Nat) (L:List (Int×Int×(Int×Int)×(Int×Int))),i<=l.length/\gk=l.length - i/\iv=.int .i64 (i:Int)/\Hid (arcsOf (l.take i)=some L)/\Hid (Below w.heap.size w wr)/\Hid (OwnR NoWord 10 (ArE (RE 78)) 93 wr w.heap.size ov L))
 case atStart=>exact ⟨0,[],by omega,by omega,rfl,by show arcsOf (l.take 0)=some [];simp [arcsOf,allOf],qh (Below.refl _ _),qh (OwnR.nil _ _ _ _ _ _)⟩
 case round =>
  obtain ⟨i,L,hi,hgk,rfl,HN,HB,HO⟩:=hrel
  obtain ⟨oa,oc,rfl⟩:=(uh HO).slice
  have HLL:=qh (allOf_len (uh HN))
  by_cases hil:i<l.length
  ·obtain ⟨⟨fr,to',s,t⟩,hs⟩:∃ s,l[i]? = some s:=⟨l[i],by simp [hil]⟩
   obtain ⟨b,o,rfl,cs,_,hcs,rfl,hfr,hto,hsz,htz⟩:=(uh HR).at hs
   obtain ⟨y,_,hy⟩:=allOf_at (uh HM) hs
   obtain ⟨x,z,hx,hz,rfl⟩:∃ x z,num s=some x/\num t=some z/\y=(fr,to',x,z):=by
    unfold arc1 at hy
    simp only at hy
    split at hy
    ·rename_i x z h1 h2;exact ⟨x,z,h1,h2,(Option.some.inj hy).symm⟩
    ·cases hy
   have c0:=ck (uh HB) (show w.cell? ⟨b,o+i*4,none⟩=some (.int .i64 fr) from by simpa using hcs 0 _ rfl)
   have c1:=ck (uh HB) (show w.cell? ⟨b,o+i*4+1,none⟩=some (.int .i64 to') from hcs 1 _ rfl)
   have c2:=ck (uh HB) (show w.cell? ⟨b,o+i*4+2,none⟩=some (.string s) from hcs 2 _ rfl)
   have c3:=ck (uh HB) (show w.cell? ⟨b,o+i*4+3,none⟩=some (.string t) from hcs 3 _ rfl)
   have HF:=qh (And.intro hfr hto)
   have HSZ:Hid (s.size<=9223372036854775807/\t.size<=9223372036854775807):=qh (by unfold maxLen at hsz htz;simp only at hsz htz;omega)
   have HS:=qh (And.intro hs hy)
   have HX:=qh (And.intro hx hz)
   have hil':(i:Int)<(l.length:Int):=by omega
   have him:(i:Int)+1<=100000000:=by omega
   obtain ⟨V,hV⟩:∃ V,V=wr.alloc (.cells #[.int .i64 fr,.int .i64 to',.string s,.string t] 91):=⟨_,rfl⟩
   obtain ⟨q,hq⟩:∃ q,q=wr.heap.size:=⟨_,rfl⟩
   have hn:=c4_new (w:=wr) (.int .i64 fr) (.int .i64 to') (.string s) (.string t) 91
   have kn:=zqa wr (.cells #[.int .i64 fr,.int .i64 to',.string s,.string t] 91)
   simp only [<- hV,<- hq] at hn
   rw [<- hV] at kn
   have HBV:=qh (bk kn (uh HB))
   have HO:=qh ((uh HO).later (ArE.stays (RE.stays _ _ nww)) kn)
   have HQ:=qh hn
   clear hs hcs hsz htz hfr hto hy hx hz kn hn
   go_upto_region 5 with fail
   rw [<- hV,<- hq]
   clear hV hq c0 c1 c2 c3 HB
   have m2:=(uh HQ).2.2.1
   go_wp2_with fail
   go_fit (pnumber_any s _ ((uh HA).later (uh HBV)) (uh HSZ).1 (uh HX).1)
   rintro e W1 ⟨⟨v1,rfl,hv1⟩,B1⟩
   obtain ⟨a1,a2,a3,a4,a5,a6,a7,a8,rfl⟩:=hv1.shape
   have k1:=zqa W1 (.cells #[.int .i64 a1,.slice a2 a3 a4,.int .i64 a5,.slice a6 a7 a8] 39)
   have hc1:=c4_new (w:=W1) (.int .i64 a1) (.slice a2 a3 a4) (.int .i64 a5) (.slice a6 a7 a8) 39
   obtain ⟨V1,hV1⟩:∃ V,V=W1.alloc (.cells #[.int .i64 a1,.slice a2 a3 a4,.int .i64 a5,.slice a6 a7 a8] 39):=⟨_,rfl⟩
   obtain ⟨g1,hg1⟩:∃ g,g=W1.heap.size:=⟨_,rfl⟩
   simp only [<- hV1,<- hg1] at hc1
   rw [<- hV1] at k1
   have KA:=qh (bk k1 B1)
   have HBV:=qh (bk (uh KA) (uh HBV))
   have HO:=qh ((uh HO).later (ArE.stays (RE.stays _ _ nww)) (uh KA))
   have HQ:=qh (c4_keep (uh KA) (uh HQ))
   have HC1:=qh hc1
   have HN1:=qh (hv1.later k1)
   clear hc1 hv1 k1 B1 m2
   go_upto_region 6 with fail
   rw [<- hV1,<- hg1]
   clear hV1 hg1
   have m3:=(uh HQ).2.2.2
   go_wp2_with fail
   go_fit (pnumber_any t _ ((uh HA).later (uh HBV)) (uh HSZ).2 (uh HX).2)
   rintro e W2 ⟨⟨v2,rfl,hv2⟩,B2⟩
   obtain ⟨b1,b2,b3,b4,b5,b6,b7,b8,rfl⟩:=hv2.shape
   have k2:=zqa W2 (.cells #[.int .i64 b1,.slice b2 b3 b4,.int .i64 b5,.slice b6 b7 b8] 39)
   have hc2:=c4_new (w:=W2) (.int .i64 b1) (.slice b2 b3 b4) (.int .i64 b5) (.slice b6 b7 b8) 39
   obtain ⟨V2,hV2⟩:∃ V,V=W2.alloc (.cells #[.int .i64 b1,.slice b2 b3 b4,.int .i64 b5,.slice b6 b7 b8] 39):=⟨_,rfl⟩
   obtain ⟨g2,hg2⟩:∃ g,g=W2.heap.size:=⟨_,rfl⟩
   simp only [<- hV2,<- hg2] at hc2
   rw [<- hV2] at k2
   have KB:=qh (bk k2 B2)
   have HBV:=qh (bk (uh KB) (uh HBV))
   have HO:=qh ((uh HO).later (ArE.stays (RE.stays _ _ nww)) (uh KB))
   obtain ⟨q0,q1,_,_⟩:=c4_keep (uh KB) (uh HQ)
   obtain ⟨r0,r1,r2,r3⟩:=c4_keep (uh KB) (uh HC1)
   obtain ⟨t0,t1,t2,t3⟩:=hc2
   have HN2:=qh (And.intro ((uh HN1).later (uh KB)) (hv2.later k2))
   have hbs:w.heap.size<=V2.heap.size:=(uh HBV).size
   have hLn:L.length<=100000000:=by have:=uh HLL;rw [this,List.length_take];omega
   clear hv2 k2 B2 m3
   go_upto_region 9 with fail
   rw [<- hV2,<- hg2]
   clear hV2 hg2
   go_wp2_with (at_builtin;refine wpList_pushE (y:=(fr,to',x,z)) rfl _ _ _ rfl Tryz.underlying29 info_arc rfl (by decide) (by decide) zk_arc (ArE.stays (RE.stays _ _ nww)) w.heap.size _ rfl (uh HO) (.int .i64 fr :: .int .i64 to' :: ([.int .i64 a1,.slice a2 a3 a4,.int .i64 a5,.slice a6 a7 a8]++[.int .i64 b1,.slice b2 b3 b4,.int .i64 b5,.slice b6 b7 b8])) rfl (one_ar _ _ (one_r _ _ _ _ _ _ _ _) (one_r _ _ _ _ _ _ _ _)) (cells_ar _ _ (kd_r _ _ _ _ _ _ _ _) (kd_r _ _ _ _ _ _ _ _)) ⟨_,_,rfl,(uh HF).1,(uh HF).2,⟨_,_,_,_,_,_,_,_,rfl,(uh HN2).1⟩,⟨_,_,_,_,_,_,_,_,rfl,(uh HN2).2⟩⟩ rfl rfl hLn hbs ?_;intro ov' Z1 hO1 hc1 hgr1 hge1)
   go_roundg (l.length - (i+1))
   case measure=>omega
   case rel=>exact ⟨i+1,L++[(fr,to',x,z)],by omega,rfl,by go_num,qh (by rw [tkn (uh HS).1];exact allOf_snoc (uh HN) (uh HS).2),qh ((bk (zqa _ _) (uh HBV)).grown hgr1 (bk (zqa _ _) (uh HBV)).size hge1),qh hO1⟩
  ·obtain rfl:i=l.length:=by omega
   clear hil hi hgk
   go_wp2
   exact bodyPost_ret (v:=.tuple #[.slice oa L.length oc,.bool true]) (by simp [results,Tryz.results8,go_sem]) rfl ⟨⟨_,rfl,by have h1:=uh HN;rw [List.take_length,uh HM] at h1;obtain rfl:M=L:=(by simpa using h1);exact (uh HO).rows,(uh HO).hi (Nat.le_refl _)⟩,uh HB⟩
theorem parcs_any {A:Nat->Addr}{v:Value}{l:List (Int×Int×ByteArray×ByteArray)}{M:List (Int×Int×(Int×Int)×(Int×Int))} (w:World) (hA:Env A w) (h:Rows 4 SpE w v l) (hl:l.length<=100000000) (hM:arcsOf l=some M) :
 Calls Tryz.prog 8 #[v] w fun e w'=>(∃ v,e=.returned (.tuple #[v,.bool true])/\Rows 10 (ArE (RE 78)) w' v M)/\Below w.heap.size w w':=(parcs_hi w hA h hl hM).mono fun _ _ ⟨⟨v,h1,h2,_⟩,h3⟩=>⟨⟨v,h1,h2⟩,h3⟩
theorem rarcs_any {v:Value}{l:List (Int×Int×ByteArray×ByteArray)} (w:World) (h:Rows 4 SpE w v l) (hl:l.length<=100000000) :
 Calls Tryz.prog 12 #[v] w fun e w'=>ArcsP l e w'/\Below w.heap.size w w':=by
 obtain ⟨sa,sc,rfl⟩:=h.shape
 have HR:=qh h
 clear h
 go_enter Tryz.func12,Tryz.ntmps12
 go_wp2_with fail
 go_loopg [4,5] l.length (fun gk ov iv wr=>∃ (i:Nat) (L:List (Int×Int×(Int×Int)×(Int×Int))),i<=l.length/\gk=l.length - i/\iv=.int .i64 (i:Int)/\Hid (arcsOf (l.take i)=some L)/\Hid (Below w.heap.size w wr)/\Hid (OwnR NoWord 10 (ArE (QE 362)) 103 wr w.heap.size ov L))
 case atStart=>exact ⟨0,[],by omega,by omega,rfl,by show arcsOf (l.take 0)=some [];simp [arcsOf,allOf],qh (Below.refl _ _),qh (OwnR.nil _ _ _ _ _ _)⟩
 case round =>
  obtain ⟨i,L,hi,hgk,rfl,HN,HB,HO⟩:=hrel
  obtain ⟨oa,oc,rfl⟩:=(uh HO).slice
  have HLL:=qh (allOf_len (uh HN))
  by_cases hil:i<l.length
  ·obtain ⟨⟨fr,to',s,t⟩,hs⟩:∃ s,l[i]? = some s:=⟨l[i],by simp [hil]⟩
   obtain ⟨b,o,rfl,cs,_,hcs,rfl,hfr,hto,hsz,htz⟩:=(uh HR).at hs
   have HC:=qh (And.intro (show w.cell? ⟨b,o+i*4,none⟩=some (.int .i64 fr) from by simpa using hcs 0 _ rfl) (And.intro (show w.cell? ⟨b,o+i*4+1,none⟩=some (.int .i64 to') from hcs 1 _ rfl) (And.intro (show w.cell? ⟨b,o+i*4+2,none⟩=some (.string s) from hcs 2 _ rfl) (show w.cell? ⟨b,o+i*4+3,none⟩=some (.string t) from hcs 3 _ rfl))))
   have HF:=qh (And.intro hfr hto)
   have HSZ:Hid (s.size<=9223372036854775807/\t.size<=9223372036854775807):=qh (by unfold maxLen at hsz htz;simp only at hsz htz;omega)
   have HS:=qh hs
   have hil':(i:Int)<(l.length:Int):=by omega
   have him:(i:Int)+1<=100000000:=by omega
   have c2:=ck (uh HB) (uh HC).2.2.1
   clear hs hcs hsz htz hfr hto
   go_wp2_with fail
   go_fit (rqread_any s _ (uh HSZ).1)
   rintro e W1 ⟨hc,B1⟩
   obtain ⟨a1,a2,a3,a4,a5,a6,a7,a8,ac,ap,rfl,HA⟩:=hc.num
   clear hc c2
   obtain ⟨V1,hV1⟩:∃ V,V=(W1.alloc (.cells #[.bool a1,.slice a2 a3 a4,.bool a5,.slice a6 a7 a8] 59)).alloc (.cells #[.int .i64 ac,.int .i64 ap] 61):=⟨_,rfl⟩
   have k1:=zqa W1 (.cells #[.bool a1,.slice a2 a3 a4,.bool a5,.slice a6 a7 a8] 59)
   have k2:=zqa (W1.alloc (.cells #[.bool a1,.slice a2 a3 a4,.bool a5,.slice a6 a7 a8] 59)) (.cells #[.int .i64 ac,.int .i64 ap] 61)
   have CA:=qh (c4_keep k2 (c4_new (w:=W1) (.bool a1) (.slice a2 a3 a4) (.bool a5) (.slice a6 a7 a8) 59))
   have FA:=qh (show ((W1.alloc (.cells #[.bool a1,.slice a2 a3 a4,.bool a5,.slice a6 a7 a8] 59)).alloc (.cells #[.int .i64 ac,.int .i64 ap] 61)).cell? ⟨W1.heap.size+1,0,none⟩=some (.int .i64 ac) by rw [zqe (by simp)];rfl)
   have KA:=qh (bk k2 k1)
   have BB:=qh (bk (bk k2 k1) (bk B1 (uh HB)))
   rw [<- hV1] at CA FA KA BB
   obtain ⟨g1,hg1⟩:∃ g,g=W1.heap.size:=⟨_,rfl⟩
   rw [<- hg1] at CA FA
   have HO:=qh (((uh HO).later (ArE.stays (QE.stays _ _ (by decide))) B1).later (ArE.stays (QE.stays _ _ (by decide))) (uh KA))
   clear k1 k2 B1 HB
   go_upto_region 6 with fail
   rw [<- hV1,<- hg1]
   have c3:=ck (uh BB) (uh HC).2.2.2
   clear hV1 hg1
   go_wp2_with fail
   go_fit (rqread_any t _ (uh HSZ).2)
   rintro e W2 ⟨hc,B2⟩
   obtain ⟨b1,b2,b3,b4,b5,b6,b7,b8,bc,bp,rfl,HA2⟩:=hc.num
   clear hc c3
   obtain ⟨V2,hV2⟩:∃ V,V=(W2.alloc (.cells #[.bool b1,.slice b2 b3 b4,.bool b5,.slice b6 b7 b8] 59)).alloc (.cells #[.int .i64 bc,.int .i64 bp] 61):=⟨_,rfl⟩
   have k1:=zqa W2 (.cells #[.bool b1,.slice b2 b3 b4,.bool b5,.slice b6 b7 b8] 59)
   have k2:=zqa (W2.alloc (.cells #[.bool b1,.slice b2 b3 b4,.bool b5,.slice b6 b7 b8] 59)) (.cells #[.int .i64 bc,.int .i64 bp] 61)
   have CB:=qh (c4_keep k2 (c4_new (w:=W2) (.bool b1) (.slice b2 b3 b4) (.bool b5) (.slice b6 b7 b8) 59))
   have f2:((W2.alloc (.cells #[.bool b1,.slice b2 b3 b4,.bool b5,.slice b6 b7 b8] 59)).alloc (.cells #[.int .i64 bc,.int .i64 bp] 61)).cell? ⟨W2.heap.size+1,0,none⟩=some (.int .i64 bc):=by rw [zqe (by simp)];rfl
   have KB:=qh (bk k2 k1)
   have BB:=qh (bk (bk k2 k1) (bk B2 (uh BB)))
   rw [<- hV2] at CB f2 KB BB
   obtain ⟨g2,hg2⟩:∃ g,g=W2.heap.size:=⟨_,rfl⟩
   rw [<- hg2] at CB f2
   have KK:=qh (bk (uh KB) B2)
   have HO:=qh ((uh HO).later (ArE.stays (QE.stays _ _ (by decide))) (uh KK))
   have f1:=ck (uh KK) (uh FA)
   clear k1 k2 B2
   go_upto_region 7 with fail
   rw [<- hV2,<- hg2]
   clear hV2 hg2
   rcases uh HA with ⟨hca,hnn⟩ | ⟨rfl,x,hx,hQ⟩
   ·have HNN:=qh hnn
    clear hnn
    go_wp2
    exact bodyPost_ret (v:=.tuple #[.slice none 0 0,.bool false]) (by simp [results,Tryz.results12,go_sem]) rfl ⟨Or.inl ⟨allOf_none (uh HS) (by simp [arc1,uh HNN]),rfl⟩,uh BB⟩
   rcases uh HA2 with ⟨hca,hnn⟩ | ⟨rfl,y,hy,hQ2⟩
   ·have HNN:=qh hnn
    clear hnn
    go_wp2
    exact bodyPost_ret (v:=.tuple #[.slice none 0 0,.bool false]) (by simp [results,Tryz.results12,go_sem]) rfl ⟨Or.inl ⟨allOf_none (uh HS) (by simp [arc1,uh HNN,hx]),rfl⟩,uh BB⟩
   have HX:=qh (show arc1 (fr,to',s,t)=some (fr,to',x,y) by simp [arc1,hx,hy])
   have HQ:=qh (And.intro (hQ.later (bk (uh KK) (uh KA))) (hQ2.later (uh KB)))
   clear hx hy hQ hQ2 HA HA2
   obtain ⟨r0,r1,r2,r3⟩:=c4_keep (uh KK) (uh CA)
   obtain ⟨q0,q1,q2,q3⟩:=uh CB
   have c0:=ck (uh BB) (uh HC).1
   have c1:=ck (uh BB) (uh HC).2.1
   have hbs:w.heap.size<=V2.heap.size:=(uh BB).size
   have hLn:L.length<=100000000:=by have:=uh HLL;rw [this,List.length_take];omega
   go_upto_region 9 with fail
   go_region_law (refine step_pushE (w0:=V2.drew) (y:=(fr,to',x,y)) rfl (.tmp 42) (.tmp 56) 49 rfl Tryz.underlying49 info_arc3 rfl (by decide) (by decide) zk_arc3 (ArE.stays (QE.stays _ _ (by decide))) w.heap.size _ rfl ((uh HO).later (ArE.stays (QE.stays _ _ (by decide))) (Below.refl _ _).drew) (.int .i64 fr :: .int .i64 to' :: ([.bool a1,.slice a2 a3 a4,.bool a5,.slice a6 a7 a8]++[.bool b1,.slice b2 b3 b4,.bool b5,.slice b6 b7 b8])) rfl (one_ar _ _ (one_q _ _ _ _ _ _ _ _) (one_q _ _ _ _ _ _ _ _)) (cells_ar _ _ (kd_qw _ _ _ _ _ _ _ _) (kd_qw _ _ _ _ _ _ _ _)) ⟨_,_,rfl,(uh HF).1,(uh HF).2,⟨_,_,_,_,_,_,_,_,rfl,(uh HQ).1⟩,⟨_,_,_,_,_,_,_,_,rfl,(uh HQ).2⟩⟩ rfl rfl hLn hbs ?_;intro ov' Z1 hO1 hgr1 hge1)
   all_goals
    go_wp2
    go_roundg (l.length - (i+1))
    case measure=>omega
    case rel=>exact ⟨i+1,L++[(fr,to',x,y)],by omega,rfl,by go_num,qh (by rw [tkn (uh HS)];exact allOf_snoc (uh HN) (uh HX)),qh ((bk (zqa _ _) (uh BB).drew).grown hgr1 (bk (zqa _ _) (uh BB).drew).size hge1),qh hO1⟩
  ·obtain rfl:i=l.length:=by omega
   clear hil hi hgk
   go_wp2
   exact bodyPost_ret (v:=.tuple #[.slice oa L.length oc,.bool true]) (by simp [results,Tryz.results12,go_sem]) rfl ⟨Or.inr ⟨L,_,by have:=uh HN;rw [List.take_length] at this;exact this,rfl,(uh HO).rows⟩,uh HB⟩
def Pst (w:World) (p:World->Prop):Prop:=∀ W,Below w.heap.size w W->p W
theorem Pst.up {w w':World}{p:World->Prop} (h:Pst w p) (hb:Below w.heap.size w w'):Pst w' p:=fun W h1=>h W (bk h1 hb)
theorem Pst.now {w:World}{p:World->Prop} (h:Pst w p):p w:=h w (Below.refl _ _)
theorem Pst.and {w:World}{p q:World->Prop} (h:Pst w p) (h':Pst w q):Pst w fun W=>p W/\q W:=fun W hb=>⟨h W hb,h' W hb⟩
theorem arcsP_D {l:List (Int×Int×ByteArray×ByteArray)}{e:Ending}{W:World} (h:ArcsP l e W):∃ vm ok,e=.returned (.tuple #[vm,.bool ok])/\(ok=true->arcsOf l=some (arcsD l))/\Pst W fun W=>ok=true->Rows 10 (ArE (QE 362)) W vm (arcsD l):=by
 rcases h with ⟨_,rfl⟩ | ⟨L,v,hL,rfl,hr⟩
 ·exact ⟨_,false,rfl,(fun h=>by cases h),fun _ _ h=>by cases h⟩
 ·have e:arcsD l=L:=by unfold arcsD;rw [hL];rfl
  exact ⟨v,true,rfl,(fun _=>by rw [e];exact hL),fun W' hb _=>by rw [e];exact hr.later (ArE.stays (QE.stays 362 NoWord (e:=0) (by decide))) hb⟩
def VfR (w:World) (g:Nat) (x:F8 Bool) (c p:Int):Prop:=Q4 w g 0 x/\w.cell? ⟨g+1,0,none⟩=some (.int .i64 c)/\w.cell? ⟨g+1,1,none⟩=some (.int .i64 p)
theorem vf_new (w:World) (g:Nat) (hg:g=w.heap.size) (x:F8 Bool) (c p:Int):Pst ((w.alloc (.cells #[.bool x.a,.slice x.b x.c x.d,.bool x.e,.slice x.f x.g x.h] 59)).alloc (.cells #[.int .i64 c,.int .i64 p] 61)) fun W=>VfR W g x c p:=by
 subst hg
 intro W hb
 have h:∀ k u,(#[Value.bool x.a,.slice x.b x.c x.d,.bool x.e,.slice x.f x.g x.h])[k]? = some u->W.cell? ⟨w.heap.size,k,none⟩=some u:=fun k u hu=>ck hb (ck (zqa _ _) (by rw [zqe rfl];exact hu))
 have h':∀ k u,(#[Value.int .i64 c,.int .i64 p])[k]? = some u->W.cell? ⟨w.heap.size+1,k,none⟩=some u:=fun k u hu=>ck hb (by rw [<- zxc w (.cells #[.bool x.a,.slice x.b x.c x.d,.bool x.e,.slice x.f x.g x.h] 59),zqe rfl];exact hu)
 exact ⟨⟨h 0 _ rfl,h 1 _ rfl,h 2 _ rfl,h 3 _ rfl⟩,h' 0 _ rfl,h' 1 _ rfl⟩
end Go.Proofs.YtkdobjmhammhbaaGreatDoor
