import Derived.Test.YtkdobjmhammhbaaGreatDoorMAR
namespace Go.Proofs.YtkdobjmhammhbaaGreatDoor
set_option maxHeartbeats 8000000
set_option maxRecDepth 8000
open Go.RowKit
theorem lvl_at {lv:List Int}{v:Nat} (h:v<lv.length):lv[v]? = some (lvl lv v):=by
 unfold lvl
 rw [List.getD_eq_getElem?_getD,List.getElem?_eq_getElem h]
 rfl
theorem eg_alw:∀ args w,(callFunc 110 args).run Tryz.prog w=.ok (.enter 110 args) w:=enters_of Tryz.func110 (by kernel_rfl) rfl
theorem eg_end:∀ args w,(callFunc 113 args).run Tryz.prog w=.ok (.enter 113 args) w:=enters_of Tryz.func113 (by kernel_rfl) rfl
noncomputable def alwB (A:List (Nat×Nat)) (lv:List Int) (l:Nat):Bool:=decide (lvl lv (lnT A l)=lvl lv (lnF A l)+1)
theorem alwB_iff {A:List (Nat×Nat)}{lv:List Int}{l:Nat}:alwB A lv l=true↔Alw A lv l:=by unfold alwB Alw;exact decide_eq_true_iff
theorem allow_any {K gn gl gv gq n l:Nat}{A:List (Nat×Nat)}{F:Nat->Value}{X:Nat->List Int}{rv v:Value}{rm lv:List Int} (w W:World) (h:NtS w K gn gl n A F X rv rm W) (hv:Rows 1 JE W v lv) (hn:lv.length=n) (hlo:∀ u,-1<=lvl lv u/\lvl lv u<=n) (c1:W.cell? ⟨gv,0,none⟩=some v) (c2:W.cell? ⟨gq,0,none⟩=some (.pointer (some ⟨gn,0,none⟩))) (hl:l<2*A.length) :
 Calls Tryz.prog 110 #[.int .i64 (l:Int),.pointer (some ⟨gv,0,none⟩),.pointer (some ⟨gq,0,none⟩)] W fun e W'=>e=.returned (.bool (alwB A lv l))/\Below W.heap.size W W':=by
 obtain ⟨g1,k1,f1,t1⟩:=h.to hl
 obtain ⟨g0,k0,f0,t0⟩:=h.from hl
 have d1:=h.s.c1
 have d0:=h.s.c0
 rw [f1] at d1
 rw [f0] at d0
 obtain ⟨M,hM⟩:∃ M,M=2*A.length:=⟨_,rfl⟩
 rw [<- hM] at d0 d1 hl
 have hlM:(l:Int)<(M:Int):=by omega
 have hb:=ln_lt h.nd (l:=l) (by rw [<- hM];exact hl)
 have hn60:=h.sm.1
 obtain ⟨a,c,rfl⟩:=hv.shape
 obtain ⟨b,o,rfl,e1,_⟩:=hv.int (lvl_at (v:=lnT A l) (by rw [hn];exact hb.2))
 obtain ⟨b',o',e,e2,_⟩:=hv.int (lvl_at (v:=lnF A l) (by rw [hn];exact hb.1))
 injection e with e
 injection e with e3 e4
 subst e3 e4
 rw [hn] at c1
 have h1:=hlo (lnT A l)
 have h2:=hlo (lnF A l)
 obtain ⟨x,hx⟩:∃ x,x=lvl lv (lnT A l):=⟨_,rfl⟩
 obtain ⟨y,hy⟩:∃ y,y=lvl lv (lnF A l):=⟨_,rfl⟩
 have HQ:=qh (show alwB A lv l=decide (x=y+1) by rw [hx,hy];rfl)
 rw [<- hx] at e1 h1
 rw [<- hy] at e2 h2
 obtain ⟨p,hp⟩:∃ p,p=lnT A l:=⟨_,rfl⟩
 obtain ⟨q,hq⟩:∃ q,q=lnF A l:=⟨_,rfl⟩
 rw [<- hp] at t1 e1 hb
 rw [<- hq] at t0 e2 hb
 have hp':(p:Int)<(n:Int):=by omega
 have hq':(q:Int)<(n:Int):=by omega
 have hy1:y+1<=1000:=by omega
 have hy0:-1000<=y+1:=by omega
 have hw:IntKind.i64.wrap (y+1)=y+1:=by rw [wrapI64];unfold wrap64;omega
 have HB:=qh (Below.refl W.heap.size W)
 clear h hv hM hl hx hy hp hq hlo f0 f1 hn hb
 go_enter Tryz.func110,Tryz.ntmps110
 go_upto_region 1 with fail
 go_quiet (fail)
 have HB2:=qh (zqj (uh HB) nq)
 go_wp2
 go_ret
 refine ⟨?_,uh HB2⟩
 rw [uh HQ]
 first | rfl | (congr 2;by_cases hxy:x=y+1 <;> simp [hxy])
theorem atEnd_any {gt t a:Nat} (W:World) (c:W.cell? ⟨gt,0,none⟩=some (.int .i64 (t:Int))) :
 Calls Tryz.prog 113 #[.int .i64 (a:Int),.pointer (some ⟨gt,0,none⟩)] W fun e W'=>e=.returned (.int .i64 (if a=t then 0 else -1))/\Below W.heap.size W W':=by
 by_cases hat:a=t
 ·subst hat
  rw [if_pos rfl]
  go_enter Tryz.func113,Tryz.ntmps113
  go_wp2
  go_ret
  exact ⟨rfl,Below.refl _ _⟩
 ·rw [if_neg hat]
  have hne:¬ ((a:Int)=(t:Int)):=by omega
  go_enter Tryz.func113,Tryz.ntmps113
  go_wp2
  go_ret
  exact ⟨rfl,Below.refl _ _⟩
def dnL (n:Nat) (dn:Nat->Nat):List Int:=(List.range n).map fun v=>(dn v:Int)
theorem dnL_len (n:Nat) (dn:Nat->Nat):(dnL n dn).length=n:=by simp [dnL]
theorem dnL_at {n v:Nat} (dn:Nat->Nat) (h:v<n):(dnL n dn)[v]? = some (dn v:Int):=by
 unfold dnL
 rw [List.getElem?_map,List.getElem?_range h]
 rfl
theorem dnL_set {n v k:Nat} (dn:Nat->Nat):(dnL n dn).set v (k:Int)=dnL n (upd dn v k):=by
 refine List.ext_getElem? fun j => ?_
 rw [List.getElem?_set]
 by_cases hj:j<n
 ·rw [dnL_at _ hj,dnL_at _ hj,dnL_len]
  by_cases e:v=j
  ·subst e;rw [if_pos rfl,if_pos hj,zqk]
  ·rw [if_neg e,zqi _ _ (fun h=>e h.symm)]
 ·rw [List.getElem?_eq_none (by rw [dnL_len];omega),List.getElem?_eq_none (by rw [dnL_len];omega),dnL_len]
  split
  ·rw [if_neg (by omega)]
  ·rfl
theorem dnL_zero (n:Nat):dnL n (fun _=>0)=List.replicate n 0:=by
 refine List.ext_getElem? fun j => ?_
 by_cases hj:j<n
 ·rw [dnL_at _ hj,List.getElem?_replicate,if_pos hj];rfl
 ·rw [List.getElem?_eq_none (by rw [dnL_len];omega),List.getElem?_eq_none (by simp;omega)]
section
variable {w:World}{K gn gl n:Nat}{A:List (Nat×Nat)}{F:Nat->Value}{X:Nat->List Int}{rv:Value}{rm:List Int}{W W':World}
theorem NtS.fresh (h:NtS w K gn gl n A F X rv rm W) (hb:Below W.heap.size W W') {k:Nat}{v:Value}{L:List Int} (hk:n+2<=k/\k<n+4) (ho:OwnR NoWord 1 JE 3 W' w.heap.size v L) (hn:∀ g,v.ownBlock=some g->W.heap.size<=g):NtS w K gn gl n A (upd F k v) (upd X k L) rv rm W':=by
 have h1:=h.s.later hb
 have e:∀ {β:Type} (f:Nat -> β) (u:β) (j:Nat),j<n+2->upd f k u j=f j:=fun f u j hj=>zqi _ _ (by omega)
 exact ⟨⟨h1.below,h.s.fam.fresh hk.2 hb ho hn,h1.room,by rw [e _ _ _ (by omega)];exact h1.c0,by rw [e _ _ _ (by omega)];exact h1.c1,h1.c2,h1.c3,fun j hj=>by rw [e _ _ _ (by omega)];exact h1.cl j hj,h1.bn,h1.bl,h1.gw⟩,
  by rw [e _ _ _ (by omega)];exact h.x0,by rw [e _ _ _ (by omega)];exact h.x1,fun v hv=>by rw [e _ _ _ (by omega)];exact h.xv v hv,h.rl,h.nd,h.sm⟩
end
def ZKeep (rv:Value) (Z W:World):Prop:=∀ (r:Nat) (c:Array Value) (t:TypeId) (f:Nat×Nat),Z.heap[r]? = some (.cells c t f)->((t=37/\rv.ownBlock≠some r)\/∃ (o:Nat) (u:Value),c[o]? = some u/\¬ NoWord u)->W.heap[r]? = some (.cells c t f)
theorem ZKeep.refl (rv:Value) (W:World):ZKeep rv W W:=fun _ _ _ _ h _=>h
theorem ZKeep.trans {rv:Value}{Z W W':World} (h:ZKeep rv Z W) (h':ZKeep rv W W'):ZKeep rv Z W':=fun r c t f hr hne=>h' r c t f (h r c t f hr hne) hne
theorem ZKeep.below {rv:Value}{W W':World} (hb:Below W.heap.size W W'):ZKeep rv W W':=fun r _ _ _ hr _=>(hb.block r (Array.getElem?_eq_some_iff.1 hr).1).trans hr
theorem ZKeep.chg {rv:Value}{e:TypeId}{W W':World} (hc:Chg NoWord e W W') (he:37≠e):ZKeep rv W W':=fun r c t f hr hk=>hc r c t f hr (hk.imp (fun h=>by rw [h.1];exact he) id)
structure WkS (w V Z:World) (K gn gl gw n:Nat) (A:List (Nat×Nat)) (F:Nat->Value) (X:Nat->List Int) (rv:Value) (rm:List Int) (al:Value) (dn:Nat->Nat) (p:List Nat) (W:World):Prop where
 nt:NtS w K gn gl n A F X rv rm W
 a0:W.cell? ⟨gw,0,none⟩=some (.pointer (some ⟨gn,0,none⟩))
 a1:W.cell? ⟨gw,1,none⟩=some al
 a2:W.cell? ⟨gw,2,none⟩=some (F (n+2))
 a3:W.cell? ⟨gw,3,none⟩=some (F (n+3))
 bw:Raw NoWord 250 W gw 4
 hw:V.heap.size<=gw
 xd:X (n+2)=dnL n dn
 xp:X (n+3)=p.map fun l:Nat=>(l:Int)
 fd:∀ g,(F (n+2)).ownBlock=some g->V.heap.size<=g
 fp:∀ g,(F (n+3)).ownBlock=some g->V.heap.size<=g
 vw:w.heap.size<=V.heap.size
 kept:∀ r,r<V.heap.size->rv.ownBlock≠some r->W.heap[r]? = V.heap[r]?
 kz:ZKeep rv Z W
section
variable {w V Z:World}{K gn gl gw n:Nat}{A:List (Nat×Nat)}{F:Nat->Value}{X:Nat->List Int}{rv:Value}{rm:List Int}{al:Value}{dn:Nat->Nat}{p:List Nat}{W W':World}
theorem WkS.later (h:WkS w V Z K gn gl gw n A F X rv rm al dn p W) (hb:Below W.heap.size W W') (hV:V.heap.size<=W.heap.size):WkS w V Z K gn gl gw n A F X rv rm al dn p W' :=
 ⟨h.nt.keep hb,ck hb h.a0,ck hb h.a1,ck hb h.a2,ck hb h.a3,h.bw.later hb,h.hw,h.xd,h.xp,h.fd,h.fp,h.vw,fun r hr hne=>(hb.block r (by omega)).trans (h.kept r hr hne),h.kz.trans (ZKeep.below hb)⟩
theorem WkS.base (h:WkS w V Z K gn gl gw n A F X rv rm al dn p W):WkS w V W K gn gl gw n A F X rv rm al dn p W:=⟨h.nt,h.a0,h.a1,h.a2,h.a3,h.bw,h.hw,h.xd,h.xp,h.fd,h.fp,h.vw,h.kept,ZKeep.refl _ _⟩
theorem WkS.since (h:WkS w V Z K gn gl gw n A F X rv rm al dn p W) {Z':World} (hz:ZKeep rv Z' Z):WkS w V Z' K gn gl gw n A F X rv rm al dn p W:=⟨h.nt,h.a0,h.a1,h.a2,h.a3,h.bw,h.hw,h.xd,h.xp,h.fd,h.fp,h.vw,h.kept,hz.trans h.kz⟩
end
theorem walkOf_any {K gn gl n:Nat}{A:List (Nat×Nat)}{F:Nat->Value}{X:Nat->List Int}{rv al:Value}{rm:List Int} (w W:World) (h:NtS w K gn gl n A F X rv rm W) (fn:Fn) (xs ys:Array Value) (ha:al=.func fn xs ys) :
 Calls Tryz.prog 109 #[.pointer (some ⟨gn,0,none⟩),al] W fun e W'=>∃ gw F' X',e=.returned (.pointer (some ⟨gw,0,none⟩))/\WkS w W W K gn gl gw n A F' X' rv rm al (fun _=>0) [] W':=by
 subst ha
 have c3:=h.s.c3
 have hn:=h.sm.1
 have HN:=qh h
 clear h
 go_enter Tryz.func109,Tryz.ntmps109
 go_wp2_with fail
 go_fit (repeat_any _ (show -1000<=(0:Int)/\(0:Int)<=1000 by omega) (show n<=1000 by omega))
 rintro e W1 ⟨⟨d,rfl,ho⟩,B1⟩
 obtain ⟨da,dc,rfl⟩:=ho.slice
 rw [List.length_replicate]
 rw [List.length_replicate] at ho
 have HO:=qh ho
 have HB:=qh B1
 clear c3 ho B1
 obtain ⟨q,hq⟩:∃ q,q=W1.heap.size:=⟨_,rfl⟩
 obtain ⟨V,hV⟩:∃ V,V=W1.alloc (.cells #[.pointer (some ⟨gn,0,none⟩),.func fn xs ys,.slice da n dc,.slice none 0 0] 250):=⟨_,rfl⟩
 have hc:∀ (j:Nat) (u:Value),[Value.pointer (some ⟨gn,0,none⟩),.func fn xs ys,.slice da n dc,.slice none 0 0][j]? = some u->V.cell? ⟨q,j,none⟩=some u:=fun j u hu=>by rw [hV,hq];exact new_at W1 _ _ j u hu
 have hr:Raw NoWord 250 V q 4:=by
  rw [hV,hq]
  refine ⟨_,heap_alloc_new W1 _,rfl,fun u hu => ?_⟩
  simp at hu
  rcases hu with rfl | rfl | rfl | rfl <;> (intro z e;cases e)
 have kn:Below W1.heap.size W1 V:=by rw [hV];exact zqa _ _
 have HW:=qh (show WkS w W W K gn gl q n A (upd (upd F (n+2) (.slice da n dc)) (n+3) (.slice none 0 0)) (upd (upd X (n+2) (List.replicate n 0)) (n+3) []) rv rm (.func fn xs ys) (fun _=>0) [] V from by
  have hbl:=(uh HN).s.below.size
  have hW1:=(uh HB).size
  have h1:=((uh HN).fresh (k:=n+2) (uh HB) ⟨by omega,by omega⟩ ((uh HO).rebase hbl) (fun g hg=>((uh HO).block hg).1)).fresh (k:=n+3) kn ⟨by omega,by omega⟩ (OwnR.nil NoWord 1 JE 3 V w.heap.size) (fun g hg=>by cases hg)
  have e2:∀ {β:Type} (f:Nat -> β) (a b:β),upd (upd f (n+2) a) (n+3) b (n+2)=a:=fun f a b=>by rw [zqi _ _ (by omega),zqk]
  exact ⟨h1,hc 0 _ rfl,hc 1 _ rfl,by rw [e2];exact hc 2 _ rfl,by rw [zqk];exact hc 3 _ rfl,hr,by omega,by rw [e2,dnL_zero],by rw [zqk];rfl,(fun g hg=>by rw [e2] at hg;exact ((uh HO).block hg).1),(fun g hg=>by rw [zqk] at hg;cases hg),hbl,fun r hr _=>(kn.block r (by omega)).trans ((uh HB).block r hr),(ZKeep.below (uh HB)).trans (ZKeep.below kn)⟩)
 clear hc hr kn
 go_upto_region 1 with fail
 go_wp2
 go_ret
 rw [<- hV,<- hq]
 exact ⟨q,_,_,rfl,uh HW⟩
theorem Fill.take {α:Type}{K:Value->Prop}{k:Nat}{E:World->List Value -> α -> Prop}{t:TypeId}{w:World}{g n:Nat}{L:List α} (h:Fill K k E t w g n L) (m:Nat):Fill K k E t w g n (L.take m):=by
 obtain ⟨cur,h1,h2,h3,h4,h5⟩:=h
 refine ⟨cur,h1,h2,h3,by rw [List.length_take];omega,fun i x hx=>h5 i x ?_⟩
 rw [List.getElem?_take] at hx
 split at hx
 ·exact hx
 ·cases hx
theorem Fam.cut {w:World}{b0 N:Nat}{F:Nat->Value}{X:Nat->List Int} (h:Fam w b0 N F X) {k m g cap:Nat} (hk:k<N) (hm:m<=(X k).length) (hv:F k=.slice (some ⟨g,0,none⟩) (X k).length cap) (hf:Fill NoWord 1 JE 3 w g cap (X k)) (hg:b0<=g) (hc:cap<=maxLen):Fam w b0 N (upd F k (.slice (some ⟨g,0,none⟩) m cap)) (upd X k ((X k).take m)):=by
 have ho:=OwnR.of_fill (hf.take m) hg hc
 rw [List.length_take,Nat.min_eq_left hm] at ho
 refine ⟨fun j hj => ?_,fun i j hi hj hij g' hgi => ?_⟩
 ·by_cases e:j=k
  ·subst e;rw [zqk,zqk];exact ho
  ·rw [zqi _ _ e,zqi _ _ e];exact h.own j hj
 ·have eb:∀ i,(upd F k (.slice (some ⟨g,0,none⟩) m cap) i).ownBlock=(F i).ownBlock:=fun i=>by
   by_cases e:i=k
   ·subst e;rw [zqk,hv];rfl
   ·rw [zqi _ _ e]
  rw [eb] at hgi ⊢
  exact h.apart i j hi hj hij g' hgi
section
variable {w:World}{K gn gl gw n:Nat}{A:List (Nat×Nat)}{F F':Nat->Value}{X X':Nat->List Int}{rv:Value}{rm:List Int}{W W':World}
theorem NtS.side (h:NtS w K gn gl n A F X rv rm W) (hr:Raw NoWord 250 W gw 4) (hw:w.heap.size<=gw) (o:Nat) {u:Value} (hu:NoWord u):NtS w K gn gl n A F X rv rm (W.setCell ⟨gw,o,none⟩ u):=by
 have hc:=(hr.store (o:=o) hu).2
 have hs:=h.s
 refine ⟨⟨hs.below.setCell (p:=⟨gw,o,none⟩) hw u,⟨fun k hk=>(hs.fam.own k hk).move (fun g hg => ?_) fun _ _ hx=>hx,hs.fam.apart⟩,hs.room.move (fun g hg => ?_) fun cs x hx=>zqs _ _ _ _ _ _ hx hc,
  hs.bn.same hc (by decide) hs.c0,hs.bn.same hc (by decide) hs.c1,hs.bn.same hc (by decide) hs.c2,hs.bn.same hc (by decide) hs.c3,fun j hj=>hs.bl.same hc (by decide) (hs.cl j hj),hs.bn.chg hc (by decide),hs.bl.chg hc (by decide),hs.gw⟩,h.x0,h.x1,h.xv,h.rl,h.nd,h.sm⟩
 ·obtain ⟨_,cur,hq⟩:=(hs.fam.own k hk).block hg
  rw [hq,hc g cur _ _ hq (Or.inl (by decide))]
 ·obtain ⟨_,cur,hq⟩:=hs.room.block hg
  rw [hq,hc g cur _ _ hq (Or.inl (by decide))]
theorem NtS.rows (h:NtS w K gn gl n A F X rv rm W) (hf:Fam W' w.heap.size (n+4) F' X') (hF:∀ j,j<n+2->F' j=F j/\X' j=X j) (hb:Below w.heap.size w W') (hc:Chg NoWord 3 W W'):NtS w K gn gl n A F' X' rv rm W':=by
 have hs:=h.s
 refine ⟨⟨hb,hf,hs.room.move (fun g hg => ?_) fun cs x hx=>zqs _ _ _ _ _ _ hx hc,
  by rw [(hF 0 (by omega)).1];exact hs.bn.same hc (by decide) hs.c0,by rw [(hF 1 (by omega)).1];exact hs.bn.same hc (by decide) hs.c1,hs.bn.same hc (by decide) hs.c2,hs.bn.same hc (by decide) hs.c3,fun j hj=>by rw [(hF (j+2) (by omega)).1];exact hs.bl.same hc (by decide) (hs.cl j hj),hs.bn.chg hc (by decide),hs.bl.chg hc (by decide),hs.gw⟩,
  by rw [(hF 0 (by omega)).2];exact h.x0,by rw [(hF 1 (by omega)).2];exact h.x1,fun v hv=>by rw [(hF (v+2) (by omega)).2];exact h.xv v hv,h.rl,h.nd,h.sm⟩
 obtain ⟨_,cur,hq⟩:=hs.room.block hg
 rw [hq,hc g cur _ _ hq (Or.inl (by decide))]
end
section
variable {w V Z:World}{K gn gl gw n:Nat}{A:List (Nat×Nat)}{F:Nat->Value}{X:Nat->List Int}{rv:Value}{rm:List Int}{al:Value}{dn:Nat->Nat}{p:List Nat}{W W':World}
theorem WkS.done (h:WkS w V Z K gn gl gw n A F X rv rm al dn p W) {v:Nat} (hv:v<n):∃ g cap,F (n+2)=.slice (some ⟨g,0,none⟩) n cap/\Fill NoWord 1 JE 3 W g cap (X (n+2))/\V.heap.size<=g/\cap<=maxLen/\W.cell? ⟨g,v,none⟩=some (.int .i64 (dn v:Int)):=by
 obtain ⟨g,cap,h1,h2,_,h4,h5,_⟩:=h.nt.s.fam.at (k:=n+2) (i:=v) (x:=(dn v:Int)) (by omega) (by rw [h.xd];exact dnL_at _ hv)
 rw [h.xd,dnL_len] at h1
 exact ⟨g,cap,h1,h2,h.fd g (by rw [h1];rfl),h4,h5⟩
theorem WkS.inc (h:WkS w V Z K gn gl gw n A F X rv rm al dn p W) {v g cap:Nat} (hv:v<n) (hF:F (n+2)=.slice (some ⟨g,0,none⟩) n cap) (hf:Fill NoWord 1 JE 3 W g cap (X (n+2))) (hg:V.heap.size<=g) (hc:cap<=maxLen) (hd:dn v<=1000) :
 WkS w V Z K gn gl gw n A F (upd X (n+2) (dnL n (upd dn v (dn v+1)))) rv rm al (upd dn v (dn v+1)) p (W.setCell ⟨g,v,none⟩ (.int .i64 ((dn v:Int)+1))):=by
 have hl:(X (n+2)).length=n:=by rw [h.xd,dnL_len]
 have hs:=h.nt.s
 have hch:=(hf.raw.store (o:=v) (v:=.int .i64 ((dn v:Int)+1)) (fun z e=>by cases e)).2
 have hfam:=hs.fam.set (k:=n+2) (i:=v) (x:=(dn v:Int)+1) (by omega) (by rw [hl];exact hv) (by rw [hl];exact hF) hf (by have:=h.vw;omega) hc (by omega)
 rw [show (X (n+2)).set v ((dn v:Int)+1)=dnL n (upd dn v (dn v+1)) by rw [h.xd,<- dnL_set];rfl] at hfam
 have he:=else1 (g:=g) W v (.int .i64 ((dn v:Int)+1))
 exact ⟨h.nt.rows hfam (fun j hj=>⟨rfl,zqi _ _ (by omega)⟩) (hs.below.setCell (p:=⟨g,v,none⟩) (by have:=h.vw;show w.heap.size<=g;omega) _) hch,
  h.bw.same hch (by decide) h.a0,h.bw.same hch (by decide) h.a1,h.bw.same hch (by decide) h.a2,h.bw.same hch (by decide) h.a3,h.bw.chg hch (by decide),h.hw,zqk _ _ _,by rw [zqi _ _ (by omega)];exact h.xp,h.fd,h.fp,h.vw,
  fun r hr hne=>(he r (by omega)).trans (h.kept r hr hne),h.kz.trans (ZKeep.chg hch (by decide))⟩
theorem WkS.path (h:WkS w V Z K gn gl gw n A F X rv rm al dn p W) {j l:Nat} (hl:p[j]? = some l):∃ g cap,F (n+3)=.slice (some ⟨g,0,none⟩) p.length cap/\Fill NoWord 1 JE 3 W g cap (X (n+3))/\V.heap.size<=g/\cap<=maxLen/\W.cell? ⟨g,j,none⟩=some (.int .i64 (l:Int)):=by
 obtain ⟨g,cap,h1,h2,_,h4,h5,_⟩:=h.nt.s.fam.at (k:=n+3) (i:=j) (x:=(l:Int)) (by omega) (by rw [h.xp,List.getElem?_map,hl];rfl)
 rw [h.xp,List.length_map] at h1
 exact ⟨g,cap,h1,h2,h.fp g (by rw [h1];rfl),h4,h5⟩
theorem WkS.cut (h:WkS w V Z K gn gl gw n A F X rv rm al dn p W) {m g cap:Nat} (hm:m<=p.length) (hF:F (n+3)=.slice (some ⟨g,0,none⟩) p.length cap) (hf:Fill NoWord 1 JE 3 W g cap (X (n+3))) (hg:V.heap.size<=g) (hc:cap<=maxLen) :
 WkS w V Z K gn gl gw n A (upd F (n+3) (.slice (some ⟨g,0,none⟩) m cap)) (upd X (n+3) ((X (n+3)).take m)) rv rm al dn (p.take m) (W.setCell ⟨gw,3,none⟩ (.slice (some ⟨g,0,none⟩) m cap)):=by
 have hl:(X (n+3)).length=p.length:=by rw [h.xp,List.length_map]
 have hs:=h.nt.s
 have hfam:=hs.fam.cut (k:=n+3) (m:=m) (by omega) (by rw [hl];exact hm) (by rw [hl];exact hF) hf (by have:=h.vw;omega) hc
 have hnt:=h.nt.rows hfam (fun j hj=>⟨zqi _ _ (by omega),zqi _ _ (by omega)⟩) hs.below (Chg.below (Below.refl W.heap.size W))
 have hst:=h.bw.store (o:=3) (v:=.slice (some ⟨g,0,none⟩) m cap) (fun z e=>by cases e)
 have he:=else1 (g:=gw) W 3 (.slice (some ⟨g,0,none⟩) m cap)
 exact ⟨hnt.side h.bw (by have:=h.vw;have:=h.hw;omega) 3 (fun z e=>by cases e),
  by rw [zqb _ _ _ _ _ _ (by omega)];exact h.a0,by rw [zqb _ _ _ _ _ _ (by omega)];exact h.a1,by rw [zqb _ _ _ _ _ _ (by omega),zqi _ _ (by omega)];exact h.a2,by rw [zqk];exact zqd h.a3,hst.1,h.hw,
  by rw [zqi _ _ (by omega)];exact h.xd,by rw [zqk,h.xp,List.map_take],fun g hg=>by rw [zqi _ _ (by omega)] at hg;exact h.fd g hg,(fun g' hg'=>by rw [zqk] at hg';exact h.fp g' (by rw [hF];exact hg')),h.vw,
  fun r hr hne=>(he r (by have:=h.hw;omega)).trans (h.kept r hr hne),h.kz.trans (ZKeep.chg hst.2 (by decide))⟩
end
theorem goBack_any {K gn gl gw n:Nat}{A:List (Nat×Nat)}{F:Nat->Value}{X:Nat->List Int}{rv al:Value}{rm:List Int}{dn:Nat->Nat}{p:List Nat} (w V Z W:World) (h:WkS w V Z K gn gl gw n A F X rv rm al dn p W) (hp:∀ l ∈ p,l<2*A.length) (hd:∀ v,dn v<=1000) (hpl:p.length<=1000) :
 Calls Tryz.prog 169 #[.pointer (some ⟨gw,0,none⟩)] W fun e W'=>(p=[]/\e=.returned (.bool false)/\WkS w V Z K gn gl gw n A F X rv rm al dn p W')\/∃ q l F' X',p=q++[l]/\e=.returned (.bool true)/\WkS w V Z K gn gl gw n A F' X' rv rm al (upd dn (lnF A l) (dn (lnF A l)+1)) q W':=by
 rcases List.eq_nil_or_concat p with rfl | ⟨q,l,rfl⟩
 ·obtain ⟨a,c,hF⟩:=(h.nt.s.fam.own (n+3) (by omega)).slice
  rw [h.xp] at hF
  have a3:=h.a3
  rw [hF] at a3
  simp only [List.map_nil,List.length_nil] at a3
  have HW:=qh h
  clear h hF
  go_enter Tryz.func169,Tryz.ntmps169
  go_wp2
  go_ret
  exact Or.inl ⟨by simp,rfl,uh HW⟩
 ·rw [List.concat_eq_append] at h hp hpl ⊢
  obtain ⟨m,hm⟩:∃ m,m=q.length:=⟨_,rfl⟩
  obtain ⟨lp,hlp⟩:∃ k,k=(q++[l]).length:=⟨_,rfl⟩
  have hlm:lp=m+1:=by rw [hlp,hm];simp
  obtain ⟨gp,cp,hF,hf,hgp,hcp,cl⟩:=h.path (j:=m) (l:=l) (by rw [hm];simp)
  have hcap:=hf.len
  rw [h.xp,List.length_map,<- hlp] at hcap
  rw [<- hlp] at hF hpl
  have hl:=hp l (by simp)
  obtain ⟨g0,k0,f0,t0⟩:=h.nt.from hl
  have d0:=h.nt.s.c0
  rw [f0] at d0
  obtain ⟨M,hM⟩:∃ M,M=2*A.length:=⟨_,rfl⟩
  rw [<- hM] at d0
  have hb:=(ln_lt h.nt.nd hl).1
  obtain ⟨gd,cd,hD,hfd,hgd,hcd,td⟩:=h.done hb
  have a0:=h.a0
  have a2:=h.a2
  have a3:=h.a3
  rw [hD] at a2
  rw [hF] at a3
  have hdv:=hd (lnF A l)
  have hVW:V.heap.size<=W.heap.size:=by have h1:=h.hw;have h2:=(h.bw.cell (o:=0) (by decide)).2.2;omega
  have HS:=qh ((h.later (Below.refl W.heap.size W).drew hVW).inc hb hD (hfd.later (JE.stays _ _) (Below.refl W.heap.size W).drew) hgd hcd hdv)
  obtain ⟨v,hv⟩:∃ v,v=lnF A l:=⟨_,rfl⟩
  obtain ⟨d,hdd⟩:∃ d,d=dn v:=⟨_,rfl⟩
  rw [<- hv] at t0 td hb hdv HS
  rw [<- hdd] at td hdv HS
  have fz:=hfd.free
  have flt:=hfd.lt
  have hlM:(l:Int)<(M:Int):=by omega
  have hvn:(v:Int)<(n:Int):=by omega
  have hmlp:(m:Int)<(lp:Int):=by omega
  have hz:¬ ((lp:Int)=0):=by omega
  have e1:(lp:Int) - 1=(m:Int):=by omega
  have hm1:(m:Int)<=1000:=by omega
  have hd1:(d:Int)+1<=1001:=by omega
  have ew:IntKind.i64.wrap ((d:Int)+1)=(d:Int)+1:=by rw [wrapI64];unfold wrap64;omega
  have HE:=qh (And.intro hm (And.intro hlp (And.intro hlm (And.intro hv hdd))))
  have HF:=qh hF
  have HC:=qh hcap
  clear h hf hgp hcp hcap hM hm hlp hlm hv hdd hF hD hfd hgd hcd f0 hp hd
  go_enter Tryz.func169,Tryz.ntmps169
  go_upto_region 4 with fail
  go_cut [] (fun wx=>Hid (WkS w V Z K gn gl gw n A F (upd X (n+2) (dnL n (upd dn v (d+1)))) rv rm al (upd dn v (d+1)) (q++[l]) wx))
  case first =>
   go_region
   all_goals
    go_wp2
    go_meet
    exact HS
  case rest =>
   clear a2 a3 a0 cl t0 td d0 fz flt HS
   obtain ⟨Z,rfl⟩:∃ X,X=wc:=⟨_,rfl⟩
   have h:=uh hcut
   obtain ⟨gp',cp',hF2,hf2,hgp2,hcp2,_⟩:=h.path (j:=m) (l:=l) (by rw [(uh HE).1];simp)
   have hF3:=hF2
   rw [uh HF] at hF3
   injection hF3 with h1 h2 h3
   injection h1 with h1
   injection h1 with h1
   clear h2
   subst h1 h3
   have a0:=h.a0
   have a3:=h.a3
   rw [uh HF] at a3
   obtain ⟨_,fz3,flt3⟩:=h.bw.cell (o:=3) (by decide)
   have hmc:(m:Int)<=(cp:Int):=by have:=uh HC;omega
   have HS2:=qh (h.cut (m:=m) (by rw [List.length_append,(uh HE).1];omega) hF2 hf2 hgp2 hcp2)
   have HTK:=qh (show (q++[l]).take m=q by rw [(uh HE).1];exact List.take_left' rfl)
   rw [uh HTK] at HS2
   clear h hF2 hf2 hgp2 hcp2 hcut
   go_wp2
   go_ret
   have h5:=uh HS2
   rw [(uh HE).2.2.2.2,(uh HE).2.2.2.1] at h5
   exact ⟨q,l,⟨rfl,rfl⟩,rfl,_,_,h5⟩
end Go.Proofs.YtkdobjmhammhbaaGreatDoor
