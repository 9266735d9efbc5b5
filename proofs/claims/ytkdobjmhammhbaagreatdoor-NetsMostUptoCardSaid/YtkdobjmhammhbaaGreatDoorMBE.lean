import Derived.Test.YtkdobjmhammhbaaGreatDoorMBA
namespace Go.Proofs.YtkdobjmhammhbaaGreatDoor
set_option maxHeartbeats 16000000
set_option maxRecDepth 100000
open Go.RowKit
theorem Asd.refl (rv:Value) (W:World):Asd rv W W:=⟨Nat.le_refl _,fun _ _ _=>rfl⟩
theorem Asd.chg {rv:Value}{W W':World}{K base:Nat}{rm:List Int} (h:Asd rv W W') (hr:OwnR NoWord 2 (ZE K) 37 W base rv rm):Chg NoWord 37 W W':=by
 intro b c t f hb hc
 rw [h.2 b (Array.getElem?_eq_some_iff.1 hb).1 fun hv => ?_]
 ·exact hb
 ·obtain ⟨_,cur,hcur⟩:=hr.block hv
  rw [hb] at hcur
  simp at hcur
  rcases hc with hc | ⟨o,u,hu,hk⟩
  ·exact hc hcur.2.1
  ·obtain ⟨xs,⟨h1,h3⟩,h2⟩:=hr
   exact hk (h3 b hv o u (by simp only [World.cell?,hb];simpa using hu))
section
variable {w V Z:World}{K gn gl gw n:Nat}{A:List (Nat×Nat)}{F:Nat->Value}{X:Nat->List Int}{rv:Value}{rm rm':List Int}{al:Value}{dn:Nat->Nat}{p:List Nat}{W W':World}
theorem WkS.moved (h:WkS w V Z K gn gl gw n A F X rv rm al dn p W) (hn:NjS w K gn gl n F F X rv rv rm' W') (ha:Asd rv W W') (hl:rm'.length=rm.length):WkS w V Z K gn gl gw n A F X rv rm' al dn p W':=by
 have hc:=ha.chg h.nt.s.room
 have hs:=h.nt
 have hab:=h.above
 exact ⟨⟨hn,hs.x0,hs.x1,hs.xv,by rw [hl];exact hs.rl,hs.nd,hs.sm⟩,h.bw.same hc (by decide) h.a0,h.bw.same hc (by decide) h.a1,h.bw.same hc (by decide) h.a2,h.bw.same hc (by decide) h.a3,h.bw.chg hc (by decide),h.hw,h.xd,h.xp,h.fd,h.fp,h.vw,
  fun r hr hne=>(ha.2 r (by omega) hne).trans (h.kept r hr hne),h.kz.trans fun r c t f hr hk=>hk.elim (fun hk=>(ha.2 r (Array.getElem?_eq_some_iff.1 hr).1 hk.2).trans hr) fun hk=>hc r c t f hr (Or.inr hk)⟩
theorem WkS.cells (h:WkS w V Z K gn gl gw n A F X rv rm al dn p W) (hp:p≠[]):∃ g cap,F (n+3)=.slice (some ⟨g,0,none⟩) p.length cap/\Fill NoWord 1 JE 3 W g cap (X (n+3))/\V.heap.size<=g/\cap<=maxLen/\p.length<=cap/\∀ (j l:Nat),p[j]? = some l->W.cell? ⟨g,j,none⟩=some (.int .i64 (l:Int)):=by
 obtain ⟨l0,p',rfl⟩:=List.exists_cons_of_ne_nil hp
 obtain ⟨g,cap,h1,h2,h3,h4,_⟩:=h.path (j:=0) (l:=l0) rfl
 refine ⟨g,cap,h1,h2,h3,h4,?_,fun j l hj => ?_⟩
 ·have h5:=h2.len
  rw [h.xp,List.length_map] at h5
  omega
 ·obtain ⟨g',cap',h1',_,_,_,h6⟩:=h.path hj
  rw [h1] at h1'
  simp at h1'
  rw [h1'.1]
  exact h6
end
theorem ZX.asd {K k base:Nat}{w w':World}{r:Nat}{x:Z4}{z:Int}{rv:Value}{rm:List Int} (h:ZX K w r x z) (ha:Asd rv w w') (hr:OwnR NoWord 2 (ZE k) 37 w base rv rm) (hne:rv.ownBlock≠some r):ZX K w' r x z:=by
 obtain ⟨a,b,c,d,hb⟩:=h.box
 have he:=ha.2 r (Array.getElem?_eq_some_iff.1 hb).1 hne
 have hcell:∀ o u,w.cell? ⟨r,o,none⟩=some u->w'.cell? ⟨r,o,none⟩=some u:=fun o u hu=>by
  simp only [World.cell?,he] at hu ⊢
  exact hu
 obtain ⟨x1,x2,x3,x4,e,hz⟩:=zqs K _ _ _ _ _ (show ZE K w [.int .i64 x.a,.slice x.b x.c x.d] z from ⟨_,_,_,_,rfl,h.z⟩) (ha.chg hr)
 simp at e
 obtain ⟨e1,e2,e3,e4⟩:=e
 subst e1 e2 e3 e4
 exact ⟨hcell 0 _ h.c0,hcell 1 _ h.c1,⟨a,b,c,d,he.trans hb⟩,hz⟩
theorem Wk.rooms {A:List (Nat×Nat)}{n s t b:Nat}{lv U rm:List Int}{dn:Nat->Nat}{p:List Nat}{d:Int} (h:Wk A n s t lv rm dn p b) (hr:Rm U rm) (hUA:U.length=A.length) (d0:0<=d) (hd:∀ l ∈ p,d<=rm.getD l 0) (j:Nat):Rm U (mvW rm (p.take j) d)/\∀ l ∈ p.take j,(mvW rm (p.take j) d).getD l 0=rm.getD l 0 - d:=by
 obtain ⟨c,h1,_⟩:=h.way.take j
 have hm:∀ l ∈ p.take j,l ∈ p:=fun l hl=>List.mem_of_mem_take hl
 exact Rm.way d0 hr (fun l hl=>⟨by rw [hUA];exact (h.opn l (hm l hl)).1,hd l (hm l hl)⟩) (alw_sep h1 fun l hl=>(h.opn l (hm l hl)).2.2)
section
variable {w V Z:World}{K gn gl gw n:Nat}{A:List (Nat×Nat)}{F:Nat->Value}{X:Nat->List Int}{rv:Value}{rm:List Int}{al:Value}{dn:Nat->Nat}{p:List Nat}{W:World}
theorem WkS.noBox (h:WkS w V Z K gn gl gw n A F X rv rm al dn p W) {r:Nat} (hb:Box W r):r≠gw:=by
 rintro rfl
 obtain ⟨b0,b1,b2,b3,hq⟩:=hb
 obtain ⟨cur,h1,_⟩:=h.bw
 rw [hq] at h1
 simp at h1
theorem WkS.asideN (h:WkS w V Z K gn gl gw n A F X rv rm al dn p W) {r:Nat} (hb:Box W r) (hne:rv.ownBlock≠some r) (hV:V.heap.size<=r) (x:Int) (a:Option Addr) (m c:Nat):WkS w V ((W.setCell ⟨r,0,none⟩ (.int .i64 x)).setCell ⟨r,1,none⟩ (.slice a m c)) K gn gl gw n A F X rv rm al dn p ((W.setCell ⟨r,0,none⟩ (.int .i64 x)).setCell ⟨r,1,none⟩ (.slice a m c)):=by
 have he:=else2 (g:=r) W 0 (.int .i64 x) (.slice a m c)
 obtain ⟨b0,b1,b2,b3,hq⟩:=hb
 have hc:Chg NoWord 37 W ((W.setCell ⟨r,0,none⟩ (.int .i64 x)).setCell ⟨r,1,none⟩ (.slice a m c)):=he.chg hq fun u hu=>kd_z b0 b1 b2 b3 u (by simpa using hu)
 have hs:=h.nt.s
 have hw:=h.vw
 refine ⟨⟨⟨(hs.below.setCell (p:=⟨r,0,none⟩) (by show w.heap.size<=r;omega) _).setCell (p:=⟨r,1,none⟩) (by show w.heap.size<=r;omega) _,hs.fam.elsewhere he hq (by decide),hs.room.move (fun g hg=>he g fun e=>hne (by rw [hg,e])) fun cs x hx=>zqs _ _ _ _ _ _ hx hc,
  hs.bn.same hc (by decide) hs.c0,hs.bn.same hc (by decide) hs.c1,hs.bn.same hc (by decide) hs.c2,hs.bn.same hc (by decide) hs.c3,fun j hj=>hs.bl.same hc (by decide) (hs.cl j hj),hs.bn.chg hc (by decide),hs.bl.chg hc (by decide),hs.gw⟩,h.nt.x0,h.nt.x1,h.nt.xv,h.nt.rl,h.nt.nd,h.nt.sm⟩,
  h.bw.same hc (by decide) h.a0,h.bw.same hc (by decide) h.a1,h.bw.same hc (by decide) h.a2,h.bw.same hc (by decide) h.a3,h.bw.chg hc (by decide),h.hw,h.xd,h.xp,h.fd,h.fp,h.vw,
  fun g hg hn=>(he g (by omega)).trans (h.kept g hg hn),ZKeep.refl _ _⟩
theorem WkS.aside (h:WkS w V Z K gn gl gw n A F X rv rm al dn p W) {r:Nat} (hb:Box W r) (hne:rv.ownBlock≠some r) (hV:V.heap.size<=r) (hZ:Z.heap.size<=r) (x:Int) (a:Option Addr) (m c:Nat):WkS w V Z K gn gl gw n A F X rv rm al dn p ((W.setCell ⟨r,0,none⟩ (.int .i64 x)).setCell ⟨r,1,none⟩ (.slice a m c)) :=
 (h.asideN hb hne hV x a m c).since fun g e t f hg hn=>(else2 (g:=r) W 0 (.int .i64 x) (.slice a m c) g (by have:=(Array.getElem?_eq_some_iff.1 hg).1;omega)).trans (h.kz g e t f hg hn)
end
theorem Box.asd {rv:Value}{W W':World}{r:Nat} (h:Box W r) (ha:Asd rv W W') (hne:rv.ownBlock≠some r):Box W' r:=by
 obtain ⟨a,b,c,d,hb⟩:=h
 exact ⟨a,b,c,d,(ha.2 r (Array.getElem?_eq_some_iff.1 hb).1 hne).trans hb⟩
theorem Zr.stay {K:Nat}{rv v:Value}{Z W:World}{z:Int} (h:Zr K Z v z) (hk:ZKeep rv Z W):Zr K W v z:=by
 rcases h with h | ⟨s,b,off,cap,l,h1,h2,h3,h4,h5,h6,h7,h8,h9,h10,h11⟩
 ·exact Or.inl h
 ·refine Or.inr ⟨s,b,off,cap,l,h1,h2,h3,h4,h5,h6,h7,h8,h9,fun k hl => ?_,h11⟩
  obtain ⟨c,t,f,q1,q2,q3⟩:=cell_block (h10 k hl)
  exact zku (hk b c t f q1 (Or.inr ⟨_,_,q3,nww _⟩)) q3
theorem Box.stay {rv:Value}{Z W:World}{r:Nat} (h:Box Z r) (hk:ZKeep rv Z W) (hne:rv.ownBlock≠some r):Box W r:=by
 obtain ⟨a,b,c,d,hb⟩:=h
 exact ⟨a,b,c,d,hk r _ _ _ hb (Or.inl ⟨rfl,hne⟩)⟩
theorem ZX.stay {K:Nat}{rv:Value}{Z W:World}{r:Nat}{x:Z4}{z:Int} (h:ZX K Z r x z) (hk:ZKeep rv Z W) (hne:rv.ownBlock≠some r):ZX K W r x z:=by
 obtain ⟨a,b,c,d,hb⟩:=h.box
 have he:=hk r _ _ _ hb (Or.inl ⟨rfl,hne⟩)
 have hcell:∀ o u,Z.cell? ⟨r,o,none⟩=some u->W.cell? ⟨r,o,none⟩=some u:=fun o u hu=>by
  simp only [World.cell?,hb] at hu
  simp only [World.cell?,he]
  exact hu
 exact ⟨hcell 0 _ h.c0,hcell 1 _ h.c1,⟨a,b,c,d,he⟩,h.z.stay hk⟩
theorem Asd.cell {rv:Value}{W W':World}{g o:Nat}{u:Value} (ha:Asd rv W W') (hne:rv.ownBlock≠some g) (hc:W.cell? ⟨g,o,none⟩=some u):W'.cell? ⟨g,o,none⟩=some u:=by
 have h1:=ha.2 g (World.block_lt_of_cell? W _ hc) hne
 simp only [World.cell?,h1] at hc ⊢
 exact hc
structure MnG (K:Nat) (V:World) (gw gn gr M cr gp m cp q:Nat) (rm:List Int) (p:List Nat) (L:Nat->Bool) (vals:Nat->Value) (w:World):Prop where
 b:Below V.heap.size V w
 f0:L 0=true->vals 0=.pointer (some ⟨gw,0,none⟩)
 f1:L 1=true->vals 1=.pointer (some ⟨gw,0,none⟩)
 f2:L 2=true->vals 2=.pointer (some ⟨gw,0,none⟩)
 f3:L 3=true->vals 3=.pointer (some ⟨gn,0,none⟩)
 f4:L 4=true->vals 4=.pointer (some ⟨gn,0,none⟩)
 f5:L 5=true->vals 5=.pointer (some ⟨gn,2,none⟩)
 f6:L 6=true->vals 6=.slice (some ⟨gr,0,none⟩) M cr
 f7:L 7=true->vals 7=.slice (some ⟨gp,0,none⟩) m cp
 f8:L 8=true->vals 8=.func (.func 199) #[] #[.pointer (some ⟨q,0,none⟩)]
 f9:L 9=true->∃ l:Nat,vals 9=.int .i64 (l:Int)/\Hid (l ∈ p/\∀ x ∈ p,rm.getD l 0<=rm.getD x 0)
 f10:L 10=true->∃ l:Nat,vals 10=.pointer (some ⟨gr,l*2,none⟩)/\Hid (l ∈ p/\∀ x ∈ p,rm.getD l 0<=rm.getD x 0)
 f11:L 11=true->∃ (l:Nat) (y:Z4),vals 11=vz y/\Hid (l ∈ p/\∀ x ∈ p,rm.getD l 0<=rm.getD x 0)/\Hid (Zr (K+1) w (vz y) (rm.getD l 0))
 f12:L 12=true->∃ g,vals 12=.pointer (some ⟨g,0,none⟩)/\V.heap.size<=g/\Box w g
 f13:L 13=true->L 12=true/\∃ (g l:Nat) (y:Z4),vals 12=.pointer (some ⟨g,0,none⟩)/\V.heap.size<=g/\Hid (l ∈ p/\∀ x ∈ p,rm.getD l 0<=rm.getD x 0)/\Hid (ZX (K+1) w g y (rm.getD l 0))
theorem MnG.later {K:Nat}{V:World}{gw gn gr M cr gp m cp q:Nat}{rm:List Int}{p:List Nat}{L:Nat->Bool}{vals:Nat->Value}{w w':World} (h:MnG K V gw gn gr M cr gp m cp q rm p L vals w) (hb:Below w.heap.size w w'):MnG K V gw gn gr M cr gp m cp q rm p L vals w' :=
 ⟨bk hb h.b,h.f0,h.f1,h.f2,h.f3,h.f4,h.f5,h.f6,h.f7,h.f8,h.f9,h.f10,fun e=>by obtain ⟨l,y,e,h1,h2⟩:=h.f11 e;exact ⟨l,y,e,h1,qh ((uh h2).later hb)⟩,fun e=>by obtain ⟨g,e,h1,h2⟩:=h.f12 e;exact ⟨g,e,h1,h2.later hb⟩,fun e=>by obtain ⟨h1,g,l,y,e,h2,h3,h4⟩:=h.f13 e;exact ⟨h1,g,l,y,e,h2,h3,qh ((uh h4).keep hb)⟩⟩
theorem fillWay_any {K N gn gl gw n s t b:Nat}{T B:Int}{A:List (Nat×Nat)}{U lv:List Int}{F:Nat->Value}{X:Nat->List Int}{rv al:Value}{rm:List Int}{dn:Nat->Nat}{p:List Nat} (w V Z W:World) (hBg:Big K N T) (h:WkS w V Z K gn gl gw n A F X rv rm al dn p W) (hr:Rm U rm) (hUA:U.length=A.length) (hU:∀ u ∈ U,0<=u) (hk:Wk A n s t lv rm dn p b) (hp:p≠[]) (hB:U.sum<=B) (hT:2*B<T) (hpl:p.length<=1000) :
 Calls Tryz.prog 167 #[.pointer (some ⟨gw,0,none⟩),.int .i64 0] W fun e W'=>∃ (y:Z4) (d:Int) (F':Nat->Value) (X':Nat->List Int) (k c:Nat),e=.returned (vz y)/\Zr (K+1) W' (vz y) d/\0<d/\k<p.length/\Rm U (mvW rm p d)/\WkS w V Z K gn gl gw n A F' X' rv (mvW rm p d) al dn (p.take k) W'/\Wk A n s t lv (mvW rm p d) dn (p.take k) c:=by
 have HKZ:=qh h.kz
 have h:=h.base
 obtain ⟨gp,cp,hF,hf,hgp,hcp,hlc,cl⟩:=h.cells hp
 obtain ⟨m,hm⟩:∃ m,m=p.length:=⟨_,rfl⟩
 have hm0:0<m:=by rw [hm];exact List.length_pos_iff.2 hp
 have hlc':(m:Int)<=(cp:Int):=by omega
 have hcp0:¬ cp=0:=by omega
 have hcp1:(0:Int)<=(cp:Int):=by omega
 obtain ⟨q,hq⟩:∃ q,q=W.heap.size:=⟨_,rfl⟩
 have HW0:=qh h
 obtain ⟨V2,hV2⟩:∃ V,V=(W.alloc (.cells #[.pointer (some ⟨gw,0,none⟩)] 185)).alloc (.cells #[.int .i64 0,.slice none 0 0] 37):=⟨_,rfl⟩
 have k1:=zqa W (.cells #[.pointer (some ⟨gw,0,none⟩)] 185)
 have k2:=zqa (W.alloc (.cells #[.pointer (some ⟨gw,0,none⟩)] 185)) (.cells #[.int .i64 0,.slice none 0 0] 37)
 have k3:=bk k2 k1
 have cq:V2.cell? ⟨q,0,none⟩=some (.pointer (some ⟨gw,0,none⟩)):=by
  rw [hV2,hq]
  exact ck k2 (new_at W _ _ 0 _ rfl)
 have HBX:=qh (show Box V2 (q+1)/\W.heap.size=q/\q+1<V2.heap.size/\Below W.heap.size W V2 from by
  rw [hV2,hq]
  refine ⟨?_,rfl,by simp,k3⟩
  have h1:=zqy (W.alloc (.cells #[.pointer (some ⟨gw,0,none⟩)] 185))
  simpa using h1)
 rw [<- hV2] at k3
 have h:=h.later k3 h.above
 have cl:∀ (j l:Nat),p[j]? = some l->V2.cell? ⟨gp,j,none⟩=some (.int .i64 (l:Int)):=fun j l hj=>ck k3 (cl j l hj)
 have a0:=h.a0
 have a3:=h.a3
 have c2:=h.nt.s.c2
 rw [hF,<- hm] at a3
 have HS:=qh h
 have HP:=qh (And.intro hp (And.intro hm (And.intro hpl hlc)))
 have HC:=qh cl
 have HFF:=qh hF
 have HK:=qh hk
 have HR:=qh (And.intro hBg (And.intro hr (And.intro hUA (And.intro hU (And.intro hB hT)))))
 obtain ⟨l0,hl0⟩:∃ l0,l0 ∈ p:=List.exists_mem_of_ne_nil p hp
 obtain ⟨gr,cr,_,hv,hfr,_,_,_,_,_⟩:=h.nt.s.line (l:=l0) (by rw [h.nt.rl];exact (hk.opn l0 hl0).1)
 rw [h.nt.rl] at hv
 obtain ⟨M,hM⟩:∃ M,M=2*A.length:=⟨_,rfl⟩
 rw [<- hM] at hv
 rw [hv] at c2
 have HROW:=qh (show ∀ l:Nat,l<M->∃ y:Z4,V2.cell? ⟨gr,l*2,none⟩=some (.int .i64 y.a)/\V2.cell? ⟨gr,l*2+1,none⟩=some (.slice y.b y.c y.d)/\Zr (K+1) V2 (vz y) (rm.getD l 0) from fun l hl=>by
  obtain ⟨gr',cr',y,hv',_,_,_,y0,y1,hy⟩:=h.nt.s.line (l:=l) (by rw [h.nt.rl,<- hM];exact hl)
  rw [hv] at hv'
  simp at hv'
  rw [hv'.1]
  exact ⟨y,y0,y1,hy⟩)
 have HPM:=qh (show ∀ l ∈ p,l<M from fun l hl=>by rw [hM];exact (hk.opn l hl).1)
 have HMIN:=qh (fun y:Abv V2=>minL_any (g:=199) (lb:=#[.pointer (some ⟨q,0,none⟩)]) (M:=M) (f:=fun l=>rm.getD l 0) (gp:=gp) (cap:=cp) y.val eg_less (fun j l hj=>ck y.property (cl j l hj)) hp hpl hlc (uh HPM) (fun W1 a b hb ha hb'=>lessRoom_any w V W W1 hBg (h.later (bk hb y.property) h.above) (ck (bk hb y.property) cq) (by rw [<- hM];exact ha) (by rw [<- hM];exact hb')))
 rw [<- hm] at HMIN
 have HMIN:=qh (fun y:Abv V2=>(uh HMIN y).mono (fun (e:Ending) (W':World) (hh:(∃ l:Nat,e=.returned (.int .i64 (l:Int))/\l ∈ p/\∀ x ∈ p,rm.getD l 0<=rm.getD x 0)/\Below y.val.heap.size y.val W')=>(show ∃ l:Nat,e=.returned (.int .i64 (l:Int))/\Hid (l ∈ p/\∀ x ∈ p,rm.getD l 0<=rm.getD x 0)/\Below y.val.heap.size y.val W' from by obtain ⟨⟨l,h1,h2,h3⟩,hb⟩:=hh;exact ⟨l,h1,qh ⟨h2,h3⟩,hb⟩)))
 have HV:=qh hv
 have HM:=qh hM
 have HQR:=qh (show rv.ownBlock=some gr/\gr<q/\V.heap.size<=q from by
  have h1:rv.ownBlock=some gr:=by rw [hv];rfl
  obtain ⟨_,cur,hcur⟩:=(uh HW0).nt.s.room.block h1
  exact ⟨h1,by rw [hq];exact (Array.getElem?_eq_some_iff.1 hcur).1,by rw [hq];exact (uh HW0).above⟩)
 have HCC:=qh (And.intro cq (And.intro a0 c2))
 clear h hF hf hgp hcp hlc cl hp hpl hk hBg hr hUA hU hB hT hm k1 k2 k3 hl0 hv hfr hM a0 c2
 go_enter Tryz.func167,Tryz.ntmps167
 go_upto_region 1 with fail
 rw [<- hV2,<- hq]
 clear hV2 hq
 go_upto_region 2 with fail
 clear cq a3
 go_cut [6] (fun v6 wx=>∃ (q6 l:Nat) (y:Z4),v6=.pointer (some ⟨q6,0,none⟩)/\V2.heap.size<=q6/\Hid (ZX (K+1) wx q6 y (rm.getD l 0))/\Hid (l ∈ p/\∀ x ∈ p,rm.getD l 0<=rm.getD x 0)/\Hid (Below V2.heap.size V2 wx))
 case first =>
  refine zkk (by kernel_rfl) (by kernel_rfl) (by kernel_rfl) (MnG K V2 gw gn gr M cr gp m cp q rm p) (fun vals=>⟨(Below.refl _ _).drew,(fun h=>by cases h),(fun h=>by cases h),(fun h=>by cases h),(fun h=>by cases h),(fun h=>by cases h),(fun h=>by cases h),(fun h=>by cases h),(fun h=>by cases h),(fun h=>by cases h),(fun h=>by cases h),(fun h=>by cases h),(fun h=>by cases h),(fun h=>by cases h),(fun h=>by cases h)⟩) ?_ ?_
  ·intro L vals w1 i' o' hG hL ho hdep
   have hi':i'<14:=(Array.getElem?_eq_some_iff.1 ho).1
   rcases (by omega:i'=0\/i'=1\/i'=2\/i'=3\/i'=4\/i'=5\/i'=6\/i'=7\/i'=8\/i'=9\/i'=10\/i'=11\/i'=12\/i'=13) with rfl | rfl | rfl | rfl | rfl | rfl | rfl | rfl | rfl | rfl | rfl | rfl | rfl | rfl
   ·obtain rfl:=Option.some.inj ho
    have z0:=ck hG.b (uh HCC).1
    refine wpOp_step rfl (fun K hK' => ?_)
    simp only [frs]
    go_simp
    exact hK' _ _ ⟨.pointer (some ⟨gw,0,none⟩),(by show _=Act.put _ (some 16) _;simp only [frs]),⟨hG.b,(fun _=>rfl),hG.f1,hG.f2,hG.f3,hG.f4,hG.f5,hG.f6,hG.f7,hG.f8,hG.f9,hG.f10,hG.f11,hG.f12,hG.f13⟩⟩
   ·obtain rfl:=Option.some.inj ho
    have e0:=hG.f0 (hdep ⟨0,.data⟩ (by simp) rfl)
    refine wpOp_step rfl (fun K hK' => ?_)
    simp only [frs]
    rw [e0]
    go_simp
    exact hK' _ _ ⟨.pointer (some ⟨gw,0,none⟩),(by show _=Act.put _ (some 17) _;simp only [frs,e0]),⟨hG.b,hG.f0,(fun _=>rfl),hG.f2,hG.f3,hG.f4,hG.f5,hG.f6,hG.f7,hG.f8,hG.f9,hG.f10,hG.f11,hG.f12,hG.f13⟩⟩
   ·obtain rfl:=Option.some.inj ho
    have e1:=hG.f1 (hdep ⟨1,.data⟩ (by simp) rfl)
    refine wpOp_step rfl (fun K hK' => ?_)
    simp only [frs]
    rw [e1]
    go_simp
    exact hK' _ _ ⟨.pointer (some ⟨gw,0,none⟩),(by show _=Act.put _ (some 18) _;simp only [frs,e1]),⟨hG.b,hG.f0,hG.f1,(fun _=>rfl),hG.f3,hG.f4,hG.f5,hG.f6,hG.f7,hG.f8,hG.f9,hG.f10,hG.f11,hG.f12,hG.f13⟩⟩
   ·obtain rfl:=Option.some.inj ho
    have e2:=hG.f2 (hdep ⟨2,.data⟩ (by simp) rfl)
    have z0:=ck hG.b (uh HCC).2.1
    refine wpOp_step rfl (fun K hK' => ?_)
    simp only [frs]
    rw [e2]
    go_simp
    exact hK' _ _ ⟨.pointer (some ⟨gn,0,none⟩),(by show _=Act.put _ (some 19) _;simp only [frs,e2]),⟨hG.b,hG.f0,hG.f1,hG.f2,(fun _=>rfl),hG.f4,hG.f5,hG.f6,hG.f7,hG.f8,hG.f9,hG.f10,hG.f11,hG.f12,hG.f13⟩⟩
   ·obtain rfl:=Option.some.inj ho
    have e3:=hG.f3 (hdep ⟨3,.data⟩ (by simp) rfl)
    refine wpOp_step rfl (fun K hK' => ?_)
    simp only [frs]
    rw [e3]
    go_simp
    exact hK' _ _ ⟨.pointer (some ⟨gn,0,none⟩),(by show _=Act.put _ (some 20) _;simp only [frs,e3]),⟨hG.b,hG.f0,hG.f1,hG.f2,hG.f3,(fun _=>rfl),hG.f5,hG.f6,hG.f7,hG.f8,hG.f9,hG.f10,hG.f11,hG.f12,hG.f13⟩⟩
   ·obtain rfl:=Option.some.inj ho
    have e4:=hG.f4 (hdep ⟨4,.data⟩ (by simp) rfl)
    refine wpOp_step rfl (fun K hK' => ?_)
    simp only [frs]
    rw [e4]
    go_simp
    exact hK' _ _ ⟨.pointer (some ⟨gn,2,none⟩),(by show _=Act.put _ (some 21) _;simp only [frs,e4]),⟨hG.b,hG.f0,hG.f1,hG.f2,hG.f3,hG.f4,(fun _=>rfl),hG.f6,hG.f7,hG.f8,hG.f9,hG.f10,hG.f11,hG.f12,hG.f13⟩⟩
   ·obtain rfl:=Option.some.inj ho
    have e5:=hG.f5 (hdep ⟨5,.data⟩ (by simp) rfl)
    have z0:=ck hG.b (uh HCC).2.2
    refine wpOp_step rfl (fun K hK' => ?_)
    simp only [frs]
    rw [e5]
    go_simp
    exact hK' _ _ ⟨.slice (some ⟨gr,0,none⟩) M cr,(by show _=Act.put _ (some 22) _;simp only [frs,e5]),⟨hG.b,hG.f0,hG.f1,hG.f2,hG.f3,hG.f4,hG.f5,(fun _=>rfl),hG.f7,hG.f8,hG.f9,hG.f10,hG.f11,hG.f12,hG.f13⟩⟩
   ·obtain rfl:=Option.some.inj ho
    refine wpOp_step rfl (fun K hK' => ?_)
    simp only [frs]
    go_simp
    exact hK' _ _ ⟨.slice (some ⟨gp,0,none⟩) m cp,(by show _=Act.put _ (some 23) _;simp only [frs]),⟨hG.b,hG.f0,hG.f1,hG.f2,hG.f3,hG.f4,hG.f5,hG.f6,(fun _=>rfl),hG.f8,hG.f9,hG.f10,hG.f11,hG.f12,hG.f13⟩⟩
   ·obtain rfl:=Option.some.inj ho
    refine wpOp_step rfl (fun K hK' => ?_)
    simp only [frs]
    go_simp
    exact hK' _ _ ⟨.func (.func 199) #[] #[.pointer (some ⟨q,0,none⟩)],(by show _=Act.put _ (some 24) _;simp only [frs]),⟨hG.b,hG.f0,hG.f1,hG.f2,hG.f3,hG.f4,hG.f5,hG.f6,hG.f7,(fun _=>rfl),hG.f9,hG.f10,hG.f11,hG.f12,hG.f13⟩⟩
   ·obtain rfl:=Option.some.inj ho
    have e7:=hG.f7 (hdep ⟨7,.data⟩ (by simp) rfl)
    have e8:=hG.f8 (hdep ⟨8,.data⟩ (by simp) rfl)
    have HQ:=qh (uh HMIN ⟨w1,hG.b⟩)
    refine wpOp_step rfl (fun K hK' => ?_)
    simp only [frs]
    rw [e7,e8]
    go_simp
    go_fit (uh HQ)
    rintro e9 Y ⟨l,rfl,HLL,hb⟩
    have hG:=hG.later hb
    exact hK' _ _ ⟨.int .i64 (l:Int),(by show _=Act.put _ (some 25) _;simp only [frs,e7,e8]),⟨hG.b,hG.f0,hG.f1,hG.f2,hG.f3,hG.f4,hG.f5,hG.f6,hG.f7,hG.f8,(fun _=>⟨l,rfl,HLL⟩),hG.f10,hG.f11,hG.f12,hG.f13⟩⟩
   ·obtain rfl:=Option.some.inj ho
    have e6:=hG.f6 (hdep ⟨6,.data⟩ (by simp) rfl)
    obtain ⟨l,e9,HLL⟩:=hG.f9 (hdep ⟨9,.data⟩ (by simp) rfl)
    have hlM:(l:Int)<(M:Int):=by have:=uh HPM l (uh HLL).1;omega
    refine wpOp_step rfl (fun K hK' => ?_)
    simp only [frs]
    rw [e6,e9]
    go_simp
    exact hK' _ _ ⟨.pointer (some ⟨gr,l*2,none⟩),(by show _=Act.put _ (some 26) _;simp only [frs,e6,e9]),⟨hG.b,hG.f0,hG.f1,hG.f2,hG.f3,hG.f4,hG.f5,hG.f6,hG.f7,hG.f8,hG.f9,(fun _=>⟨l,rfl,HLL⟩),hG.f11,hG.f12,hG.f13⟩⟩
   ·obtain rfl:=Option.some.inj ho
    obtain ⟨l,e10,HLL⟩:=hG.f10 (hdep ⟨10,.data⟩ (by simp) rfl)
    obtain ⟨y,y0,y1,hy⟩:=uh HROW l (uh HPM l (uh HLL).1)
    have y0:=ck hG.b y0
    have y1:=ck hG.b y1
    have HY:=qh (hy.later hG.b)
    refine wpOp_step rfl (fun K hK' => ?_)
    simp only [frs]
    rw [e10]
    go_simp
    exact hK' _ _ ⟨vz y,(by show _=Act.put _ (some 27) _;simp only [frs,e10]),⟨hG.b,hG.f0,hG.f1,hG.f2,hG.f3,hG.f4,hG.f5,hG.f6,hG.f7,hG.f8,hG.f9,hG.f10,(fun _=>⟨l,y,rfl,HLL,HY⟩),hG.f12,hG.f13⟩⟩
   ·obtain rfl:=Option.some.inj ho
    refine wpOp_step rfl (fun K hK' => ?_)
    simp only [frs]
    go_simp
    have hN:=hG.later (zqa w1 (.cells #[.int .i64 0,.slice none 0 0] 37))
    exact hK' _ _ ⟨_,(by show _=Act.put _ (some 6) _;simp only [frs]),⟨hN.b,hN.f0,hN.f1,hN.f2,hN.f3,hN.f4,hN.f5,hN.f6,hN.f7,hN.f8,hN.f9,hN.f10,hN.f11,(fun _=>⟨_,rfl,hG.b.size,zqy _⟩),(fun h=>absurd (hG.f13 h).1 (by rw [hL];decide))⟩⟩
   ·obtain rfl:=Option.some.inj ho
    have l12:=(hdep ⟨12,.data⟩ (by simp) rfl)
    obtain ⟨g,eg,hg,hx⟩:=hG.f12 l12
    obtain ⟨l,y,e11,HLL,HY⟩:=hG.f11 (hdep ⟨11,.data⟩ (by simp) rfl)
    obtain ⟨⟨w0,c0⟩,⟨w2,w3,w4,c1⟩,gf⟩:=hx.cells
    have hlt:=zko hx
    refine wpOp_step rfl (fun K hK' => ?_)
    simp only [frs]
    rw [eg,e11]
    go_simp
    exact hK' _ _ ⟨undef,(by show _=Act.put _ (none) _;simp only [frs,eg,e11]),⟨(zqc hG.b hg _ _),hG.f0,hG.f1,hG.f2,hG.f3,hG.f4,hG.f5,hG.f6,hG.f7,hG.f8,hG.f9,hG.f10,(fun h=>by obtain ⟨l,y,e,h1,h2⟩:=hG.f11 h;exact ⟨l,y,e,h1,qh ((uh h2).stored hx _ _)⟩),(fun _=>⟨g,eg,hg,hx.stored' _ _ _ _⟩),(fun _=>⟨l12,g,l,y,eg,hg,HLL,qh (ZX.put hx (uh HY))⟩)⟩⟩
  ·intro L vals w1 hG hall
   obtain ⟨_,g,l,y,eg,hg,HLL,HZX⟩:=hG.f13 (hall 13 (by decide))
   have HB:=qh hG.b
   clear hG hall
   simp only [frs]
   rw [eg]
   clear eg
   go_wp2
   go_meet
   exact ⟨g,l,y,rfl,hg,HZX,HLL,HB⟩
 case rest =>
  obtain ⟨q6,l,y,rfl,hq6,HZX,HLL,HB⟩:=hcut
  clear HMIN HROW
  obtain ⟨Z,rfl⟩:∃ X,X=wc:=⟨_,rfl⟩
  have hpos:0<rm.getD l 0:=((uh HK).opn l (uh HLL).1).2.1
  have hle:∀ x ∈ p,rm.getD l 0<=rm.getD x 0:=(uh HLL).2
  have hmax:rm.getD l 0<=B:=Int.le_trans ((uh HR).2.1.le (uh HR).2.2.2.1 l) (uh HR).2.2.2.2.1
  obtain ⟨d,hd⟩:∃ d,d=rm.getD l 0:=⟨_,rfl⟩
  rw [<- hd] at HZX hpos hle hmax
  have HRM:=qh (fun j=>(uh HK).rooms (uh HR).2.1 (uh HR).2.2.1 (Int.le_of_lt hpos) hle j)
  have HD:=qh (And.intro hd (And.intro hpos hmax))
  have HWS:=qh ((uh HS).later (uh HB) (uh HS).above)
  have HBX1:=qh ((uh HBX).1.later (uh HB))
  have HCQ:=qh (ck (uh HB) (uh HCC).1)
  have HNE:=qh (show rv.ownBlock≠some q/\rv.ownBlock≠some (q+1)/\rv.ownBlock≠some q6 from by
   obtain ⟨h1,h2,_⟩:=uh HQR
   obtain ⟨_,_,h3,_⟩:=uh HBX
   rw [h1]
   refine ⟨fun e => ?_,fun e => ?_,fun e => ?_⟩ <;> (have:=Option.some.inj e;omega))
  have hm1000:m<=1000:=by have h1:=(uh HP).2.1;have h2:=(uh HP).2.2.1;omega
  clear hd hpos hle hmax HB HS HCC
  go_wp2_with fail
  go_loopg [8,30] m (fun gk _ iv wr=>∃ j:Nat,j<=m/\gk=m - j/\iv=.int .i64 (j:Int)/\Hid (WkS w V W K gn gl gw n A F X rv (mvW rm (p.take j) d) al dn p wr)/\Hid (ZX (K+1) wr q6 y d)/\Hid (Box wr (q+1))/\Hid (wr.cell? ⟨q,0,none⟩=some (.pointer (some ⟨gw,0,none⟩))))
  case atStart=>exact ⟨0,by omega,by omega,rfl,HWS,HZX,HBX1,HCQ⟩
  case round =>
   clear HWS HZX HBX1 HCQ
   obtain ⟨j,hj,hgk,rfl,HWS,HZX,HBX1,HCQ⟩:=hrel
   by_cases hjm:j<m
   ·obtain ⟨x,hx⟩:∃ x,p[j]? = some x:=⟨_,List.getElem?_eq_getElem (by rw [<- (uh HP).2.1];exact hjm)⟩
    obtain ⟨g',cap',hF',_,_,_,ci⟩:=(uh HWS).path hx
    rw [uh HFF] at hF'
    simp at hF'
    obtain ⟨rfl,rfl⟩:=hF'
    have cq:=uh HCQ
    have a0:=(uh HWS).a0
    have z0:=(uh HZX).c0
    have z1:=(uh HZX).c1
    have hjm':(j:Int)<(m:Int):=by omega
    have hj0:(0:Int)<=(j:Int):=by omega
    have hj1:(j:Int)+1<=1001:=by omega
    have HX:=qh hx
    have hxM:=uh HPM x (List.mem_of_getElem? hx)
    have HDR:=qh ((uh HWS).later (Below.refl _ _).drew (uh HWS).above)
    have HMV:=qh (move_any (B:=B) y w _ (uh HR).1 (uh HDR).nt.s (l:=x) (by rw [(uh HDR).nt.rl,<- uh HM];exact hxM) (by rw [(uh HDR).nt.rl];exact opp_lt (by rw [<- uh HM];exact hxM)) (by rw [(uh HDR).nt.rl];have:=(uh HDR).nt.sm.2;omega) ((uh HZX).z.later (Below.refl _ _).drew) (fun j'=>⟨(uh HRM j).1.ge j',Int.le_trans ((uh HRM j).1.le (uh HR).2.2.2.1 j') (uh HR).2.2.2.2.1⟩) ⟨Int.le_of_lt (uh HD).2.1,(uh HD).2.2⟩ (uh HR).2.2.2.2.2)
    clear hx
    go_upto_region 6 with fail
    clear ci
    go_region_with (go_at_call 200;go_fit (uh HMV);rintro e9 W1 ⟨rfl,hn,ha⟩;have HN:=qh hn;have HA:=qh ha;clear hn ha cq a0 z0 z1)
    all_goals
     have hne:=uh HNE
     have HW2:=qh ((uh HDR).moved (uh HN) (uh HA) (by rw [mvL_len]))
     have HZ2:=qh (((uh HZX).keep (Below.refl _ _).drew).asd (uh HA) (uh HDR).nt.s.room hne.2.2)
     have HB2:=qh (((uh HBX1).later (Below.refl _ _).drew).asd (uh HA) hne.2.1)
     have HC2:=qh ((uh HA).cell hne.1 (ck (Below.refl _ _).drew (uh HCQ)))
     clear hne
     go_wp2
     go_roundg (m - (j+1))
     case measure=>omega
     case rel=>exact ⟨j+1,by omega,rfl,by go_num,by rw [tkn (uh HX),mvW_snoc];exact HW2,HZ2,HB2,HC2⟩
   ·obtain rfl:m=j:=by omega
    clear hjm hj hgk
    have hpm:p.take m=p:=List.take_of_length_le (by rw [(uh HP).2.1];exact Nat.le_refl _)
    rw [hpm] at HWS
    have hrm:=uh HRM m
    rw [hpm] at hrm
    have HRM2:=qh hrm
    obtain ⟨g',cap',hF',hf',hgp',hcp',hlc',cl'⟩:=(uh HWS).cells (uh HP).1
    rw [uh HFF] at hF'
    simp at hF'
    obtain ⟨rfl,rfl⟩:=hF'
    have HFL:=qh (And.intro hf' (And.intro hgp' hcp'))
    have HIDX:=qh (idxL_any (g:=202) (lb:=#[.pointer (some ⟨q,0,none⟩)]) (M:=M) (f:=fun a => !decide (0<(mvW rm p d).getD a 0)) (gp:=gp) (cap:=cp) wr eg_full cl' (uh HP).2.2.1 (uh HP).2.2.2 (uh HPM) (fun W1 a hb ha=>isFull_any w V W W1 ((uh HWS).later hb (uh HWS).above) (ck hb (uh HCQ)) (by rw [<- uh HM];exact ha)) ⟨l,(uh HLL).1,by
     have h1:=hrm.2 l (uh HLL).1
     rw [<- (uh HD).1,Int.sub_self] at h1
     show (!decide (0<(mvW rm p d).getD l 0))=true
     rw [h1]
     rfl⟩)
    rw [<- (uh HP).2.1] at HIDX
    have HIDX:=qh ((uh HIDX).mono (fun (e:Ending) (W':World) (hh:(∃ k:Nat,e=.returned (.int .i64 (k:Int))/\k<m/\∀ x ∈ p.take k,(!decide (0<(mvW rm p d).getD x 0))=false)/\Below wr.heap.size wr W')=>(show ∃ k:Nat,e=.returned (.int .i64 (k:Int))/\k<m/\Hid (∀ x ∈ p.take k,(!decide (0<(mvW rm p d).getD x 0))=false)/\Below wr.heap.size wr W' from by obtain ⟨⟨k,h1,h2,h3⟩,hb⟩:=hh;exact ⟨k,h1,h2,qh h3,hb⟩)))
    clear hpm hrm hf' hgp' hcp' hlc' cl'
    go_wp2_with fail
    go_fit (uh HIDX)
    rintro e W1 ⟨k,rfl,hkm,HALL,B1⟩
    have HWS:=qh ((uh HWS).later B1 (uh HWS).above)
    have HZX:=qh ((uh HZX).keep B1)
    have HBX1:=qh ((uh HBX1).later B1)
    have HF1:=qh ((uh HFL).1.later (JE.stays _ _) B1)
    have cq:=ck B1 (uh HCQ)
    clear B1 HIDX HCQ
    have a0:=(uh HWS).a0
    have a3:=(uh HWS).a3
    rw [uh HFF,<- (uh HP).2.1] at a3
    have hkc:(k:Int)<=(cp:Int):=by omega
    have hk0:(0:Int)<=(k:Int):=by omega
    have hk1:(k:Int)<=1000:=by omega
    obtain ⟨_,fz3,flt3⟩:=(uh HWS).bw.cell (o:=3) (by decide)
    have HS9:=qh (((uh HWS).later (Below.refl _ _).drew (uh HWS).above).cut (m:=k) (by rw [<- (uh HP).2.1];omega) (uh HFF) ((uh HF1).later (JE.stays _ _) (Below.refl _ _).drew) (uh HFL).2.1 (uh HFL).2.2)
    have hz9:=(uh HZX).keep (Below.refl W1.heap.size W1).drew
    have hn6:=((uh HWS).later (Below.refl _ _).drew (uh HWS).above).noBox hz9.box
    have hb9:=(uh HBX1).later (Below.refl W1.heap.size W1).drew
    have hn4:=((uh HWS).later (Below.refl _ _).drew (uh HWS).above).noBox hb9
    have hst:=(((uh HWS).bw.later (Below.refl W1.heap.size W1).drew).store (o:=3) (v:=.slice (some ⟨gp,0,none⟩) k cp) (fun z e=>by cases e)).2
    have HZ9:=qh (hz9.aside (else1 (g:=gw) W1.drew 3 (.slice (some ⟨gp,0,none⟩) k cp)) hn6 hst)
    have HB9:=qh (Box.other hb9 hn4 (o:=3) (.slice (some ⟨gp,0,none⟩) k cp))
    clear hz9 hn6 hb9 hn4 hst HFL HF1
    go_upto_region 9 with fail
    go_cut [] (fun wx=>Hid (WkS w V W K gn gl gw n A (upd F (n+3) (.slice (some ⟨gp,0,none⟩) k cp)) (upd X (n+3) ((X (n+3)).take k)) rv (mvW rm p d) al dn (p.take k) wx)/\Hid (ZX (K+1) wx q6 y d)/\Hid (Box wx (q+1)))
    case first =>
     go_region
     all_goals
      go_wp2
      go_meet
      exact ⟨HS9,HZ9,HB9⟩
    case rest =>
     obtain ⟨HSE,HZE,HBE⟩:=hcut
     clear HS9 HZ9 HB9 a0 a3 cq fz3 flt3
     obtain ⟨E,rfl⟩:∃ X,X=wc:=⟨_,rfl⟩
     have z0:=(uh HZE).c0
     have z1:=(uh HZE).c1
     obtain ⟨⟨w0,e0⟩,⟨w2,w3,w4,e1⟩,gf⟩:=(uh HBE).cells
     have hlt:=zko (uh HBE)
     go_wp2
     obtain ⟨st0,st1⟩:=(uh HBE).stored (.int .i64 y.a) (.slice y.b y.c y.d)
     obtain ⟨c,hwk⟩:=(uh HK).fill (Int.le_of_lt (uh HD).2.1) (by rw [(uh HR).2.1.len,(uh HR).2.2.1]) k (fun x hx=>by have h1:=uh HALL x hx;simpa using h1)
     refine bodyPost_ret (v:=vz y) (by simp [results,Tryz.results167,go_sem,st0,st1]) rfl ?_
     exact ⟨y,d,_,_,k,c,rfl,(uh HZE).z.stored (uh HBE) _ _,(uh HD).2.1,by rw [<- (uh HP).2.1];exact hkm,(uh HRM2).1,((uh HSE).aside (uh HBE) (uh HNE).2.1 (by have:=(uh HQR).2.2;omega) (by have:=(uh HBX).2.1;omega) _ _ _ _).since (uh HKZ),hwk⟩
def lft (A:List (Nat×Nat)) (n:Nat) (dn:Nat->Nat):Nat:=((List.range n).map fun v=>(lvr A v).length - dn v).sum
theorem nsum_le {f g:Nat->Nat}:∀ {l:List Nat},(∀ v ∈ l,f v<=g v)->(l.map f).sum<=(l.map g).sum
 | [],_=>Nat.le_refl _
 | a :: l,h=>by
  have h1:=h a (by simp)
  have h2:=nsum_le (l:=l) fun v hv=>h v (by simp [hv])
  simp only [List.map_cons,List.sum_cons]
  omega
theorem nsum_lt {f g:Nat->Nat}{u:Nat} (hu:f u<g u):∀ {l:List Nat},(∀ v ∈ l,f v<=g v)->u ∈ l->(l.map f).sum<(l.map g).sum
 | [],_,h=>by cases h
 | a :: l,h,hm=>by
  have h1:=h a (by simp)
  simp only [List.map_cons,List.sum_cons]
  rcases List.mem_cons.1 hm with rfl | hm
  ·have h2:=nsum_le (l:=l) fun v hv=>h v (by simp [hv])
   omega
  ·have h2:=nsum_lt hu (l:=l) (fun v hv=>h v (by simp [hv])) hm
   omega
theorem lft_le {A:List (Nat×Nat)}{n:Nat}{dn dn':Nat->Nat} (h:∀ v,dn v<=dn' v):lft A n dn'<=lft A n dn:=nsum_le fun v _=>by have:=h v;omega
theorem lft_lt {A:List (Nat×Nat)}{n u:Nat}{dn dn':Nat->Nat} (h:∀ v,dn v<=dn' v) (hu:u<n) (h1:dn u<dn' u) (h2:dn u<(lvr A u).length):lft A n dn'<lft A n dn:=nsum_lt (u:=u) (by omega) (fun v _=>by have:=h v;omega) (List.mem_range.2 hu)
theorem lft_inc {A:List (Nat×Nat)}{n u:Nat}{dn:Nat->Nat} (hu:u<n) (h2:dn u<(lvr A u).length):lft A n (upd dn u (dn u+1))<lft A n dn:=by
 refine lft_lt (fun v => ?_) hu (by rw [zqk];omega) h2
 by_cases e:v=u
 ·subst e;rw [zqk];omega
 ·rw [zqi _ _ e];exact Nat.le_refl _
structure FaM (A:List (Nat×Nat)) (n s t:Nat) (lv U rm0 rm:List Int) (dn:Nat->Nat) (p:List Nat) (b:Nat) (sum:Int):Prop where
 wk:Wk A n s t lv rm dn p b
 rms:Rm U rm
 ex:∀ v,exo A (fl A.length rm) v=exo A (fl A.length rm0) v+sum*(ind s v - ind t v)
 nn:0<=sum
 same:sum=0->rm=rm0
section
variable {A:List (Nat×Nat)}{n s t b:Nat}{lv U rm0 rm:List Int}{dn:Nat->Nat}{p:List Nat}{sum:Int}
theorem FaM.start (A:List (Nat×Nat)) (n s t:Nat) (lv:List Int) {U rm0:List Int} (h:Rm U rm0):FaM A n s t lv U rm0 rm0 (fun _=>0) [] s 0 :=
 ⟨wk_start A n s t lv rm0,h,fun v=>by omega,Int.le_refl _,fun _=>rfl⟩
theorem FaM.le (h:FaM A n s t lv U rm0 rm dn p b sum) (hUA:U.length=A.length) (hst:s≠t) (h0:0<=exo A (fl A.length rm0) s):sum<=U.sum:=by
 have h1:=exo_le (A:=A) (F:=fl A.length rm) (U:=U) (by rw [<- hUA];exact h.rms.fl_in) (fl_len _ _) hUA s
 rw [h.ex s] at h1
 simp only [ind,if_true,if_neg (fun e:t=s=>hst e.symm)] at h1
 omega
theorem FaM.short (h:FaM A n s t lv U rm0 rm dn p b sum) (hl:Lev A n s rm0 lv):p.length<=n:=by
 have h1:=(alw_ge h.wk.way fun l hl=>(h.wk.opn l hl).2.2).1
 have h2:=(hl.hi b).2
 rw [hl.root] at h1
 omega
theorem FaM.go (h:FaM A n s t lv U rm0 rm dn p b sum) {dn':Nat->Nat}{p':List Nat}{b':Nat} (hk:Wk A n s t lv rm dn' p' b'):FaM A n s t lv U rm0 rm dn' p' b' sum:=⟨hk,h.rms,h.ex,h.nn,h.same⟩
theorem FaM.fill (h:FaM A n s t lv U rm0 rm dn p t sum) {d:Int}{q:List Nat}{c:Nat} (hUA:U.length=A.length) (hd:0<d) (hr:Rm U (mvW rm p d)) (hk:Wk A n s t lv (mvW rm p d) dn q c):FaM A n s t lv U rm0 (mvW rm p d) dn q c (sum+d):=by
 refine ⟨hk,hr,fun v => ?_,by have:=h.nn;omega,fun e=>by have:=h.nn;omega⟩
 rw [exo_way d v (by rw [<- hUA];exact h.rms.1) h.wk.way,h.ex v]
 grind
theorem FaM.end_ (h:FaM A n s t lv U rm0 rm dn [] b sum) (hl:Lev A n s rm0 lv) (hst:s≠t) (hb:dn b=(lvr A b).length) (h0:sum=0):lvl lv t<0:=by
 obtain rfl:=h.same h0
 have hsb:s=b:=h.wk.way
 subst hsb
 exact hl.stuck (fin:=fun v=>dn v=(lvr A v).length) hb hst h.wk.fin
end
end Go.Proofs.YtkdobjmhammhbaaGreatDoor
