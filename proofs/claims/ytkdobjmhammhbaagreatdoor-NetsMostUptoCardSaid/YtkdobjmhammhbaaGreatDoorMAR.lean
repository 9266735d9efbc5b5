import Derived.Test.YtkdobjmhammhbaaGreatDoorMAN
namespace Go.Proofs.YtkdobjmhammhbaaGreatDoor
set_option maxHeartbeats 16000000
set_option maxRecDepth 8000
open Go.RowKit
theorem wpList_app {α:Type}{P:Program}{ops:Array Oper}{rest:List Oper}{o:Oper}{A:Act}{w:World}{Q:Exit->Act->World->Prop} (hgd:o.guard=none) (s x:Operand) (T:TypeId)
 (ho:o.op=.call { callee:=.builtin .append,args:=#[s,x],argTypes:=#[T,T] }) {e:TypeId}{z:Value}{k bytes:Nat} (ht:P.underlying T=some (.slice e)) (hinfo:(P.info? e).map (fun i=>(i.zero,i.size,i.bytes))=some (some z,k,bytes))
 (hzs:z.cells.size=k) (hsz:0<k) (hby:bytes<=1000) {K:Value->Prop} (hzk:∀ u ∈ z.cells.toList,K u) {E:World->List Value -> α -> Prop} (hE:Stays K e E) (base:Nat) (v:Value) {L ys:List α} (hs:A.eval s=v) (hown:OwnR K k E e w base v L)
 (q c:Nat) (news:List Value) (hn0:0<ys.length) (hnw:News k E w news ys) (hq:∀ j u,news[j]? = some u->w.cell? ⟨q,j,none⟩=some u) (h1:∀ u ∈ news,u.oneCell'=true) (hk:∀ u ∈ news,K u) (hx:A.eval x=.slice (some ⟨q,0,none⟩) ys.length c) (hn:L.length<=100000000) (hy:ys.length<=1000) (hbase:base<=w.heap.size)
 (h:∀ v' w',OwnR K k E e w' base v' (L++ys)->w.grownBy w' v.ownBlock->Chg K e w w'->(v'.ownBlock=v.ownBlock\/v'.ownBlock=some w.heap.size)->wpList P ops Q rest (A.put o.dst v') w'):wpList P ops Q (o :: rest) A w:=by
 obtain ⟨v',w',hr,h2,h3,h4,h5⟩:=run_app (ty:=o.type) ht hinfo hzs hsz hby hzk hE base v hown q c news hn0 hnw hq h1 hk hn hy hbase
 refine wpList_plain hgd fun _ hK => ?_
 unfold Oper.wp execOp
 simp only [ho,resolve,invoke,builtin,Sem.run_bind,Sem.run_pure,Result.andThen_ok,List.map_toArray,List.map_cons,List.map_nil,hs,hx,hr]
 exact hK _ _ (h v' w' h2 h3 h4 h5)
theorem Fam.congr {w:World}{b0 N:Nat}{F F':Nat->Value}{X X':Nat->List Int} (h:Fam w b0 N F X) (hF:∀ k,k<N->F' k=F k) (hX:∀ k,k<N->X' k=X k):Fam w b0 N F' X' :=
 ⟨fun k hk=>by rw [hF k hk,hX k hk];exact h.own k hk,fun k k' hk hk' hne g hg=>by rw [hF k hk] at hg;rw [hF k' hk'];exact h.apart k k' hk hk' hne g hg⟩
structure LvS (W:World) (a b:Value) (lv R:List Int) (wr:World):Prop where
 below:Below W.heap.size W wr
 fam:Fam wr W.heap.size 2 (fun k=>if k=0 then a else b) (fun k=>if k=0 then lv else R)
section
variable {W wr w':World}{a b:Value}{lv R:List Int}
theorem LvS.keep (h:LvS W a b lv R wr) (hb:Below wr.heap.size wr w'):LvS W a b lv R w':=⟨bk hb h.below,h.fam.later hb⟩
theorem LvS.level (h:LvS W a b lv R wr) {v:Nat} (hv:v<lv.length):∃ g cap,a=.slice (some ⟨g,0,none⟩) lv.length cap/\Fill NoWord 1 JE 3 wr g cap lv/\W.heap.size<=g/\cap<=maxLen/\wr.cell? ⟨g,v,none⟩=some (.int .i64 (lvl lv v)):=by
 have hx:lv[v]? = some (lvl lv v):=by
  unfold lvl
  rw [List.getD_eq_getElem?_getD,List.getElem?_eq_getElem hv]
  rfl
 obtain ⟨g,cap,h1,h2,h3,h4,h5,_⟩:=h.fam.at (k:=0) (by decide) hx
 exact ⟨g,cap,h1,h2,h3,h4,h5⟩
theorem LvS.node (h:LvS W a b lv R wr) {i:Nat}{x:Int} (hx:R[i]? = some x):∃ g cap,b=.slice (some ⟨g,0,none⟩) R.length cap/\wr.cell? ⟨g,i,none⟩=some (.int .i64 x):=by
 obtain ⟨g,cap,h1,h2,h3,h4,h5,_⟩:=h.fam.at (k:=1) (by decide) hx
 exact ⟨g,cap,h1,h5⟩
theorem LvS.set (h:LvS W a b lv R wr) {v g cap:Nat}{x:Int} (hv:v<lv.length) (ha:a=.slice (some ⟨g,0,none⟩) lv.length cap) (hf:Fill NoWord 1 JE 3 wr g cap lv) (hg:W.heap.size<=g) (hc:cap<=maxLen) (hx:-9223372036854775808<=x/\x<=9223372036854775807):LvS W a b (lv.set v x) R (wr.setCell ⟨g,v,none⟩ (.int .i64 x)):=by
 refine ⟨h.below.setCell (p:=⟨g,v,none⟩) hg _,?_⟩
 have h1:=h.fam.set (k:=0) (i:=v) (x:=x) (by decide) hv ha hf hg hc hx
 refine h1.congr (fun _ _=>rfl) fun k hk => ?_
 rcases (by omega:k=0\/k=1) with rfl | rfl <;> rfl
theorem LvS.app (h:LvS W a b lv R wr) {v':Value}{L:List Int} (ho:OwnR NoWord 1 JE 3 w' W.heap.size v' L) (hg:wr.grownBy w' b.ownBlock) (hp:v'.ownBlock=b.ownBlock\/v'.ownBlock=some wr.heap.size):LvS W a v' lv L w':=by
 refine ⟨h.below.grown hg h.below.size (fun g hh=>((h.fam.own 1 (by decide)).block hh).1),?_⟩
 have h1:=h.fam.app (k:=1) (by decide) ho hg hp
 refine h1.congr (fun k hk => ?_) fun k hk => ?_
 all_goals rcases (by omega:k=0\/k=1) with rfl | rfl <;> rfl
end
theorem lvs_start {W W' W2:World}{a b:Value}{lv R:List Int} (hb:Below W.heap.size W W') (h0:OwnR NoWord 1 JE 3 W' W.heap.size a lv) (hb2:Below W'.heap.size W' W2) (h1:OwnR NoWord 1 JE 3 W2 W'.heap.size b R):LvS W a b lv R W2:=by
 refine ⟨bk hb2 hb,fun k hk => ?_,fun i j hi hj hij g hg hh => ?_⟩
 ·rcases (by omega:k=0\/k=1) with rfl | rfl
  ·exact h0.later (JE.stays _ _) hb2
  ·exact h1.rebase hb.size
 ·have hlt:∀ g,a.ownBlock=some g->g<W'.heap.size:=fun g hg=>by
   obtain ⟨_,cur,hc⟩:=h0.block hg
   exact (Array.getElem?_eq_some_iff.1 hc).1
  have hge:∀ g,b.ownBlock=some g->W'.heap.size<=g:=fun g hg=>(h1.block hg).1
  rcases (by omega:(i=0/\j=1)\/(i=1/\j=0)) with ⟨rfl,rfl⟩ | ⟨rfl,rfl⟩
  ·have:=hlt g hg
   have:=hge g hh
   omega
  ·have:=hlt g hh
   have:=hge g hg
   omega
theorem own_one {w:World}{q:Nat}{x:Int}{t:TypeId} (ht:t=3) (hq:q=w.heap.size) (hx:-1000<=x/\x<=1000):OwnR NoWord 1 JE 3 (w.alloc (.cells #[.int .i64 x] t)) w.heap.size (.slice (some ⟨q,0,none⟩) 1 1) [x]:=by
 subst ht hq
 refine OwnR.of_fill (L:=[x]) ⟨_,heap_alloc_new w _,rfl,fun u hu => ?_,by simp,fun i y hy=>⟨[.int .i64 x],rfl,fun j u hu => ?_,?_⟩⟩ (Nat.le_refl _) (by unfold maxLen;omega)
 ·simp at hu;subst hu;intro z e;cases e
 ·have hi:i<1:=(List.getElem?_eq_some_iff.1 hy).1
  have hj:j<1:=(List.getElem?_eq_some_iff.1 hu).1
  obtain rfl:i=0:=by omega
  obtain rfl:j=0:=by omega
  exact hu
 ·have hi:i<1:=(List.getElem?_eq_some_iff.1 hy).1
  obtain rfl:i=0:=by omega
  obtain rfl:x=y:=by simpa using hy
  exact ⟨rfl,by omega,by omega⟩
structure NtS (w:World) (K gn gl n:Nat) (A:List (Nat×Nat)) (F:Nat->Value) (X:Nat->List Int) (rv:Value) (rm:List Int) (W:World):Prop where
 s:NjS w K gn gl n F F X rv rv rm W
 x0:X 0=XN A A.length 0
 x1:X 1=XN A A.length 1
 xv:∀ v,v<n->X (v+2)=XN A A.length (v+2)
 rl:rm.length=2*A.length
 nd:∀ x ∈ A,x.1<n/\x.2<n
 sm:n<=60/\A.length<=300
section
variable {w:World}{K gn gl n:Nat}{A:List (Nat×Nat)}{F:Nat->Value}{X:Nat->List Int}{rv:Value}{rm:List Int}{W W':World}
theorem NtS.keep (h:NtS w K gn gl n A F X rv rm W) (hb:Below W.heap.size W W'):NtS w K gn gl n A F X rv rm W':=⟨h.s.later hb,h.x0,h.x1,h.xv,h.rl,h.nd,h.sm⟩
theorem NtS.to (h:NtS w K gn gl n A F X rv rm W) {l:Nat} (hl:l<2*A.length):∃ g cap,F 1=.slice (some ⟨g,0,none⟩) (2*A.length) cap/\W.cell? ⟨g,l,none⟩=some (.int .i64 (lnT A l:Int)):=by
 obtain ⟨_,e1,e2⟩:=XN_ends A A.length (Nat.le_refl _)
 obtain ⟨g,cap,h1,_,_,_,h5,_⟩:=h.s.fam.at (k:=1) (by omega) (by rw [h.x1];exact (e2 l hl).2)
 rw [h.x1,e1] at h1
 exact ⟨g,cap,h1,h5⟩
theorem NtS.from (h:NtS w K gn gl n A F X rv rm W) {l:Nat} (hl:l<2*A.length):∃ g cap,F 0=.slice (some ⟨g,0,none⟩) (2*A.length) cap/\W.cell? ⟨g,l,none⟩=some (.int .i64 (lnF A l:Int)):=by
 obtain ⟨e0,_,e2⟩:=XN_ends A A.length (Nat.le_refl _)
 obtain ⟨g,cap,h1,_,_,_,h5,_⟩:=h.s.fam.at (k:=0) (by omega) (by rw [h.x0];exact (e2 l hl).1)
 rw [h.x0,e0] at h1
 exact ⟨g,cap,h1,h5⟩
theorem NtS.leave (h:NtS w K gn gl n A F X rv rm W) {v j:Nat} (hv:v<n) (hj:j<(X (v+2)).length):∃ (g cap l:Nat),F (v+2)=.slice (some ⟨g,0,none⟩) (X (v+2)).length cap/\W.cell? ⟨g,j,none⟩=some (.int .i64 (l:Int))/\(X (v+2))[j]? = some (l:Int)/\l<2*A.length/\lnF A l=v:=by
 obtain ⟨x,hx⟩:∃ x,(X (v+2))[j]? = some x:=⟨_,List.getElem?_eq_getElem hj⟩
 obtain ⟨g,cap,h1,_,_,_,h5,_⟩:=h.s.fam.at (k:=v+2) (by omega) hx
 have hx':=hx
 rw [h.xv v hv] at hx'
 obtain ⟨l,hxl,h2,h3⟩:=(XN_leave A v A.length (Nat.le_refl _)).1 j x hx'
 subst hxl
 exact ⟨g,cap,l,h1,h5,hx,h2,h3⟩
theorem NtS.leaves (h:NtS w K gn gl n A F X rv rm W) {v l:Nat} (hv:v<n) (hl:l<2*A.length) (hf:lnF A l=v):(l:Int) ∈ X (v+2):=by
 rw [h.xv v hv]
 exact (XN_leave A v A.length (Nat.le_refl _)).2 l hl hf
theorem NtS.short (h:NtS w K gn gl n A F X rv rm W) {v:Nat} (hv:v<n):(X (v+2)).length<=600:=by
 rw [h.xv v hv]
 have:=XN_len A A.length (v+2)
 have:=h.sm.2
 omega
theorem NtS.shape (h:NtS w K gn gl n A F X rv rm W) {v:Nat} (hv:v<n):∃ a c,F (v+2)=.slice a (X (v+2)).length c:=(h.s.fam.own (v+2) (by omega)).slice
end
theorem new_at (w:World) (t:TypeId) (news:List Value):∀ (j:Nat) (u:Value),news[j]? = some u->(w.alloc (.cells news.toArray t)).cell? ⟨w.heap.size,j,none⟩=some u:=fun j u hu=>(zqe (X:=w) rfl _ _ _).trans (by rw [List.getElem?_toArray];exact hu)
theorem levels_any {K gn gl n s:Nat}{A:List (Nat×Nat)}{F:Nat->Value}{X:Nat->List Int}{rv:Value}{rm:List Int} (w W:World) (h:NtS w K gn gl n A F X rv rm W) (hs:s<n) :
 Calls Tryz.prog 108 #[.pointer (some ⟨gn,0,none⟩),.int .i64 (s:Int)] W fun e W'=>(∃ v lv,e=.returned v/\OwnR NoWord 1 JE 3 W' W.heap.size v lv/\Lev A n s rm lv)/\Below W.heap.size W W':=by
 have c3:=h.s.c3
 have HN:=qh h
 have hn60:=h.sm.1
 have hm300:=h.sm.2
 clear h
 go_enter Tryz.func108,Tryz.ntmps108
 go_wp2_with fail
 go_fit (repeat_any _ (show -1000<=(-1:Int)/\(-1:Int)<=1000 by omega) (show n<=1000 by omega))
 rintro e W1 ⟨⟨a,rfl,ho⟩,B1⟩
 obtain ⟨g,cap,rfl,hf,hgw,hcm⟩:=ho.fill (by rw [List.length_replicate];omega)
 rw [List.length_replicate]
 have hs0:(s:Int)<(n:Int):=by omega
 obtain ⟨w0,f0⟩:=hf.cell (o:=s) (by have:=hf.len;rw [List.length_replicate] at this;omega)
 have fz:=hf.free
 have hlt:=hf.lt
 have hf2:=hf.set1 (i:=s) (u:=.int .i64 0) (x:=0) (JE.stays _ _) (by rw [List.length_replicate];exact hs) (fun z e=>by cases e) ⟨rfl,by omega,by omega⟩
 have ho2:=OwnR.of_fill hf2 hgw hcm
 rw [List.length_set,List.length_replicate] at ho2
 have hb2:=B1.setCell (p:=⟨g,s,none⟩) hgw (.int .i64 0)
 obtain ⟨W2,hW2⟩:∃ W,W=W1.setCell ⟨g,s,none⟩ (.int .i64 0):=⟨_,rfl⟩
 rw [<- hW2] at ho2 hb2
 obtain ⟨q,hq1⟩:∃ q,q=W1.heap.size:=⟨_,rfl⟩
 have hq:q=W2.heap.size:=by rw [hW2];simpa using hq1
 have hst:=lvs_start hb2 ho2 (zqa W2 (.cells #[.int .i64 (s:Int)] 3)) (own_one rfl hq (by omega))
 obtain ⟨W3,hW3⟩:∃ W,W=W2.alloc (.cells #[.int .i64 (s:Int)] 3):=⟨_,rfl⟩
 rw [<- hW3] at hst
 have HS:=qh hst
 have HI:=qh (lvi_start A rm hs)
 clear ho hf hf2 ho2 hst B1 hb2 hgw hcm c3
 go_upto_region 4 with fail
 rw [<- hW2,<- hW3,<- hq1]
 clear hW2 hW3 hq hq1 f0 fz hlt
 go_wp2_with fail
 go_loopg [6,7,9,10,39] n (fun gk bv iv _ _ _ wr=>∃ (i:Nat) (b:Value) (lv R:List Int),i<=R.length/\R.length<=n/\gk=n - i/\bv=b/\iv=.int .i64 (i:Int)/\Hid (LvS W (.slice (some ⟨g,0,none⟩) n cap) b lv R wr)/\Hid (LvI A n s rm lv R i))
 case atStart=>exact ⟨0,_,_,_,by simp,by simp;omega,by omega,rfl,rfl,HS,HI⟩
 case round =>
  clear HS HI
  obtain ⟨i,b,lv,R,hi,hRn,hgk,rfl,rfl,HS,HI⟩:=hrel
  obtain ⟨ba,bc,rfl⟩:=((uh HS).fam.own 1 (by decide)).slice
  rw [if_neg (by decide)] at HS ⊢
  obtain ⟨rl,hrl⟩:∃ n,n=R.length:=⟨_,rfl⟩
  rw [<- hrl] at HS hi hRn ⊢
  have HRL:=qh hrl
  clear hrl
  by_cases hir:i<rl
  ·obtain ⟨x,hx⟩:∃ x,R[i]? = some x:=⟨_,List.getElem?_eq_getElem (by rw [<- uh HRL];exact hir)⟩
   obtain ⟨v,hxv,hv,_,_⟩:=(uh HI).mem i x hx
   subst hxv
   obtain ⟨qb,qc,hbv,cb⟩:=(uh HS).node hx
   injection hbv with h1 h2 h3
   subst h1 h3
   have hnt:=(uh HN).keep (uh HS).below
   have c3:=hnt.s.c3
   have cl:=hnt.s.cl v hv
   obtain ⟨fa,fc,hF⟩:=hnt.shape hv
   have hm600:=hnt.short hv
   obtain ⟨m,hm⟩:∃ m,m=(X (v+2)).length:=⟨_,rfl⟩
   rw [<- hm] at hm600 hF
   rw [hF] at cl
   have HM:=qh hm
   have HF:=qh hF
   have HX:=qh hx
   have hil:(i:Int)<(rl:Int):=by omega
   have hvn:(v:Int)<(n:Int):=by omega
   have hin:i<n:=by omega
   clear hm hF hx hnt h2 hi hRn
   go_upto_region 7 with fail
   go_quiet (fail)
   have HS:=qh ((uh HS).keep (zqj (Below.refl _ _) nq))
   clear c3 cl cb
   go_wp2_with fail
   obtain ⟨wi,rfl⟩:∃ X,X=wr:=⟨_,rfl⟩
   go_loopg [6,9,10,39] m (fun gk bv _ _ jv wx=>∃ (j:Nat) (b:Value) (lv2 R2:List Int),j<=m/\gk=m - j/\bv=b/\jv=.int .i64 (j:Int)/\Hid (LvS W (.slice (some ⟨g,0,none⟩) n cap) b lv2 R2 wx)/\Hid (LvI A n s rm lv2 R2 i)/\Hid (R2[i]? = some (v:Int))/\Hid (∀ k l:Nat,k<j->(X (v+2))[k]? = some (l:Int)->0<rm.getD l 0->0<=lvl lv2 (lnT A l)))
   case atStart=>exact ⟨0,_,lv,R,by omega,by omega,rfl,rfl,HS,HI,HX,qh (fun k l hk=>absurd hk (by omega))⟩
   case round =>
    clear HS HI HX HRL
    obtain ⟨j,b,lv2,R2,hj,hgk2,rfl,rfl,HS,HI,HX,HD⟩:=hrel
    obtain ⟨b2,bc2,rfl⟩:=((uh HS).fam.own 1 (by decide)).slice
    rw [if_neg (by decide)] at HS ⊢
    obtain ⟨r2,hr2⟩:∃ n,n=R2.length:=⟨_,rfl⟩
    rw [<- hr2] at HS ⊢
    have HR2:=qh hr2
    clear hr2
    by_cases hjm:j<m
    ·have hnt:=(uh HN).keep (uh HS).below
     obtain ⟨gf,capf,l,hFv,cf,hxl,hl,hfl⟩:=hnt.leave hv (by rw [<- uh HM];exact hjm)
     rw [uh HF,<- uh HM] at hFv
     injection hFv with h1 _ h3
     subst h1 h3
     obtain ⟨gt,capt,hF1,ct⟩:=hnt.to hl
     have c1:=hnt.s.c1
     obtain ⟨M2,hM2⟩:∃ M,M=2*A.length:=⟨_,rfl⟩
     rw [hF1,<- hM2] at c1
     have hT:=(ln_lt hnt.nd hl).2
     have hlM:(l:Int)<(M2:Int):=by omega
     have hjm':(j:Int)<(m:Int):=by omega
     have hj1:(j:Int)+1<=1000:=by omega
     obtain ⟨t,ht⟩:∃ t,t=lnT A l:=⟨_,rfl⟩
     rw [<- ht] at hT ct
     have hTn:(t:Int)<(n:Int):=by omega
     have HO:=qh (show l<rm.length by rw [hnt.rl];exact hl)
     have HO2:=qh (show rm.length<=1000 by rw [hnt.rl];omega)
     have HT:=qh (And.intro ht (And.intro hxl (And.intro hl hfl)))
     have HM2:=qh hM2
     clear hnt ht hxl hM2 hF1 hfl
     go_wp2_with fail
     go_fit (isOpen_any _ _ ((uh HN).keep (uh HS).below).s (uh HO) (uh HO2))
     rintro e W1 ⟨rfl,B1⟩
     obtain ⟨ob,hob⟩:∃ b,b=decide (0<rm.getD l 0):=⟨_,rfl⟩
     rw [<- hob]
     have HS:=qh ((uh HS).keep B1)
     have HOB:=qh hob
     clear B1 c1 ct cf hob
     cases ob
     ·go_wp2
      go_roundg (m - (j+1))
      case measure=>omega
      case rel=>exact ⟨j+1,_,lv2,R2,by omega,rfl,rfl,by go_num,HS,HI,HX,qh (fun k l' hk hx ho=>by
       rcases (by omega:k<j\/k=j) with h | rfl
       ·exact uh HD k l' h hx ho
       ·rw [(uh HT).2.1] at hx
        obtain rfl:l=l':=by have:=Option.some.inj hx;omega
        exact absurd ho (of_decide_eq_false (uh HOB).symm))⟩
     ·obtain ⟨g',cap',ha,hf,hg',hcm,clt⟩:=(uh HS).level (v:=t) (by rw [(uh HI).len];exact hT)
      rw [(uh HI).len] at ha
      injection ha with h1 _ h3
      injection h1 with h1
      injection h1 with h1
      subst h1 h3
      obtain ⟨lt,hlt⟩:∃ z,z=lvl lv2 t:=⟨_,rfl⟩
      rw [<- hlt] at clt
      by_cases hneg:lt<0
      ·obtain ⟨q2,c2,hb2,cv⟩:=(uh HS).node (uh HX)
       injection hb2 with h1 h2 h3
       clear h2
       subst h1 h3
       obtain ⟨g2,cap2,ha2,_,_,_,clv⟩:=(uh HS).level (v:=v) (by rw [(uh HI).len];exact hv)
       rw [(uh HI).len] at ha2
       injection ha2 with h1 _ h3
       injection h1 with h1
       injection h1 with h1
       subst h1 h3
       obtain ⟨lv0,hl0⟩:∃ z,z=lvl lv2 v:=⟨_,rfl⟩
       rw [<- hl0] at clv
       have hb0:0<=lv0/\lv0<=1000:=by
        obtain ⟨v',e1,e2,e3,e4⟩:=(uh HI).mem i _ (uh HX)
        obtain rfl:v=v':=by omega
        rw [hl0];omega
       have hR2:R2.length<=n:=by have:=(uh HI).cnt;omega
       have hi2:i<R2.length:=(List.getElem?_eq_some_iff.1 (uh HX)).1
       have hi2':(i:Int)<(r2:Int):=by rw [uh HR2];omega
       have hlv0:lv0+1<=1001:=by omega
       have f0:=clt
       have fz:=hf.free
       have flt:=hf.lt
       have hstp:=(uh HI).step (l:=l) (uh HT).2.2.1 (of_decide_eq_true (uh HOB).symm) (by rw [(uh HT).2.2.2];exact uh HX) (by rw [<- (uh HT).1];exact hT) (by rw [<- (uh HT).1,<- hlt];exact hneg)
       rw [<- (uh HT).1,(uh HT).2.2.2,<- hl0] at hstp
       have hset:=(uh HS).set (v:=t) (x:=lv0+1) (by rw [(uh HI).len];exact hT) (by rw [(uh HI).len]) hf hg' hcm (by omega)
       have HSE:=qh hset
       have HST:=qh hstp
       obtain ⟨W2,hW2⟩:∃ X,X=W1.setCell ⟨g,t,none⟩ (.int .i64 (lv0+1)):=⟨_,rfl⟩
       have hset2:=hset
       rw [<- hW2] at hset2
       have HS3:=qh (hset2.keep (zqa W2 (.cells #[.int .i64 (t:Int)] 3)))
       have hbs:W.heap.size<=(W2.alloc (.cells #[.int .i64 (t:Int)] 3)).heap.size:=(uh HS3).below.size
       have hR6:R2.length<=100000000:=by omega
       have HOW:=qh (show OwnR NoWord 1 JE 3 (W2.alloc (.cells #[.int .i64 (t:Int)] 3)) W.heap.size (.slice (some ⟨q2,0,none⟩) r2 bc2) R2 from (uh HS3).fam.own 1 (by decide))
       have HLH:=qh (And.intro hl0 hlt)
       clear hstp hset hset2 hl0 hlt hf hg' hcm hR2 hi2 HSE
       go_upto_region 13 with fail
       rw [<- hW2]
       clear hW2 clv clt cv fz flt f0
       go_wp2_with (at_builtin;refine wpList_app (ys:=[(t:Int)]) rfl (.tmp 71) (.tmp 73) 55 rfl Tryz.underlying55 info_ji rfl (by decide) (by decide) zk_i (JE.stays _ _) W.heap.size (.slice (some ⟨q2,0,none⟩) r2 bc2) rfl (uh HOW) W2.heap.size 1 [.int .i64 (t:Int)] (Nat.zero_lt_succ _) (news1 _ t (by omega)) (new_at W2 _ _) (one_i _) (JE.kinds _) rfl hR6 (show 1<=1000 by omega) hbs ?_;intro v' w' ho hg hc hp;have HS4:=qh ((uh HS3).app ho hg hp);clear hg hc hp ho)
       go_roundg (m - (j+1))
       case measure=>omega
       case rel=>exact ⟨j+1,v',lv2.set t (lv0+1),R2++[(t:Int)],by omega,rfl,rfl,by go_num,HS4,qh (uh HST).1,qh (by
        have h1:=uh HX
        rw [List.getElem?_append_left (List.getElem?_eq_some_iff.1 h1).1]
        exact h1),qh (fun k l' hk hx ho=>by
        rcases (by omega:k<j\/k=j) with h | rfl
        ·exact (uh HST).2 _ (uh HD k l' h hx ho)
        ·rw [(uh HT).2.1] at hx
         obtain rfl:l=l':=by have:=Option.some.inj hx;omega
         rw [<- (uh HT).1,lvl_set (by rw [(uh HI).len];exact hT),if_pos rfl]
         omega)⟩
      ·clear hf hg' hcm
       have HLT:=qh hlt
       clear hlt
       go_wp2
       go_roundg (m - (j+1))
       case measure=>omega
       case rel=>exact ⟨j+1,_,lv2,R2,by omega,rfl,rfl,by go_num,HS,HI,HX,qh (fun k l' hk hx ho=>by
        rcases (by omega:k<j\/k=j) with h | rfl
        ·exact uh HD k l' h hx ho
        ·rw [(uh HT).2.1] at hx
         obtain rfl:l=l':=by have:=Option.some.inj hx;omega
         rw [<- (uh HT).1,<- uh HLT];omega)⟩
    ·obtain rfl:m=j:=by omega
     clear hjm hj hgk2
     go_wp2
     go_roundg (n - (i+1))
     case measure=>omega
     case rel =>
      refine ⟨i+1,_,lv2,R2,(List.getElem?_eq_some_iff.1 (uh HX)).1,by have:=(uh HI).cnt;omega,rfl,rfl,by go_num,HS,qh ((uh HI).next (uh HX) fun l hl ho hf => ?_)⟩
      obtain ⟨k,hk⟩:=List.getElem?_of_mem ((uh HN).leaves hv hl hf)
      exact uh HD k l (by have:=(List.getElem?_eq_some_iff.1 hk).1;have:=uh HM;omega) hk ho
  ·obtain rfl:rl=i:=by omega
   clear hir hi hgk
   go_wp2
   go_ret
   refine ⟨⟨_,lv,rfl,(uh HS).fam.own 0 (by decide),?_⟩,(uh HS).below⟩
   have h:=uh HI
   rw [uh HRL] at h
   exact h.lev
theorem info_jb:(Tryz.prog.info? 4).map (fun i=>(i.zero,i.size,i.bytes))=some (some (.bool false),1,1):=by kernel_rfl
theorem zk_b:∀ u ∈ (Value.bool false).cells.toList,NoWord u:=by intro u hu z e;simp [Value.cells] at hu;rw [hu] at e;cases e
theorem eg_rc:∀ args w,(callFunc 116 args).run Tryz.prog w=.ok (.enter 116 args) w:=enters_of Tryz.func116 (by kernel_rfl) rfl
theorem isReached_any (x:Int) (w:World):Calls Tryz.prog 116 #[.int .i64 x] w fun e w'=>e=.returned (.bool (decide (0<=x)))/\Below w.heap.size w w':=by
 obtain ⟨b,hb⟩:∃ b,b=decide (0<=x):=⟨_,rfl⟩
 rw [<- hb]
 have HB:=qh hb
 clear hb
 go_enter Tryz.func116,Tryz.ntmps116
 go_wp2
 go_ret
 exact ⟨by rw [uh HB];first | rfl | (congr 2;simp),Below.refl _ _⟩
theorem eachReached_any {v:Value}{L:List Int} (w:World) (h:Rows 1 JE w v L) (hl:L.length<=1000) :
 Calls Tryz.prog 115 #[v,.func (.func 116) #[] #[]] w fun e w'=>(∃ u,e=.returned u/\Rows 1 BE w' u (L.map fun x=>decide (0<=x)))/\Below w.heap.size w w':=by
 obtain ⟨la,lc,rfl⟩:=h.shape
 obtain ⟨m,hm⟩:∃ m,m=L.length:=⟨_,rfl⟩
 rw [<- hm] at h hl ⊢
 have hmk:=zjk (P:=Tryz.prog) 26 4 _ 1 1 Tryz.underlying26 info_jb .i64 .i64 m (by omega) (by omega)
 obtain ⟨g,hg⟩:∃ g,g=w.heap.size:=⟨_,rfl⟩
 obtain ⟨V,hV⟩:∃ V,V=w.alloc (.cells (madeCells #[Value.bool false] m) 4):=⟨_,rfl⟩
 have hF:Fill NoWord 1 BE 4 V g m ([]:List Bool):=by
  have h1:=Fill.new (α := Bool) (k:=1) (E:=BE) (t:=4) w (z:=#[Value.bool false]) m zk_b (by decide)
  rw [Nat.mul_one] at h1
  rw [hV,hg]
  exact h1
 have hb:Below w.heap.size w V:=by rw [hV];exact zqa _ _
 have HF:=qh hF
 have HB:=qh hb
 have HR:=qh h
 have HM:=qh (And.intro hm (show w.heap.size<=g by omega))
 clear h hF hb hm
 go_enter Tryz.func115,Tryz.ntmps115
 go_upto_region 2 with fail
 first | rw [<- hg,<- hV] | rw [<- hV,<- hg]
 clear hV hg hmk
 go_wp2_with fail
 go_loopg [6,7,13] m (fun gk _ _ iv wr=>∃ i:Nat,i<=m/\gk=m - i/\iv=.int .i64 (i:Int)/\Hid (Below w.heap.size w wr)/\Hid (Fill NoWord 1 BE 4 wr g m ((L.take i).map fun x=>decide (0<=x))))
 case atStart=>exact ⟨0,by omega,by omega,rfl,HB,HF⟩
 case round =>
  clear HB HF
  obtain ⟨i,hi,hgk,rfl,HB,HF⟩:=hrel
  by_cases hil:i<m
  ·obtain ⟨x,hx⟩:∃ x,L[i]? = some x:=⟨L[i]'(by have:=(uh HM).1;omega),by simp⟩
   obtain ⟨b,o,rfl,c0,_⟩:=(uh HR).int hx
   have c0:=ck (uh HB) c0
   have HN:=qh (take_map (f:=fun x:Int=>decide (0<=x)) hx)
   have HLN:=qh (show ((L.take i).map fun x:Int=>decide (0<=x)).length=i by simp;have:=(uh HM).1;omega)
   have hil':(i:Int)<(m:Int):=by omega
   have him:(i:Int)+1<=2000:=by omega
   have eg:=eg_rc
   clear hx
   go_wp2_with fail
   go_fit (isReached_any x _)
   rintro e W1 ⟨rfl,B1⟩
   have HB:=qh (bk B1 (uh HB))
   have HF:=qh ((uh HF).later (BE.stays _ _) B1)
   obtain ⟨w0,f0⟩:=(uh HF).cell (o:=i) (by omega)
   have fz:=(uh HF).free
   have flt:=(uh HF).lt
   obtain ⟨ob,hob⟩:∃ b,b=decide (0<=x):=⟨_,rfl⟩
   rw [<- hob]
   have HO:=qh hob
   clear B1 eg c0 hob
   go_wp2
   go_roundg (m - (i+1))
   case measure=>omega
   case rel =>
    have hf:=(uh HF).next1 (u:=.bool ob) (x:=ob) (BE.stays _ _) (by rw [uh HLN];omega) (fun z e=>by cases e) rfl
    rw [uh HLN] at hf
    rw [uh HO,<- uh HN,<- uh HO] at hf
    exact ⟨i+1,by omega,rfl,by go_num,qh ((uh HB).setCell (p:=⟨g,_,none⟩) (uh HM).2 _),qh hf⟩
  ·obtain rfl:m=i:=by omega
   have HLN:=qh (show ((L.take m).map fun x:Int=>decide (0<=x)).length=m by simp;have:=(uh HM).1;omega)
   have HTK:=qh (show (L.take m).map (fun x:Int=>decide (0<=x))=L.map fun x=>decide (0<=x) by rw [List.take_of_length_le (by have:=(uh HM).1;omega)])
   clear hil hi hgk
   go_wp2
   go_ret
   have hr:=(uh HF).rows (uh HLN) (by unfold maxLen;omega)
   rw [uh HTK] at hr
   exact ⟨⟨_,rfl,hr⟩,uh HB⟩
theorem reached_any {K gn gl n s:Nat}{A:List (Nat×Nat)}{F:Nat->Value}{X:Nat->List Int}{rv:Value}{rm:List Int} (w W:World) (h:NtS w K gn gl n A F X rv rm W) (hs:s<n) :
 Calls Tryz.prog 63 #[.pointer (some ⟨gn,0,none⟩),.int .i64 (s:Int)] W fun e W'=>(∃ v lv,e=.returned v/\Rows 1 BE W' v (lv.map fun x=>decide (0<=x))/\lv.length=n/\Lev A n s rm lv)/\Below W.heap.size W W':=by
 have hn:=h.sm.1
 have HN:=qh h
 clear h
 go_enter Tryz.func63,Tryz.ntmps63
 go_wp2_with fail
 go_fit (levels_any w _ (uh HN) hs)
 rintro e W1 ⟨⟨v,lv,rfl,ho,hL⟩,B1⟩
 have hlen:lv.length=n:=hL.len
 have HB:=qh B1
 have HL:=qh (And.intro hlen hL)
 have HO:=qh ho
 clear B1 hL ho hlen
 go_wp2_with fail
 go_fit (eachReached_any _ (uh HO).rows (by have:=(uh HL).1;omega))
 rintro e W2 ⟨⟨u,rfl,hr⟩,B2⟩
 have HB2:=qh (bk B2 (uh HB))
 have HR:=qh hr
 clear B2 hr
 go_wp2
 go_ret
 exact ⟨⟨_,lv,rfl,uh HR,(uh HL).1,(uh HL).2⟩,uh HB2⟩
theorem flow_end {m:Nat}{rm C:List Int}{g:Int} (h1:C.length=m) (h2:∀ (j:Nat) (y:Int),C[j]? = some y->y=rm.getD (2*j+1) 0*g):C=(fl m rm).map fun f=>f*g:=by
 refine List.ext_getElem? fun j => ?_
 rw [List.getElem?_map]
 by_cases hj:j<m
 ·rw [fl_at rm hj]
  have h3:C[j]? = some (C[j]'(by omega)):=List.getElem?_eq_getElem (by omega)
  rw [h3,h2 j _ h3]
  rfl
 ·rw [List.getElem?_eq_none (by omega),List.getElem?_eq_none (by rw [fl_len];omega)]
  rfl
theorem flow_any {K N gn gl n:Nat}{T D P g:Int}{A:List (Nat×Nat)}{F:Nat->Value}{X:Nat->List Int}{rv va:Value}{rm U:List Int}{L:List (Int×Int×Int×Int)} (x:Z4) (w W:World) (hBg:Big K N T) (hD:Dn T D) (hTb:Tab64 W) (h:NtS w K gn gl n A F X rv rm W) (hL:Rows 10 (ArE (RsE K D)) W va L) (hLA:L.length=A.length) (hR:Rm U rm) (hUA:U.length=A.length) (hc:(L.map fun x=>x.2.2.1)=U.map fun u=>u*g) (hz:Zr (K+1) W (vz x) P) (hP:D=P*g) (P0:0<P) (hI:∀ l,Ins T (rm.getD l 0*g)) :
 Calls Tryz.prog 62 #[.pointer (some ⟨gn,0,none⟩),va,.agg #[.int .i64 x.a,.slice x.b x.c x.d]] W fun e W'=>(∃ u,e=.returned u/\OwnR NoWord 4 (RsE K D) 39 W' W.heap.size u ((fl A.length rm).map fun f=>f*g))/\Below W.heap.size W W':=by
 obtain ⟨m,hm⟩:∃ m,m=A.length:=⟨_,rfl⟩
 have hm3:m<=300:=by have:=h.sm.2;omega
 rw [<- hm] at hLA hUA ⊢
 obtain ⟨V,hV⟩:∃ V,V=W.alloc (.cells #[.int .i64 x.a,.slice x.b x.c x.d] 125):=⟨_,rfl⟩
 obtain ⟨gx,hgx⟩:∃ q,q=W.heap.size:=⟨_,rfl⟩
 have kn:=zqa W (.cells #[.int .i64 x.a,.slice x.b x.c x.d] 125)
 have p0:V.cell? ⟨gx,0,none⟩=some (.int .i64 x.a):=by rw [hV,hgx,zqe rfl];rfl
 have p1:V.cell? ⟨gx,1,none⟩=some (.slice x.b x.c x.d):=by rw [hV,hgx,zqe rfl];rfl
 rw [<- hV] at kn
 have HK:=qh kn
 have HN:=qh (h.keep kn)
 have HA:=qh (hL.later (ArE.stays (RsE.stays K D 3 nww)) kn)
 have HT:=qh (hTb.later kn)
 have HZ:=qh (hz.later kn)
 have HG:=qh (And.intro hBg (And.intro hD (And.intro hP (And.intro P0 hI))))
 have HR:=qh hR
 have HM:=qh (And.intro hm (And.intro hLA (And.intro hUA hc)))
 have HP:=qh (And.intro p0 p1)
 clear h hL hTb hz hBg hD hP P0 hI hR hc hm hLA hUA kn p0 p1
 go_enter Tryz.func62,Tryz.ntmps62
 go_upto_region 1 with fail
 rw [<- hV,<- hgx]
 clear hV hgx
 go_wp2_with fail
 go_fit (eachCap_any _ (uh HA) (by rw [(uh HM).2.1];exact hm3))
 rintro e W1 ⟨⟨u,rfl,ho⟩,B1⟩
 obtain ⟨oa,oc,rfl⟩:=ho.slice
 have hlm:(L.map fun x=>x.2.2.1).length=m:=by rw [List.length_map];exact (uh HM).2.1
 obtain ⟨m2,hm2⟩:∃ k,k=(L.map fun x=>x.2.2.1).length:=⟨_,rfl⟩
 rw [<- hm2] at ho hlm ⊢
 subst hlm
 have HO:=qh ho
 have HB:=qh B1
 have HC:=qh (show ∀ (j:Nat) (y:Int),(L.map fun x=>x.2.2.1)[j]? = some y->if j<0 then y=rm.getD (2*j+1) 0*g else (L.map fun x=>x.2.2.1)[j]? = some y from fun j y hy=>by rw [if_neg (by omega)];exact hy)
 clear ho B1 hm2
 go_wp2_with fail
 go_loopg [8,13] m2 (fun gk _ iv wr=>∃ (i:Nat) (C:List Int),i<=m2/\gk=m2 - i/\iv=.int .i64 (i:Int)/\Hid (Below V.heap.size V wr)/\Hid (C.length=m2)/\Hid (OwnR NoWord 4 (RsE K D) 39 wr V.heap.size (.slice oa m2 oc) C)/\Hid (∀ (j:Nat) (y:Int),C[j]? = some y->if j<i then y=rm.getD (2*j+1) 0*g else (L.map fun x=>x.2.2.1)[j]? = some y))
 case atStart=>exact ⟨0,_,by omega,by omega,rfl,HB,qh (by rw [List.length_map];exact (uh HM).2.1),HO,HC⟩
 case round =>
  clear HB HO HC
  obtain ⟨i,C,hi,hgk,rfl,HB,HCL,HO,HC⟩:=hrel
  by_cases hil:i<m2
  ·obtain ⟨l0,hl0⟩:∃ l,l=2*i:=⟨_,rfl⟩
   have e0:2*(i:Int)=(l0:Int):=by omega
   have hil':(i:Int)<(m2:Int):=by omega
   have him:(i:Int)+1<=1000:=by omega
   have HRL:=qh (show rm.length=2*m2 by rw [(uh HN).rl,<- (uh HM).1])
   have hl01:(l0:Int)+1<=1000:=by omega
   have HL0:=qh hl0
   clear hl0
   go_wp2_with fail
   go_fit (isOpen_any (l:=l0) _ _ ((uh HN).keep (uh HB)).s (by have:=uh HRL;have:=uh HL0;omega) (by have:=uh HRL;omega))
   rintro e W2 ⟨rfl,B2⟩
   obtain ⟨ob,hob⟩:∃ b,b=decide (0<rm.getD l0 0):=⟨_,rfl⟩
   rw [<- hob]
   have HOB:=qh hob
   have HB:=qh (bk B2 (uh HB))
   have HO:=qh ((uh HO).later (RsE.stays K D _ nww) B2)
   clear B2 hob
   cases ob
   ·go_wp2
    go_roundg (m2 - (i+1))
    case measure=>omega
    case rel=>exact ⟨i+1,C,by omega,rfl,by go_num,HB,HCL,HO,qh (fun j y hy=>by
     have h1:=uh HC j y hy
     by_cases hj:j<i
     ·rw [if_pos hj] at h1
      rw [if_pos (by omega)]
      exact h1
     ·rw [if_neg hj] at h1
      by_cases hj2:j<i+1
      ·rw [if_pos hj2]
       obtain rfl:j=i:=by omega
       rw [(uh HM).2.2.2,List.getElem?_map] at h1
       obtain ⟨u,hu⟩:∃ u,U[j]? = some u:=⟨_,List.getElem?_eq_getElem (by rw [(uh HM).2.2.1];exact hil)⟩
       rw [hu] at h1
       have h2:=(uh HR).sum j u hu
       have h3:=(uh HR).ge (2*j)
       have h4:=of_decide_eq_false (uh HOB).symm
       rw [uh HL0] at h4
       obtain rfl:u*g=y:=Option.some.inj h1
       rw [show rm.getD (2*j+1) 0=u by omega]
      ·rw [if_neg hj2];exact h1)⟩
   ·obtain ⟨l1,hl1⟩:∃ l,l=2*i+1:=⟨_,rfl⟩
    have e1:(l0:Int)+1=(l1:Int):=by have:=uh HL0;omega
    have e2:IntKind.i64.wrap (l0:Int)=(l0:Int):=by rw [wrapI64];unfold wrap64;omega
    have e3:IntKind.i64.wrap ((l0:Int)+1)=(l1:Int):=by rw [wrapI64];unfold wrap64;omega
    have hl11:(l1:Int)<=1000:=by omega
    have hnt:=(uh HN).keep (uh HB)
    obtain ⟨gr,cr,y,hv,_,_,_,c0,c1,hy⟩:=hnt.s.line (l:=l1) (by rw [uh HRL];omega)
    have c2:=hnt.s.c2
    rw [hv,uh HRL] at c2
    obtain ⟨M,hM⟩:∃ M,M=2*m2:=⟨_,rfl⟩
    rw [<- hM] at c2
    have hlM:(l1:Int)<(M:Int):=by omega
    have p0:=ck (uh HB) (uh HP).1
    have p1:=ck (uh HB) (uh HP).2
    obtain ⟨go,co,ho,hf,hgo,hcm⟩:=(uh HO).fill (by rw [uh HCL];omega)
    injection ho with h1 h2 h3
    clear h2
    subst h1 h3
    have HF:=qh hf
    have HGO:=qh (And.intro hgo hcm)
    have HY:=qh hy
    have HL1:=qh hl1
    have hlM2:l1<M:=by omega
    clear hv hf hgo hcm hy hnt hM hl1 e1 hl01
    go_upto_region 6 with fail
    go_region_with (go_at_call 64;go_fit (fraction_any x y _ (uh HG).1 (uh HG).2.1 ((uh HT).later (bk (Below.refl _ _).drew (uh HB))) ((uh HY).later (Below.refl _ _).drew) ((uh HZ).later (bk (Below.refl _ _).drew (uh HB))) (uh HG).2.2.1 (uh HG).2.2.2.1 ((uh HG).2.2.2.2 l1));rintro e8 Y1 ⟨⟨u,rfl,hu⟩,hb⟩;have BW:=qh (bk hb (Below.refl W2.heap.size W2).drew);have HU:=qh hu;have HF8:=qh ((uh HF).later (RsE.stays K D _ nww) (uh BW));obtain ⟨w0,f0⟩:=(uh HF8).cell (o:=i*4) (by have:=(uh HF8).len;have:=uh HCL;omega);obtain ⟨w1,f1⟩:=(uh HF8).cell (o:=i*4+1) (by have:=(uh HF8).len;have:=uh HCL;omega);obtain ⟨w2,f2⟩:=(uh HF8).cell (o:=i*4+2) (by have:=(uh HF8).len;have:=uh HCL;omega);obtain ⟨w3,f3⟩:=(uh HF8).cell (o:=i*4+3) (by have:=(uh HF8).len;have:=uh HCL;omega);have fz:=(uh HF8).free;have hlt:=(uh HF8).lt;clear hb hu c0 c1 c2 p0 p1)
    all_goals
     go_wp2
     go_roundg (m2 - (i+1))
     case measure=>omega
     case rel =>
      have hf:=(uh HF8).set4 (i:=i) (x:=rm.getD l1 0*g) (u0:=.int .i64 u.a) (u1:=.slice u.b u.c u.d) (u2:=.int .i64 u.e) (u3:=.slice u.f u.g u.h) (RsE.stays K D _ nww) (by rw [uh HCL];exact hil) (kd_r _ _ _ _ _ _ _ _) ⟨_,_,_,_,_,_,_,_,rfl,uh HU⟩
      have ho:=OwnR.of_fill hf (uh HGO).1 (uh HGO).2
      rw [List.length_set,uh HCL] at ho
      exact ⟨i+1,C.set i (rm.getD l1 0*g),by omega,rfl,by go_num,qh (((((bk (uh BW) (uh HB)).setCell (p:=⟨go,_,none⟩) (uh HGO).1 _).setCell (p:=⟨go,_,none⟩) (uh HGO).1 _).setCell (p:=⟨go,_,none⟩) (uh HGO).1 _).setCell (p:=⟨go,_,none⟩) (uh HGO).1 _),qh (by rw [List.length_set];exact uh HCL),qh ho,qh (fun j y hy=>by
       rw [List.getElem?_set] at hy
       by_cases hj:i=j
       ·subst hj
        rw [if_pos rfl,if_pos (by rw [uh HCL];exact hil)] at hy
        rw [if_pos (by omega),<- uh HL1]
        exact (Option.some.inj hy).symm
       ·rw [if_neg hj] at hy
        have h1:=uh HC j y hy
        by_cases hj2:j<i
        ·rw [if_pos hj2] at h1
         rw [if_pos (by omega)]
         exact h1
        ·rw [if_neg hj2] at h1
         rw [if_neg (by omega)]
         exact h1)⟩
  ·obtain rfl:m2=i:=by omega
   clear hil hi hgk
   go_wp2
   go_ret
   have hr:=(uh HO).rebase (uh HK).size
   rw [flow_end (uh HCL) (fun j y hy=>by
    have h1:=uh HC j y hy
    rw [if_pos (by have:=(List.getElem?_eq_some_iff.1 hy).1;have:=uh HCL;omega)] at h1
    exact h1)] at hr
   exact ⟨⟨_,rfl,hr⟩,bk (uh HB) (uh HK)⟩
def lvr (A:List (Nat×Nat)) (v:Nat):List Int:=XN A A.length (v+2)
structure Wk (A:List (Nat×Nat)) (n s t:Nat) (lv rm:List Int) (dn:Nat->Nat) (p:List Nat) (b:Nat):Prop where
 way:Way A p s b
 opn:∀ l ∈ p,l<2*A.length/\0<rm.getD l 0/\Alw A lv l
 le:∀ v,dn v<=(lvr A v).length
 dead:∀ v k l:Nat,k<dn v->(lvr A v)[k]? = some (l:Int)->0<rm.getD l 0->Alw A lv l->lnT A l≠t/\dn (lnT A l)=(lvr A (lnT A l)).length
 at_:∀ l ∈ p,(lvr A (lnF A l))[dn (lnF A l)]? = some (l:Int)
theorem alw_lt {A:List (Nat×Nat)}{lv:List Int}{b a:Nat}{w:List Nat} (h:Way A w a b) (ha:∀ l ∈ w,Alw A lv l):∀ x ∈ w,lvl lv (lnF A x)<lvl lv b:=by
 intro x hx
 obtain ⟨k,hk⟩:=List.getElem?_of_mem hx
 obtain ⟨_,_,h2⟩:=h.at hk
 have h3:=(alw_ge h2 fun y hy=>ha y (List.mem_of_mem_drop hy)).1
 have h4:=ha x hx
 unfold Alw at h4
 omega
theorem mvW_alw {A:List (Nat×Nat)}{lv:List Int}{d:Int}{l:Nat} (d0:0<=d) (hl:Alw A lv l):∀ {w:List Nat}{rm:List Int},rm.length=2*A.length->(∀ x ∈ w,x<2*A.length/\Alw A lv x)->(mvW rm w d).getD l 0<=rm.getD l 0
 | [],rm,_,_=>Int.le_refl _
 | x :: w,rm,hr,hw=>by
  have h1:=mvW_alw d0 hl (w:=w) (rm:=mvL rm x d) (by rw [mvL_len];exact hr) fun y hy=>hw y (by simp [hy])
  have hx:=hw x (by simp)
  have h2:=mvL_at d hr hx.1 l
  have hne:l≠opp x:=fun e=>by
   have h3:=hx.2
   unfold Alw at hl h3
   rw [e,lnF_opp] at hl
   have h4:lnT A (opp x)=lnF A x:=by rw [<- lnF_opp,opp_opp]
   rw [h4] at hl
   omega
  rw [if_neg hne] at h2
  have h5:(mvW rm (x :: w) d).getD l 0=(mvW (mvL rm x d) w d).getD l 0:=rfl
  rw [h5]
  split at h2 <;> omega
section
variable {A:List (Nat×Nat)}{n s t b:Nat}{lv rm:List Int}{dn:Nat->Nat}{p:List Nat}
theorem Wk.lines (h:Wk A n s t lv rm dn p b):∀ x ∈ p,lnF A x≠b:=fun x hx e=>by
 have:=alw_lt h.way (fun l hl=>(h.opn l hl).2.2) x hx
 rw [e] at this
 omega
theorem Wk.skip (h:Wk A n s t lv rm dn p b) {l:Nat} (hl:(lvr A b)[dn b]? = some (l:Int)) (hno:0<rm.getD l 0->Alw A lv l->lnT A l≠t/\lnT A l≠b/\dn (lnT A l)=(lvr A (lnT A l)).length) {q:List Nat} (hw:Way A q s b) (hq:∀ x ∈ q,x ∈ p) (hqb:∀ x ∈ q,lnF A x≠b):Wk A n s t lv rm (upd dn b (dn b+1)) q b:=by
 have hlt:=(List.getElem?_eq_some_iff.1 hl).1
 have hfull:∀ u,dn u=(lvr A u).length->u≠b:=fun u hu e=>by rw [e] at hu;omega
 refine ⟨hw,fun x hx=>h.opn x (hq x hx),fun v => ?_,fun v k l' hk hl' ho ha => ?_,fun x hx=>by rw [zqi _ _ (hqb x hx)];exact h.at_ x (hq x hx)⟩
 ·by_cases e:v=b
  ·subst e;rw [zqk];omega
  ·rw [zqi _ _ e];exact h.le v
 ·have key:lnT A l'≠t/\lnT A l'≠b/\dn (lnT A l')=(lvr A (lnT A l')).length:=by
   by_cases e:v=b
   ·subst e
    rw [zqk] at hk
    rcases (by omega:k<dn v\/k=dn v) with h1 | rfl
    ·obtain ⟨h2,h3⟩:=h.dead v k l' h1 hl' ho ha
     exact ⟨h2,hfull _ h3,h3⟩
    ·rw [hl] at hl'
     obtain rfl:l=l':=by have:=Option.some.inj hl';omega
     exact hno ho ha
   ·rw [zqi _ _ e] at hk
    obtain ⟨h2,h3⟩:=h.dead v k l' hk hl' ho ha
    exact ⟨h2,hfull _ h3,h3⟩
  exact ⟨key.1,by rw [zqi _ _ key.2.1];exact key.2.2⟩
theorem Wk.past (h:Wk A n s t lv rm dn p b) {l:Nat} (hl:(lvr A b)[dn b]? = some (l:Int)) (hno:¬ (0<rm.getD l 0/\Alw A lv l)):Wk A n s t lv rm (upd dn b (dn b+1)) p b :=
 h.skip hl (fun h1 h2=>absurd ⟨h1,h2⟩ hno) h.way (fun _ hx=>hx) h.lines
theorem Wk.on (h:Wk A n s t lv rm dn p b) {l:Nat} (hl:(lvr A b)[dn b]? = some (l:Int)) (ho:0<rm.getD l 0) (ha:Alw A lv l):Wk A n s t lv rm dn (p++[l]) (lnT A l):=by
 obtain ⟨l',e,h1,h2⟩:=(XN_leave A b A.length (Nat.le_refl _)).1 _ _ hl
 obtain rfl:l=l':=by omega
 refine ⟨h.way.snoc h1 h2,fun x hx => ?_,h.le,h.dead,fun x hx => ?_⟩
 ·rcases List.mem_append.1 hx with hx | hx
  ·exact h.opn x hx
  ·obtain rfl:x=l:=by simpa using hx
   exact ⟨h1,ho,ha⟩
 ·rcases List.mem_append.1 hx with hx | hx
  ·exact h.at_ x hx
  ·obtain rfl:x=l:=by simpa using hx
   rw [h2];exact hl
theorem Wk.back {q:List Nat}{l:Nat} (h:Wk A n s t lv rm dn (q++[l]) b) (hf:dn b=(lvr A b).length) (hbt:b≠t):lnT A l=b/\Wk A n s t lv rm (upd dn (lnF A l) (dn (lnF A l)+1)) q (lnF A l):=by
 have hk:(q++[l])[q.length]? = some l:=by simp
 obtain ⟨h1,h2,h3⟩:=h.way.at hk
 rw [List.take_left'  rfl] at h2
 have hb:lnT A l=b:=by
  rw [List.drop_of_length_le (by simp)] at h3
  exact h3
 have hlm:l ∈ q++[l]:=by simp
 have hal:=(h.opn l hlm).2.2
 have hne:lnT A l≠lnF A l:=fun e=>by unfold Alw at hal;rw [e] at hal;omega
 have hqF:∀ x ∈ q,lnF A x≠lnF A l:=fun x hx e=>by
  have:=alw_lt h2 (fun y hy=>(h.opn y (by simp [hy])).2.2) x hx
  rw [e] at this
  omega
 refine ⟨hb,?_⟩
 have h':Wk A n s t lv rm dn q (lnF A l):=⟨h2,fun x hx=>h.opn x (by simp [hx]),h.le,h.dead,fun x hx=>h.at_ x (by simp [hx])⟩
 exact h'.skip (h.at_ l hlm) (fun _ _=>by rw [hb];exact ⟨hbt,by rw [<- hb];exact hne,hf⟩) h2 (fun _ hx=>hx) hqF
theorem Wk.fill (h:Wk A n s t lv rm dn p b) {d:Int} (d0:0<=d) (hr:rm.length=2*A.length) (k:Nat) (ho:∀ l ∈ p.take k,0<(mvW rm p d).getD l 0):∃ c,Wk A n s t lv (mvW rm p d) dn (p.take k) c:=by
 obtain ⟨c,h1,_⟩:=h.way.take k
 refine ⟨c,h1,fun l hl => ?_,h.le,fun v k l hk hl ho ha => ?_,fun l hl=>h.at_ l (List.mem_of_mem_take hl)⟩
 ·obtain ⟨h2,_,h4⟩:=h.opn l (List.mem_of_mem_take hl)
  exact ⟨h2,ho l hl,h4⟩
 ·have:=mvW_alw d0 ha hr fun x hx=>⟨(h.opn x hx).1,(h.opn x hx).2.2⟩
  exact h.dead v k l hk hl (by omega) ha
theorem Wk.fin (h:Wk A n s t lv rm dn p b):∀ l,l<2*A.length->0<rm.getD l 0->Alw A lv l->dn (lnF A l)=(lvr A (lnF A l)).length->dn (lnT A l)=(lvr A (lnT A l)).length/\lnT A l≠t:=by
 intro l hl ho ha hf
 obtain ⟨k,hk⟩:=List.getElem?_of_mem ((XN_leave A (lnF A l) A.length (Nat.le_refl _)).2 l hl rfl)
 have h1:=h.dead (lnF A l) k l (by rw [hf];exact (List.getElem?_eq_some_iff.1 hk).1) hk ho ha
 exact ⟨h1.2,h1.1⟩
end
theorem wk_start (A:List (Nat×Nat)) (n s t:Nat) (lv rm:List Int):Wk A n s t lv rm (fun _=>0) [] s :=
 ⟨rfl,fun l hl=>(by cases hl),fun v=>Nat.zero_le _,fun v k l hk=>absurd hk (Nat.not_lt_zero _),fun l hl=>(by cases hl)⟩
end Go.Proofs.YtkdobjmhammhbaaGreatDoor
