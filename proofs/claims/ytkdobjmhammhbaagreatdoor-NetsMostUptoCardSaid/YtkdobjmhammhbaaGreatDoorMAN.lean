import Derived.Test.YtkdobjmhammhbaaGreatDoorMAK
namespace Go.Proofs.YtkdobjmhammhbaaGreatDoor
set_option maxHeartbeats 16000000
set_option maxRecDepth 100000
open Go.RowKit
theorem OwnR.fill {α:Type}{K:Value->Prop}{k:Nat}{E:World->List Value -> α -> Prop}{t:TypeId}{w:World}{base:Nat}{v:Value}{L:List α} (h:OwnR K k E t w base v L) (h0:0<L.length):∃ g cap,v=.slice (some ⟨g,0,none⟩) L.length cap/\Fill K k E t w g cap L/\base<=g/\cap<=maxLen:=by
 obtain ⟨xs,⟨h1,h3⟩,h2⟩:=h
 rcases h1.2 with ⟨_,hn⟩ | ⟨g,cap,cur,rfl,hbg,hgg,hnc,hcm,hcs,htake⟩
 ·omega
 ·refine ⟨g,cap,rfl,⟨cur,hgg,hcs,fun u hu => ?_,hnc,fun i x hx => ?_⟩,hbg,hcm⟩
  ·obtain ⟨o,ho⟩:=List.getElem?_of_mem hu
   exact h3 g rfl o u (by simp only [World.cell?,hgg];simpa using ho)
  ·obtain ⟨cs,hl,hcs',he⟩:=h2 i x hx
   refine ⟨cs,hl,fun j u hu => ?_,he⟩
   have h4:=hcs' j u hu
   rw [<- htake,List.getElem?_take] at h4
   split at h4
   ·simpa using h4
   ·cases h4
section
variable {w:World}{K gn gl n:Nat}{C F:Nat->Value}{X:Nat->List Int}{rc rv:Value}{rm:List Int}{W W':World}
theorem NjS.line (h:NjS w K gn gl n C F X rc rv rm W) {l:Nat} (hl:l<rm.length):∃ g cap y,rv=.slice (some ⟨g,0,none⟩) rm.length cap/\Fill NoWord 2 (ZE (K+1)) 37 W g cap rm/\w.heap.size<=g/\cap<=maxLen/\W.cell? ⟨g,l*2,none⟩=some (.int .i64 y.a)/\W.cell? ⟨g,l*2+1,none⟩=some (.slice y.b y.c y.d)/\Zr (K+1) W (vz y) (rm.getD l 0):=by
 obtain ⟨g,cap,h1,h2,h3,h4⟩:=h.room.fill (by omega)
 have hx:rm[l]? = some (rm.getD l 0):=by rw [List.getD_eq_getElem?_getD,List.getElem?_eq_getElem hl];rfl
 obtain ⟨y,c0,c1,hz⟩:=h2.z2 hx
 exact ⟨g,cap,y,h1,h2,h3,h4,c0,c1,hz⟩
theorem NjS.setR (h:NjS w K gn gl n C F X rc rv rm W) {l g cap:Nat}{y:Z4}{s:Int} (hl:l<rm.length) (hv:rv=.slice (some ⟨g,0,none⟩) rm.length cap) (hf:Fill NoWord 2 (ZE (K+1)) 37 W g cap rm) (hg:w.heap.size<=g) (hc:cap<=maxLen) (hz:Zr (K+1) W (vz y) s) :
 NjS w K gn gl n C F X rc rv (rm.set l s) ((W.setCell ⟨g,l*2,none⟩ (.int .i64 y.a)).setCell ⟨g,l*2+1,none⟩ (.slice y.b y.c y.d)):=by
 have he:=else2 (g:=g) W (l*2) (.int .i64 y.a) (.slice y.b y.c y.d)
 obtain ⟨cur,hcur,_⟩:=hf
 have hf:Fill NoWord 2 (ZE (K+1)) 37 W g cap rm:=⟨cur,hcur,by assumption⟩
 have hn1:gn≠g:=h.bn.ne hf.raw (by decide)
 have hn2:gl≠g:=h.bl.ne hf.raw (by decide)
 have hs:=hf.set2 (zqs _ _) hl (kd_z _ _ _ _) ⟨_,_,_,_,rfl,hz⟩
 refine ⟨(h.below.setCell (p:=⟨g,l*2,none⟩) hg _).setCell (p:=⟨g,l*2+1,none⟩) hg _,h.fam.elsewhere he hcur (by decide),?_,he.cell hn1 h.c0,he.cell hn1 h.c1,he.cell hn1 h.c2,he.cell hn1 h.c3,fun k hk=>he.cell hn2 (h.cl k hk),h.bn.elsewhere he hn1,h.bl.elsewhere he hn2,h.gw⟩
 have ho:=OwnR.of_fill hs hg hc
 rw [List.length_set] at ho
 rw [hv]
 exact ho
end
theorem XN_ends (A:List (Nat×Nat)) (i:Nat) (hi:i<=A.length):(XN A i 0).length=2*i/\(XN A i 1).length=2*i/\∀ l,l<2*i->(XN A i 0)[l]? = some (lnF A l:Int)/\(XN A i 1)[l]? = some (lnT A l:Int):=by
 induction i with
 | zero=>exact ⟨rfl,rfl,fun l h=>by omega⟩
 | succ i ih =>
  obtain ⟨h0,h1,h2⟩:=ih (by omega)
  rw [XN_from,XN_to]
  refine ⟨by simp [h0];omega,by simp [h1];omega,fun l hl => ?_⟩
  rcases Nat.lt_or_ge l (2*i) with hl' | hl'
  ·rw [List.getElem?_append_left (by omega),List.getElem?_append_left (by omega)]
   exact h2 l hl'
  ·rw [List.getElem?_append_right (by omega),List.getElem?_append_right (by omega),h0,h1]
   unfold lnF lnT
   rcases (by omega:l=2*i\/l=2*i+1) with rfl | rfl
   ·rw [if_pos (by omega),if_pos (by omega),show 2*i / 2=i by omega,Nat.sub_self];exact ⟨rfl,rfl⟩
   ·rw [if_neg (by omega),if_neg (by omega),show (2*i+1) / 2=i by omega,show 2*i+1 - 2*i=1 by omega];exact ⟨rfl,rfl⟩
theorem XN_leave (A:List (Nat×Nat)) (v i:Nat) (hi:i<=A.length):(∀ (j:Nat) (x:Int),(XN A i (v+2))[j]? = some x->∃ l:Nat,x=(l:Int)/\l<2*i/\lnF A l=v)/\∀ l,l<2*i->lnF A l=v->(l:Int) ∈ XN A i (v+2):=by
 induction i with
 | zero=>exact ⟨fun j x h=>by simp [XN] at h,fun l h=>by omega⟩
 | succ i ih =>
  obtain ⟨h1,h2⟩:=ih (by omega)
  have e0:lnF A (2*i)=(A.getD i (0,0)).1:=by unfold lnF;rw [if_pos (by omega),show 2*i / 2=i by omega]
  have e1:lnF A (2*i+1)=(A.getD i (0,0)).2:=by unfold lnF;rw [if_neg (by omega),show (2*i+1) / 2=i by omega]
  rw [XN_lv]
  refine ⟨fun j x hx => ?_,fun l hl hf => ?_⟩
  ·have hm:=List.mem_of_getElem? hx
   rw [List.mem_append,List.mem_append] at hm
   rcases hm with hm | hm | hm
   ·obtain ⟨j',hj'⟩:=List.getElem?_of_mem hm
    obtain ⟨l,e,hl,hf⟩:=h1 j' x hj'
    exact ⟨l,e,by omega,hf⟩
   ·split at hm
    ·rename_i e
     exact ⟨2*i,by simpa using hm,by omega,by rw [e0,e]⟩
    ·cases hm
   ·split at hm
    ·rename_i e
     exact ⟨2*i+1,by simpa using hm,by omega,by rw [e1,e]⟩
    ·cases hm
  ·rw [List.mem_append,List.mem_append]
   rcases (by omega:l<2*i\/l=2*i\/l=2*i+1) with h | rfl | rfl
   ·exact Or.inl (h2 l h hf)
   ·rw [e0] at hf;rw [if_pos hf.symm];exact Or.inr (Or.inl (by simp))
   ·rw [e1] at hf;rw [if_pos hf.symm];exact Or.inr (Or.inr (by simp))
theorem isOpen_any {K gn gl n l:Nat}{F:Nat->Value}{X:Nat->List Int}{rv:Value}{rm:List Int} (w W:World) (h:NjS w K gn gl n F F X rv rv rm W) (hl:l<rm.length) (_hs:rm.length<=1000) :
 Calls Tryz.prog 114 #[.pointer (some ⟨gn,0,none⟩),.int .i64 (l:Int)] W fun e W'=>e=.returned (.bool (decide (0<rm.getD l 0)))/\Below W.heap.size W W':=by
 obtain ⟨g,cap,y,hv,_,_,_,c0,c1,hz⟩:=h.line hl
 have c2:=h.c2
 rw [hv] at c2
 have HZ:=qh hz
 have hl0:(l:Int)<(rm.length:Int):=by omega
 obtain ⟨m,hm⟩:∃ m,m=rm.length:=⟨_,rfl⟩
 rw [<- hm] at c2 hl0
 clear h hv hz hl _hs hm
 go_enter Tryz.func114,Tryz.ntmps114
 go_wp2_with fail
 go_fit (zs_sign _ (uh HZ))
 rintro e W1 ⟨rfl,B1⟩
 have HB:=qh B1
 obtain ⟨sg,hsg⟩:∃ z,z=sgn (rm.getD l 0):=⟨_,rfl⟩
 have hgt:=@sgn_gt (rm.getD l 0)
 rw [<- hsg] at hgt ⊢
 have HGT:=qh hgt
 clear hsg hgt B1 c0 c1 c2
 go_wp2
 go_ret
 refine ⟨?_,uh HB⟩
 show Ending.returned (.bool (decide (0<sg)))=_
 congr 2
 exact decide_eq_decide.2 (uh HGT)
theorem xor_opp:∀ l:Nat,l<1001->bits BinOp.xor IntKind.i64 (l:Int) 1=(opp l:Int):=by decide +kernel
def Asd (rv:Value) (W W':World):Prop:=W.heap.size<=W'.heap.size/\∀ r,r<W.heap.size->rv.ownBlock≠some r->W'.heap[r]? = W.heap[r]?
theorem move_any {K N gn gl n l:Nat}{T:Int}{F:Nat->Value}{X:Nat->List Int}{rv:Value}{rm:List Int}{d B:Int} (y:Z4) (w W:World) (hBg:Big K N T) (h:NjS w K gn gl n F F X rv rv rm W) (hl:l<rm.length) (ho:opp l<rm.length) (hs:rm.length<=1000) (hz:Zr (K+1) W (vz y) d) (hb:∀ j,0<=rm.getD j 0/\rm.getD j 0<=B) (hd:0<=d/\d<=B) (hT:2*B<T) :
 Calls Tryz.prog 200 #[.pointer (some ⟨gn,0,none⟩),.int .i64 (l:Int),vz y] W fun e W'=>e=.returned (.tuple #[])/\NjS w K gn gl n F F X rv rv (mvL rm l d) W'/\Asd rv W W':=by
 obtain ⟨V,hV⟩:∃ V,V=W.alloc (.cells #[.int .i64 y.a,.slice y.b y.c y.d] 37):=⟨_,rfl⟩
 obtain ⟨q,hq⟩:∃ q,q=W.heap.size:=⟨_,rfl⟩
 have kn:=zqa W (.cells #[.int .i64 y.a,.slice y.b y.c y.d] 37)
 have hx:=ZX.new hz
 rw [<- hV,<- hq] at hx
 rw [<- hV] at kn
 have h0:=h
 have h:=h.later kn
 obtain ⟨g,cap,u,hv,hf,hgw,hcm,c0,c1,hu⟩:=h.line hl
 have hqg:q≠g:=by
  obtain ⟨g',cap',_,hv',hf',_⟩:=h0.line hl
  rw [hv] at hv'
  have e:g=g':=by injection hv' with h1;injection h1 with h1;injection h1
  rw [hq,e]
  exact fun hh=>Nat.lt_irrefl _ (hh ▸ hf'.lt)
 have c2:=h.c2
 rw [hv] at c2
 have hl0:(l:Int)<(rm.length:Int):=by omega
 obtain ⟨m,hm⟩:∃ m,m=rm.length:=⟨_,rfl⟩
 rw [<- hm] at c2 hl0 hv
 have x0:=hx.c0
 have x1:=hx.c1
 have HJ:=qh h
 have HKN:=qh kn
 have HX:=qh hx
 have HU:=qh hu
 have HF:=qh hf
 have HV:=qh hv
 have HB:=qh hb
 have HM:=qh (And.intro hm (And.intro ho hs))
 have HG:=qh (And.intro hBg (And.intro hd hT))
 have HN:=qh (And.intro hgw (And.intro hcm hqg))
 have HL:=qh hl
 have HIN:=qh (show -pw (K+1)<rm.getD l 0 - d/\rm.getD l 0 - d<pw (K+1) by have:=hb l;have:=hBg.r;omega)
 have hgz1:gn≠g:=h.bn.ne hf.raw (by decide)
 clear h h0 hx hu hf hv hb hm hBg hd hT hgw hcm hqg kn hz hl ho hs
 go_enter Tryz.func200,Tryz.ntmps200
 go_upto_region 1 with fail
 rw [<- hV,<- hq]
 clear hV hq
 go_cut [] (fun wx=>Hid (NjS w K gn gl n F F X rv rv (rm.set l (rm.getD l 0 - d)) wx)/\Hid (ZX (K+1) wx q y d)/\Hid (Asd rv W wx))
 case first =>
  go_region_with (go_at_call 195;go_fit (zs_sub _ (uh HG).1 ((uh HU).later (Below.refl _ _).drew) ((uh HX).z.later (Below.refl _ _).drew) (uh HIN));rintro e8 Y1 ⟨⟨vm,rfl,hm⟩,hb⟩;obtain ⟨zm,rfl⟩:=hm.sh;have BW:=qh (bk hb (Below.refl V.heap.size V).drew);have HM8:=qh hm;have c2:=ck (uh BW) c2;have HF8:=qh ((uh HF).later (zqs _ _) (uh BW));obtain ⟨w0,f0⟩:=(uh HF8).cell (o:=l*2) (by have:=(uh HF).len;have:=uh HL;omega);obtain ⟨w1,f1⟩:=(uh HF8).cell (o:=l*2+1) (by have:=(uh HF).len;have:=uh HL;omega);have fz:=(uh HF8).free;have hlt:=(uh HF8).lt;clear hb hm c0 c1 x0 x1)
  all_goals
   have hJ:=(uh HJ).later (uh BW)
   have hmm:=(uh HM).1
   have HJ2:=qh (hJ.setR (y:=zm) (uh HL) (by rw [<- hmm];exact uh HV) (uh HF8) (uh HN).1 (uh HN).2.1 (uh HM8))
   have HX2:=qh (((uh HX).keep (uh BW)).aside (else2 (g:=g) Y1 (l*2) (.int .i64 zm.a) (.slice zm.b zm.c zm.d)) (uh HN).2.2 ((uh HF8).chgO (else2 (g:=g) Y1 (l*2) (.int .i64 zm.a) (.slice zm.b zm.c zm.d))))
   have HAS:=qh (show Asd rv W ((Y1.setCell ⟨g,l*2,none⟩ (.int .i64 zm.a)).setCell ⟨g,l*2+1,none⟩ (.slice zm.b zm.c zm.d)) from by
    have h1:=(uh BW).size
    have h2:=(uh HKN).size
    refine ⟨by simp;omega,fun r hr hne => ?_⟩
    have hrg:r≠g:=fun e=>hne (by rw [uh HV,e];rfl)
    exact ((else2 (g:=g) Y1 (l*2) (.int .i64 zm.a) (.slice zm.b zm.c zm.d)) r hrg).trans (((uh BW).block r (by omega)).trans ((uh HKN).block r hr)))
   clear hJ hmm
   go_wp2
   go_meet
   exact ⟨HJ2,HX2,HAS⟩
 case rest =>
  obtain ⟨HJ2,HX2,HAS⟩:=hcut
  clear HJ HX HU HF HIN c0 c1 c2 x0 x1
  obtain ⟨Z,rfl⟩:∃ X,X=wc:=⟨_,rfl⟩
  have h:=uh HJ2
  have hxo:=xor_opp l (by have:=(uh HM).2.2;have:=uh HL;omega)
  have hol:opp l<(rm.set l (rm.getD l 0 - d)).length:=by rw [List.length_set];exact (uh HM).2.1
  obtain ⟨g2,cap2,u2,hv2,hf2,hgw2,hcm2,c0,c1,hu2⟩:=h.line hol
  obtain ⟨rfl,rfl⟩:g2=g/\cap2=cap:=by
   have h1:=uh HV
   rw [h1] at hv2
   simp at hv2
   exact ⟨hv2.1.symm,hv2.2.2.symm⟩
  have c2:=h.c2
  rw [uh HV] at c2
  have x0:=(uh HX2).c0
  have x1:=(uh HX2).c1
  have hgn:gn≠g2:=hgz1
  obtain ⟨o,hoo⟩:∃ o,o=opp l:=⟨_,rfl⟩
  have hrd:(rm.set l (rm.getD l 0 - d)).getD o 0=rm.getD o 0:=by rw [hoo];exact getD_ne _ (fun e=>opp_ne l e.symm)
  rw [<- hoo] at hxo c0 c1 hu2 hol
  rw [hrd] at hu2
  have ho0:(o:Int)<(m:Int):=by rw [(uh HM).1];rw [List.length_set] at hol;omega
  have HU2:=qh hu2
  have HF2:=qh hf2
  have HOL:=qh (And.intro hol hoo)
  have HIN:=qh (show -pw (K+1)<rm.getD o 0+d/\rm.getD o 0+d<pw (K+1) by have h1:=uh HB o;have h2:=(uh HG).2.1;have h3:=(uh HG).2.2;have h4:=(uh HG).1.r;omega)
  clear h hu2 hf2 hv2 hgw2 hcm2 hol hoo hrd hgz1
  go_upto_region 2 with fail
  go_region_with (go_at_call 111;go_fit (zs_add _ (uh HG).1 ((uh HU2).later (Below.refl _ _).drew) ((uh HX2).z.later (Below.refl _ _).drew) (uh HIN));rintro e8 Y1 ⟨⟨vm,rfl,hm⟩,hb⟩;obtain ⟨zm,rfl⟩:=hm.sh;have BW:=qh (bk hb (Below.refl Z.heap.size Z).drew);have HM8:=qh hm;have c2:=ck (uh BW) c2;have HF8:=qh ((uh HF2).later (zqs _ _) (uh BW));obtain ⟨w0,f0⟩:=(uh HF8).cell (o:=o*2) (by have:=(uh HF2).len;have:=(uh HOL).1;omega);obtain ⟨w1,f1⟩:=(uh HF8).cell (o:=o*2+1) (by have:=(uh HF2).len;have:=(uh HOL).1;omega);have fz:=(uh HF8).free;have hlt:=(uh HF8).lt;clear hb hm c0 c1 x0 x1)
  all_goals
   have hJ:=(uh HJ2).later (uh BW)
   have hv3:rv=.slice (some ⟨g2,0,none⟩) (rm.set l (rm.getD l 0 - d)).length cap2:=by rw [List.length_set,<- (uh HM).1];exact uh HV
   have HJ3:=qh (hJ.setR (y:=zm) (uh HOL).1 hv3 (uh HF8) (uh HN).1 (uh HN).2.1 (uh HM8))
   have HAS2:=qh (show Asd rv W ((Y1.setCell ⟨g2,o*2,none⟩ (.int .i64 zm.a)).setCell ⟨g2,o*2+1,none⟩ (.slice zm.b zm.c zm.d)) from by
    have h1:=(uh BW).size
    have h2:=(uh HAS).1
    refine ⟨by simp;omega,fun r hr hne => ?_⟩
    have hrg:r≠g2:=fun e=>hne (by rw [uh HV,e];rfl)
    exact ((else2 (g:=g2) Y1 (o*2) (.int .i64 zm.a) (.slice zm.b zm.c zm.d)) r hrg).trans (((uh BW).block r (by omega)).trans ((uh HAS).2 r hr hne)))
   clear hJ hv3
   go_wp2
   refine bodyPost_end (results_none rfl _ _ _) rfl ⟨rfl,?_,uh HAS2⟩
   have h1:=uh HJ3
   unfold mvL
   rw [<- (uh HOL).2]
   exact h1
theorem Fill.next1 {α:Type}{K:Value->Prop}{E:World->List Value -> α -> Prop}{t:TypeId}{w:World}{g n:Nat}{L:List α}{u:Value}{x:α} (h:Fill K 1 E t w g n L) (hE:Stays K t E) (hlt:L.length<n) (hk:K u) (he:E w [u] x) :
 Fill K 1 E t (w.setCell ⟨g,L.length,none⟩ u) g n (L++[x]):=by
 obtain ⟨a0,e0⟩:=h.cell (o:=L.length) (by omega)
 obtain ⟨f0,c0⟩:=h.store (o:=L.length) (v:=u) hE (by omega) hk
 refine f0.snoc hlt rfl (fun j v hu => ?_) (hE _ _ _ _ he c0)
 have hj:j<1:=(List.getElem?_eq_some_iff.1 hu).1
 obtain rfl:j=0:=by omega
 obtain rfl:u=v:=by simpa using hu
 rw [Nat.mul_one,Nat.add_zero]
 exact zqd e0
theorem Fill.set1 {α:Type}{K:Value->Prop}{E:World->List Value -> α -> Prop}{t:TypeId}{w:World}{g n i:Nat}{L:List α}{u:Value}{x:α} (h:Fill K 1 E t w g n L) (hE:Stays K t E) (hi:i<L.length) (hk:K u) (he:E w [u] x):Fill K 1 E t (w.setCell ⟨g,i,none⟩ u) g n (L.set i x):=by
 have hl:=h.len
 obtain ⟨a0,e0⟩:=h.cell (o:=i) (by omega)
 obtain ⟨r0,hc⟩:=h.raw.store (o:=i) hk
 refine r0.fill (by simpa using hl) fun j y hy => ?_
 rw [List.getElem?_set] at hy
 by_cases hji:i=j
 ·subst hji
  rw [if_pos rfl,if_pos hi] at hy
  obtain rfl:=Option.some.inj hy
  refine ⟨[u],rfl,fun k v hu => ?_,hE _ _ _ _ he hc⟩
  have hk1:k<1:=(List.getElem?_eq_some_iff.1 hu).1
  obtain rfl:k=0:=by omega
  obtain rfl:u=v:=by simpa using hu
  rw [Nat.mul_one,Nat.add_zero]
  exact zqd e0
 ·rw [if_neg hji] at hy
  obtain ⟨cs,hcl,hcs,hex⟩:=h.at hy
  refine ⟨cs,hcl,fun k v hu => ?_,hE _ _ _ _ hex hc⟩
  have hk1:k<1:=by rw [<- hcl];exact (List.getElem?_eq_some_iff.1 hu).1
  rw [zqb _ _ _ _ _ _ (by omega)]
  exact hcs k v hu
theorem repeat_any {x:Int}{n:Nat} (w:World) (hx:-1000<=x/\x<=1000) (hn:n<=1000) :
 Calls Tryz.prog 163 #[.int .i64 x,.int .i64 (n:Int)] w fun e w'=>(∃ v,e=.returned v/\OwnR NoWord 1 JE 3 w' w.heap.size v (List.replicate n x))/\Below w.heap.size w w':=by
 have hmk:=zjk (P:=Tryz.prog) 55 3 _ 1 8 Tryz.underlying55 info_ji .i64 .i64 n (by omega) (by omega)
 obtain ⟨g,hg⟩:∃ g,g=w.heap.size:=⟨_,rfl⟩
 obtain ⟨V,hV⟩:∃ V,V=w.alloc (.cells (madeCells #[Value.int .i64 0] n) 3):=⟨_,rfl⟩
 have hF:Fill NoWord 1 JE 3 V g n (List.replicate 0 x):=by
  have h1:=Fill.new (α := Int) (k:=1) (E:=JE) (t:=3) w (z:=#[Value.int .i64 0]) n zk_i (by decide)
  rw [Nat.mul_one] at h1
  rw [hV,hg]
  exact h1
 have hb:Below w.heap.size w V:=by rw [hV];exact zqa _ _
 have HF:=qh hF
 have HB:=qh hb
 have HG:=qh (show w.heap.size<=g by omega)
 clear hF hb
 go_enter Tryz.func163,Tryz.ntmps163
 go_upto_region 2 with fail
 first | rw [<- hg,<- hV] | rw [<- hV,<- hg]
 clear hV hg hmk
 go_wp2_with fail
 go_loopg [6,11] n (fun gk _ iv wr=>∃ i:Nat,i<=n/\gk=n - i/\iv=.int .i64 (i:Int)/\Hid (Below w.heap.size w wr)/\Hid (Fill NoWord 1 JE 3 wr g n (List.replicate i x)))
 case atStart=>exact ⟨0,by omega,by omega,rfl,HB,HF⟩
 case round =>
  clear HB HF
  obtain ⟨i,hi,hgk,rfl,HB,HF⟩:=hrel
  by_cases hil:i<n
  ·have hil':(i:Int)<(n:Int):=by omega
   have him:(i:Int)+1<=2000:=by omega
   obtain ⟨w0,f0⟩:=(uh HF).cell (o:=i) (by omega)
   have fz:=(uh HF).free
   have flt:=(uh HF).lt
   go_wp2
   go_roundg (n - (i+1))
   case measure=>omega
   case rel =>
    have hf:=(uh HF).next1 (u:=.int .i64 x) (JE.stays _ _) (by rw [List.length_replicate];omega) (fun z e=>by cases e) ⟨rfl,by omega,by omega⟩
    rw [List.length_replicate,show List.replicate i x++[x]=List.replicate (i+1) x from (List.replicate_succ' ..).symm] at hf
    exact ⟨i+1,by omega,rfl,by go_num,qh ((uh HB).setCell (p:=⟨g,_,none⟩) (uh HG) _),qh hf⟩
  ·obtain rfl:n=i:=by omega
   clear hil hi hgk
   go_wp2
   go_ret
   have ho:=OwnR.of_fill (uh HF) (uh HG) (by unfold maxLen;omega)
   rw [List.length_replicate] at ho
   exact ⟨⟨_,rfl,ho⟩,uh HB⟩
section
variable {w w':World}{b0 N:Nat}{F:Nat->Value}{X:Nat->List Int}
theorem Fam.at (h:Fam w b0 N F X) {k i:Nat}{x:Int} (hk:k<N) (hx:(X k)[i]? = some x):∃ g cap,F k=.slice (some ⟨g,0,none⟩) (X k).length cap/\Fill NoWord 1 JE 3 w g cap (X k)/\b0<=g/\cap<=maxLen/\w.cell? ⟨g,i,none⟩=some (.int .i64 x) /\ -9223372036854775808<=x/\x<=9223372036854775807:=by
 obtain ⟨g,cap,h1,h2,h3,h4⟩:=(h.own k hk).fill (by have:=(List.getElem?_eq_some_iff.1 hx).1;omega)
 obtain ⟨cs,_,hcs,rfl,hb⟩:=h2.at hx
 exact ⟨g,cap,h1,h2,h3,h4,by have:=hcs 0 _ rfl;rw [Nat.mul_one,Nat.add_zero] at this;exact this,hb⟩
theorem Fam.set (h:Fam w b0 N F X) {k i g cap:Nat}{x:Int} (hk:k<N) (hi:i<(X k).length) (hv:F k=.slice (some ⟨g,0,none⟩) (X k).length cap) (hf:Fill NoWord 1 JE 3 w g cap (X k)) (hg:b0<=g) (hc:cap<=maxLen) (hx:-9223372036854775808<=x/\x<=9223372036854775807) :
 Fam (w.setCell ⟨g,i,none⟩ (.int .i64 x)) b0 N F (upd X k ((X k).set i x)):=by
 have he:=else1 (g:=g) w i (.int .i64 x)
 have hs:=hf.set1 (i:=i) (u:=.int .i64 x) (x:=x) (JE.stays _ _) hi (fun z e=>by cases e) ⟨rfl,hx⟩
 have ho:=OwnR.of_fill hs hg hc
 rw [List.length_set] at ho
 refine ⟨fun j hj => ?_,h.apart⟩
 by_cases e:j=k
 ·subst e;rw [zqk,hv];exact ho
 ·rw [zqi _ _ e]
  exact (h.own j hj).move (fun g' hg'=>he g' fun hh=>h.apart j k hj hk e g' hg' (by rw [hv,hh];rfl)) fun _ _ hx=>hx
theorem Fam.fresh (h:Fam w b0 N F X) {k:Nat}{v:Value}{L:List Int} (hk:k<N) (hb:Below w.heap.size w w') (ho:OwnR NoWord 1 JE 3 w' b0 v L) (hn:∀ g,v.ownBlock=some g->w.heap.size<=g):Fam w' b0 N (upd F k v) (upd X k L):=by
 refine ⟨fun j hj => ?_,fun i j hi hj hij g hgi => ?_⟩
 ·by_cases e:j=k
  ·subst e;rw [zqk,zqk];exact ho
  ·rw [zqi _ _ e,zqi _ _ e];exact (h.own j hj).later (JE.stays _ _) hb
 ·by_cases e1:i=k
  ·subst e1
   rw [zqk] at hgi
   rw [zqi _ _ (fun hh=>hij hh.symm)]
   intro hh
   have:=h.lt hj hh
   have:=hn g hgi
   omega
  ·rw [zqi _ _ e1] at hgi
   by_cases e2:j=k
   ·subst e2
    rw [zqk]
    intro hh
    have:=h.lt hi hgi
    have:=hn g hh
    omega
   ·rw [zqi _ _ e2];exact h.apart i j hi hj hij g hgi
end
theorem OwnR.rebase {α:Type}{K:Value->Prop}{k:Nat}{E:World->List Value -> α -> Prop}{t:TypeId}{w:World}{base base':Nat}{v:Value}{L:List α} (h:OwnR K k E t w base v L) (hb:base'<=base):OwnR K k E t w base' v L:=by
 obtain ⟨xs,⟨h1,h3⟩,h2⟩:=h
 refine ⟨xs,⟨⟨h1.1,?_⟩,h3⟩,h2⟩
 rcases h1.2 with h | ⟨g,cap,cur,rfl,hbg,hr⟩
 ·exact Or.inl h
 ·exact Or.inr ⟨g,cap,cur,rfl,by omega,hr⟩
structure LvI (A:List (Nat×Nat)) (n s:Nat) (rm lv R:List Int) (i:Nat):Prop where
 len:lv.length=n
 cnt:R.length+negs lv=n
 mem:∀ (j:Nat) (x:Int),R[j]? = some x->∃ v:Nat,x=(v:Int)/\v<n/\0<=lvl lv v/\lvl lv v<=j
 all:∀ v,0<=lvl lv v->(v:Int) ∈ R
 root:lvl lv s=0
 zero:∀ v,lvl lv v=0->v=s
 back:∀ v,0<lvl lv v->∃ l,l<2*A.length/\0<rm.getD l 0/\lnT A l=v/\lvl lv (lnF A l)=lvl lv v - 1
 lo:∀ v,-1<=lvl lv v
 done:∀ (j:Nat) (v:Nat),j<i->R[j]? = some (v:Int)->∀ l,l<2*A.length->0<rm.getD l 0->lnF A l=v->0<=lvl lv (lnT A l)
section
variable {A:List (Nat×Nat)}{n s:Nat}{rm lv R:List Int}{i:Nat}
theorem LvI.step (h:LvI A n s rm lv R i) {l:Nat} (hl:l<2*A.length) (ho:0<rm.getD l 0) (hi:R[i]? = some (lnF A l:Int)) (hT:lnT A l<n) (hn:lvl lv (lnT A l)<0):LvI A n s rm (lv.set (lnT A l) (lvl lv (lnF A l)+1)) (R++[(lnT A l:Int)]) i/\∀ v,0<=lvl lv v->0<=lvl (lv.set (lnT A l) (lvl lv (lnF A l)+1)) v:=by
 obtain ⟨v0,e0,hv0,hv1,hv2⟩:=h.mem i _ hi
 obtain rfl:lnF A l=v0:=by omega
 generalize ht:lnT A l=t at *
 generalize hf:lnF A l=f at *
 have htl:t<lv.length:=by rw [h.len];exact hT
 have hset:∀ u,lvl (lv.set t (lvl lv f+1)) u=if t=u then lvl lv f+1 else lvl lv u:=fun u=>lvl_set htl
 have hft:f≠t:=fun e=>by rw [e] at hv1;omega
 have hup:∀ v,0<=lvl lv v->t≠v:=fun v hv e=>by rw [<- e] at hv;omega
 have hil:=(List.getElem?_eq_some_iff.1 hi).1
 have hat:lv[t]? = some (lvl lv t):=by
  unfold lvl
  rw [List.getD_eq_getElem?_getD,List.getElem?_eq_getElem htl]
  rfl
 have hng:=negs_set lv t (lvl lv f+1) _ hat hn (by omega)
 refine ⟨⟨by rw [List.length_set];exact h.len,by rw [List.length_append,List.length_singleton];have:=h.cnt;omega,fun j x hx => ?_,fun v hv => ?_,?_,fun v hv => ?_,fun v hv => ?_,fun v => ?_,fun j v hj hx l' hl' ho' hf' => ?_⟩,fun v hv=>by rw [hset,if_neg (hup v hv)];exact hv⟩
 ·rcases Nat.lt_or_ge j R.length with hj | hj
  ·rw [List.getElem?_append_left hj] at hx
   obtain ⟨v,e,h1,h2,h3⟩:=h.mem j x hx
   exact ⟨v,e,h1,by rw [hset,if_neg (hup v h2)];exact h2,by rw [hset,if_neg (hup v h2)];exact h3⟩
  ·have hlt:=(List.getElem?_eq_some_iff.1 hx).1
   rw [List.length_append,List.length_singleton] at hlt
   obtain rfl:j=R.length:=by omega
   rw [List.getElem?_append_right (Nat.le_refl _),Nat.sub_self] at hx
   obtain rfl:(t:Int)=x:=by simpa using hx
   exact ⟨t,rfl,hT,by rw [hset,if_pos rfl];omega,by rw [hset,if_pos rfl];omega⟩
 ·rw [hset] at hv
  rw [List.mem_append]
  by_cases e:t=v
  ·subst e;exact Or.inr (by simp)
  ·rw [if_neg e] at hv;exact Or.inl (h.all v hv)
 ·rw [hset,if_neg (hup s (by rw [h.root];omega))];exact h.root
 ·rw [hset] at hv
  by_cases e:t=v
  ·rw [if_pos e] at hv;omega
  ·rw [if_neg e] at hv;exact h.zero v hv
 ·rw [hset] at hv
  by_cases e:t=v
  ·subst e
   exact ⟨l,hl,ho,ht,by rw [hf,hset,hset,if_pos rfl,if_neg hft.symm];omega⟩
  ·rw [if_neg e] at hv
   obtain ⟨l',h1,h2,h3,h4⟩:=h.back v hv
   refine ⟨l',h1,h2,h3,?_⟩
   rw [hset,hset,if_neg e,if_neg (hup _ (by rw [h4];omega))]
   exact h4
 ·rw [hset]
  split
  ·omega
  ·exact h.lo v
 ·have hjl:j<R.length:=by omega
  rw [List.getElem?_append_left hjl] at hx
  have h1:=h.done j v hj hx l' hl' ho' hf'
  rw [hset,if_neg (hup _ h1)]
  exact h1
theorem LvI.next (h:LvI A n s rm lv R i) {v:Nat} (hi:R[i]? = some (v:Int)) (hd:∀ l,l<2*A.length->0<rm.getD l 0->lnF A l=v->0<=lvl lv (lnT A l)):LvI A n s rm lv R (i+1):=by
 refine ⟨h.len,h.cnt,h.mem,h.all,h.root,h.zero,h.back,h.lo,fun j u hj hu l hl ho hf => ?_⟩
 rcases Nat.lt_or_ge j i with hj' | hj'
 ·exact h.done j u hj' hu l hl ho hf
 ·obtain rfl:j=i:=by omega
  rw [hi] at hu
  have:v=u:=by have:=Option.some.inj hu;omega
  exact hd l hl ho (by omega)
theorem LvI.lev (h:LvI A n s rm lv R R.length):Lev A n s rm lv:=by
 refine ⟨h.len,h.root,h.zero,h.back,fun l hl ho hf => ?_,fun v=>⟨h.lo v,?_⟩⟩
 ·obtain ⟨j,hj⟩:=List.getElem?_of_mem (h.all _ hf)
  exact h.done j _ (List.getElem?_eq_some_iff.1 hj).1 hj l hl ho rfl
 ·rcases Int.lt_or_le (lvl lv v) 0 with h1 | h1
  ·omega
  ·obtain ⟨j,hj⟩:=List.getElem?_of_mem (h.all _ h1)
   obtain ⟨u,e,_,_,h4⟩:=h.mem j _ hj
   obtain rfl:v=u:=by omega
   have:=(List.getElem?_eq_some_iff.1 hj).1
   have:=h.cnt
   omega
end
theorem lvi_start (A:List (Nat×Nat)) {n s:Nat} (rm:List Int) (hs:s<n):LvI A n s rm ((List.replicate n (-1)).set s 0) [(s:Int)] 0:=by
 have hset:∀ u,lvl ((List.replicate n (-1)).set s 0) u=if s=u then 0 else -1:=fun u=>by
  rw [lvl_set (by simpa using hs)]
  split
  ·rfl
  ·unfold lvl
   rw [List.getD_eq_getElem?_getD,List.getElem?_replicate]
   split <;> rfl
 have hng:=negs_set (List.replicate n (-1)) s 0 (-1) (by rw [List.getElem?_replicate,if_pos hs]) (by decide) (by decide)
 rw [negs_none] at hng
 refine ⟨by simp,by simp only [List.length_singleton];omega,fun j x hx => ?_,fun v hv => ?_,by rw [hset,if_pos rfl],fun v hv => ?_,fun v hv => ?_,fun v => ?_,fun j v hj=>by omega⟩
 ·have hj:j<1:=(List.getElem?_eq_some_iff.1 hx).1
  obtain rfl:j=0:=by omega
  obtain rfl:(s:Int)=x:=by simpa using hx
  exact ⟨s,rfl,hs,by rw [hset,if_pos rfl];omega,by rw [hset,if_pos rfl];omega⟩
 ·rw [hset] at hv
  by_cases e:s=v
  ·subst e;simp
  ·rw [if_neg e] at hv;omega
 ·rw [hset] at hv
  by_cases e:s=v
  ·exact e.symm
  ·rw [if_neg e] at hv;omega
 ·rw [hset] at hv
  split at hv <;> omega
 ·rw [hset];split <;> omega
end Go.Proofs.YtkdobjmhammhbaaGreatDoor
