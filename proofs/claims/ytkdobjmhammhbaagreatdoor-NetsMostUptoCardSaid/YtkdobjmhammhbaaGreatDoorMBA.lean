import Derived.Test.YtkdobjmhammhbaaGreatDoorMAW
namespace Go.Proofs.YtkdobjmhammhbaaGreatDoor
set_option maxHeartbeats 8000000
set_option maxRecDepth 100000
open Go.RowKit
section
variable {w V Z:World}{K gn gl gw n:Nat}{A:List (Nat×Nat)}{F:Nat->Value}{X:Nat->List Int}{rv:Value}{rm:List Int}{al:Value}{dn:Nat->Nat}{p:List Nat}{W W':World}
theorem WkS.above (h:WkS w V Z K gn gl gw n A F X rv rm al dn p W):V.heap.size<=W.heap.size:=by
 have h1:=h.hw
 have h2:=(h.bw.cell (o:=0) (by decide)).2.2
 omega
theorem WkS.app (h:WkS w V Z K gn gl gw n A F X rv rm al dn p W) {l:Nat}{v':Value} (ho:OwnR NoWord 1 JE 3 W' w.heap.size v' (X (n+3)++[(l:Int)])) (hg:W.grownBy W' (F (n+3)).ownBlock) (hc:Chg NoWord 3 W W') (hp:v'.ownBlock=(F (n+3)).ownBlock\/v'.ownBlock=some W.heap.size) :
 WkS w V Z K gn gl gw n A (upd F (n+3) v') (upd X (n+3) (X (n+3)++[(l:Int)])) rv rm al dn (p++[l]) (W'.setCell ⟨gw,3,none⟩ v'):=by
 have hs:=h.nt.s
 have hVW:=h.above
 have hk:NoWord v':=by
  obtain ⟨a,c,rfl⟩:=ho.slice
  intro z e
  cases e
 have hnt:=h.nt.rows (hs.fam.app (k:=n+3) (by omega) ho hg hp) (fun j hj=>⟨zqi _ _ (by omega),zqi _ _ (by omega)⟩) (hs.below.grown hg hs.below.size (fun g hh=>((hs.fam.own (n+3) (by omega)).block hh).1)) hc
 have bw:=h.bw.chg hc (by decide)
 have hst:=bw.store (o:=3) hk
 have he:=else1 (g:=gw) W' 3 v'
 exact ⟨hnt.side bw (by have:=h.vw;have:=h.hw;omega) 3 hk,
  by rw [zqb _ _ _ _ _ _ (by omega)];exact h.bw.same hc (by decide) h.a0,by rw [zqb _ _ _ _ _ _ (by omega)];exact h.bw.same hc (by decide) h.a1,by rw [zqb _ _ _ _ _ _ (by omega),zqi _ _ (by omega)];exact h.bw.same hc (by decide) h.a2,by rw [zqk];exact zqd (h.bw.same hc (by decide) h.a3),hst.1,h.hw,
  by rw [zqi _ _ (by omega)];exact h.xd,by rw [zqk,h.xp,List.map_append];rfl,(fun g hg=>by rw [zqi _ _ (by omega)] at hg;exact h.fd g hg),(fun g' hg'=>by
   rw [zqk] at hg'
   rcases hp with hp | hp
   ·rw [hp] at hg';exact h.fp g' hg'
   ·rw [hp] at hg'
    obtain rfl:=Option.some.inj hg'
    exact hVW),h.vw,
  fun r hr hne=>((he r (by have:=h.hw;omega)).trans (hg.block r (by omega) (fun hh=>by have:=h.fp r hh.symm;omega))).trans (h.kept r hr hne),h.kz.trans ((ZKeep.chg hc (by decide)).trans (ZKeep.chg hst.2 (by decide)))⟩
end
def PredL (w V:World) (K gn gl gw n:Nat) (A:List (Nat×Nat)) (rv:Value) (lv:List Int) (g:Nat) (lb:Array Value):Prop :=
 ∀ (Z:World) (F:Nat->Value) (X:Nat->List Int) (rm:List Int) (al:Value) (dn:Nat->Nat) (p:List Nat) (W:World) (l:Nat),WkS w V Z K gn gl gw n A F X rv rm al dn p W->l<2*A.length ->
  Calls Tryz.prog g (#[.int .i64 (l:Int)]++lb) W fun e W'=>e=.returned (.bool (alwB A lv l))/\Below W.heap.size W W'
theorem WkS.cell {w V Z:World}{K gn gl gw n:Nat}{A:List (Nat×Nat)}{F:Nat->Value}{X:Nat->List Int}{rv:Value}{rm:List Int}{al:Value}{dn:Nat->Nat}{p:List Nat}{W:World} (h:WkS w V Z K gn gl gw n A F X rv rm al dn p W) {g o:Nat}{u:Value} (hc:V.cell? ⟨g,o,none⟩=some u) (hg:g<V.heap.size) (hne:rv.ownBlock≠some g):W.cell? ⟨g,o,none⟩=some u:=by
 have:=h.kept g hg hne
 simp only [World.cell?,this] at hc ⊢
 exact hc
theorem predL_fill {w V:World}{K gn gl gw gv gq b n:Nat}{A:List (Nat×Nat)}{rv v:Value}{lv:List Int} (hv:OwnR NoWord 1 JE 3 V b v lv) (hn:lv.length=n) (hlo:∀ u,-1<=lvl lv u/\lvl lv u<=n) (hvb:∀ g,v.ownBlock=some g->rv.ownBlock≠some g) (c1:V.cell? ⟨gv,0,none⟩=some v) (c2:V.cell? ⟨gq,0,none⟩=some (.pointer (some ⟨gn,0,none⟩))) (h1:gv<V.heap.size/\rv.ownBlock≠some gv) (h2:gq<V.heap.size/\rv.ownBlock≠some gq) :
 PredL w V K gn gl gw n A rv lv 110 #[.pointer (some ⟨gv,0,none⟩),.pointer (some ⟨gq,0,none⟩)]:=by
 intro Z F X rm al dn p W l h hl
 have hr:=hv.move (w':=W) (fun g hg=>h.kept g (by
  obtain ⟨_,cur,hq⟩:=hv.block hg
  exact (Array.getElem?_eq_some_iff.1 hq).1) (hvb g hg)) fun _ _ hx=>hx
 exact allow_any w W h.nt hr.rows hn hlo (h.cell c1 h1.1 h1.2) (h.cell c2 h2.1 h2.2) hl
theorem upd_upd {β:Type} (F:Nat -> β) (k:Nat) (u v:β):upd (upd F k u) k v=upd F k v:=by
 funext j
 by_cases e:j=k
 ·subst e;rw [zqk,zqk]
 ·rw [zqi _ _ e,zqi _ _ e,zqi _ _ e]
theorem addr_add (g d:Nat):(⟨g,0,none⟩:Addr).add d=⟨g,d,none⟩:=by rcases d with _ | d <;> simp [Addr.add]
theorem goOn_any {K gn gl gw n s t b g:Nat}{lb:Array Value}{A:List (Nat×Nat)}{F:Nat->Value}{X:Nat->List Int}{rv:Value}{rm lv:List Int}{dn:Nat->Nat}{p:List Nat} (w V Z W:World) (h:WkS w V Z K gn gl gw n A F X rv rm (.func (.func g) #[] lb) dn p W) (hk:Wk A n s t lv rm dn p b) (hb:b<n) (eg:∀ args w,(callFunc g args).run Tryz.prog w=.ok (.enter g args) w) (hp:PredL w V K gn gl gw n A rv lv g lb) (hpl:p.length<=1000) :
 Calls Tryz.prog 168 #[.pointer (some ⟨gw,0,none⟩),.int .i64 (b:Int)] W fun e W'=>∃ F' X' dn',(∀ v,dn v<=dn' v)/\((e=.returned (.bool false)/\dn' b=(lvr A b).length/\Wk A n s t lv rm dn' p b/\WkS w V Z K gn gl gw n A F' X' rv rm (.func (.func g) #[] lb) dn' p W')\/∃ l,e=.returned (.bool true)/\Wk A n s t lv rm dn' (p++[l]) (lnT A l)/\WkS w V Z K gn gl gw n A F' X' rv rm (.func (.func g) #[] lb) dn' (p++[l]) W'):=by
 obtain ⟨gd,cd,hD,hfd,hgd,hcd,td⟩:=h.done hb
 obtain ⟨fa,fc,hF⟩:=h.nt.shape hb
 have hle:=hk.le b
 have hsh:=h.nt.short hb
 have hX:=h.nt.xv b hb
 have a0:=h.a0
 have a2:=h.a2
 have c3:=h.nt.s.c3
 have cl:=h.nt.s.cl b hb
 rw [hD] at a2
 rw [hF] at cl
 obtain ⟨m,hm⟩:∃ m,m=(X (b+2)).length:=⟨_,rfl⟩
 rw [<- hm] at cl hF hsh
 have hmm:(lvr A b).length=m:=by rw [hm,hX];rfl
 rw [hmm] at hle
 obtain ⟨d,hd⟩:∃ d,d=dn b:=⟨_,rfl⟩
 rw [<- hd] at td hle
 have hcap:m<=fc:=by
  obtain ⟨a',c',e1,h2,_⟩:=(h.nt.s.fam.own (b+2) (by omega)).rows
  rw [hF,<- hm] at e1
  injection e1 with _ _ e3
  rw [e3];omega
 have hbn:(b:Int)<(n:Int):=by omega
 have hdm:(d:Int)<=(m:Int):=by omega
 have hmc:(m:Int)<=(fc:Int):=by omega
 have HS:=qh h
 have HK:=qh hk
 have HE:=qh (And.intro hm (And.intro hmm hd))
 have HF:=qh hF
 have HP:=qh hp
 clear h hk hp hD hfd hgd hcd hF hX hm hmm hd
 go_enter Tryz.func168,Tryz.ntmps168
 go_upto_region 1 with fail
 go_quiet (fail)
 have HS:=qh ((uh HS).later (zqj (Below.refl _ _) nq) (uh HS).above)
 obtain ⟨k,hkk⟩:∃ k,k=m - d:=⟨_,rfl⟩
 rw [<- hkk]
 obtain ⟨sa,hsa⟩:∃ a,a=(if fc=d then fa else Option.map (fun x=>x.add d) fa):=⟨_,rfl⟩
 obtain ⟨sc,hsc⟩:∃ c,c=fc - d:=⟨_,rfl⟩
 try rw [<- hsa]
 try rw [<- hsc]
 have HA:=qh (And.intro hkk (And.intro hsa hsc))
 have hk600:k<=600:=by omega
 have eqd:upd dn b d=dn:=by
  funext v
  by_cases e:v=b
  ·subst e;rw [zqk];exact (uh HE).2.2
  ·rw [zqi _ _ e]
 have HQ:=qh eqd
 clear hkk hsa hsc a0 a2 c3 cl td eqd
 go_wp2_with fail
 go_loopg [6,26] k (fun gk _ jv wx=>∃ (j:Nat) (X':Nat->List Int),j<=k/\gk=k - j/\jv=.int .i64 (j:Int)/\Hid (WkS w V Z K gn gl gw n A F X' rv rm (.func (.func g) #[] lb) (upd dn b (d+j)) p wx)/\Hid (Wk A n s t lv rm (upd dn b (d+j)) p b))
 case atStart=>exact ⟨0,X,by omega,by omega,rfl,by rw [Nat.add_zero,uh HQ];exact HS,by rw [Nat.add_zero,uh HQ];exact HK⟩
 case round =>
  clear HS HK
  obtain ⟨j,X',hj,hgk,rfl,HS,HK⟩:=hrel
  by_cases hjk:j<k
  ·have hnt:=(uh HS).nt
   have hXl:(X' (b+2)).length=m:=by rw [hnt.xv b hb,<- (uh HE).2.1];rfl
   obtain ⟨gf,capf,l,hFv,cf,hxl,hl,hfl⟩:=hnt.leave hb (j:=d+j) (by rw [hXl];have:=(uh HA).1;omega)
   rw [uh HF,hXl] at hFv
   injection hFv with h1 h2 h3
   clear h2
   subst h1 h3
   obtain rfl:sa=some ⟨gf,d,none⟩:=by
    rw [(uh HA).2.1,if_neg (by have:=(uh HA).1;omega)]
    rw [Option.map_some,addr_add]
   have hjk':(j:Int)<(k:Int):=by omega
   have hj1:(j:Int)+1<=1000:=by omega
   have a0:=(uh HS).a0
   have a1:=(uh HS).a1
   have HL:=qh (And.intro hxl (And.intro hl hfl))
   have HR:=qh (show l<rm.length by rw [hnt.rl];exact hl)
   have HR2:=qh (show rm.length<=1000 by rw [hnt.rl];have:=hnt.sm.2;omega)
   clear hnt hXl hxl hl hfl
   go_wp2_with fail
   go_fit (isOpen_any _ _ (uh HS).nt.s (uh HR) (uh HR2))
   rintro e W1 ⟨rfl,B1⟩
   obtain ⟨ob,hob⟩:∃ b,b=decide (0<rm.getD l 0):=⟨_,rfl⟩
   rw [<- hob]
   have HOB:=qh hob
   have HS:=qh ((uh HS).later B1 (uh HS).above)
   have a1:=ck B1 a1
   have a0:=ck B1 a0
   clear B1 cf hob
   obtain ⟨gd,cd,hD,hfd,hgd,hcd,td⟩:=(uh HS).done hb
   obtain ⟨x,hx⟩:∃ x,x=d+j:=⟨_,rfl⟩
   have hx1:(x:Int)+1<=2000:=by omega
   have hinc:=(uh HS).inc hb hD hfd hgd hcd (by rw [zqk];have:=(uh HA).1;omega)
   rw [upd_upd,zqk,Nat.add_assoc,<- hx] at hinc
   rw [zqk,<- hx] at td
   have hrow:(lvr A b)[upd dn b (d+j) b]? = some (l:Int):=by
    have h1:=(uh HL).1
    rw [(uh HS).nt.xv b hb] at h1
    rw [zqk]
    exact h1
   have HI:=qh hinc
   have HW:=qh hrow
   have a2:=(uh HS).a2
   rw [hD] at a2
   have fz:=hfd.free
   have flt:=hfd.lt
   have HX:=qh hx
   clear hinc hrow hD hfd hgd hcd hx
   cases ob
   ·have HK2:=qh ((uh HK).past (uh HW) (fun h=>of_decide_eq_false (uh HOB).symm h.1))
    go_wp2
    go_roundg (k - (j+1))
    case measure=>omega
    case rel =>
     have h1:=uh HK2
     rw [upd_upd,zqk,Nat.add_assoc] at h1
     exact ⟨j+1,_,by omega,rfl,by go_num,HI,qh h1⟩
   ·clear HI a2 td fz flt
    go_wp2_with fail
    go_fit (uh HP _ F _ rm _ _ p _ l (uh HS) (uh HL).2.1)
    rintro e W2 ⟨rfl,B2⟩
    obtain ⟨oa,hoa⟩:∃ b,b=alwB A lv l:=⟨_,rfl⟩
    rw [<- hoa]
    have HOA:=qh hoa
    have HS:=qh ((uh HS).later B2 (uh HS).above)
    have a0:=ck B2 a0
    clear B2 a1 hoa
    cases oa
    ·obtain ⟨gd,cd,hD,hfd,hgd,hcd,td⟩:=(uh HS).done hb
     have hinc:=(uh HS).inc hb hD hfd hgd hcd (by rw [zqk];have:=(uh HA).1;omega)
     rw [upd_upd,zqk,Nat.add_assoc,<- uh HX] at hinc
     rw [zqk,<- uh HX] at td
     have HI:=qh hinc
     have a2:=(uh HS).a2
     rw [hD] at a2
     have fz:=hfd.free
     have flt:=hfd.lt
     clear hinc hD hfd hgd hcd
     have HK2:=qh ((uh HK).past (uh HW) (fun h=>by have:=alwB_iff.2 h.2;rw [<- uh HOA] at this;cases this))
     go_wp2
     go_roundg (k - (j+1))
     case measure=>omega
     case rel =>
      have h1:=uh HK2
      rw [upd_upd,zqk,Nat.add_assoc] at h1
      exact ⟨j+1,_,by omega,rfl,by go_num,HI,qh h1⟩
    ·have HON:=qh ((uh HK).on (uh HW) (of_decide_eq_true (uh HOB).symm) (alwB_iff.1 (uh HOA).symm))
     obtain ⟨pa,pc,hFp⟩:=((uh HS).nt.s.fam.own (n+3) (by omega)).slice
     have hxl:(X' (n+3)).length=p.length:=by rw [(uh HS).xp,List.length_map]
     obtain ⟨lp,hlp⟩:∃ k,k=(X' (n+3)).length:=⟨_,rfl⟩
     rw [<- hlp] at hFp
     have a3:=(uh HS).a3
     rw [hFp] at a3
     have HS3:=qh ((uh HS).later (zqa W2 (.cells #[.int .i64 (l:Int)] 3)) (uh HS).above)
     have HOW:=qh (show OwnR NoWord 1 JE 3 (W2.alloc (.cells #[.int .i64 (l:Int)] 3)) w.heap.size (.slice pa lp pc) (X' (n+3)) from by rw [<- hFp];exact (uh HS3).nt.s.fam.own (n+3) (by omega))
     have hbs:w.heap.size<=(W2.alloc (.cells #[.int .i64 (l:Int)] 3)).heap.size:=(uh HS3).nt.s.below.size
     have hR6:(X' (n+3)).length<=100000000:=by omega
     have hl600:l<=1000:=by have h1:=uh HR;have h2:=uh HR2;omega
     have HFP:=qh hFp
     clear hFp hlp hxl
     go_wp2_with (at_builtin;refine wpList_app (ys:=[(l:Int)]) rfl (.tmp 48) (.tmp 50) 55 rfl Tryz.underlying55 info_ji rfl (by decide) (by decide) zk_i (JE.stays _ _) w.heap.size (.slice pa lp pc) rfl (uh HOW) W2.heap.size 1 [.int .i64 (l:Int)] (Nat.zero_lt_succ _) (news1 _ l hl600) (new_at W2 _ _) (one_i _) (JE.kinds _) rfl hR6 (show 1<=1000 by omega) hbs ?_;intro v' w' ho hg hc hp;obtain ⟨va,vc,rfl⟩:=ho.slice;have HS4:=qh ((uh HS3).app ho (by rw [uh HFP];exact hg) hc (by rw [uh HFP];exact hp));have a0:=(uh HS).bw.later (zqa W2 (.cells #[.int .i64 (l:Int)] 3));have bw:=a0.chg hc (by decide);obtain ⟨⟨w3,f3⟩,fz3,flt3⟩:=bw.cell (o:=3) (by decide);clear hg hc hp ho a0 bw)
     have hmono:∀ v,dn v<=upd dn b (d+j) v:=fun v=>by
      by_cases e:v=b
      ·subst e;rw [zqk,<- (uh HE).2.2];omega
      ·rw [zqi _ _ e];omega
     go_ret
     exact ⟨_,_,upd dn b (d+j),hmono,Or.inr ⟨l,rfl,uh HON,by
      have h4:=uh HS4
      rw [List.length_append,List.length_singleton] at h4
      exact h4⟩⟩
  ·obtain rfl:k=j:=by omega
   clear hjk hj hgk
   go_wp2
   go_ret
   refine ⟨F,X',upd dn b (d+k),fun v => ?_,Or.inl ⟨rfl,?_,uh HK,uh HS⟩⟩
   ·by_cases e:v=b
    ·subst e;rw [zqk,<- (uh HE).2.2];omega
    ·rw [zqi _ _ e];omega
   ·rw [zqk,(uh HE).2.1,(uh HA).1];omega
theorem eg_less:∀ args w,(callFunc 199 args).run Tryz.prog w=.ok (.enter 199 args) w:=enters_of Tryz.func199 (by kernel_rfl) rfl
theorem eg_full:∀ args w,(callFunc 202 args).run Tryz.prog w=.ok (.enter 202 args) w:=enters_of Tryz.func202 (by kernel_rfl) rfl
theorem lessRoom_any {K N gn gl gw gq n a b:Nat}{T:Int}{A:List (Nat×Nat)}{F:Nat->Value}{X:Nat->List Int}{rv al:Value}{rm:List Int}{dn:Nat->Nat}{p:List Nat} (w V Z W:World) (hBg:Big K N T) (h:WkS w V Z K gn gl gw n A F X rv rm al dn p W) (cq:W.cell? ⟨gq,0,none⟩=some (.pointer (some ⟨gw,0,none⟩))) (ha:a<2*A.length) (hb:b<2*A.length) :
 Calls Tryz.prog 199 #[.int .i64 (a:Int),.int .i64 (b:Int),.pointer (some ⟨gq,0,none⟩)] W fun e W'=>e=.returned (.int .i64 (sgn (rm.getD a 0 - rm.getD b 0)))/\Below W.heap.size W W':=by
 have hs:=h.nt.s
 obtain ⟨g,cap,x,hv,_,_,_,x0,x1,hx⟩:=hs.line (l:=a) (by rw [h.nt.rl];exact ha)
 obtain ⟨g',cap',y,hv',_,_,_,y0,y1,hy⟩:=hs.line (l:=b) (by rw [h.nt.rl];exact hb)
 obtain ⟨rfl,rfl⟩:g'=g/\cap'=cap:=by
  rw [hv] at hv'
  simp at hv'
  exact ⟨hv'.1.symm,hv'.2.symm⟩
 have hc2:=hs.c2
 rw [hv,h.nt.rl] at hc2
 obtain ⟨m,hm⟩:∃ m,m=2*A.length:=⟨_,rfl⟩
 rw [<- hm] at hc2 ha hb
 have ha0:(a:Int)<(m:Int):=by omega
 have hb0:(b:Int)<(m:Int):=by omega
 have ha0':(0:Int)<=(a:Int):=by omega
 have hb0':(0:Int)<=(b:Int):=by omega
 have ne:=Abv.some W
 have HW:=qh h
 have c0:∀ y':Abv W,y'.val.cell? ⟨gq,0,none⟩=_:=fun y'=>ck y'.property cq
 have c1:∀ y':Abv W,y'.val.cell? ⟨gw,0,none⟩=_:=fun y'=>ck y'.property (uh HW).a0
 have c2:∀ y':Abv W,y'.val.cell? ⟨gn,2,none⟩=_:=fun y'=>ck y'.property hc2
 have n0:∀ y':Abv W,y'.val.cell? ⟨g',a*2,none⟩=_:=fun y'=>ck y'.property x0
 have n1:∀ y':Abv W,y'.val.cell? ⟨g',a*2+1,none⟩=_:=fun y'=>ck y'.property x1
 have n2:∀ y':Abv W,y'.val.cell? ⟨g',b*2,none⟩=_:=fun y'=>ck y'.property y0
 have n3:∀ y':Abv W,y'.val.cell? ⟨g',b*2+1,none⟩=_:=fun y'=>ck y'.property y1
 obtain ⟨sg,hsg⟩:∃ z,z=sgn (rm.getD a 0 - rm.getD b 0):=⟨_,rfl⟩
 have HQC:=qh (fun (y':Abv W)=>zs_cmp y'.val hBg (hx.later y'.property) (hy.later y'.property))
 rw [<- hsg] at HQC ⊢
 clear h hs hBg hx hy hv hv' hm hc2 hsg x0 x1 y0 y1 cq ha hb HW
 go_enter Tryz.func199,Tryz.ntmps199
 go_upto_region 1 with fail
 refine wp_region_quiet_abv (by kernel_rfl) (by kernel_rfl) ?_
 repeat (go_big_quiet_step (exact Calls.abv (uh HQC _)))
 refine wpQuiet_nil ?_
 rintro Z1 ⟨⟨Z2,B1⟩,rfl⟩
 have HB:=qh B1
 clear c0 c1 c2 n0 n1 n2 n3 HQC ne B1
 go_wp2
 go_ret
 exact ⟨rfl,uh HB⟩
theorem isFull_any {K gn gl gw gq n a:Nat}{A:List (Nat×Nat)}{F:Nat->Value}{X:Nat->List Int}{rv al:Value}{rm:List Int}{dn:Nat->Nat}{p:List Nat} (w V Z W:World) (h:WkS w V Z K gn gl gw n A F X rv rm al dn p W) (cq:W.cell? ⟨gq,0,none⟩=some (.pointer (some ⟨gw,0,none⟩))) (ha:a<2*A.length) :
 Calls Tryz.prog 202 #[.int .i64 (a:Int),.pointer (some ⟨gq,0,none⟩)] W fun e W'=>e=.returned (.bool (!decide (0<rm.getD a 0)))/\Below W.heap.size W W':=by
 have a0:=h.a0
 have HQ:=qh (isOpen_any w W h.nt.s (l:=a) (by rw [h.nt.rl];exact ha) (by rw [h.nt.rl];have:=h.nt.sm.2;omega))
 obtain ⟨o,ho⟩:∃ o,o=decide (0<rm.getD a 0):=⟨_,rfl⟩
 rw [<- ho] at HQ ⊢
 clear h ho ha
 go_enter Tryz.func202,Tryz.ntmps202
 go_wp2_with fail
 go_fit (uh HQ)
 rintro e W1 ⟨rfl,B1⟩
 clear HQ a0 cq
 cases o
 ·go_wp2
  go_ret
  exact ⟨rfl,B1⟩
 ·go_wp2
  go_ret
  exact ⟨rfl,B1⟩
def CmpL (g:Nat) (lb:Array Value) (f:Nat->Int) (M:Nat) (W:World):Prop :=
 ∀ (W1:World) (a b:Nat),Below W.heap.size W W1->a<M->b<M->Calls Tryz.prog g (#[.int .i64 (a:Int),.int .i64 (b:Int)]++lb) W1 fun e W2=>e=.returned (.int .i64 (sgn (f a - f b)))/\Below W1.heap.size W1 W2
def TelL (g:Nat) (lb:Array Value) (f:Nat->Bool) (M:Nat) (W:World):Prop :=
 ∀ (W1:World) (a:Nat),Below W.heap.size W W1->a<M->Calls Tryz.prog g (#[.int .i64 (a:Int)]++lb) W1 fun e W2=>e=.returned (.bool (f a))/\Below W1.heap.size W1 W2
theorem minL_any {g gp cap M:Nat}{lb:Array Value}{f:Nat->Int}{p:List Nat} (W:World) (eg:∀ args w,(callFunc g args).run Tryz.prog w=.ok (.enter g args) w) (hc:∀ (j l:Nat),p[j]? = some l->W.cell? ⟨gp,j,none⟩=some (.int .i64 (l:Int))) (hp:p≠[]) (hl:p.length<=1000) (hcap:p.length<=cap) (hM:∀ l ∈ p,l<M) (hf:CmpL g lb f M W) :
 Calls Tryz.prog 198 #[.slice (some ⟨gp,0,none⟩) p.length cap,.func (.func g) #[] lb] W fun e W'=>(∃ l:Nat,e=.returned (.int .i64 (l:Int))/\l ∈ p/\∀ x ∈ p,f l<=f x)/\Below W.heap.size W W':=by
 obtain ⟨l0,p',rfl⟩:=List.exists_cons_of_ne_nil hp
 have c0:=hc 0 l0 rfl
 have HC:=qh hc
 have HM:=qh hM
 have HF:=qh hf
 obtain ⟨p,hpp⟩:∃ p,p=l0 :: p':=⟨_,rfl⟩
 have H0:=qh (show p[0]? = some l0 by rw [hpp];rfl)
 rw [<- hpp] at HC HM hl hcap ⊢
 obtain ⟨m,hm⟩:∃ m,m=p.length:=⟨_,rfl⟩
 have hm1:1<=m:=by rw [hm,hpp];simp
 rw [<- hm] at hl hcap ⊢
 have HL:=qh hm
 have hm1':(1:Int)<=(m:Int):=by omega
 have hmc:(m:Int)<=(cap:Int):=by omega
 clear hc hM hf hpp hm
 go_enter Tryz.func198,Tryz.ntmps198
 go_wp2_with fail
 clear c0
 go_loopg [5,6] m (fun gk bv iv wr=>∃ i l:Nat,1<=i/\i<=m/\gk=m+1 - i/\bv=.int .i64 (l:Int)/\iv=.int .i64 (i:Int)/\Hid (Below W.heap.size W wr)/\Hid (l ∈ p/\∀ x ∈ p.take i,f l<=f x))
 case atStart=>exact ⟨1,l0,by omega,hm1,by omega,rfl,rfl,qh (Below.refl _ _),qh ⟨List.mem_of_getElem? (uh H0),fun x hx=>by
  have h1:=tkn (uh H0)
  rw [h1] at hx
  simp at hx
  rw [hx]
  exact Int.le_refl _⟩⟩
 case round =>
  obtain ⟨i,l,hi1,hi,hgk,rfl,rfl,HB,HN⟩:=hrel
  by_cases hil:i<m
  ·obtain ⟨x,hx⟩:∃ x,p[i]? = some x:=⟨_,List.getElem?_eq_getElem (by rw [<- uh HL];exact hil)⟩
   have ci:=ck (uh HB) (uh HC i x hx)
   have HX:=qh hx
   have HQ:=qh (uh HF wr x l (uh HB) (uh HM x (List.mem_of_getElem? hx)) (uh HM l (uh HN).1))
   have hil':(i:Int)<(m:Int):=by omega
   have hi0:(0:Int)<=(i:Int):=by omega
   obtain ⟨sg,hsg⟩:∃ z,z=sgn (f x - f l):=⟨_,rfl⟩
   have hlt:=@sgn_lt (f x - f l)
   rw [<- hsg] at HQ hlt
   have HLT:=qh (show (sg<0)↔f x<f l from hlt.trans (by omega))
   clear hx hsg hlt
   go_wp2_with fail
   go_fit (uh HQ)
   rintro e W1 ⟨rfl,B1⟩
   have HB':=qh (bk B1 (uh HB))
   have ci:=ck B1 ci
   clear B1 HQ
   by_cases hs:sg<0
   ·have hxl:=(uh HLT).1 hs
    go_wp2
    go_roundg (m+1 - (i+1))
    case measure=>omega
    case rel =>
     refine ⟨i+1,x,by omega,by omega,rfl,rfl,by go_num,HB',qh ⟨List.mem_of_getElem? (uh HX),fun z hz => ?_⟩⟩
     rw [tkn (uh HX)] at hz
     rcases List.mem_append.1 hz with hz | hz
     ·exact Int.le_trans (Int.le_of_lt hxl) ((uh HN).2 z hz)
     ·obtain rfl:z=x:=by simpa using hz
      exact Int.le_refl _
   ·have hxl:f l<=f x:=by have h1:=mt (uh HLT).2 hs;omega
    clear ci
    go_wp2
    go_roundg (m+1 - (i+1))
    case measure=>omega
    case rel =>
     refine ⟨i+1,l,by omega,by omega,rfl,rfl,by go_num,HB',qh ⟨(uh HN).1,fun z hz => ?_⟩⟩
     rw [tkn (uh HX)] at hz
     rcases List.mem_append.1 hz with hz | hz
     ·exact (uh HN).2 z hz
     ·obtain rfl:z=x:=by simpa using hz
      exact hxl
  ·obtain rfl:m=i:=by omega
   clear hil hi hgk
   go_wp2
   go_ret
   refine ⟨⟨l,rfl,(uh HN).1,fun x hx=>(uh HN).2 x ?_⟩,uh HB⟩
   rw [uh HL,List.take_length]
   exact hx
theorem idxL_any {g gp cap M:Nat}{lb:Array Value}{f:Nat->Bool}{p:List Nat} (W:World) (eg:∀ args w,(callFunc g args).run Tryz.prog w=.ok (.enter g args) w) (hc:∀ (j l:Nat),p[j]? = some l->W.cell? ⟨gp,j,none⟩=some (.int .i64 (l:Int))) (hl:p.length<=1000) (hcap:p.length<=cap) (hM:∀ l ∈ p,l<M) (hf:TelL g lb f M W) (hex:∃ l ∈ p,f l=true) :
 Calls Tryz.prog 201 #[.slice (some ⟨gp,0,none⟩) p.length cap,.func (.func g) #[] lb] W fun e W'=>(∃ k:Nat,e=.returned (.int .i64 (k:Int))/\k<p.length/\∀ x ∈ p.take k,f x=false)/\Below W.heap.size W W':=by
 have HC:=qh hc
 have HM:=qh hM
 have HF:=qh hf
 have HE:=qh hex
 obtain ⟨m,hm⟩:∃ m,m=p.length:=⟨_,rfl⟩
 rw [<- hm] at hl hcap ⊢
 have HL:=qh hm
 have hmc:(m:Int)<=(cap:Int):=by omega
 clear hc hM hf hex hm
 go_enter Tryz.func201,Tryz.ntmps201
 go_wp2_with fail
 go_loopg [5,8] m (fun gk _ iv wr=>∃ i:Nat,i<=m/\gk=m - i/\iv=.int .i64 (i:Int)/\Hid (Below W.heap.size W wr)/\Hid (∀ x ∈ p.take i,f x=false))
 case atStart=>exact ⟨0,by omega,by omega,rfl,qh (Below.refl _ _),qh (fun x hx=>by simp at hx)⟩
 case round =>
  obtain ⟨i,hi,hgk,rfl,HB,HN⟩:=hrel
  by_cases hil:i<m
  ·obtain ⟨x,hx⟩:∃ x,p[i]? = some x:=⟨_,List.getElem?_eq_getElem (by rw [<- uh HL];exact hil)⟩
   have ci:=ck (uh HB) (uh HC i x hx)
   have HX:=qh hx
   have HQ:=qh (uh HF wr x (uh HB) (uh HM x (List.mem_of_getElem? hx)))
   have hil':(i:Int)<(m:Int):=by omega
   have hi0:(0:Int)<=(i:Int):=by omega
   obtain ⟨o,ho⟩:∃ o,o=f x:=⟨_,rfl⟩
   rw [<- ho] at HQ
   have HO:=qh ho
   clear hx ho
   go_wp2_with fail
   go_fit (uh HQ)
   rintro e W1 ⟨rfl,B1⟩
   have HB':=qh (bk B1 (uh HB))
   clear B1 HQ ci
   cases o
   ·go_wp2
    go_roundg (m - (i+1))
    case measure=>omega
    case rel =>
     refine ⟨i+1,by omega,rfl,by go_num,HB',qh fun z hz => ?_⟩
     rw [tkn (uh HX)] at hz
     rcases List.mem_append.1 hz with hz | hz
     ·exact uh HN z hz
     ·obtain rfl:z=x:=by simpa using hz
      exact (uh HO).symm
   ·go_wp2
    go_ret
    exact ⟨⟨i,rfl,hil,uh HN⟩,uh HB'⟩
  ·exfalso
   obtain ⟨x,hx,hfx⟩:=uh HE
   have h1:=uh HN x (by rw [List.take_of_length_le (by rw [<- uh HL];omega)];exact hx)
   rw [h1] at hfx
   cases hfx
end Go.Proofs.YtkdobjmhammhbaaGreatDoor
