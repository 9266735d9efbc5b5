import Derived.Test.YtkdobjmhammhbaaGreatDoorMBE
namespace Go.Proofs.YtkdobjmhammhbaaGreatDoor
set_option maxHeartbeats 16000000
set_option maxRecDepth 100000
open Go.RowKit
def EndL (w V:World) (K gn gl gw n:Nat) (A:List (Nat×Nat)) (rv:Value) (t g:Nat) (lb:Array Value):Prop :=
 ∀ (Z:World) (F:Nat->Value) (X:Nat->List Int) (rm:List Int) (al:Value) (dn:Nat->Nat) (p:List Nat) (W:World) (a:Nat),WkS w V Z K gn gl gw n A F X rv rm al dn p W ->
  Calls Tryz.prog g (#[.int .i64 (a:Int)]++lb) W fun e W'=>e=.returned (.int .i64 (if a=t then 0 else -1))/\Below W.heap.size W W'
theorem endL_fill {w V:World}{K gn gl gw gt t n:Nat}{A:List (Nat×Nat)}{rv:Value} (c:V.cell? ⟨gt,0,none⟩=some (.int .i64 (t:Int))) (h1:gt<V.heap.size/\rv.ownBlock≠some gt):EndL w V K gn gl gw n A rv t 113 #[.pointer (some ⟨gt,0,none⟩)]:=by
 intro Z F X rm al dn p W a h
 exact atEnd_any W (h.cell c h1.1 h1.2)
theorem way_lt {A:List (Nat×Nat)}{n b:Nat} (hA:∀ x ∈ A,x.1<n/\x.2<n):∀ {w:List Nat}{a:Nat},Way A w a b->a<n->b<n
 | [],a,h,ha=>by
  have h:a=b:=h
  exact h ▸ ha
 | l :: w,_,⟨hl,rfl,h3⟩,_=>way_lt hA h3 (ln_lt hA hl).2
theorem mz_lt {a b n c d:Nat} (h:a<b) (hc:c<=n+1):a*(n+2)+c<b*(n+2)+d:=by
 have h1:(a+1)*(n+2)<=b*(n+2):=Nat.mul_le_mul_right _ h
 rw [Nat.succ_mul] at h1
 omega
theorem mz_le {a b n c d:Nat} (h:a<=b) (hc:c<d):a*(n+2)+c<b*(n+2)+d:=by
 have h1:a*(n+2)<=b*(n+2):=Nat.mul_le_mul_right _ h
 omega
theorem fillAll_any {K N gn gl gw n s t g gc:Nat}{lb lc:Array Value}{T B:Int}{A:List (Nat×Nat)}{U lv:List Int}{F:Nat->Value}{X:Nat->List Int}{rv:Value}{rm:List Int} (w V W:World) (hBg:Big K N T) (h:WkS w V V K gn gl gw n A F X rv rm (.func (.func g) #[] lb) (fun _=>0) [] W) (hr:Rm U rm) (hUA:U.length=A.length) (hU:∀ u ∈ U,0<=u) (hl:Lev A n s rm lv) (hst:s≠t) (hs:s<n) (h0:0<=exo A (fl A.length rm) s) (hB:U.sum<=B) (hT:2*B<T)
 (eg:∀ args w,(callFunc g args).run Tryz.prog w=.ok (.enter g args) w) (hp:PredL w V K gn gl gw n A rv lv g lb) (ec:∀ args w,(callFunc gc args).run Tryz.prog w=.ok (.enter gc args) w) (hc:EndL w V K gn gl gw n A rv t gc lc) :
 Calls Tryz.prog 112 #[.pointer (some ⟨gw,0,none⟩),.int .i64 (s:Int),.func (.func gc) #[] lc] W fun e W'=>∃ (y:Z4) (sum:Int) (F':Nat->Value) (X':Nat->List Int) (rm':List Int) (dn:Nat->Nat) (p:List Nat),e=.returned (vz y)/\Zr (K+1) W' (vz y) sum/\0<=sum/\Rm U rm'/\(∀ v,exo A (fl A.length rm') v=exo A (fl A.length rm) v+sum*(ind s v - ind t v))/\(sum=0->lvl lv t<0)/\WkS w V W' K gn gl gw n A F' X' rv rm' (.func (.func g) #[] lb) dn p W':=by
 obtain ⟨q,hq⟩:∃ q,q=W.heap.size:=⟨_,rfl⟩
 have k1:=zqa W (.cells #[.int .i64 0,.slice none 0 0] 37)
 have k2:=zqa (W.alloc (.cells #[.int .i64 0,.slice none 0 0] 37)) (.cells #[.int .i64 0,.slice none 0 0] 37)
 have k3:=bk k2 k1
 obtain ⟨V2,hV2⟩:∃ V,V=(W.alloc (.cells #[.int .i64 0,.slice none 0 0] 37)).alloc (.cells #[.int .i64 0,.slice none 0 0] 37):=⟨_,rfl⟩
 have hrb:∀ x,rv.ownBlock=some x->x<q:=fun x hx=>by
  obtain ⟨_,cur,hh⟩:=h.nt.s.room.block hx
  rw [hq]
  exact (Array.getElem?_eq_some_iff.1 hh).1
 have HNE:=qh (show rv.ownBlock≠some q/\rv.ownBlock≠some (q+1)/\V.heap.size<=q from ⟨fun e=>by have:=hrb _ e;omega,fun e=>by have:=hrb _ e;omega,by rw [hq];exact h.above⟩)
 have HX0:=qh (show Box V2 q from by
  rw [hV2,hq]
  have h1:=(zqy W).later k2
  simpa using h1)
 have HZ0:=qh (show ZX (K+1) V2 (q+1) ⟨0,none,0,0⟩ 0 from by
  rw [hV2,hq]
  have h1:=ZX.new (K:=K+1) (w:=W.alloc (.cells #[.int .i64 0,.slice none 0 0] 37)) (x:=⟨0,none,0,0⟩) (z:=0) (Or.inl ⟨rfl,by omega,by omega⟩)
  simpa using h1)
 have HW0:=qh (show WkS w V V2 K gn gl gw n A F X rv rm (.func (.func g) #[] lb) (fun _=>0) [] V2 from by
  exact (h.later (by rw [hV2];exact k3) h.above).base)
 have HF0:=qh (FaM.start A n s t lv hr)
 have HN:=qh (And.intro h.nt.nd h.nt.sm)
 have HG:=qh (And.intro hBg (And.intro hUA (And.intro hU (And.intro hB hT))))
 have HL:=qh (And.intro hl (And.intro hst (And.intro hs h0)))
 have HP:=qh hp
 have HC:=qh hc
 have HRM:=qh hr
 clear h hr hBg hUA hU hl hB hT hp hc h0 k1 k2 k3 hrb
 go_enter Tryz.func112,Tryz.ntmps112
 go_upto_region 2 with fail
 first | rw [<- hV2] | (change Code.wp _ _ _ _ ((W.alloc (.cells #[.int .i64 0,.slice none 0 0] 37)).alloc (.cells #[.int .i64 0,.slice none 0 0] 37));rw [<- hV2])
 rw [<- hq]
 clear hV2 hq
 obtain ⟨M0,hM0⟩:∃ M,M=(lft A n (fun _=>0)+(B - 0).toNat)*(n+2)+(n+1 - ([]:List Nat).length):=⟨_,rfl⟩
 have HM0:=qh hM0
 clear hM0
 go_loopg [8,9] M0 (fun gk _ _ wr=>∃ (F1:Nat->Value) (X1:Nat->List Int) (rm1:List Int) (dn:Nat->Nat) (p:List Nat) (b:Nat) (sum:Int) (y:Z4),Hid (gk=(lft A n dn+(B - sum).toNat)*(n+2)+(n+1 - p.length))/\b<n/\Hid (WkS w V wr K gn gl gw n A F1 X1 rv rm1 (.func (.func g) #[] lb) dn p wr)/\Hid (FaM A n s t lv U rm rm1 dn p b sum)/\Hid (ZX (K+1) wr (q+1) y sum)/\Hid (Box wr q))
 case atStart=>exact ⟨F,X,rm,_,[],s,0,_,HM0,hs,HW0,HF0,HZ0,HX0⟩
 case round =>
  clear HM0 HW0 HF0 HZ0 HX0
  obtain ⟨F1,X1,rm1,dn,p,b,sum,y,HGK,hbn,HW,HF,HZ,HX⟩:=hrel
  obtain ⟨m,hm⟩:∃ m,m=p.length:=⟨_,rfl⟩
  obtain ⟨fa,fc,hF3⟩:=((uh HW).nt.s.fam.own (n+3) (by omega)).slice
  rw [(uh HW).xp,List.length_map,<- hm] at hF3
  have a3:=(uh HW).a3
  rw [hF3] at a3
  have hmn:m<=n:=by rw [hm];exact (uh HF).short (uh HL).1
  have hn60:n<=60:=(uh HN).2.1
  have hm60:(m:Int)<=60:=by omega
  have HM:=qh hm
  have HF3:=qh hF3
  clear hm hF3
  go_upto_if 16 with fail
  go_cut [8] (fun v8 wx=>v8=.int .i64 (b:Int)/\Hid (Below wr.heap.size wr wx))
  case first =>
   rcases Nat.eq_zero_or_pos m with h0 | h0
   ·have hsb:s=b:=by
     have h1:=(uh HF).wk.way
     rw [List.length_eq_zero_iff.1 ((uh HM).symm.trans h0)] at h1
     exact h1
    have e0:¬ ((m:Int) > 0):=by omega
    have HSB:=qh hsb
    clear h0 hsb
    go_wp2
    go_meet
    exact ⟨by rw [uh HSB],qh (Below.refl _ _)⟩
   ·obtain ⟨q',l,hq'⟩:∃ q' l,p=q'++[l]:=by
     rcases List.eq_nil_or_concat p with e | ⟨q',l,e⟩
     ·have h1:=uh HM;rw [e] at h1;simp at h1;omega
     ·exact ⟨q',l,by rw [e,List.concat_eq_append]⟩
    obtain ⟨j,hj⟩:∃ j,j=q'.length:=⟨_,rfl⟩
    have hjm:m=j+1:=by rw [uh HM,hq',hj];simp
    obtain ⟨gp,cp,hF,hf,hgp,hcp,cl⟩:=(uh HW).path (j:=j) (l:=l) (by rw [hq',hj];simp)
    rw [uh HF3] at hF
    injection hF with h1 h2 h3
    clear h2
    subst h1 h3
    have hcap:=hf.len
    rw [(uh HW).xp,List.length_map,<- uh HM] at hcap
    have hlM:=((uh HF).wk.opn l (by rw [hq'];simp)).1
    obtain ⟨g1,c1',f1,t1⟩:=(uh HW).nt.to hlM
    have d1:=(uh HW).nt.s.c1
    rw [f1] at d1
    obtain ⟨M,hMM⟩:∃ M,M=2*A.length:=⟨_,rfl⟩
    rw [<- hMM] at d1 hlM
    have hlb:lnT A l=b:=by
     have h1:=(uh HF).wk.way.at (k:=j) (l:=l) (by rw [hq',hj];simp)
     have h2:=h1.2.2
     rw [List.drop_of_length_le (by rw [hq',hj];simp)] at h2
     exact h2
    rw [hlb] at t1
    have a0:=(uh HW).a0
    have hlM':(l:Int)<(M:Int):=by omega
    have hjm':(j:Int)<(m:Int):=by omega
    have e1:(m:Int) - 1=(j:Int):=by omega
    have e0:(m:Int) > 0:=by omega
    have hmc:(m:Int)<=(fc:Int):=by omega
    clear hq' hj hjm hf hgp hcp hcap f1 hMM hlb h0
    go_upto_region 4 with fail
    go_quiet (fail)
    go_wp2
    go_meet
    exact ⟨rfl,qh (zqj (Below.refl _ _) nq)⟩
  case rest =>
   obtain ⟨rfl,HB⟩:=hcut
   obtain ⟨Z1,rfl⟩:∃ X,X=wc:=⟨_,rfl⟩
   have HW:=qh (((uh HW).later (uh HB) (uh HW).above).base)
   have HZ:=qh ((uh HZ).keep (uh HB))
   have HX:=qh ((uh HX).later (uh HB))
   clear HB a3 HF3
   go_wp2_with fail
   go_fit (uh HC _ _ _ _ _ _ _ _ b (uh HW))
   rintro e W1 ⟨rfl,B1⟩
   have HW:=qh (((uh HW).later B1 (uh HW).above).base)
   have HZ:=qh ((uh HZ).keep B1)
   have HX:=qh ((uh HX).later B1)
   clear B1
   by_cases hbt:b=t
   ·have HBT:=qh hbt
    rw [if_pos hbt]
    have hpne:p≠[]:=fun e=>by
     have h1:=(uh HF).wk.way
     rw [e] at h1
     exact (uh HL).2.1 (Eq.trans h1 hbt)
    have HWD:=qh (((uh HW).later (Below.refl _ _).drew (uh HW).above).base)
    have HZD:=qh ((uh HZ).keep (Below.refl _ _).drew)
    have HXD:=qh ((uh HX).later (Below.refl _ _).drew)
    have HFW:=qh ((fillWay_any (B:=B) w V _ _ (uh HG).1 (uh HWD) (uh HF).rms (uh HG).2.1 (uh HG).2.2.1 (uh HF).wk hpne (uh HG).2.2.2.1 (uh HG).2.2.2.2 (by have:=uh HM;omega)).mono (fun (e:Ending) (W':World) hh=>(show ∃ (y2:Z4) (d:Int) (F':Nat->Value) (X':Nat->List Int) (k c:Nat),e=.returned (vz y2)/\Hid (Zr (K+1) W' (vz y2) d)/\Hid (0<d/\k<p.length/\Rm U (mvW rm1 p d)/\Wk A n s t lv (mvW rm1 p d) dn (p.take k) c/\c<n)/\Hid (WkS w V W1.drew K gn gl gw n A F' X' rv (mvW rm1 p d) (.func (.func g) #[] lb) dn (p.take k) W') from by
     obtain ⟨y2,d,F',X',k,c,h1,h2,h3,h4,h5,h6,h7⟩:=hh
     refine ⟨y2,d,F',X',k,c,h1,qh h2,qh ⟨h3,h4,h5,h7,?_⟩,qh h6⟩
     exact way_lt (uh HN).1 h7.way (uh HL).2.2.1)))
    have HFT:=qh (show FaM A n s t lv U rm rm1 dn p t sum from by have h1:=uh HF;rw [uh HBT] at h1;exact h1)
    have z0:=(uh HZ).c0
    have z1:=(uh HZ).c1
    clear hbt hpne hbn
    go_upto_region 7 with fail
    go_region_with (first
     | (go_at_call 167;go_fit (uh HFW);rintro e8 W2 ⟨y2,d,F2,X2,k,c,rfl,HY2,HD2,HW2⟩
        have HZ2:=qh ((uh HZD).stay (uh HW2).kz (uh HNE).2.1)
        have HX2:=qh ((uh HXD).stay (uh HW2).kz (uh HNE).1)
        have HF2:=qh ((uh HFT).fill (uh HG).2.1 (uh HD2).1 (uh HD2).2.2.1 (uh HD2).2.2.2.1)
        have HSM:=qh ((uh HF2).le (uh HG).2.1 (uh HL).2.1 (uh HL).2.2.2)
        have HIN:=qh (show -pw (K+1)<sum+d/\sum+d<pw (K+1) by have h1:=(uh HF2).nn;have h2:=uh HSM;have h3:=(uh HG).1.r;have h4:=(uh HG).2.2.2;omega)
        have z0:=(uh HZ2).c0
        have z1:=(uh HZ2).c1)
     | (go_at_call 111;go_fit (zs_add _ (uh HG).1 (uh HZ2).z (uh HY2) (uh HIN));rintro e9 W3 ⟨⟨vm,rfl,hm2⟩,hb⟩
        obtain ⟨zm,rfl⟩:=hm2.sh
        have HM3:=qh hm2
        have HB3:=qh hb
        have HX3:=qh ((uh HZ2).box.later hb)
        obtain ⟨⟨w0,e0⟩,⟨w2,w3,w4,e1⟩,gf⟩:=(uh HX3).cells
        have hlt:=zko (uh HX3)
        clear hm2 hb z0 z1))
    all_goals
     have hw3:=(uh HW2).later (uh HB3) (uh HW2).above
     have HW4:=qh (hw3.asideN (uh HX3) (uh HNE).2.1 (by have:=(uh HNE).2.2;omega) zm.a zm.b zm.c zm.d)
     have HZ4:=qh (ZX.put (uh HX3) (uh HM3))
     have HX4:=qh ((((uh HX2).later (uh HB3)).other (q:=q+1) (o:=0) (by omega) (.int .i64 zm.a)).other (q:=q+1) (o:=1) (by omega) (.slice zm.b zm.c zm.d))
     clear hw3
     go_wp2
     go_roundg ((lft A n dn+(B - (sum+d)).toNat)*(n+2)+(n+1 - (p.take k).length))
     case measure =>
      rw [uh HGK]
      have h1:=(uh HD2).1
      have h2:=uh HSM
      have h3:=(uh HG).2.2.2.1
      exact mz_lt (by omega) (by omega)
     case rel=>exact ⟨_,_,_,_,_,c,_,zm,qh rfl,(uh HD2).2.2.2.2,HW4,HF2,HZ4,HX4⟩
   ·rw [if_neg hbt]
    have HBT:=qh hbt
    have HSH:=qh (show p.length<=n/\n<=60 from ⟨(uh HF).short (uh HL).1,hn60⟩)
    clear hbt
    go_wp2_with fail
    go_fit (goOn_any (t:=t) (lv:=lv) w V _ _ (uh HW) (uh HF).wk hbn eg (uh HP) (by have:=uh HSH;omega))
    rintro e W2 ⟨F2,X2,dn2,hle2,hh⟩
    have HLE:=qh hle2
    clear hle2
    rcases hh with ⟨rfl,hdn,hk,hws⟩ | ⟨l,rfl,hk,hws⟩
    ·have HZ2:=qh ((uh HZ).stay hws.kz (uh HNE).2.1)
     have HX2:=qh ((uh HX).stay hws.kz (uh HNE).1)
     have HW2:=qh hws.base
     have HK2:=qh hk
     have HDN:=qh hdn
     clear hdn hk hws HW HZ HX
     have HGB:=qh (goBack_any w V _ _ (uh HW2) (fun l hl=>((uh HK2).opn l hl).1) (fun v=>by
      have h1:=(uh HK2).le v
      have h2:=XN_len A A.length (v+2)
      have h3:=(uh HN).2.2
      unfold lvr at h1
      omega) (by have:=uh HSH;omega))
     go_wp2_with fail
     go_fit (uh HGB)
     rintro e W3 hh
     rcases hh with ⟨hp0,rfl,hws⟩ | ⟨q',l,F3,X3,hpq,rfl,hws⟩
     ·have HZ3:=qh ((uh HZ2).stay hws.kz (uh HNE).2.1)
      have HX3:=qh ((uh HX2).stay hws.kz (uh HNE).1)
      have HW3:=qh hws.base
      have HP0:=qh hp0
      clear hp0 hws HGB
      have z0:=(uh HZ3).c0
      have z1:=(uh HZ3).c1
      obtain ⟨⟨w0,e0⟩,⟨w2,w3,w4,e1⟩,gf⟩:=(uh HX3).cells
      have hlt:=zko (uh HX3)
      go_wp2
      obtain ⟨st0,st1⟩:=(uh HX3).stored (.int .i64 y.a) (.slice y.b y.c y.d)
      refine bodyPost_ret (v:=vz y) (by simp [results,Tryz.results112,go_sem,st0,st1]) rfl ?_
      have hf:=(uh HF).go (uh HK2)
      refine ⟨y,sum,_,_,rm1,dn2,p,rfl,(uh HZ3).z.stored (uh HX3) _ _,hf.nn,hf.rms,hf.ex,fun e => ?_,(uh HW3).asideN (uh HX3) (uh HNE).1 (uh HNE).2.2 _ _ _ _⟩
      rw [uh HP0] at hf
      exact hf.end_ (uh HL).1 (uh HL).2.1 (uh HDN) e
     ·have HZ3:=qh ((uh HZ2).stay hws.kz (uh HNE).2.1)
      have HX3:=qh ((uh HX2).stay hws.kz (uh HNE).1)
      have HW3:=qh hws.base
      have HPQ:=qh hpq
      clear hpq hws HGB
      have hk2:=uh HK2
      rw [uh HPQ] at hk2
      have HLT:=qh (hk2.at_ l (by simp))
      obtain ⟨hlb,hk3⟩:=hk2.back (uh HDN) (uh HBT)
      have HK3:=qh hk3
      have HLL:=qh ((ln_lt (uh HN).1 (hk2.opn l (by simp)).1).1)
      clear hk2 hlb hk3
      go_wp2
      go_roundg ((lft A n (upd dn2 (lnF A l) (dn2 (lnF A l)+1))+(B - sum).toNat)*(n+2)+(n+1 - q'.length))
      case measure =>
       rw [uh HGK]
       have h1:=lft_inc (A:=A) (uh HLL) ((List.getElem?_eq_some_iff.1 (uh HLT)).1)
       have h2:=lft_le (A:=A) (n:=n) (uh HLE)
       exact mz_lt (by omega) (by omega)
      case rel=>exact ⟨_,_,_,_,_,_,_,y,qh rfl,uh HLL,HW3,qh ((uh HF).go (uh HK3)),HZ3,HX3⟩
    ·have HZ2:=qh ((uh HZ).stay hws.kz (uh HNE).2.1)
     have HX2:=qh ((uh HX).stay hws.kz (uh HNE).1)
     have HW2:=qh hws.base
     have HF2:=qh ((uh HF).go hk)
     clear hk hws HW HZ HX
     go_wp2
     go_roundg ((lft A n dn2+(B - sum).toNat)*(n+2)+(n+1 - (p++[l]).length))
     case measure =>
      rw [uh HGK]
      have h1:=(uh HF2).short (uh HL).1
      have h2:=lft_le (A:=A) (n:=n) (uh HLE)
      have h3:(p++[l]).length=p.length+1:=by simp
      rw [h3] at h1 ⊢
      exact mz_le (by omega) (by omega)
     case rel=>exact ⟨_,_,_,_,_,_,_,y,qh rfl,way_lt (uh HN).1 (uh HF2).wk.way (uh HL).2.2.1,HW2,HF2,HZ2,HX2⟩
theorem NtS.asideN {w W:World}{K gn gl n r:Nat}{A:List (Nat×Nat)}{F:Nat->Value}{X:Nat->List Int}{rv:Value}{rm:List Int} (h:NtS w K gn gl n A F X rv rm W) (hb:Box W r) (hne:rv.ownBlock≠some r) (hw:w.heap.size<=r) (x:Int) (a:Option Addr) (m c:Nat):NtS w K gn gl n A F X rv rm ((W.setCell ⟨r,0,none⟩ (.int .i64 x)).setCell ⟨r,1,none⟩ (.slice a m c)):=by
 have he:=else2 (g:=r) W 0 (.int .i64 x) (.slice a m c)
 obtain ⟨b0,b1,b2,b3,hq⟩:=hb
 have hc:Chg NoWord 37 W ((W.setCell ⟨r,0,none⟩ (.int .i64 x)).setCell ⟨r,1,none⟩ (.slice a m c)):=he.chg hq fun u hu=>kd_z b0 b1 b2 b3 u (by simpa using hu)
 have hs:=h.s
 exact ⟨⟨(hs.below.setCell (p:=⟨r,0,none⟩) hw _).setCell (p:=⟨r,1,none⟩) hw _,hs.fam.elsewhere he hq (by decide),hs.room.move (fun g hg=>he g fun e=>hne (by rw [hg,e])) fun cs x hx=>zqs _ _ _ _ _ _ hx hc,
  hs.bn.same hc (by decide) hs.c0,hs.bn.same hc (by decide) hs.c1,hs.bn.same hc (by decide) hs.c2,hs.bn.same hc (by decide) hs.c3,fun j hj=>hs.bl.same hc (by decide) (hs.cl j hj),hs.bn.chg hc (by decide),hs.bl.chg hc (by decide),hs.gw⟩,h.x0,h.x1,h.xv,h.rl,h.nd,h.sm⟩
theorem NtS.free {w W:World}{K gn gl n:Nat}{A:List (Nat×Nat)}{F:Nat->Value}{X:Nat->List Int}{rv:Value}{rm:List Int} (h:NtS w K gn gl n A F X rv rm W) {r:Nat} (hr:W.heap.size<=r):rv.ownBlock≠some r:=fun e=>by
 obtain ⟨_,cur,hh⟩:=h.s.room.block e
 have:=(Array.getElem?_eq_some_iff.1 hh).1
 omega
structure FiS (w:World) (K gn gl n s t q:Nat) (A:List (Nat×Nat)) (U:List Int) (F:Nat->Value) (X:Nat->List Int) (rv:Value) (rm:List Int) (y:Z4) (sum:Int) (W:World):Prop where
 nt:NtS w K gn gl n A F X rv rm W
 rms:Rm U rm
 ex:∀ v,exo A (fl A.length rm) v=sum*(ind s v - ind t v)
 nn:0<=sum
 z:ZX (K+1) W (q+3) y sum
 box:Box W (q+2)
 c0:W.cell? ⟨q,0,none⟩=some (.pointer (some ⟨gn,0,none⟩))
 c1:W.cell? ⟨q+1,0,none⟩=some (.int .i64 (t:Int))
theorem FiS.later {w W W':World}{K gn gl n s t q:Nat}{A:List (Nat×Nat)}{U:List Int}{F:Nat->Value}{X:Nat->List Int}{rv:Value}{rm:List Int}{y:Z4}{sum:Int} (h:FiS w K gn gl n s t q A U F X rv rm y sum W) (hb:Below W.heap.size W W'):FiS w K gn gl n s t q A U F X rv rm y sum W' :=
 ⟨h.nt.keep hb,h.rms,h.ex,h.nn,h.z.keep hb,h.box.later hb,ck hb h.c0,ck hb h.c1⟩
theorem FiS.le {w W:World}{K gn gl n s t q:Nat}{A:List (Nat×Nat)}{U:List Int}{F:Nat->Value}{X:Nat->List Int}{rv:Value}{rm:List Int}{y:Z4}{sum:Int} (h:FiS w K gn gl n s t q A U F X rv rm y sum W) (hUA:U.length=A.length) (hst:s≠t):sum<=U.sum:=by
 have h1:=exo_le (A:=A) (F:=fl A.length rm) (U:=U) (by rw [<- hUA];exact h.rms.fl_in) (fl_len _ _) hUA s
 rw [h.ex s] at h1
 simp only [ind,if_true,if_neg (fun e:t=s=>hst e.symm)] at h1
 omega
theorem FiS.next {w V W W':World}{K gn gl n s t q:Nat}{A:List (Nat×Nat)}{U:List Int}{F F':Nat->Value}{X X':Nat->List Int}{rv:Value}{rm rm':List Int}{y zm:Z4}{sum d:Int} (h:FiS w K gn gl n s t q A U F X rv rm y sum V) (ha:Asd rv V W) (hnt:NtS w K gn gl n A F' X' rv rm' W) (hb:Below W.heap.size W W') (hr:Rm U rm') (hex:∀ v,exo A (fl A.length rm') v=(sum+d)*(ind s v - ind t v)) (hd:0<d) (hz:Zr (K+1) W' (vz zm) (sum+d)) (hne:(∀ r,q<=r->rv.ownBlock≠some r)/\w.heap.size<=q) :
 FiS w K gn gl n s t q A U F' X' rv rm' zm (sum+d) ((W'.setCell ⟨q+3,0,none⟩ (.int .i64 zm.a)).setCell ⟨q+3,1,none⟩ (.slice zm.b zm.c zm.d)):=by
 have hx:=((h.z.asd ha h.nt.s.room (hne.1 _ (by omega))).box).later hb
 have h0:=ck hb (ha.cell (hne.1 _ (by omega)) h.c0)
 have h1:=ck hb (ha.cell (hne.1 _ (by omega)) h.c1)
 refine ⟨(hnt.keep hb).asideN hx (hne.1 _ (by omega)) (by have:=hne.2;omega) _ _ _ _,hr,hex,by have:=h.nn;omega,ZX.put hx hz,(((h.box.asd ha (hne.1 _ (by omega))).later hb).other (q:=q+3) (o:=0) (by omega) _).other (q:=q+3) (o:=1) (by omega) _,?_,?_⟩
 ·rw [zqb _ _ _ _ _ _ (by omega),zqb _ _ _ _ _ _ (by omega)];exact h0
 ·rw [zqb _ _ _ _ _ _ (by omega),zqb _ _ _ _ _ _ (by omega)];exact h1
theorem fill_any {K N gn gl n s t:Nat}{T B:Int}{A:List (Nat×Nat)}{U:List Int}{F:Nat->Value}{X:Nat->List Int}{rv:Value}{rm:List Int} (w W:World) (hBg:Big K N T) (h:NtS w K gn gl n A F X rv rm W) (hr:Rm U rm) (hUA:U.length=A.length) (hU:∀ u ∈ U,0<=u) (hst:s≠t) (hs:s<n) (ht:t<n) (h0:∀ v,exo A (fl A.length rm) v=0) (hB:U.sum<=B) (hT:2*B<T) :
 Calls Tryz.prog 61 #[.pointer (some ⟨gn,0,none⟩),.int .i64 (s:Int),.int .i64 (t:Int)] W fun e W'=>∃ (y:Z4) (sum:Int) (F':Nat->Value) (X':Nat->List Int) (rm' lv:List Int),e=.returned (vz y)/\Zr (K+1) W' (vz y) sum/\0<=sum/\Rm U rm'/\(∀ v,exo A (fl A.length rm') v=sum*(ind s v - ind t v))/\Lev A n s rm' lv/\lvl lv t<0/\NtS w K gn gl n A F' X' rv rm' W':=by
 obtain ⟨q,hq⟩:∃ q,q=W.heap.size:=⟨_,rfl⟩
 have k1:=zqa W (.cells #[.pointer (some ⟨gn,0,none⟩)] 127)
 have k2:=zqa (W.alloc (.cells #[.pointer (some ⟨gn,0,none⟩)] 127)) (.cells #[.int .i64 (t:Int)] 3)
 have k3:=zqa ((W.alloc (.cells #[.pointer (some ⟨gn,0,none⟩)] 127)).alloc (.cells #[.int .i64 (t:Int)] 3)) (.cells #[.int .i64 0,.slice none 0 0] 37)
 have k4:=zqa (((W.alloc (.cells #[.pointer (some ⟨gn,0,none⟩)] 127)).alloc (.cells #[.int .i64 (t:Int)] 3)).alloc (.cells #[.int .i64 0,.slice none 0 0] 37)) (.cells #[.int .i64 0,.slice none 0 0] 37)
 obtain ⟨V2,hV2⟩:∃ V,V=(((W.alloc (.cells #[.pointer (some ⟨gn,0,none⟩)] 127)).alloc (.cells #[.int .i64 (t:Int)] 3)).alloc (.cells #[.int .i64 0,.slice none 0 0] 37)).alloc (.cells #[.int .i64 0,.slice none 0 0] 37):=⟨_,rfl⟩
 have HS0:=qh (show FiS w K gn gl n s t q A U F X rv rm ⟨0,none,0,0⟩ 0 V2 from by
  rw [hV2,hq]
  refine ⟨((((h.keep k1).keep k2).keep k3).keep k4),hr,fun v=>by rw [h0];omega,Int.le_refl _,?_,?_,?_,?_⟩
  ·have h1:=ZX.new (K:=K+1) (w:=((W.alloc (.cells #[.pointer (some ⟨gn,0,none⟩)] 127)).alloc (.cells #[.int .i64 (t:Int)] 3)).alloc (.cells #[.int .i64 0,.slice none 0 0] 37)) (x:=⟨0,none,0,0⟩) (z:=0) (Or.inl ⟨rfl,by omega,by omega⟩)
   simpa using h1
  ·have h1:=(zqy ((W.alloc (.cells #[.pointer (some ⟨gn,0,none⟩)] 127)).alloc (.cells #[.int .i64 (t:Int)] 3))).later k4
   simpa using h1
  ·exact ck k4 (ck k3 (ck k2 (new_at W _ _ 0 _ rfl)))
  ·have h1:=ck k4 (ck k3 (new_at (W.alloc (.cells #[.pointer (some ⟨gn,0,none⟩)] 127)) 3 [.int .i64 (t:Int)] 0 _ rfl))
   simpa using h1)
 have HNE:=qh (show (∀ r,q<=r->rv.ownBlock≠some r)/\w.heap.size<=q from ⟨fun r hr=>h.free (by omega),by rw [hq];exact h.s.below.size⟩)
 have HN:=qh (And.intro h.nd h.sm)
 have HG:=qh (And.intro hBg (And.intro hUA (And.intro hU (And.intro hB hT))))
 have HL:=qh (And.intro hst (And.intro hs ht))
 have htn:(t:Int)<(n:Int):=by omega
 clear h hr hBg hUA hU hst hs ht hB hT h0 k1 k2 k3 k4
 go_enter Tryz.func61,Tryz.ntmps61
 go_upto_region 2 with fail
 rw [<- hV2]
 rw [<- hq]
 clear hV2 hq
 obtain ⟨M0,hM0⟩:∃ M,M=(B - 0).toNat:=⟨_,rfl⟩
 have HM0:=qh hM0
 clear hM0
 go_loopg [8,9] M0 (fun gk _ _ wr=>∃ (F1:Nat->Value) (X1:Nat->List Int) (rm1:List Int) (sum:Int) (y:Z4),Hid (gk=(B - sum).toNat)/\Hid (FiS w K gn gl n s t q A U F1 X1 rv rm1 y sum wr))
 case atStart=>exact ⟨F,X,rm,0,_,HM0,HS0⟩
 case round =>
  clear HM0 HS0
  obtain ⟨F1,X1,rm1,sum,y,HGK,HS⟩:=hrel
  have c0:=(uh HS).c0
  go_wp2_with fail
  go_fit (levels_any w _ (uh HS).nt (uh HL).2.1)
  rintro e W1 ⟨⟨v,lv,rfl,hv,hlv⟩,B1⟩
  obtain ⟨da,dc,rfl⟩:=hv.slice
  obtain ⟨g8,hg8⟩:∃ g,g=W1.heap.size:=⟨_,rfl⟩
  obtain ⟨V3,hV3⟩:∃ V,V=W1.alloc (.cells #[.slice da lv.length dc] 55):=⟨_,rfl⟩
  have B3:Below W1.heap.size W1 V3:=by rw [hV3];exact zqa W1 _
  have c8:V3.cell? ⟨g8,0,none⟩=some (.slice da lv.length dc):=by rw [hV3,hg8];exact new_at W1 _ _ 0 _ rfl
  have HLT:=qh (show g8<V3.heap.size/\wr.heap.size<=g8 by rw [hV3,hg8];exact ⟨by simp,B1.size⟩)
  have HSR:=qh (fun (r:Nat) (hr:wr.heap.size<=r)=>(uh HS).nt.free hr)
  have HVB:=qh (show ∀ g,(Value.slice da lv.length dc).ownBlock=some g->rv.ownBlock≠some g from fun g hg=>(uh HS).nt.free (hv.block hg).1)
  have HS:=qh (((uh HS).later B1).later B3)
  have HV:=qh (hv.later (JE.stays _ _) B3)
  have HLV:=qh hlv
  obtain ⟨gb,o,hda,e1,_⟩:=(uh HV).rows.int (lvl_at (v:=t) (by rw [hlv.len];exact (uh HL).2.2))
  subst hda
  obtain ⟨x,hx⟩:∃ x,x=lvl lv t:=⟨_,rfl⟩
  rw [<- hx] at e1
  have HX:=qh hx
  obtain ⟨ln,hln⟩:∃ k,k=lv.length:=⟨_,rfl⟩
  rw [<- hln] at c8 hV3
  have htl:(t:Int)<(ln:Int):=by rw [hln,hlv.len];exact htn
  rw [<- hln]
  have HLN:=qh hln
  have c1:=(uh HS).c1
  clear B1 B3 hv hlv hx hln c0
  go_upto_region 3 with fail
  rw [<- hV3]
  rw [<- hg8]
  clear hV3 hg8
  by_cases hx0:x<0
  ·have z0:=(uh HS).z.c0
   have z1:=(uh HS).z.c1
   obtain ⟨⟨w0,d0⟩,⟨w2,w3,w4,d1⟩,gf⟩:=(uh HS).box.cells
   have hlt:=zko (uh HS).box
   go_wp2
   obtain ⟨st0,st1⟩:=(uh HS).box.stored (.int .i64 y.a) (.slice y.b y.c y.d)
   refine bodyPost_ret (v:=vz y) (by simp [results,Tryz.results61,go_sem,st0,st1]) rfl ?_
   have h:=uh HS
   exact ⟨y,sum,_,_,rm1,lv,rfl,h.z.z.stored h.box _ _,h.nn,h.rms,h.ex,uh HLV,by rw [<- uh HX];exact hx0,h.nt.asideN h.box ((uh HNE).1 _ (by omega)) (by have:=(uh HNE).2;omega) _ _ _ _⟩
  ·have c0:=(uh HS).c0
   go_wp2_with fail
   go_fit (walkOf_any w _ (uh HS).nt (.func 110) #[] #[.pointer (some ⟨g8,0,none⟩),.pointer (some ⟨q,0,none⟩)] rfl)
   rintro e W2 ⟨gw,F2,X2,rfl,hws⟩
   have hgq:q+3<V3.heap.size:=zko (uh HS).z.box
   have hnq:∀ r,q<=r->rv.ownBlock≠some r:=(uh HNE).1
   have HPL:=qh (predL_fill (w:=w) (gw:=gw) (gn:=gn) (gl:=gl) (K:=K) (A:=A) (uh HV) (uh HLV).len (uh HLV).hi (uh HVB) (by rw [<- uh HLN];exact c8) c0 ⟨(uh HLT).1,uh HSR _ (uh HLT).2⟩ ⟨by omega,hnq _ (Nat.le_refl _)⟩)
   have HEL:=qh (endL_fill (w:=w) (gw:=gw) (gn:=gn) (gl:=gl) (K:=K) (A:=A) (n:=n) (rv:=rv) c1 ⟨by omega,hnq _ (by omega)⟩)
   have HA2:=qh (show Asd rv V3 W2 from ⟨hws.above,hws.kept⟩)
   have HZ2:=qh ((uh HS).z.asd (uh HA2) (uh HS).nt.s.room (hnq _ (by omega)))
   have HWD:=qh (hws.later (Below.refl _ _).drew hws.above)
   have c5:=(uh HA2).cell (hnq _ (by omega)) (uh HS).c1
   have hs0:0<=exo A (fl A.length rm1) s:=by
    rw [(uh HS).ex s]
    have h1:=(uh HS).nn
    have h2:=(uh HL).1
    simp only [ind,if_true,if_neg (fun e:t=s=>h2 e.symm)]
    omega
   have HFA:=qh ((fillAll_any (B:=B) w V3 _ (uh HG).1 (uh HWD) (uh HS).rms (uh HG).2.1 (uh HG).2.2.1 (uh HLV) (uh HL).1 (uh HL).2.1 hs0 (uh HG).2.2.2.1 (uh HG).2.2.2.2 eg_alw (uh HPL) eg_end (uh HEL)).mono (fun (e:Ending) (W':World) hh=>(show ∃ (y2:Z4) (d:Int) (F':Nat->Value) (X':Nat->List Int) (rm':List Int),e=.returned (vz y2)/\Hid (Zr (K+1) W' (vz y2) d)/\Hid (0<d/\Rm U rm'/\∀ v,exo A (fl A.length rm') v=(sum+d)*(ind s v - ind t v))/\Hid (Asd rv V3 W'/\NtS w K gn gl n A F' X' rv rm' W') from by
    obtain ⟨y2,d,F',X',rm',dn',p',h1,h2,h3,h4,h5,h6,h7⟩:=hh
    refine ⟨y2,d,F',X',rm',h1,qh h2,qh ⟨?_,h4,fun v => ?_⟩,qh ⟨⟨h7.above,h7.kept⟩,h7.nt⟩⟩
    ·rcases Int.lt_or_eq_of_le h3 with h | h
     ·exact h
     ·have h8:=h6 h.symm
      rw [<- uh HX] at h8
      omega
    ·rw [h5,(uh HS).ex v]
     grind)))
   have z0:=(uh HZ2).c0
   have z1:=(uh HZ2).c1
   clear hws hgq hnq hs0 c0 c1 c8 e1 hx0
   go_upto_region 6 with fail
   go_region_with (first
    | (go_at_call 112;go_fit (uh HFA);rintro e8 W4 ⟨y2,d,F4,X4,rm4,rfl,HY4,HD4,HA4⟩
       have HZ4:=qh ((uh HS).z.asd (uh HA4).1 (uh HS).nt.s.room ((uh HNE).1 _ (by omega)))
       have HSM:=qh (show sum+d<=U.sum from by
        have h1:=exo_le (A:=A) (F:=fl A.length rm4) (U:=U) (by rw [<- (uh HG).2.1];exact (uh HD4).2.1.fl_in) (fl_len _ _) (uh HG).2.1 s
        have h2:=(uh HL).1
        rw [(uh HD4).2.2 s] at h1
        simp only [ind,if_true,if_neg (fun e:t=s=>h2 e.symm)] at h1
        omega)
       have HIN:=qh (show -pw (K+1)<sum+d/\sum+d<pw (K+1) by have h0:=(uh HS).nn;have h1:=(uh HD4).1;have h2:=uh HSM;have h3:=(uh HG).1.r;have h4:=(uh HG).2.2.2;omega)
       have z0:=(uh HZ4).c0
       have z1:=(uh HZ4).c1)
    | (go_at_call 111;go_fit (zs_add _ (uh HG).1 (uh HZ4).z (uh HY4) (uh HIN));rintro e9 W5 ⟨⟨vm,rfl,hm2⟩,hb⟩
       obtain ⟨zm,rfl⟩:=hm2.sh
       have HM5:=qh hm2
       have HB5:=qh hb
       have hx5:=(uh HZ4).box.later hb
       obtain ⟨⟨w0,d0⟩,⟨w2,w3,w4,d1⟩,gf⟩:=hx5.cells
       have hlt:=zko hx5
       clear hm2 hb z0 z1 hx5))
   all_goals
    have HS5:=qh ((uh HS).next (uh HA4).1 (uh HA4).2 (uh HB5) (uh HD4).2.1 (uh HD4).2.2 (uh HD4).1 (uh HM5) (uh HNE))
    go_wp2
    go_roundg (B - (sum+d)).toNat
    case measure =>
     rw [uh HGK]
     have h1:=(uh HD4).1
     have h2:=uh HSM
     have h3:=(uh HG).2.2.2.1
     omega
    case rel=>exact ⟨_,_,_,_,zm,qh rfl,HS5⟩
structure MostP (n s t:Nat) (L:List (Int×Int×Int×Int)) (F:List Int) (side:List Bool) (sum:Int):Prop where
 wi:wiP L F
 keep:∀ v,v<n->v≠s->v≠t->exo (arcN L) F v=0
 out:exo (arcN L) F s=sum
 len:side.length=n
 s1:flagAt side (s:Int)=true
 t0:flagAt side (t:Int)=false
 cut:thru side L=sum
theorem exo_scale {A:List (Nat×Nat)} (g:Int) (v:Nat):∀ (F:List Int),exo A (F.map fun f=>f*g) v=exo A F v*g:=by
 induction A with
 | nil=>intro F;simp [exo]
 | cons x A ih =>
  intro F
  cases F with
  | nil=>simp [exo]
  | cons f F =>
   rw [List.map_cons,zjr,zjr,ih]
   grind
theorem arcN_at {L:List (Int×Int×Int×Int)}{i:Nat}{x:Int×Int×Int×Int} (h:L[i]? = some x):(arcN L).getD i (0,0)=(x.1.toNat,x.2.1.toNat):=by
 rw [List.getD_eq_getElem?_getD]
 unfold arcN
 rw [List.getElem?_map,h]
 rfl
theorem arcN_nd {L:List (Int×Int×Int×Int)}{n:Nat} (hL:∀ x ∈ L,¬ badArc n x):∀ x ∈ arcN L,x.1<n/\x.2<n:=by
 intro x hx
 obtain ⟨y,hy,rfl⟩:=List.mem_map.1 hx
 have h:=hL y hy
 unfold badArc at h
 show y.1.toNat<n/\y.2.1.toNat<n
 omega
theorem flag_lv {lv:List Int}{n v:Nat} (hlen:lv.length=n) (hv:v<n):flagAt (lv.map fun x=>decide (0<=x)) (v:Int)=decide (0<=lvl lv v):=by
 unfold flagAt
 rw [List.getD_eq_getElem?_getD,Int.toNat_natCast,List.getElem?_map,lvl_at (by rw [hlen];exact hv)]
 rfl
theorem most_math {n s t:Nat}{g sum:Int}{L:List (Int×Int×Int×Int)}{U rm lv:List Int} (hL:∀ x ∈ L,¬ badArc n x) (hc:(L.map fun x=>x.2.2.1)=U.map fun u=>u*g) (g0:0<g) (hr:Rm U rm) (hst:s≠t) (hs:s<n) (ht:t<n) (hex:∀ v,exo (arcN L) (fl (arcN L).length rm) v=sum*(ind s v - ind t v)) (hlv:Lev (arcN L) n s rm lv) (hlt:lvl lv t<0) :
 MostP n s t L ((fl (arcN L).length rm).map fun f=>f*g) (lv.map fun x=>decide (0<=x)) (sum*g):=by
 have hAL:(arcN L).length=L.length:=by simp [arcN]
 have hUL:U.length=L.length:=by have h:=congrArg List.length hc;simpa using h.symm
 have hcap:∀ (i:Nat) (x:Int×Int×Int×Int),L[i]? = some x->∃ u,U[i]? = some u/\x.2.2.1=u*g:=by
  intro i x hx
  have h1:(L.map fun x=>x.2.2.1)[i]? = some x.2.2.1:=by rw [List.getElem?_map,hx];rfl
  rw [hc,List.getElem?_map] at h1
  cases hu:U[i]? with
  | none=>rw [hu] at h1;cases h1
  | some u=>rw [hu] at h1;exact ⟨u,rfl,(Option.some.inj h1).symm⟩
 have hfl:∀ i,i<L.length->(fl (arcN L).length rm)[i]? = some (rm.getD (2*i+1) 0):=fun i hi=>fl_at rm (by rw [hAL];exact hi)
 have hF:∀ (i:Nat) (f:Int),((fl (arcN L).length rm).map fun f=>f*g)[i]? = some f->i<L.length/\f=rm.getD (2*i+1) 0*g:=by
  intro i f hf
  have hi:i<L.length:=by have h:=(List.getElem?_eq_some_iff.1 hf).1;rw [List.length_map,fl_len,hAL] at h;exact h
  rw [List.getElem?_map,hfl i hi] at hf
  exact ⟨hi,(Option.some.inj hf).symm⟩
 have hsum:exo (arcN L) (fl (arcN L).length rm) s=sum:=by
  rw [hex s]
  simp only [ind,if_true,if_neg (fun e:t=s=>hst e.symm)]
  omega
 have hout:exo (arcN L) ((fl (arcN L).length rm).map fun f=>f*g) s=sum*g:=by rw [exo_scale,hsum]
 have hkeep:∀ v,v<n->v≠s->v≠t->exo (arcN L) ((fl (arcN L).length rm).map fun f=>f*g) v=0:=by
  intro v _ h1 h2
  rw [exo_scale,hex v]
  simp only [ind,if_neg (fun e:s=v=>h1 e.symm),if_neg (fun e:t=v=>h2 e.symm)]
  simp
 have hs1:flagAt (lv.map fun x=>decide (0<=x)) (s:Int)=true:=by rw [flag_lv hlv.len hs,hlv.root];rfl
 have ht0:flagAt (lv.map fun x=>decide (0<=x)) (t:Int)=false:=by rw [flag_lv hlv.len ht];exact decide_eq_false (by omega)
 refine ⟨⟨by rw [List.length_map,fl_len,hAL],fun i x f hx hf => ?_⟩,hkeep,hout,by rw [List.length_map];exact hlv.len,hs1,ht0,?_⟩
 ·obtain ⟨hi,rfl⟩:=hF i f hf
  obtain ⟨u,hu,e⟩:=hcap i x hx
  have h1:=hr.sum i u hu
  have h2:=hr.ge (2*i)
  have h3:=hr.ge (2*i+1)
  rw [e]
  exact ⟨Int.mul_nonneg h3 (Int.le_of_lt g0),Int.mul_le_mul_of_nonneg_right (by omega) (Int.le_of_lt g0)⟩
 ·have hcut:=cut_full (A:=arcN L) (F:=(fl (arcN L).length rm).map fun f=>f*g) (U:=L.map fun x=>x.2.2.1) (n:=n) (s:=s) (t:=t) (side:=fun v=>flagAt (lv.map fun x=>decide (0<=x)) (v:Int)) (arcN_nd hL) (by rw [List.length_map,fl_len]) (by rw [List.length_map,hAL]) hs hs1 ht0 hkeep (by
   intro i a f c ha hf hc'
   obtain ⟨hi,rfl⟩:=hF i f hf
   obtain ⟨x,hx⟩:∃ x,L[i]? = some x:=⟨_,List.getElem?_eq_getElem hi⟩
   obtain ⟨u,hu,e⟩:=hcap i x hx
   rw [List.getElem?_map,hx] at hc'
   obtain rfl:=Option.some.inj hc'
   have ha2:a=(x.1.toNat,x.2.1.toNat):=by
    unfold arcN at ha
    rw [List.getElem?_map,hx] at ha
    exact (Option.some.inj ha).symm
   subst ha2
   have hb:=hL x (List.mem_of_getElem? hx)
   unfold badArc at hb
   have hg:=arcN_at hx
   have l0:lnF (arcN L) (2*i)=x.1.toNat/\lnT (arcN L) (2*i)=x.2.1.toNat:=by
    unfold lnF lnT
    rw [if_pos (by omega),if_pos (by omega),show 2*i / 2=i by omega,hg]
    exact ⟨rfl,rfl⟩
   have l1:lnF (arcN L) (2*i+1)=x.2.1.toNat/\lnT (arcN L) (2*i+1)=x.1.toNat:=by
    unfold lnF lnT
    rw [if_neg (by omega),if_neg (by omega),show (2*i+1) / 2=i by omega,hg]
    exact ⟨rfl,rfl⟩
   have k0:=hlv.closed (2*i) (by rw [hAL];omega)
   have k1:=hlv.closed (2*i+1) (by rw [hAL];omega)
   rw [l0.1,l0.2] at k0
   rw [l1.1,l1.2] at k1
   have h1:=hr.sum i u hu
   have h2:=hr.ge (2*i)
   have h3:=hr.ge (2*i+1)
   dsimp only
   rw [flag_lv hlv.len (by omega),flag_lv hlv.len (by omega)]
   rw [e]
   constructor
   ·intro e1 e2
    have e1:=of_decide_eq_true e1
    have e2:=of_decide_eq_false e2
    have h4:¬ 0<rm.getD (2*i) 0:=fun h=>e2 (k0 h e1)
    rw [show rm.getD (2*i+1) 0=u by omega]
   ·intro e1 e2
    have e1:=of_decide_eq_false e1
    have e2:=of_decide_eq_true e2
    have h4:¬ 0<rm.getD (2*i+1) 0:=fun h=>e1 (k1 h e2)
    rw [show rm.getD (2*i+1) 0=0 by omega,Int.zero_mul])
  rw [hout] at hcut
  rw [hcut]
  unfold thru arcN
  rw [List.zip_map',List.map_map]
  refine sum_congr fun x hx => ?_
  have hb:=hL x hx
  unfold badArc at hb
  dsimp only [Function.comp]
  rw [Int.toNat_of_nonneg (show 0<=x.1 by omega),Int.toNat_of_nonneg (show 0<=x.2.1 by omega)]
end Go.Proofs.YtkdobjmhammhbaaGreatDoor
