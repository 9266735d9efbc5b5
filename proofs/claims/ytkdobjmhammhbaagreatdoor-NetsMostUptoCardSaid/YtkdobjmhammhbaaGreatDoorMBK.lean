import Derived.Test.YtkdobjmhammhbaaGreatDoorMBH
namespace Go.Proofs.YtkdobjmhammhbaaGreatDoor
set_option maxHeartbeats 16000000
set_option maxRecDepth 100000
open Go.RowKit
def mostE (n s t:Int) (L:List (Int×Int×Int×Int)):Int:=if netV n L=0 then (if (0<=s/\s<n)/\(0<=t/\t<n)/\s≠t then 0 else 4) else netV n L
def MostR (A:Nat->Addr) (K:Nat) (D n s t:Int) (L:List (Int×Int×Int×Int)) (e:Ending) (w':World):Prop :=
 ∃ (fv sv:Value) (u:F8 Int),e=.returned (.tuple #[fv,sv,vr u,errV A (mostE n s t L)])/\(mostE n s t L≠0->fv=.slice none 0 0/\sv=.slice none 0 0/\u=⟨0,none,0,0,0,none,0,0⟩) /\
  (mostE n s t L=0->∃ n' s' t':Nat,n=(n':Int)/\s=(s':Int)/\t=(t':Int)/\n'<=60/\L.length<=300/\(∀ x ∈ L,¬ badArc n' x)/\∃ (F:List Int) (side:List Bool) (sum:Int),Rows 4 (RsE K D) w' fv F/\Rows 1 BE w' sv side/\Rs K D w' (vr u) sum/\MostP n' s' t' L F side sum)
theorem rows_one {α:Type}{k:Nat}{E:World->List Value -> α -> Prop}{w:World}{u:Value}{W:List α}{t:TypeId} (h:Rows k E (w.alloc (.cells #[u] t)) u W):Rows 1 (LE k E) (w.alloc (.cells #[u] t)) (.slice (some ⟨w.heap.size,0,none⟩) 1 1) [W]:=by
 refine ⟨_,1,rfl,Nat.le_refl _,by unfold maxLen;omega,Or.inr ⟨_,0,rfl,fun i x hx => ?_⟩⟩
 have hi:i<1:=(List.getElem?_eq_some_iff.1 hx).1
 obtain rfl:i=0:=by omega
 obtain rfl:=Option.some.inj hx
 refine ⟨[u],rfl,fun j u' hu => ?_,u,rfl,h⟩
 have hj:j<1:=(List.getElem?_eq_some_iff.1 hu).1
 obtain rfl:j=0:=by omega
 rw [zqe rfl]
 exact hu
theorem sum_le' {B:Int}:∀ (l:List Int),(∀ u ∈ l,u<=B)->l.sum<=(l.length:Int)*B
 | [],_=>by simp
 | a :: l,h=>by
  have h1:=h a (by simp)
  have h2:=sum_le' l fun u hu=>h u (by simp [hu])
  have h3:(((a :: l).length:Nat):Int)*B=(l.length:Int)*B+B:=by rw [List.length_cons,Int.natCast_succ,Int.add_mul];omega
  rw [List.sum_cons,h3]
  omega
theorem nts_of {w:World}{K gn gl n:Nat}{L:List (Int×Int×Int×Int)}{U:List Int}{F:Nat->Value}{rv:Value}{W:World} (h:NjS w K gn gl n F F (XN (arcN L) L.length) rv rv (rm0 U) W) (hU:U.length=L.length) (hL:∀ x ∈ L,¬ badArc n x) (hn:n<=60) (hl:L.length<=300):NtS w K gn gl n (arcN L) F (XN (arcN L) L.length) rv (rm0 U) W:=by
 have e:(arcN L).length=L.length:=by simp [arcN]
 exact ⟨h,by rw [e],by rw [e],fun v _=>by rw [e],by rw [rm0_len,e,hU],arcN_nd hL,hn,by rw [e];exact hl⟩
theorem most_caps {D B:Int}{L:List (Int×Int×Int×Int)}{W:List Int}{n:Int} (D0:0<D) (hW:W=L.map fun x=>x.2.2.1) (hL:∀ x ∈ L,¬ badArc n x) (hc:∀ x ∈ L,x.2.2.1<=B) (hB:0<=B) (hl:L.length<=300) (P:Int) (hP:P=prt D W W.length) (U:List Int) (hU:U=W.map (cnt D P)) :
 0<P/\P∣D/\(∀ s ∈ W,dO D s∣P/\0<=s/\s<=B)/\U.length=L.length/\(∀ u ∈ U,0<=u/\u<=B)/\U.sum<=300*B/\∃ g,D=P*g/\0<g/\(L.map fun x=>x.2.2.1)=U.map (fun u=>u*g)/\U.sum*g<=300*B:=by
 obtain ⟨P0,hPD,hd⟩:=prt_spec D0 W W.length
 rw [<- hP] at P0 hPD hd
 have hWs:∀ s ∈ W,dO D s∣P/\0<=s/\s<=B:=by
  intro s hs
  obtain ⟨j,hj⟩:=List.getElem?_of_mem hs
  refine ⟨hd j s (List.getElem?_eq_some_iff.1 hj).1 hj,?_⟩
  rw [hW] at hs
  obtain ⟨x,hx,rfl⟩:=List.mem_map.1 hs
  have h1:=hL x hx
  unfold badArc at h1
  exact ⟨by omega,hc x hx⟩
 have hUl:U.length=L.length:=by rw [hU,hW];simp
 have hUs:∀ u ∈ U,0<=u/\u<=B:=by
  intro u hu
  rw [hU] at hu
  obtain ⟨s,hs,rfl⟩:=List.mem_map.1 hu
  exact cnt_in' D0 P0 hPD (hWs s hs).1 (hWs s hs).2
 have h300:(L.length:Int)*B<=300*B:=Int.mul_le_mul_of_nonneg_right (by omega) hB
 have hsum:=sum_le' U fun u hu=>(hUs u hu).2
 rw [hUl] at hsum
 obtain ⟨g,hg⟩:=hPD
 have g0:0<g:=by
  rcases Int.lt_or_le 0 g with h | h
  ·exact h
  ·have:=Int.mul_nonneg (Int.le_of_lt P0) (show 0 <= -g by omega)
   rw [Int.mul_neg] at this
   omega
 have hcap:(L.map fun x=>x.2.2.1)=U.map (fun u=>u*g):=by
  rw [<- hW,hU,List.map_map]
  conv=>lhs;rw [<- List.map_id W]
  refine List.map_congr_left fun s hs => ?_
  show s=cnt D P s*g
  rw [Int.mul_comm]
  exact (cnt_spec D0 hg (hWs s hs).1).symm
 refine ⟨P0,⟨g,hg⟩,hWs,hUl,hUs,by omega,g,hg,g0,hcap,?_⟩
 have e:U.sum*g=(U.map fun u=>u*g).sum:=by
  clear hcap hUs hUl hsum hU
  induction U with
  | nil=>simp
  | cons a U ih=>rw [List.map_cons,List.sum_cons,List.sum_cons,Int.add_mul,ih]
 rw [e,<- hcap,<- hW]
 have h5:=sum_le' W fun s hs=>(hWs s hs).2.2
 rw [show (W.length:Int)=(L.length:Int) by rw [hW];simp] at h5
 omega
theorem Lev.neg {A:List (Nat×Nat)}{n s t:Nat}{rm lv lv2:List Int} (h:Lev A n s rm lv) (h2:Lev A n s rm lv2) (ht:lvl lv t<0):lvl lv2 t<0:=by
 have key:∀ (k:Nat) (v:Nat),lvl lv2 v=(k:Int)->0<=lvl lv v:=by
  intro k
  induction k with
  | zero=>intro v hv;rw [h2.zero v hv,h.root];exact Int.le_refl _
  | succ k ih =>
   intro v hv
   obtain ⟨l,h3,h4,rfl,h6⟩:=h2.back v (by omega)
   exact h.closed l h3 h4 (ih _ (by omega))
 rcases Int.lt_or_le (lvl lv2 t) 0 with h0 | h0
 ·exact h0
 ·have:=key (lvl lv2 t).toNat t (by omega)
  omega
theorem up_true {L:Nat->Bool}{i j:Nat} (h:L j=true):(if j=i then true else L j)=true:=by split;rfl;exact h
structure MoG (K:Nat) (D:Int) (V:World) (gn q m s:Nat) (A:List (Nat×Nat)) (F rm:List Int) (sg:Int) (x y:Z4) (la:Option Addr) (ll lc:Nat) (L:Nat->Bool) (vals:Nat->Value) (w:World):Prop where
 b:L 12=false->Below V.heap.size V w
 d:L 12=true->∀ j,j<10->L j=true
 f0:L 0=true->vals 0=.pointer (some ⟨gn,0,none⟩)
 f1:L 1=true->vals 1=.slice la ll lc
 f2:L 2=true->vals 2=.agg #[.int .i64 x.a,.slice x.b x.c x.d]
 f3:L 3=true->L 12=false->Hid (OwnR NoWord 4 (RsE K D) 39 w V.heap.size (vals 3) F)
 f4:L 4=true->vals 4=.pointer (some ⟨gn,0,none⟩)
 f5:L 5=true->vals 5=.int .i64 (s:Int)
 f6:L 6=true->L 12=false->∃ lv,Hid (Rows 1 BE w (vals 6) (lv.map fun x=>decide (0<=x))/\lv.length=m/\Lev A m s rm lv)
 f7:L 7=true->vals 7=.agg #[.int .i64 x.a,.slice x.b x.c x.d]
 f8:L 8=true->vals 8=vz y
 f9:L 9=true->∃ u:F8 Int,vals 9=vr u/\(L 12=false->Hid (Rs K D w (vr u) sg))
 f10:L 10=true->L 3=true/\vals 10=vals 3
 f11:L 11=true->L 6=true/\vals 11=vals 6
 f12:L 12=true->Hid (∃ (u:F8 Int) (W0:World) (lv:List Int),vals 9=vr u/\Below V.heap.size V W0/\OwnR NoWord 4 (RsE K D) 39 W0 V.heap.size (vals 3) F/\(Rows 1 BE W0 (vals 6) (lv.map fun x=>decide (0<=x))/\lv.length=m/\Lev A m s rm lv)/\Rs K D W0 (vr u) sg/\w=(((W0.setCell ⟨q,0,none⟩ (.int .i64 u.a)).setCell ⟨q,1,none⟩ (.slice u.b u.c u.d)).setCell ⟨q,2,none⟩ (.int .i64 u.e)).setCell ⟨q,3,none⟩ (.slice u.f u.g u.h))
 f13:L 13=true->vals 13=.nilIface
theorem MoG.no12 {K:Nat}{D:Int}{V:World}{gn q m s:Nat}{A:List (Nat×Nat)}{F rm:List Int}{sg:Int}{x y:Z4}{la:Option Addr}{ll lc:Nat}{L:Nat->Bool}{vals:Nat->Value}{w:World} (h:MoG K D V gn q m s A F rm sg x y la ll lc L vals w) {i:Nat} (hi:i<10) (hL:L i=false):L 12=false:=by
 cases h12:L 12 with
 | false=>rfl
 | true=>have h1:=h.d h12 i hi;rw [hL] at h1;cases h1
theorem MoG.later {K:Nat}{D:Int}{V:World}{gn q m s:Nat}{A:List (Nat×Nat)}{F rm:List Int}{sg:Int}{x y:Z4}{la:Option Addr}{ll lc:Nat}{L:Nat->Bool}{vals:Nat->Value}{w w':World} (h:MoG K D V gn q m s A F rm sg x y la ll lc L vals w) (h12:L 12=false) (hb:Below w.heap.size w w'):MoG K D V gn q m s A F rm sg x y la ll lc L vals w' :=
 ⟨fun h1=>bk hb (h.b h1),h.d,h.f0,h.f1,h.f2,fun h1 h2=>qh ((uh (h.f3 h1 h2)).later (RsE.stays K D _ nww) hb),h.f4,h.f5,fun h1 h2=>by
  obtain ⟨lv,h3⟩:=h.f6 h1 h2
  exact ⟨lv,qh ⟨(uh h3).1.later (BE.stays NoWord 0) hb,(uh h3).2⟩⟩,h.f7,h.f8,fun h1=>by
  obtain ⟨u,e,h2⟩:=h.f9 h1
  exact ⟨u,e,fun h3=>qh ((uh (h2 h3)).later hb)⟩,h.f10,h.f11,(fun h1=>by rw [h12] at h1;cases h1),h.f13⟩
theorem most_any {A:Nat->Addr}{K N:Nat}{T D B n s t:Int}{v:Value}{L:List (Int×Int×Int×Int)} (w:World) (hSe:Sents w A) (hT64:Tab64 w) (hBg:Big K N T) (hD:Dn T D) (h:Rows 10 (ArE (RsE K D)) w v L) (hc:∀ x ∈ L,x.2.2.1<=B) (hB:0<=B) (hT:1000*B<T) :
 Calls Tryz.prog 23 #[.int .i64 n,v,.int .i64 s,.int .i64 t] w fun e w'=>MostR A K D n s t L e w'/\Below w.heap.size w w':=by
 obtain ⟨la,lc,rfl⟩:=h.shape
 have HQ:=qh (fun (W:World) (hb:Below w.heap.size w W)=>And.intro (h.later (ArE.stays (RsE.stays K D 0 nww)) hb) (And.intro (hSe.later hb) (hT64.later hb)))
 have HG:=qh (And.intro hBg (And.intro hD (And.intro hB hT)))
 have HC:=qh hc
 obtain ⟨q,hq⟩:∃ q,q=w.heap.size:=⟨_,rfl⟩
 obtain ⟨V0,hV0⟩:∃ V,V=w.alloc (.cells #[.int .i64 0,.slice none 0 0,.int .i64 0,.slice none 0 0] 39):=⟨_,rfl⟩
 have HB0:=qh (show Below w.heap.size w V0/\RBox V0 q/\q=w.heap.size from ⟨by rw [hV0];exact zqa _ _,by rw [hV0,hq];exact zkw _ _ _ _ _ _ _ _ _,hq⟩)
 clear hSe hT64 hBg hD h hc hB hT
 obtain ⟨ll,hll⟩:∃ k,k=L.length:=⟨_,rfl⟩
 rw [<- hll] at HQ ⊢
 have HLL:=qh hll
 clear hll
 go_enter Tryz.func23,Tryz.ntmps23
 go_upto_region 1 with fail
 rw [<- hV0]
 rw [<- hq]
 clear hV0 hq
 go_wp2_with fail
 go_fit (nvalid_any _ (uh HQ _ (uh HB0).1).2.1 (uh HG).2.1.1 (uh HQ _ (uh HB0).1).1)
 rintro e W0 ⟨rfl,B0⟩
 have HB0:=qh (show Below w.heap.size w W0/\RBox W0 q/\q=w.heap.size from ⟨bk B0 (uh HB0).1,(uh HB0).2.1.later B0,(uh HB0).2.2⟩)
 clear B0
 obtain ⟨⟨x0,c0⟩,⟨x1,x2,x3,c1⟩,⟨x4,c2⟩,⟨x5,x6,x7,c3⟩,gf⟩:=(uh HB0).2.1.cells
 have hlt:q<W0.heap.size:=World.block_lt_of_cell? W0 _ c0
 by_cases h0:netV n L=0
 rotate_left
 ·have HE:=qh (show mostE n s t L=netV n L by unfold mostE;rw [if_neg h0])
  have HN0:=qh h0
  have hcod:netV n L=2\/netV n L=4:=by
   rcases netV_codes n L with e | e | e
   ·exact absurd e h0
   ·exact Or.inl e
   ·exact Or.inr e
  clear h0
  obtain ⟨st0,st1,st2,st3⟩:=(uh HB0).2.1.stored (.int .i64 0) (.slice none 0 0) (.int .i64 0) (.slice none 0 0)
  rcases hcod with e | e
  ·have HE2:=qh e
   rw [e,show errV A 2=.iface 324 (.pointer (some (A 1))) from rfl]
   clear e
   go_wp2
   refine bodyPost_ret (v:=.tuple #[.slice none 0 0,.slice none 0 0,vr ⟨0,none,0,0,0,none,0,0⟩,.iface 324 (.pointer (some (A 1)))]) (by simp [results,Tryz.results23,go_sem,st0,st1,st2,st3]) rfl ?_
   exact ⟨⟨_,_,_,by rw [uh HE,uh HE2];rfl,fun _=>⟨rfl,rfl,rfl⟩,fun h=>absurd h (by rw [uh HE];exact uh HN0)⟩,zqf (uh HB0).1 (by have:=(uh HB0).2.2;omega) _ _ _ _⟩
  ·have HE2:=qh e
   rw [e,show errV A 4=.iface 324 (.pointer (some (A 3))) from rfl]
   clear e
   go_wp2
   refine bodyPost_ret (v:=.tuple #[.slice none 0 0,.slice none 0 0,vr ⟨0,none,0,0,0,none,0,0⟩,.iface 324 (.pointer (some (A 3)))]) (by simp [results,Tryz.results23,go_sem,st0,st1,st2,st3]) rfl ?_
   exact ⟨⟨_,_,_,by rw [uh HE,uh HE2];rfl,fun _=>⟨rfl,rfl,rfl⟩,fun h=>absurd h (by rw [uh HE,uh HE2];decide)⟩,zqf (uh HB0).1 (by have:=(uh HB0).2.2;omega) _ _ _ _⟩
 ·have hbd:¬ (n<1\/60<n\/300<L.length)/\∀ x ∈ L,¬ badArc n x:=by
   have h1:=h0
   unfold netV at h1
   split at h1
   ·cases h1
   ·rename_i h2
    split at h1
    ·cases h1
    ·rename_i h3
     exact ⟨h2,fun x hx hb=>h3 (List.any_eq_true.2 ⟨x,hx,decide_eq_true hb⟩)⟩
  have HE:=qh (show mostE n s t L=if (0<=s/\s<n)/\(0<=t/\t<n)/\s≠t then 0 else 4 by unfold mostE;rw [if_pos h0])
  have HBD:=qh hbd
  rw [h0,show errV A 0=.nilIface from rfl]
  clear h0 hbd
  by_cases a1:(0<=s/\s<n)/\(0<=t/\t<n)/\s≠t
  rotate_left
  ·have HE4:=qh (show mostE n s t L=4 by rw [uh HE,if_neg a1])
   have HA1:=qh a1
   have e4:=(uh HQ _ (uh HB0).1).2.1.h3
   have HRB:=(uh HB0).2.1
   have hgq:¬ q=0:=by
    have h1:0<w.heap.size:=World.block_lt_of_cell? w _ (uh HQ w (Below.refl _ _)).2.1.h3
    have h2:=(uh HB0).2.2
    omega
   have hgq2:¬ 0=q:=fun e=>hgq e.symm
   clear a1
   go_wp2_with fail
   go_fit (zke s n _)
   rintro e W1 ⟨rfl,rfl⟩
   by_cases b1:0<=s/\s<n
   ·rw [decide_eq_true b1]
    go_wp2_with fail
    go_fit (zke t n _)
    rintro e W1 ⟨rfl,rfl⟩
    by_cases b2:0<=t/\t<n
    ·rw [decide_eq_true b2]
     have hst:s=t:=by
      rcases Classical.em (s=t) with h | h
      ·exact h
      ·exact absurd ⟨b1,b2,h⟩ (uh HA1)
     clear b1 b2
     go_upto_region 5 with fail
     go_region
     all_goals
      go_wp2
      obtain ⟨st0,st1,st2,st3⟩:=HRB.stored (.int .i64 0) (.slice none 0 0) (.int .i64 0) (.slice none 0 0)
      refine bodyPost_ret (v:=.tuple #[.slice none 0 0,.slice none 0 0,vr ⟨0,none,0,0,0,none,0,0⟩,.iface 324 (.pointer (some (A 3)))]) (by simp [results,Tryz.results23,go_sem,st0,st1,st2,st3]) rfl ?_
      exact ⟨⟨_,_,_,by rw [uh HE4];rfl,fun _=>⟨rfl,rfl,rfl⟩,fun h=>absurd h (by rw [uh HE4];decide)⟩,(zqf (uh HB0).1 (by have:=(uh HB0).2.2;omega) _ _ _ _).drew⟩
    ·rw [decide_eq_false b2]
     clear b1 b2
     go_upto_region 5 with fail
     go_region
     all_goals
      go_wp2
      obtain ⟨st0,st1,st2,st3⟩:=HRB.stored (.int .i64 0) (.slice none 0 0) (.int .i64 0) (.slice none 0 0)
      refine bodyPost_ret (v:=.tuple #[.slice none 0 0,.slice none 0 0,vr ⟨0,none,0,0,0,none,0,0⟩,.iface 324 (.pointer (some (A 3)))]) (by simp [results,Tryz.results23,go_sem,st0,st1,st2,st3]) rfl ?_
      exact ⟨⟨_,_,_,by rw [uh HE4];rfl,fun _=>⟨rfl,rfl,rfl⟩,fun h=>absurd h (by rw [uh HE4];decide)⟩,(zqf (uh HB0).1 (by have:=(uh HB0).2.2;omega) _ _ _ _).drew⟩
   ·rw [decide_eq_false b1]
    clear b1
    go_upto_region 5 with fail
    go_region
    all_goals
     go_wp2
     obtain ⟨st0,st1,st2,st3⟩:=HRB.stored (.int .i64 0) (.slice none 0 0) (.int .i64 0) (.slice none 0 0)
     refine bodyPost_ret (v:=.tuple #[.slice none 0 0,.slice none 0 0,vr ⟨0,none,0,0,0,none,0,0⟩,.iface 324 (.pointer (some (A 3)))]) (by simp [results,Tryz.results23,go_sem,st0,st1,st2,st3]) rfl ?_
     exact ⟨⟨_,_,_,by rw [uh HE4];rfl,fun _=>⟨rfl,rfl,rfl⟩,fun h=>absurd h (by rw [uh HE4];decide)⟩,(zqf (uh HB0).1 (by have:=(uh HB0).2.2;omega) _ _ _ _).drew⟩
  ·have HE0:=qh (show mostE n s t L=0 by rw [uh HE,if_pos a1])
   obtain ⟨m,rfl⟩:∃ m:Nat,n=(m:Int):=⟨n.toNat,by omega⟩
   obtain ⟨s,rfl⟩:∃ m:Nat,s=(m:Int):=⟨s.toNat,by omega⟩
   obtain ⟨t,rfl⟩:∃ m:Nat,t=(m:Int):=⟨t.toNat,by omega⟩
   have HM:=qh (show (s<m/\t<m/\s≠t)/\(m<=60/\L.length<=300)/\(∀ x ∈ L,¬ badArc (m:Int) x) from ⟨by omega,by have:=(uh HBD).1;omega,(uh HBD).2⟩)
   have b3:¬ ((s:Int)=(t:Int)):=a1.2.2
   have HD1:=qh (decide_eq_true a1.1)
   have HD2:=qh (decide_eq_true a1.2.1)
   clear a1 c0 c1 c2 c3 gf
   go_wp2_with fail
   go_fit (zke _ _ _)
   rintro e W1 ⟨rfl,rfl⟩
   rw [uh HD1]
   go_wp2_with fail
   go_fit (zke _ _ _)
   rintro e W1 ⟨rfl,rfl⟩
   rw [uh HD2]
   go_wp2_with fail
   go_fit (eachCap_any _ (uh HQ _ (uh HB0).1).1 (uh HM).2.1.2)
   rintro e W1 ⟨⟨u,rfl,hu⟩,B1⟩
   have HB0:=qh (show Below w.heap.size w W1/\RBox W1 q/\q=w.heap.size/\q<W1.heap.size from ⟨bk B1 (uh HB0).1,(uh HB0).2.1.later B1,(uh HB0).2.2,by have:=B1.size;omega⟩)
   obtain ⟨W,hW⟩:∃ W,W=L.map fun x=>x.2.2.1:=⟨_,rfl⟩
   rw [<- hW] at hu
   obtain ⟨ua,uc,rfl⟩:=hu.slice
   obtain ⟨wl,hwl⟩:∃ k,k=W.length:=⟨_,rfl⟩
   rw [<- hwl] at hu
   rw [<- hwl]
   have HW:=qh (And.intro hW (show wl<=300 by rw [hwl,hW,List.length_map];exact (uh HM).2.1.2))
   have HWL:=qh hwl
   have hu2:=hu.later (RsE.stays K D _ nww) (zqa W1 (.cells #[.slice ua wl uc] 32))
   have HU:=qh hu
   obtain ⟨P,hP⟩:∃ P,P=prt D W W.length:=⟨_,rfl⟩
   obtain ⟨U,hU⟩:∃ U,U=W.map (cnt D P):=⟨_,rfl⟩
   have HMC:=qh (most_caps (uh HG).2.1.1 hW (uh HM).2.2 (uh HC) (uh HG).2.2.1 (uh HM).2.1.2 P hP U hU)
   have HPA:=qh (partsOf_any (K:=K) (N:=N) _ (uh HG).1 (uh HG).2.1 ((uh HQ _ (uh HB0).1).2.2.later (zqa _ _)) (rows_one hu2.rows) (by have:=(uh HW).2;omega))
   rw [<- hP] at HPA
   have HUU:=qh hU
   clear B1 hu hW hlt hwl hu2 hP hU
   go_upto_region 7 with fail
   go_wp2_with fail
   go_fit (uh HPA)
   rintro e W2 ⟨⟨x,rfl,hx⟩,B2⟩
   have B2:=bk B2 (zqa _ _)
   clear HPA
   have HX:=qh hx
   have HU:=qh ((uh HU).later (RsE.stays K D _ nww) B2)
   have HB0:=qh (show Below w.heap.size w W2/\RBox W2 q/\q=w.heap.size/\q<W2.heap.size from ⟨bk B2 (uh HB0).1,(uh HB0).2.1.later B2,(uh HB0).2.2.1,by have:=B2.size;have:=(uh HB0).2.2.2;omega⟩)
   clear hx B2
   obtain ⟨g4,hg4⟩:∃ g,g=W2.heap.size:=⟨_,rfl⟩
   obtain ⟨V3,hV3⟩:∃ V,V=W2.alloc (.cells #[.int .i64 x.a,.slice x.b x.c x.d] 125):=⟨_,rfl⟩
   have k3:Below W2.heap.size W2 V3:=by rw [hV3];exact zqa _ _
   have p0:V3.cell? ⟨g4,0,none⟩=some (.int .i64 x.a):=by rw [hV3,hg4];exact new_at W2 _ _ 0 _ rfl
   have p1:V3.cell? ⟨g4,1,none⟩=some (.slice x.b x.c x.d):=by rw [hV3,hg4];exact new_at W2 _ _ 1 _ rfl
   have HX:=qh ((uh HX).later k3)
   have HU:=qh ((uh HU).later (RsE.stays K D _ nww) k3)
   have HB0:=qh (show Below w.heap.size w V3/\RBox V3 q/\q=w.heap.size/\q<V3.heap.size from ⟨bk k3 (uh HB0).1,(uh HB0).2.1.later k3,(uh HB0).2.2.1,by have:=k3.size;have:=(uh HB0).2.2.2;omega⟩)
   clear k3
   go_upto_region 8 with fail
   rw [<- hV3]
   rw [<- hg4]
   clear hV3 hg4
   have HCO:=qh (counts_any (P:=P) (B:=B) x V3 (uh HG).1 (uh HG).2.1 (uh HX) (uh HU).rows (by have:=(uh HW).2;have:=uh HWL;omega) (uh HMC).1 (uh HMC).2.1 (uh HMC).2.2.1 (by have:=(uh HG).2.2.1;have:=(uh HG).2.2.2;omega))
   rw [<- uh HUU] at HCO
   go_wp2_with fail
   go_fit (uh HCO)
   rintro e W4 ⟨⟨uv,rfl,huv⟩,B4⟩
   have p0:=ck B4 p0
   have p1:=ck B4 p1
   have HX:=qh ((uh HX).later B4)
   have HB0:=qh (show Below w.heap.size w W4/\RBox W4 q/\q=w.heap.size/\q<W4.heap.size from ⟨bk B4 (uh HB0).1,(uh HB0).2.1.later B4,(uh HB0).2.2.1,by have:=B4.size;have:=(uh HB0).2.2.2;omega⟩)
   have HNO:=qh (netOf_any _ (uh HQ _ (uh HB0).1).1 huv (uh HMC).2.2.2.1 (uh HM).2.2 (uh HM).2.1.1 (uh HM).2.1.2)
   clear B4 huv HCO HU
   go_wp2_with fail
   go_fit (uh HNO)
   rintro e W5 ⟨gn,gl,F,rv,rfl,hnj⟩
   have HNT:=qh (nts_of hnj (uh HMC).2.2.2.1 (uh HM).2.2 (uh HM).2.1.1 (uh HM).2.1.2)
   have HAL:=qh (show (arcN L).length=L.length by simp [arcN])
   have HFI:=qh (fill_any (B:=300*B) W4 W5 (uh HG).1 (uh HNT) (rm0_rm fun u hu=>((uh HMC).2.2.2.2.1 u hu).1) (by rw [uh HAL];exact (uh HMC).2.2.2.1) (fun u hu=>((uh HMC).2.2.2.2.1 u hu).1) (uh HM).1.2.2 (uh HM).1.1 (uh HM).1.2.1 (fun v=>exo_rm0 _ _ v) (uh HMC).2.2.2.2.2.1 (by have:=(uh HG).2.2.1;have:=(uh HG).2.2.2;omega))
   clear hnj HNO
   go_wp2_with fail
   go_fit (uh HFI)
   rintro e W6 ⟨y,sum,F',X',rm',lv,rfl,hz,hnn,hr,hex,hlv,hlt,hnt⟩
   have B6:=hnt.s.below
   have p0:=ck B6 p0
   have p1:=ck B6 p1
   have HX:=qh ((uh HX).later B6)
   have HB0:=qh (show Below w.heap.size w W6/\RBox W6 q/\q=w.heap.size/\q<W6.heap.size from ⟨bk B6 (uh HB0).1,(uh HB0).2.1.later B6,(uh HB0).2.2.1,by have:=B6.size;have:=(uh HB0).2.2.2;omega⟩)
   have HFL:=qh (And.intro hnn (And.intro hr (And.intro hex (And.intro hlv hlt))))
   have HNT:=qh hnt
   have HZ:=qh hz
   clear B6 hz hnn hr hex hlv hlt hnt HFI
   obtain ⟨g6,hg6⟩:∃ g,g=W6.heap.size:=⟨_,rfl⟩
   obtain ⟨V7,hV7⟩:∃ V,V=W6.alloc (.cells #[.int .i64 y.a,.slice y.b y.c y.d] 37):=⟨_,rfl⟩
   have k7:Below W6.heap.size W6 V7:=by rw [hV7];exact zqa _ _
   have z0:V7.cell? ⟨g6,0,none⟩=some (.int .i64 y.a):=by rw [hV7,hg6];exact new_at W6 _ _ 0 _ rfl
   have z1:V7.cell? ⟨g6,1,none⟩=some (.slice y.b y.c y.d):=by rw [hV7,hg6];exact new_at W6 _ _ 1 _ rfl
   have p0:=ck k7 p0
   have p1:=ck k7 p1
   have HX:=qh ((uh HX).later k7)
   have HZ:=qh ((uh HZ).later k7)
   have HNT:=qh ((uh HNT).keep k7)
   have HB0:=qh (show Below w.heap.size w V7/\RBox V7 q/\q=w.heap.size/\q<V7.heap.size from ⟨bk k7 (uh HB0).1,(uh HB0).2.1.later k7,(uh HB0).2.2.1,by have:=k7.size;have:=(uh HB0).2.2.2;omega⟩)
   clear k7
   obtain ⟨g,hPg,g0,hcap,hsg⟩:=(uh HMC).2.2.2.2.2.2
   have hT0:0<T:=by have:=(uh HG).2.2.1;have:=(uh HG).2.2.2;omega
   have hUA:U.length=(arcN L).length:=by rw [uh HAL];exact (uh HMC).2.2.2.1
   have hU0:∀ u ∈ U,0<=u:=fun u hu=>((uh HMC).2.2.2.2.1 u hu).1
   have hins:∀ z:Int,0<=z->z<=U.sum->Ins T (z*g):=fun z h1 h2=>by
    have h3:=Int.mul_nonneg h1 (Int.le_of_lt g0)
    have h4:=Int.mul_le_mul_of_nonneg_right h2 (Int.le_of_lt g0)
    have h5:=(uh HG).2.2.1
    have h6:=(uh HG).2.2.2
    unfold Ins
    omega
   have hsum:sum<=U.sum:=by
    have h1:=exo_le (A:=arcN L) (F:=fl (arcN L).length rm') (U:=U) (by rw [<- hUA];exact (uh HFL).2.1.fl_in) (fl_len _ _) hUA s
    have h2:=(uh HM).1.2.2
    rw [(uh HFL).2.2.1 s] at h1
    simp only [ind,if_true,if_neg (fun e:t=s=>h2 e.symm)] at h1
    omega
   have HFLO:=qh (fun (Y:World) (hb:Below V7.heap.size V7 Y)=>flow_any x W4 Y (uh HG).1 (uh HG).2.1 (uh HQ Y (bk hb (uh HB0).1)).2.2 ((uh HNT).keep hb) (uh HQ Y (bk hb (uh HB0).1)).1 (uh HAL).symm (uh HFL).2.1 hUA hcap ((uh HX).later hb) hPg (uh HMC).1 (fun l=>hins _ ((uh HFL).2.1.ge l) ((uh HFL).2.1.le hU0 l)))
   have HREA:=qh (fun (Y:World) (hb:Below V7.heap.size V7 Y)=>reached_any W4 Y ((uh HNT).keep hb) (uh HM).1.1)
   have HFRA:=qh (fun (Y:World) (hb:Below V7.heap.size V7 Y)=>fraction_any x y Y (uh HG).1 (uh HG).2.1 (uh HQ Y (bk hb (uh HB0).1)).2.2 ((uh HZ).later hb) ((uh HX).later hb) hPg (uh HMC).1 (hins sum (uh HFL).1 hsum))
   have HGG:=qh (And.intro g0 hcap)
   clear hPg g0 hcap hsg hT0 hUA hU0 hins hsum
   go_upto_region 10 with fail
   rw [<- hV7]
   rw [<- hg6]
   clear hV7 hg6
   refine zkk (by kernel_rfl) (by kernel_rfl) (by kernel_rfl) (MoG K D V7 gn q m s (arcN L) ((fl (arcN L).length rm').map fun f=>f*g) rm' (sum*g) x y la ll lc) (fun vals=>⟨(fun _=>(Below.refl _ _).drew),(fun h=>by cases h),(fun h=>by cases h),(fun h=>by cases h),(fun h=>by cases h),(fun h=>by cases h),(fun h=>by cases h),(fun h=>by cases h),(fun h=>by cases h),(fun h=>by cases h),(fun h=>by cases h),(fun h=>by cases h),(fun h=>by cases h),(fun h=>by cases h),(fun h=>by cases h),(fun h=>by cases h)⟩) ?_ ?_
   ·intro L vals w1 i' o' hG hL ho hdep
    have hi':i'<14:=(Array.getElem?_eq_some_iff.1 ho).1
    rcases (by omega:i'=0\/i'=1\/i'=2\/i'=3\/i'=4\/i'=5\/i'=6\/i'=7\/i'=8\/i'=9\/i'=10\/i'=11\/i'=12\/i'=13) with rfl | rfl | rfl | rfl | rfl | rfl | rfl | rfl | rfl | rfl | rfl | rfl | rfl | rfl
    ·obtain rfl:=Option.some.inj ho
     have h12:=hG.no12 (i:=0) (by omega) hL
     have no:∀ {p:Prop},L 12=true->p:=fun h=>by rw [h12] at h;cases h
     have hb:=hG.b h12
     refine wpOp_step rfl (fun K hK' => ?_)
     simp only [frs]
     go_simp
     exact hK' _ _ ⟨.pointer (some ⟨gn,0,none⟩),(by show _=Act.put _ (some 56) _;simp only [frs]),⟨hG.b,(fun h=>no h),(fun _=>rfl),hG.f1,hG.f2,hG.f3,hG.f4,hG.f5,hG.f6,hG.f7,hG.f8,hG.f9,hG.f10,hG.f11,(fun h=>no h),hG.f13⟩⟩
    ·obtain rfl:=Option.some.inj ho
     have h12:=hG.no12 (i:=1) (by omega) hL
     have no:∀ {p:Prop},L 12=true->p:=fun h=>by rw [h12] at h;cases h
     have hb:=hG.b h12
     refine wpOp_step rfl (fun K hK' => ?_)
     simp only [frs]
     go_simp
     exact hK' _ _ ⟨.slice la ll lc,(by show _=Act.put _ (some 57) _;simp only [frs]),⟨hG.b,(fun h=>no h),hG.f0,(fun _=>rfl),hG.f2,hG.f3,hG.f4,hG.f5,hG.f6,hG.f7,hG.f8,hG.f9,hG.f10,hG.f11,(fun h=>no h),hG.f13⟩⟩
    ·obtain rfl:=Option.some.inj ho
     have h12:=hG.no12 (i:=2) (by omega) hL
     have no:∀ {p:Prop},L 12=true->p:=fun h=>by rw [h12] at h;cases h
     have hb:=hG.b h12
     have c0:=ck hb p0
     have c1:=ck hb p1
     refine wpOp_step rfl (fun K hK' => ?_)
     simp only [frs]
     go_simp
     exact hK' _ _ ⟨.agg #[.int .i64 x.a,.slice x.b x.c x.d],(by show _=Act.put _ (some 58) _;simp only [frs]),⟨hG.b,(fun h=>no h),hG.f0,hG.f1,(fun _=>rfl),hG.f3,hG.f4,hG.f5,hG.f6,hG.f7,hG.f8,hG.f9,hG.f10,hG.f11,(fun h=>no h),hG.f13⟩⟩
    ·obtain rfl:=Option.some.inj ho
     have h12:=hG.no12 (i:=3) (by omega) hL
     have no:∀ {p:Prop},L 12=true->p:=fun h=>by rw [h12] at h;cases h
     have hb:=hG.b h12
     have e0:=hG.f0 (hdep ⟨0,.data⟩ (by simp) rfl)
     have e1:=hG.f1 (hdep ⟨1,.data⟩ (by simp) rfl)
     have e2:=hG.f2 (hdep ⟨2,.data⟩ (by simp) rfl)
     have HC1:=qh (uh HFLO w1 hb)
     refine wpOp_step rfl (fun K hK' => ?_)
     simp only [frs]
     rw [e0,e1,e2]
     go_simp
     go_fit (uh HC1)
     rintro e9 Y ⟨⟨fv,rfl,ho⟩,hb2⟩
     have hG:=hG.later h12 hb2
     have ho:=ho.rebase hb.size
     exact hK' _ _ ⟨fv,(by show _=Act.put _ (some 59) _;simp only [frs,e0,e1,e2]),⟨hG.b,(fun h=>no h),hG.f0,hG.f1,hG.f2,(fun _ _=>qh ho),hG.f4,hG.f5,hG.f6,hG.f7,hG.f8,hG.f9,(fun h=>absurd (hG.f10 h).1 (by rw [hL];decide)),hG.f11,(fun h=>no h),hG.f13⟩⟩
    ·obtain rfl:=Option.some.inj ho
     have h12:=hG.no12 (i:=4) (by omega) hL
     have no:∀ {p:Prop},L 12=true->p:=fun h=>by rw [h12] at h;cases h
     have hb:=hG.b h12
     refine wpOp_step rfl (fun K hK' => ?_)
     simp only [frs]
     go_simp
     exact hK' _ _ ⟨.pointer (some ⟨gn,0,none⟩),(by show _=Act.put _ (some 60) _;simp only [frs]),⟨hG.b,(fun h=>no h),hG.f0,hG.f1,hG.f2,hG.f3,(fun _=>rfl),hG.f5,hG.f6,hG.f7,hG.f8,hG.f9,hG.f10,hG.f11,(fun h=>no h),hG.f13⟩⟩
    ·obtain rfl:=Option.some.inj ho
     have h12:=hG.no12 (i:=5) (by omega) hL
     have no:∀ {p:Prop},L 12=true->p:=fun h=>by rw [h12] at h;cases h
     have hb:=hG.b h12
     refine wpOp_step rfl (fun K hK' => ?_)
     simp only [frs]
     go_simp
     exact hK' _ _ ⟨.int .i64 (s:Int),(by show _=Act.put _ (some 61) _;simp only [frs]),⟨hG.b,(fun h=>no h),hG.f0,hG.f1,hG.f2,hG.f3,hG.f4,(fun _=>rfl),hG.f6,hG.f7,hG.f8,hG.f9,hG.f10,hG.f11,(fun h=>no h),hG.f13⟩⟩
    ·obtain rfl:=Option.some.inj ho
     have h12:=hG.no12 (i:=6) (by omega) hL
     have no:∀ {p:Prop},L 12=true->p:=fun h=>by rw [h12] at h;cases h
     have hb:=hG.b h12
     have e4:=hG.f4 (hdep ⟨4,.data⟩ (by simp) rfl)
     have e5:=hG.f5 (hdep ⟨5,.data⟩ (by simp) rfl)
     have HC1:=qh (uh HREA w1 hb)
     refine wpOp_step rfl (fun K hK' => ?_)
     simp only [frs]
     rw [e4,e5]
     go_simp
     go_fit (uh HC1)
     rintro e9 Y ⟨⟨sv,lv2,rfl,ho⟩,hb2⟩
     have hG:=hG.later h12 hb2
     exact hK' _ _ ⟨sv,(by show _=Act.put _ (some 62) _;simp only [frs,e4,e5]),⟨hG.b,(fun h=>no h),hG.f0,hG.f1,hG.f2,hG.f3,hG.f4,hG.f5,(fun _ _=>⟨lv2,qh ho⟩),hG.f7,hG.f8,hG.f9,hG.f10,(fun h=>absurd (hG.f11 h).1 (by rw [hL];decide)),(fun h=>no h),hG.f13⟩⟩
    ·obtain rfl:=Option.some.inj ho
     have h12:=hG.no12 (i:=7) (by omega) hL
     have no:∀ {p:Prop},L 12=true->p:=fun h=>by rw [h12] at h;cases h
     have hb:=hG.b h12
     have c0:=ck hb p0
     have c1:=ck hb p1
     refine wpOp_step rfl (fun K hK' => ?_)
     simp only [frs]
     go_simp
     exact hK' _ _ ⟨.agg #[.int .i64 x.a,.slice x.b x.c x.d],(by show _=Act.put _ (some 63) _;simp only [frs]),⟨hG.b,(fun h=>no h),hG.f0,hG.f1,hG.f2,hG.f3,hG.f4,hG.f5,hG.f6,(fun _=>rfl),hG.f8,hG.f9,hG.f10,hG.f11,(fun h=>no h),hG.f13⟩⟩
    ·obtain rfl:=Option.some.inj ho
     have h12:=hG.no12 (i:=8) (by omega) hL
     have no:∀ {p:Prop},L 12=true->p:=fun h=>by rw [h12] at h;cases h
     have hb:=hG.b h12
     have c0:=ck hb z0
     have c1:=ck hb z1
     refine wpOp_step rfl (fun K hK' => ?_)
     simp only [frs]
     go_simp
     exact hK' _ _ ⟨vz y,(by show _=Act.put _ (some 64) _;simp only [frs]),⟨hG.b,(fun h=>no h),hG.f0,hG.f1,hG.f2,hG.f3,hG.f4,hG.f5,hG.f6,hG.f7,(fun _=>rfl),hG.f9,hG.f10,hG.f11,(fun h=>no h),hG.f13⟩⟩
    ·obtain rfl:=Option.some.inj ho
     have h12:=hG.no12 (i:=9) (by omega) hL
     have no:∀ {p:Prop},L 12=true->p:=fun h=>by rw [h12] at h;cases h
     have hb:=hG.b h12
     have e7:=hG.f7 (hdep ⟨7,.data⟩ (by simp) rfl)
     have e8:=hG.f8 (hdep ⟨8,.data⟩ (by simp) rfl)
     have HC1:=qh (uh HFRA w1 hb)
     refine wpOp_step rfl (fun K hK' => ?_)
     simp only [frs]
     rw [e7,e8]
     go_simp
     go_fit (uh HC1)
     rintro e9 Y ⟨⟨u,rfl,ho⟩,hb2⟩
     have hG:=hG.later h12 hb2
     exact hK' _ _ ⟨vr u,(by show _=Act.put _ (some 65) _;simp only [frs,e7,e8]),⟨hG.b,(fun h=>no h),hG.f0,hG.f1,hG.f2,hG.f3,hG.f4,hG.f5,hG.f6,hG.f7,hG.f8,(fun _=>⟨u,rfl,fun _=>qh ho⟩),hG.f10,hG.f11,(fun h=>no h),hG.f13⟩⟩
    ·obtain rfl:=Option.some.inj ho
     have lk:=(hdep ⟨3,.data⟩ (by simp) rfl)
     obtain ⟨vk,hvk⟩:∃ v,vals 3=v:=⟨_,rfl⟩
     refine wpOp_step rfl (fun K hK' => ?_)
     simp only [frs]
     rw [hvk]
     go_simp
     exact hK' _ _ ⟨vk,(by show _=Act.put _ (some 8) _;simp only [frs,hvk]),⟨hG.b,(fun h j hj=>up_true (hG.d h j hj)),hG.f0,hG.f1,hG.f2,hG.f3,hG.f4,hG.f5,hG.f6,hG.f7,hG.f8,hG.f9,(fun _=>⟨lk,hvk.symm⟩),hG.f11,hG.f12,hG.f13⟩⟩
    ·obtain rfl:=Option.some.inj ho
     have lk:=(hdep ⟨6,.data⟩ (by simp) rfl)
     obtain ⟨vk,hvk⟩:∃ v,vals 6=v:=⟨_,rfl⟩
     refine wpOp_step rfl (fun K hK' => ?_)
     simp only [frs]
     rw [hvk]
     go_simp
     exact hK' _ _ ⟨vk,(by show _=Act.put _ (some 9) _;simp only [frs,hvk]),⟨hG.b,(fun h j hj=>up_true (hG.d h j hj)),hG.f0,hG.f1,hG.f2,hG.f3,hG.f4,hG.f5,hG.f6,hG.f7,hG.f8,hG.f9,hG.f10,(fun _=>⟨lk,hvk.symm⟩),hG.f12,hG.f13⟩⟩
    ·obtain rfl:=Option.some.inj ho
     have all:∀ j,j<10->L j=true:=by
      intro j hj
      rcases (by omega:j=0\/j=1\/j=2\/j=3\/j=4\/j=5\/j=6\/j=7\/j=8\/j=9) with rfl | rfl | rfl | rfl | rfl | rfl | rfl | rfl | rfl | rfl
      all_goals exact hdep ⟨_,.phase⟩ (by simp) rfl
     have hb:=hG.b hL
     obtain ⟨u,e9,hu⟩:=hG.f9 (all 9 (by omega))
     obtain ⟨lv2,hlv2⟩:=hG.f6 (all 6 (by omega)) hL
     have h3:=hG.f3 (all 3 (by omega)) hL
     have HW3:=qh (And.intro hb (And.intro (uh h3) (And.intro (uh hlv2) (uh (hu hL)))))
     have hrb:=(uh HB0).2.1.later hb
     obtain ⟨⟨x0,c0⟩,⟨x1,x2,x3,c1⟩,⟨x4,c2⟩,⟨x5,x6,x7,c3⟩,gf⟩:=hrb.cells
     have hlt:=hrb.lt
     refine wpOp_step rfl (fun K hK' => ?_)
     simp only [frs]
     rw [e9]
     go_simp
     exact hK' _ _ ⟨undef,(by show _=Act.put _ (none) _;simp only [frs,e9]),⟨(fun h=>by cases h),(fun _ j hj=>up_true (all j hj)),hG.f0,hG.f1,hG.f2,(fun _ h=>by cases h),hG.f4,hG.f5,(fun _ h=>by cases h),hG.f7,hG.f8,(fun _=>⟨u,e9,fun h=>by cases h⟩),hG.f10,hG.f11,(fun _=>qh ⟨u,w1,lv2,e9,(uh HW3).1,(uh HW3).2.1,(uh HW3).2.2.1,(uh HW3).2.2.2,rfl⟩),hG.f13⟩⟩
    ·obtain rfl:=Option.some.inj ho
     refine wpOp_step rfl (fun K hK' => ?_)
     simp only [frs]
     go_simp
     exact hK' _ _ ⟨.nilIface,(by show _=Act.put _ (some 11) _;simp only [frs]),⟨hG.b,(fun h j hj=>up_true (hG.d h j hj)),hG.f0,hG.f1,hG.f2,hG.f3,hG.f4,hG.f5,hG.f6,hG.f7,hG.f8,hG.f9,hG.f10,hG.f11,hG.f12,(fun _=>rfl)⟩⟩
   ·intro Ld vals w1 hG hall
    obtain ⟨u,W0,lv2,e9,hb,h3,⟨h6,h7,h8⟩,h9,rfl⟩:=uh (hG.f12 (hall 12 (by decide)))
    have e10:=(hG.f10 (hall 10 (by decide))).2
    have e11:=(hG.f11 (hall 11 (by decide))).2
    have e13:=hG.f13 (hall 13 (by decide))
    obtain ⟨fv,hfv⟩:∃ v,vals 3=v:=⟨_,rfl⟩
    obtain ⟨sv,hsv⟩:∃ v,vals 6=v:=⟨_,rfl⟩
    rw [hfv] at h3 e10
    rw [hsv] at h6 e11
    have hrb:=(uh HB0).2.1.later hb
    have HST:=qh (hrb.stored (.int .i64 u.a) (.slice u.b u.c u.d) (.int .i64 u.e) (.slice u.f u.g u.h))
    have he:=else4 (q:=q) W0 (.int .i64 u.a) (.slice u.b u.c u.d) (.int .i64 u.e) (.slice u.f u.g u.h)
    have HR3:=qh (h3.rows.aside (h3.hi (Nat.le_refl _)) (uh HB0).2.2.2 he (fun cs x hx=>RsE.stays K D _ nww _ _ cs x hx (hrb.chgW he)))
    have HR6:=qh (h6.chg (BE.stays NoFlag 39) (fun _ cs x h=>by have h:cs=[.bool x]:=h;subst h;exact ⟨.bool x,by simp,fun h=>h x rfl⟩) (hrb.chgF he))
    have HR9:=qh (h9.stored hrb (.int .i64 u.a) (.slice u.b u.c u.d) (.int .i64 u.e) (.slice u.f u.g u.h))
    have hbw:Below w.heap.size w W0:=bk hb (uh HB0).1
    have HBW:=qh (zqf hbw (show w.heap.size<=q by have:=(uh HB0).2.2.1;omega) (.int .i64 u.a) (.slice u.b u.c u.d) (.int .i64 u.e) (.slice u.f u.g u.h))
    have HMO:=qh (most_math (uh HM).2.2 (uh HGG).2 (uh HGG).1 (uh HFL).2.1 (uh HM).1.2.2 (uh HM).1.1 (uh HM).1.2.1 (uh HFL).2.2.1 h8 ((uh HFL).2.2.2.1.neg h8 (uh HFL).2.2.2.2))
    clear hG hall hb h3 h6 h7 h8 h9 hrb he
    simp only [frs]
    rw [e10,e11,e13]
    go_wp2
    obtain ⟨st0,st1,st2,st3⟩:=uh HST
    refine bodyPost_ret (v:=.tuple #[fv,sv,vr u,.nilIface]) (by simp [results,Tryz.results23,go_sem,st0,st1,st2,st3]) rfl ?_
    exact ⟨⟨fv,sv,u,by rw [uh HE0];rfl,fun h=>absurd (uh HE0) h,fun _=>⟨m,s,t,rfl,rfl,rfl,(uh HM).2.1.1,(uh HM).2.1.2,(uh HM).2.2,_,_,_,uh HR3,uh HR6,uh HR9,uh HMO⟩⟩,uh HBW⟩
end Go.Proofs.YtkdobjmhammhbaaGreatDoor
