import Derived.Test.YtkdobjmhammhbaaGreatDoorME
namespace Go.Proofs.YtkdobjmhammhbaaGreatDoor
set_option maxHeartbeats 2000000
open Go.RowKit
theorem size_near (z:Int) (h0:-9223372036854775808<=z) (h1:z<=9223372036854775807) (w:World) :
 Calls Tryz.prog 143 #[.agg #[.int .i64 z,.slice none 0 0]] w fun e w'=>∃ s,e=.returned s/\Sz 1 w' s (iabs z)/\Below w.heap.size w w':=by
 have hab:0<=iabs z/\iabs z<18446744073709551616:=by unfold iabs;split <;> omega
 go_enter Tryz.func143,Tryz.ntmps143
 go_wp2_with fail
 refine (sizeOf_any z h0 h1 _).mono ?_
 rintro e w1 ⟨rfl,rfl⟩
 go_wp2_with fail
 have hnew:Row ((w.alloc (.cells #[.int .i64 z,.slice none 0 0] 37)).alloc (.cells #[.int .u64 (iabs z)] 200)) (w.heap.size+1) 0 [iabs z]:=by
  intro k hk
  simp at hk;subst hk
  simp [nth]
 refine (zje (w.heap.size+1) 0 1 1 [iabs z] _ (by exact hnew) (Ws.mk hab Ws.nil) rfl (Nat.le_refl _) (by omega)).mono ?_
 rintro e w1 ⟨v,rfl,hsz,rfl⟩
 go_wp2
 go_ret
 exact ⟨_,rfl,hsz.eq (by simp [val]),((Below.refl _ _).alloc (Nat.le_refl _) _).alloc (by simp) _⟩
theorem size_words (s:Int) (b off n cap:Nat) (w:World) :
 Calls Tryz.prog 143 #[.agg #[.int .i64 s,.slice (some ⟨b,off,none⟩) n cap]] w fun e w'=>e=.returned (.slice (some ⟨b,off,none⟩) n cap)/\Below w.heap.size w w':=by
 go_enter Tryz.func143,Tryz.ntmps143
 go_wp2
 go_ret
 exact ⟨rfl,(Below.refl _ _).alloc (Nat.le_refl _) _⟩
theorem zxw {N:Nat}{v:Value}{z:Int} (w:World) (hv:Zr (N+1) w v z) :
 Calls Tryz.prog 143 #[v] w fun e w'=>∃ s,e=.returned s/\Sz (N+1) w' s (iabs z)/\Below w.heap.size w w':=by
 rcases hv with ⟨rfl,h0,h1⟩ | ⟨s,b,off,cap,l,rfl,hs,wl,tl,hne,rfl,nl,ll,lc,hr,hbig⟩
 ·refine (size_near z h0 h1 w).mono ?_
  rintro e w' ⟨s,rfl,h,hb⟩
  exact ⟨s,rfl,h.mono (by omega),hb⟩
 ·refine (size_words s b off _ cap w).mono ?_
  rintro e w' ⟨rfl,hb⟩
  have hv0:=zqg wl
  refine ⟨_,rfl,⟨b,off,cap,l,rfl,wl,tl,?_,nl,ll,lc,hr.later hb⟩,hb⟩
  unfold iabs
  rcases hs with rfl | rfl
  ·rw [if_neg (by omega)];omega
  ·split <;> omega
theorem eql_some (b off n c:Nat) (w:World):(binOp .eql 35 (.slice (some ⟨b,off,none⟩) n c) (.slice none 0 0)).run Tryz.prog w=.ok (.bool false) w :=
 Lib.run_eql_slice_nil w 35 200 (some ⟨b,off,none⟩) n c 0 0 Tryz.underlying35
theorem eql_none (w:World):(binOp .eql 35 (.slice none 0 0) (.slice none 0 0)).run Tryz.prog w=.ok (.bool true) w :=
 Lib.run_eql_slice_nil w 35 200 none 0 0 0 0 Tryz.underlying35
theorem Zr.sgn {N:Nat}{w:World}{v:Value}{z:Int} (h:Zr N w v z):∃ near a n c,v=.agg #[.int .i64 near,.slice a n c]/\sgn near=sgn z/\(a=none->near=z/\n=0/\c=0 /\ -9223372036854775808<=z/\z<=9223372036854775807)/\(a≠none->near=sgn z/\z≠0):=by
 rcases h with ⟨rfl,h0,h1⟩ | ⟨s,b,off,cap,l,rfl,hs,wl,tl,hne,rfl,nl,ll,lc,hr,hbig⟩
 ·exact ⟨_,_,_,_,rfl,rfl,fun _=>⟨rfl,rfl,rfl,h0,h1⟩,fun h=>absurd rfl h⟩
 ·have hv0:=zqg wl
  refine ⟨_,_,_,_,rfl,?_,fun h=>(by cases h),fun _ => ?_⟩
  ·rcases hs with rfl | rfl
   ·rw [zqq (by omega),zqq (by omega)]
   ·rw [zqp (by omega),zqp (by omega)]
  ·rcases hs with rfl | rfl
   ·exact ⟨(zqq (by omega)).symm,by omega⟩
   ·exact ⟨(zqp (by omega)).symm,by omega⟩
theorem zjn (z:Int):sgn z=1\/sgn z = -1\/(sgn z=0/\iabs z=0):=by
 unfold Go.Proofs.YtkdobjmhammhbaaGreatDoor.sgn iabs
 by_cases h:z<0
 ·simp [h]
 ·by_cases h':z=0
  ·subst h';simp
  ·simp [h,h']
theorem sgn_iabs (z:Int):sgn z*iabs z=z:=by
 unfold Go.Proofs.YtkdobjmhammhbaaGreatDoor.sgn iabs
 by_cases h:z<0
 ·simp [h]
 ·by_cases h':z=0
  ·subst h';simp
  ·simp [h,h']
theorem iabs_nonneg (z:Int):0<=iabs z:=by unfold iabs;split <;> omega
theorem ck {wp w1:World}{r o:Nat}{v:Value} (hb:Below wp.heap.size wp w1) (h:wp.cell? ⟨r,o,none⟩=some v):w1.cell? ⟨r,o,none⟩=some v:=by
 rw [hb.cell (p:=⟨r,o,none⟩) (World.block_lt_of_cell? wp _ h)];exact h
theorem bk {w wp w1:World} (hb:Below wp.heap.size wp w1) (h:Below w.heap.size w wp):Below w.heap.size w w1:=h.trans (hb.mono h.size)
theorem Box.stored' {w:World}{r:Nat} (h:Box w r) (x:Int) (a:Option Addr) (n c:Nat):Box ((w.setCell ⟨r,0,none⟩ (.int .i64 x)).setCell ⟨r,1,none⟩ (.slice a n c)) r:=by
 obtain ⟨x',a',n',c',h⟩:=h
 refine ⟨x,a,n,c,?_⟩
 simp only [World.setCell,Array.getElem?_modify]
 simp [h]
theorem Box.other {w:World}{r q o:Nat} (h:Box w r) (hne:r≠q) (v:Value):Box (w.setCell ⟨q,o,none⟩ v) r:=by
 obtain ⟨x',a',n',c',h⟩:=h
 exact ⟨x',a',n',c',by rw [Below.heap_setCell w ⟨q,o,none⟩ v r hne];exact h⟩
theorem boxOf {w wp w3:World}{q:Nat}{C:Prop} (hb:Below wp.heap.size wp w3) (h:Below w.heap.size w wp/\Box wp q/\C):∃ x a n c,w3.cell? ⟨q,0,none⟩=some (.int .i64 x)/\w3.cell? ⟨q,1,none⟩=some (.slice a n c)/\∀ o,w3.frozen? ⟨q,o,none⟩=false:=by
 obtain ⟨⟨x,h0⟩,⟨a,n,c,h1⟩,h2⟩:=(h.2.1.later hb).cells
 exact ⟨x,a,n,c,h0,h1,h2⟩
theorem keep11 {w wp w1:World}{r q:Nat}{x y:Value} (hb:Below wp.heap.size wp w1) (h:Below w.heap.size w wp/\Box wp q/\wp.cell? ⟨r,0,none⟩=some x/\wp.cell? ⟨r,1,none⟩=some y) :
 Below w.heap.size w w1/\Box w1 q/\w1.cell? ⟨r,0,none⟩=some x/\w1.cell? ⟨r,1,none⟩=some y :=
 ⟨bk hb h.1,h.2.1.later hb,ck hb h.2.2.1,ck hb h.2.2.2⟩
theorem store11 {w wp:World}{r q:Nat}{x y:Value}{u:Int}{a:Option Addr}{n c:Nat} (h:Below w.heap.size w wp/\Box wp q/\wp.cell? ⟨r,0,none⟩=some x/\wp.cell? ⟨r,1,none⟩=some y) (hq:w.heap.size<=q) (hr:r≠q) :
 Below w.heap.size w ((wp.setCell ⟨q,0,none⟩ (.int .i64 u)).setCell ⟨q,1,none⟩ (.slice a n c))/\Box ((wp.setCell ⟨q,0,none⟩ (.int .i64 u)).setCell ⟨q,1,none⟩ (.slice a n c)) q /\
 ((wp.setCell ⟨q,0,none⟩ (.int .i64 u)).setCell ⟨q,1,none⟩ (.slice a n c)).cell? ⟨r,0,none⟩=some x/\((wp.setCell ⟨q,0,none⟩ (.int .i64 u)).setCell ⟨q,1,none⟩ (.slice a n c)).cell? ⟨r,1,none⟩=some y:=by
 refine ⟨zqc h.1 hq _ _,h.2.1.stored' _ _ _ _,?_,?_⟩
 ·rw [zqb _ _ _ _ _ _ (by omega),zqb _ _ _ _ _ _ (by omega)];exact h.2.2.1
 ·rw [zqb _ _ _ _ _ _ (by omega),zqb _ _ _ _ _ _ (by omega)];exact h.2.2.2
theorem neg_words {N:Nat} (near:Int) (b off n c:Nat) (z:Int) (w:World) (hv:Zr (N+1) w (.agg #[.int .i64 near,.slice (some ⟨b,off,none⟩) n c]) z) :
 Calls Tryz.prog 134 #[.agg #[.int .i64 near,.slice (some ⟨b,off,none⟩) n c]] w fun e w'=>(∃ v,e=.returned v/\Zr (N+1) w' v (-z))/\Below w.heap.size w w':=by
 obtain ⟨near',a',n',c',hvv,hsg,hnil,hnn⟩:=hv.sgn
 obtain ⟨rfl,rfl,rfl,rfl⟩:near=near'/\some ⟨b,off,none⟩=a'/\n=n'/\c=c':=by simpa using hvv
 have HSG:=qh hsg
 have sg0:-1<=sgn near/\sgn near<=1:=by rcases zjn near with h | h | ⟨h,_⟩ <;> omega
 obtain ⟨sg1,sg2⟩:=sg0
 have hsx:-sgn near=1 \/ -sgn near = -1\/(-sgn near=0/\iabs z=0):=by
  rw [hsg];rcases zjn z with h | h | ⟨h,h'⟩
  ·right;left;omega
  ·left;omega
  ·right;right;exact ⟨by omega,h'⟩
 have hwr:IntKind.i64.wrap (-sgn near) = -sgn near:=by rw [IntKind.wrap_i64];omega
 have HSX:=qh hsx
 have HV:=qh hv
 have hen:=fun w=>eql_some b off n c w
 clear hsg hnil hnn hvv hv hsx
 go_enter Tryz.func134,Tryz.ntmps134
 go_wp2_with fail
 obtain ⟨W0,hW0⟩:∃ W0,W0=(w.alloc (.cells #[.int .i64 near,.slice (some ⟨b,off,none⟩) n c] 37)).alloc (.cells #[.int .i64 0,.slice none 0 0] 37):=⟨_,rfl⟩
 rw [<- hW0]
 have hc0:W0.cell? ⟨w.heap.size,0,none⟩=some (.int .i64 near):=by rw [hW0];simp [go_sem]
 have hc1:W0.cell? ⟨w.heap.size,1,none⟩=some (.slice (some ⟨b,off,none⟩) n c):=by rw [hW0];simp [go_sem]
 have hbox:Box W0 (w.heap.size+1):=by rw [hW0];have:=zqy (w.alloc (.cells #[.int .i64 near,.slice (some ⟨b,off,none⟩) n c] 37));simpa using this
 have hbW:Below w.heap.size w W0:=by rw [hW0];exact ((Below.refl _ _).alloc (Nat.le_refl _) _).alloc (by simp) _
 clear hW0
 go_region_held3 (fun w'=>Below w.heap.size w w'/\Box w' (w.heap.size+1)/\w'.cell? ⟨w.heap.size,0,none⟩=some (.int .i64 near)/\w'.cell? ⟨w.heap.size,1,none⟩=some (.slice (some ⟨b,off,none⟩) n c))
  (first | exact ⟨hbW.drew,hbox,hc0,hc1⟩ | exact keep11 (by assumption) (by assumption) | exact store11 (by assumption) (by omega) (by omega))
  (first | (go_at_call 118;go_fit (zqn _ _ _);rintro e w1 ⟨rfl,hb1⟩) | (go_at_call 143;go_fit (zxw (z:=z) (N:=N) _ ((uh HV).later (And.left (by assumption))));rintro e w2 ⟨sv,rfl,hsv,hb2⟩) | (go_at_call 164;go_fit (zxg (N:=N+1) (z:=iabs z) _ _ (Or.inl (by first | exact hsv | exact hsv.later hb1)) (uh HSX));rintro e w3 ⟨⟨v3,rfl,hZ3⟩,hb3⟩;obtain ⟨near3,a3,n3,c3,hv3⟩:=hZ3.shape;subst hv3;obtain ⟨x0,a0,n0,c0,g0,g1,gf⟩:=boxOf hb3 (by assumption)))
 go_wp2
 have hbx:Box w3 (w.heap.size+1):=((Box.later (w:=W0.drew) hbox hb1).later hb2).later hb3
 have hbl:Below w.heap.size w w3:=bk hb3 (bk hb2 (bk hb1 hbW.drew))
 obtain ⟨st0,st1⟩:=hbx.stored (.int .i64 near3) (.slice a3 n3 c3)
 exact bodyPost_ret (v:=.agg #[.int .i64 near3,.slice a3 n3 c3]) (by simp [results,Tryz.results134,go_sem,st0,st1]) rfl ⟨⟨_,rfl,(hZ3.stored hbx _ _).eq (by rw [uh HSG,Int.neg_mul,sgn_iabs])⟩,zqc hbl (by omega) _ _⟩
theorem neg_least {N:Nat} (near z:Int) (w:World) (hmin:(near != -9223372036854775808)=false) (hv:Zr (N+1) w (.agg #[.int .i64 near,.slice none 0 0]) z) :
 Calls Tryz.prog 134 #[.agg #[.int .i64 near,.slice none 0 0]] w fun e w'=>(∃ v,e=.returned v/\Zr (N+1) w' v (-z))/\Below w.heap.size w w':=by
 obtain ⟨near',a',n',c',hvv,hsg,hnil,hnn⟩:=hv.sgn
 obtain ⟨rfl,rfl,rfl,rfl⟩:near=near'/\(none:Option Addr)=a'/\0=n'/\0=c':=by simpa using hvv
 have HSG:=qh hsg
 have sg0:-1<=sgn near/\sgn near<=1:=by rcases zjn near with h | h | ⟨h,_⟩ <;> omega
 obtain ⟨sg1,sg2⟩:=sg0
 have hsx:-sgn near=1 \/ -sgn near = -1\/(-sgn near=0/\iabs z=0):=by
  rw [hsg];rcases zjn z with h | h | ⟨h,h'⟩
  ·right;left;omega
  ·left;omega
  ·right;right;exact ⟨by omega,h'⟩
 have hwr:IntKind.i64.wrap (-sgn near) = -sgn near:=by rw [IntKind.wrap_i64];omega
 have HSX:=qh hsx
 have HV:=qh hv
 have hen:=fun w=>eql_none w
 clear hsg hnil hnn hvv hv hsx
 go_enter Tryz.func134,Tryz.ntmps134
 go_wp2_with fail
 obtain ⟨W0,hW0⟩:∃ W0,W0=(w.alloc (.cells #[.int .i64 near,.slice none 0 0] 37)).alloc (.cells #[.int .i64 0,.slice none 0 0] 37):=⟨_,rfl⟩
 rw [<- hW0]
 have hc0:W0.cell? ⟨w.heap.size,0,none⟩=some (.int .i64 near):=by rw [hW0];simp [go_sem]
 have hc1:W0.cell? ⟨w.heap.size,1,none⟩=some (.slice none 0 0):=by rw [hW0];simp [go_sem]
 have hbox:Box W0 (w.heap.size+1):=by rw [hW0];have:=zqy (w.alloc (.cells #[.int .i64 near,.slice none 0 0] 37));simpa using this
 have hbW:Below w.heap.size w W0:=by rw [hW0];exact ((Below.refl _ _).alloc (Nat.le_refl _) _).alloc (by simp) _
 clear hW0
 go_region_held3 (fun w'=>Below w.heap.size w w'/\Box w' (w.heap.size+1)/\w'.cell? ⟨w.heap.size,0,none⟩=some (.int .i64 near)/\w'.cell? ⟨w.heap.size,1,none⟩=some (.slice none 0 0))
  (first | exact ⟨hbW.drew,hbox,hc0,hc1⟩ | exact keep11 (by assumption) (by assumption) | exact store11 (by assumption) (by omega) (by omega))
  (first | (go_at_call 118;go_fit (zqn _ _ _);rintro e w1 ⟨rfl,hb1⟩) | (go_at_call 143;go_fit (zxw (z:=z) (N:=N) _ ((uh HV).later (And.left (by assumption))));rintro e w2 ⟨sv,rfl,hsv,hb2⟩) | (go_at_call 164;go_fit (zxg (N:=N+1) (z:=iabs z) _ _ (Or.inl (by first | exact hsv | exact hsv.later hb1)) (uh HSX));rintro e w3 ⟨⟨v3,rfl,hZ3⟩,hb3⟩;obtain ⟨near3,a3,n3,c3,hv3⟩:=hZ3.shape;subst hv3;obtain ⟨x0,a0,n0,c0,g0,g1,gf⟩:=boxOf hb3 (by assumption)))
 go_wp2
 have hbx:Box w3 (w.heap.size+1):=((Box.later (w:=W0.drew) hbox hb1).later hb2).later hb3
 have hbl:Below w.heap.size w w3:=bk hb3 (bk hb2 (bk hb1 hbW.drew))
 obtain ⟨st0,st1⟩:=hbx.stored (.int .i64 near3) (.slice a3 n3 c3)
 exact bodyPost_ret (v:=.agg #[.int .i64 near3,.slice a3 n3 c3]) (by simp [results,Tryz.results134,go_sem,st0,st1]) rfl ⟨⟨_,rfl,(hZ3.stored hbx _ _).eq (by rw [uh HSG,Int.neg_mul,sgn_iabs])⟩,zqc hbl (by omega) _ _⟩
theorem neg_near (z:Int) (w:World) (h0:-9223372036854775808<z) (h1:z<=9223372036854775807) :
 Calls Tryz.prog 134 #[.agg #[.int .i64 z,.slice none 0 0]] w fun e w'=>e=.returned (.agg #[.int .i64 (-z),.slice none 0 0])/\Below w.heap.size w w':=by
 have hmin:(z != -9223372036854775808)=true:=by simp;omega
 have hen:=fun w=>eql_none w
 go_enter Tryz.func134,Tryz.ntmps134
 go_wp2
 refine bodyPost_ret (v:=.agg #[.int .i64 (-z),.slice none 0 0]) (by simp [results,Tryz.results102,go_sem]) rfl ?_
 go_wp2
 exact bodyPost_ret (v:=.agg #[.int .i64 (-z),.slice none 0 0]) (by simp [results,Tryz.results134,go_sem]) rfl ⟨rfl,(((Below.refl _ _).alloc (Nat.le_refl _) _).alloc (by simp) _).alloc (by simp;omega) _⟩
theorem neg_any {N:Nat}{v:Value}{z:Int} (w:World) (hv:Zr (N+1) w v z) :
 Calls Tryz.prog 134 #[v] w fun e w'=>(∃ v,e=.returned v/\Zr (N+1) w' v (-z))/\Below w.heap.size w w':=by
 have hv0:=hv
 rcases hv with ⟨rfl,h0,h1⟩ | ⟨s,b,off,cap,l,rfl,hs,wl,tl,hne,rfl,nl,ll,lc,hr,hbig⟩
 ·by_cases hm:z = -9223372036854775808
  ·exact neg_least z z w (by rw [hm];rfl) hv0
  ·refine (neg_near z w (by omega) h1).mono ?_
   rintro e w' ⟨rfl,hb⟩
   exact ⟨⟨_,rfl,Zr.near _ (by omega) (by omega)⟩,hb⟩
 ·exact neg_words s b off _ cap _ w hv0
theorem eql_any (a:Option Addr) (n c:Nat) (w:World):(binOp .eql 35 (.slice a n c) (.slice none 0 0)).run Tryz.prog w=.ok (.bool a.isNone) w :=
 Lib.run_eql_slice_nil w 35 200 a n c 0 0 Tryz.underlying35
theorem zxb (x y:Int) (a1 a2:Option Addr) (n1 c1 n2 c2:Nat) (w:World) :
 Calls Tryz.prog 140 #[.agg #[.int .i64 x,.slice a1 n1 c1],.agg #[.int .i64 y,.slice a2 n2 c2]] w fun e w'=>e=.returned (.bool (a1.isNone && a2.isNone))/\Below w.heap.size w w':=by
 have e1:=fun w=>eql_any a1 n1 c1 w
 have e2:=fun w=>eql_any a2 n2 c2 w
 have fin:∀ (u v:Obj),Below w.heap.size w ((w.alloc u).alloc v):=fun u v=>((Below.refl _ _).alloc (Nat.le_refl _) _).alloc (by simp) _
 cases h1:a1.isNone
 ·rw [h1] at e1
  go_enter Tryz.func140,Tryz.ntmps140
  go_wp2
  go_ret
  exact ⟨rfl,fin _ _⟩
 ·rw [h1] at e1
  go_enter Tryz.func140,Tryz.ntmps140
  go_wp2
  all_goals go_ret
  all_goals exact ⟨by simp [*],fin _ _⟩
theorem keep21 {w wp w1:World}{r s q:Nat}{x y x' y':Value} (hb:Below wp.heap.size wp w1) (h:Below w.heap.size w wp/\Box wp q/\wp.cell? ⟨r,0,none⟩=some x/\wp.cell? ⟨r,1,none⟩=some y/\wp.cell? ⟨s,0,none⟩=some x'/\wp.cell? ⟨s,1,none⟩=some y') :
 Below w.heap.size w w1/\Box w1 q/\w1.cell? ⟨r,0,none⟩=some x/\w1.cell? ⟨r,1,none⟩=some y/\w1.cell? ⟨s,0,none⟩=some x'/\w1.cell? ⟨s,1,none⟩=some y' :=
 ⟨bk hb h.1,h.2.1.later hb,ck hb h.2.2.1,ck hb h.2.2.2.1,ck hb h.2.2.2.2.1,ck hb h.2.2.2.2.2⟩
theorem keep21s {w wp w1:World}{r s q N M:Nat}{x y x' y' sv sv':Value}{z z':Int} (hb:Below wp.heap.size wp w1) (h:Below w.heap.size w wp/\Box wp q/\wp.cell? ⟨r,0,none⟩=some x/\wp.cell? ⟨r,1,none⟩=some y/\wp.cell? ⟨s,0,none⟩=some x'/\wp.cell? ⟨s,1,none⟩=some y'/\Sz N wp sv z/\Sz M wp sv' z') :
 Below w.heap.size w w1/\Box w1 q/\w1.cell? ⟨r,0,none⟩=some x/\w1.cell? ⟨r,1,none⟩=some y/\w1.cell? ⟨s,0,none⟩=some x'/\w1.cell? ⟨s,1,none⟩=some y'/\Sz N w1 sv z/\Sz M w1 sv' z' :=
 ⟨bk hb h.1,h.2.1.later hb,ck hb h.2.2.1,ck hb h.2.2.2.1,ck hb h.2.2.2.2.1,ck hb h.2.2.2.2.2.1,h.2.2.2.2.2.2.1.later hb,h.2.2.2.2.2.2.2.later hb⟩
theorem hstart (w:World) (u v:Obj):Below w.heap.size w (((w.alloc u).alloc v).alloc (.cells #[.int .i64 0,.slice none 0 0] 37))/\Box (((w.alloc u).alloc v).alloc (.cells #[.int .i64 0,.slice none 0 0] 37)) (w.heap.size+2):=by
 refine ⟨(((Below.refl _ _).alloc (Nat.le_refl _) _).alloc (by simp) _).alloc (by simp;omega) _,?_⟩
 have:=zqy ((w.alloc u).alloc v)
 simpa using this
theorem compare_sz {N M:Nat}{va vb:Value}{x y:Int} (w:World) (hva:Sz N w va x) (hvb:Sz M w vb y) (hN:N<=1000000) (hM:M<=1000000) :
 Calls Tryz.prog 142 #[va,vb] w fun e w'=>e=.returned (.int .i64 (sgn (x - y)))/\Below w.heap.size w w':=by
 obtain ⟨ga,oa,ca,a,rfl,ha,ta,rfl,na,la,lca,hra⟩:=hva
 obtain ⟨gb,ob,cb,b,rfl,hb,tb,rfl,nb,lb,lcb,hrb⟩:=hvb
 refine (compare_any ga oa ca gb ob cb a b w hra hrb ha hb ta tb (by omega) (by omega)).mono ?_
 rintro e w' ⟨rfl,n,rfl⟩
 exact ⟨rfl,zqj (Below.refl _ _) n⟩
theorem zqo (z:Int):(z<0/\sgn z = -1/\iabs z = -z)\/(z=0/\sgn z=0/\iabs z=0)\/(0<z/\sgn z=1/\iabs z=z):=by
 unfold sgn iabs
 by_cases h:z<0
 ·simp [h]
 ·by_cases h':z=0
  ·subst h';simp
  ·simp [h,h'];omega
section
variable {x y z o:Int}
theorem add_cond (hx:sgn x=sgn z) (hy:sgn y=sgn o) (h:sgn x=sgn y):sgn x=1\/sgn x = -1\/(sgn x=0/\iabs z+iabs o=0):=by
 rcases zqo z with ⟨a,b,c⟩ | ⟨a,b,c⟩ | ⟨a,b,c⟩ <;> rcases zqo o with ⟨a',b',c'⟩ | ⟨a',b',c'⟩ | ⟨a',b',c'⟩ <;> omega
theorem add_same (hx:sgn x=sgn z) (hy:sgn y=sgn o) (h:sgn x=sgn y):sgn x*(iabs z+iabs o)=z+o:=by
 rw [hx]
 rcases zqo z with ⟨a,b,c⟩ | ⟨a,b,c⟩ | ⟨a,b,c⟩ <;> rcases zqo o with ⟨a',b',c'⟩ | ⟨a',b',c'⟩ | ⟨a',b',c'⟩ <;> rw [b,c,c'] <;> omega
theorem add_condB (hx:sgn x=sgn z) (_hy:sgn y=sgn o) (_h:¬ sgn x=sgn y) (hg:iabs o<=iabs z):sgn x=1\/sgn x = -1\/(sgn x=0/\iabs z - iabs o=0):=by
 rcases zqo z with ⟨a,b,c⟩ | ⟨a,b,c⟩ | ⟨a,b,c⟩ <;> rcases zqo o with ⟨a',b',c'⟩ | ⟨a',b',c'⟩ | ⟨a',b',c'⟩ <;> omega
theorem add_diffB (hx:sgn x=sgn z) (hy:sgn y=sgn o) (h:¬ sgn x=sgn y) (hg:iabs o<=iabs z):sgn x*(iabs z - iabs o)=z+o:=by
 rw [hx]
 rcases zqo z with ⟨a,b,c⟩ | ⟨a,b,c⟩ | ⟨a,b,c⟩ <;> rcases zqo o with ⟨a',b',c'⟩ | ⟨a',b',c'⟩ | ⟨a',b',c'⟩ <;> rw [b,c,c'] <;> omega
theorem add_condC (_hx:sgn x=sgn z) (hy:sgn y=sgn o) (_h:¬ sgn x=sgn y) (hg:iabs z<=iabs o):sgn y=1\/sgn y = -1\/(sgn y=0/\iabs o - iabs z=0):=by
 rcases zqo z with ⟨a,b,c⟩ | ⟨a,b,c⟩ | ⟨a,b,c⟩ <;> rcases zqo o with ⟨a',b',c'⟩ | ⟨a',b',c'⟩ | ⟨a',b',c'⟩ <;> omega
theorem add_diffC (hx:sgn x=sgn z) (hy:sgn y=sgn o) (h:¬ sgn x=sgn y) (hg:iabs z<=iabs o):sgn y*(iabs o - iabs z)=z+o:=by
 rw [hy]
 rcases zqo z with ⟨a,b,c⟩ | ⟨a,b,c⟩ | ⟨a,b,c⟩ <;> rcases zqo o with ⟨a',b',c'⟩ | ⟨a',b',c'⟩ | ⟨a',b',c'⟩ <;> rw [b',c,c'] <;> omega
end
theorem add_slow {N:Nat} (x y:Int) (a1 a2:Option Addr) (n1 c1 n2 c2:Nat) (z o:Int) (w:World) (hz:Zr (N+1) w (.agg #[.int .i64 x,.slice a1 n1 c1]) z) (ho:Zr (N+1) w (.agg #[.int .i64 y,.slice a2 n2 c2]) o) (hbn:(a1.isNone && a2.isNone)=false) (hlim:N<=800000) :
 Calls Tryz.prog 111 #[.agg #[.int .i64 x,.slice a1 n1 c1],.agg #[.int .i64 y,.slice a2 n2 c2]] w fun e w'=>(∃ v,e=.returned v/\Zr (N+2) w' v (z+o))/\Below w.heap.size w w':=by
 have HZ:=qh hz
 have HO:=qh ho
 have HBN:=qh hbn
 have tok1:True:=trivial
 have HSX:Hid (sgn x=sgn z):=by
  obtain ⟨x',a',n',c',hvv,hsg,_⟩:=hz.sgn
  obtain ⟨rfl,_⟩:x=x'/\_:=by simpa using hvv
  exact hsg
 have HSY:Hid (sgn y=sgn o):=by
  obtain ⟨x',a',n',c',hvv,hsg,_⟩:=ho.sgn
  obtain ⟨rfl,_⟩:y=x'/\_:=by simpa using hvv
  exact hsg
 clear hz ho hbn
 go_enter Tryz.func111,Tryz.ntmps111
 go_wp2_with fail
 go_fit (zxb x y a1 a2 n1 c1 n2 c2 _)
 rintro e W1 ⟨rfl,hb0⟩
 rw [uh HBN]
 have hst:=hstart w (.cells #[.int .i64 x,.slice a1 n1 c1] 37) (.cells #[.int .i64 y,.slice a2 n2 c2] 37)
 have hS1:Below w.heap.size w W1/\Box W1 (w.heap.size+2)/\W1.cell? ⟨w.heap.size,0,none⟩=some (.int .i64 x)/\W1.cell? ⟨w.heap.size,1,none⟩=some (.slice a1 n1 c1)/\W1.cell? ⟨w.heap.size+1,0,none⟩=some (.int .i64 y)/\W1.cell? ⟨w.heap.size+1,1,none⟩=some (.slice a2 n2 c2) :=
  keep21 hb0 ⟨hst.1,hst.2,by simp [go_sem],by simp [go_sem],by simp [go_sem],by simp [go_sem]⟩
 clear hb0 hst
 obtain ⟨hbW,hbox,hc0,hc1,hc2,hc3⟩:=hS1
 go_wp2_with fail
 go_region_held3 (fun w'=>Below w.heap.size w w'/\Box w' (w.heap.size+2)/\w'.cell? ⟨w.heap.size,0,none⟩=some (.int .i64 x)/\w'.cell? ⟨w.heap.size,1,none⟩=some (.slice a1 n1 c1)/\w'.cell? ⟨w.heap.size+1,0,none⟩=some (.int .i64 y)/\w'.cell? ⟨w.heap.size+1,1,none⟩=some (.slice a2 n2 c2))
  (first | exact ⟨hbW.drew,hbox,hc0,hc1,hc2,hc3⟩ | exact keep21 (by assumption) (by assumption))
  (first | (go_at_call 143;have _t:=tok1;go_fit (zxw (z:=z) (N:=N) _ ((uh HZ).later (And.left (by assumption))));rintro e w2 ⟨sv1,rfl,hsv1,hb2⟩;clear tok1) | (go_at_call 143;go_fit (zxw (z:=o) (N:=N) _ ((uh HO).later (And.left (by assumption))));rintro e w3 ⟨sv2,rfl,hsv2,hb3⟩))
 have hS3:Below w.heap.size w w3/\Box w3 (w.heap.size+2)/\w3.cell? ⟨w.heap.size,0,none⟩=some (.int .i64 x)/\w3.cell? ⟨w.heap.size,1,none⟩=some (.slice a1 n1 c1)/\w3.cell? ⟨w.heap.size+1,0,none⟩=some (.int .i64 y)/\w3.cell? ⟨w.heap.size+1,1,none⟩=some (.slice a2 n2 c2):=by assumption
 have hsv1':=hsv1.later hb3
 clear hbW hbox hc0 hc1 hc2 hc3 hsv1
 obtain ⟨hbW,hbox,hc0,hc1,hc2,hc3⟩:=hS3
 by_cases hss:sgn x=sgn y
 ·have hss':(sgn x == sgn y)=true:=by simpa using hss
  have HC:=qh (add_cond (z:=z) (o:=o) (uh HSX) (uh HSY) hss)
  have HE:=qh (add_same (z:=z) (o:=o) (uh HSX) (uh HSY) hss)
  clear hss
  go_wp2_with fail
  go_region_held3 (fun w'=>Below w.heap.size w w'/\Box w' (w.heap.size+2)/\w'.cell? ⟨w.heap.size,0,none⟩=some (.int .i64 x)/\w'.cell? ⟨w.heap.size,1,none⟩=some (.slice a1 n1 c1)/\w'.cell? ⟨w.heap.size+1,0,none⟩=some (.int .i64 y)/\w'.cell? ⟨w.heap.size+1,1,none⟩=some (.slice a2 n2 c2)/\Sz (N+1) w' sv1 (iabs z)/\Sz (N+1) w' sv2 (iabs o))
   (first | exact ⟨hbW.drew,hbox,hc0,hc1,hc2,hc3,hsv1',hsv2⟩ | exact keep21s (by assumption) (by assumption))
   (first | (go_at_call 118;go_fit (zqn _ _ _);rintro e w4 ⟨rfl,hb4⟩))
  have hS4:Below w.heap.size w w4/\Box w4 (w.heap.size+2)/\w4.cell? ⟨w.heap.size,0,none⟩=some (.int .i64 x)/\w4.cell? ⟨w.heap.size,1,none⟩=some (.slice a1 n1 c1)/\w4.cell? ⟨w.heap.size+1,0,none⟩=some (.int .i64 y)/\w4.cell? ⟨w.heap.size+1,1,none⟩=some (.slice a2 n2 c2)/\Sz (N+1) w4 sv1 (iabs z)/\Sz (N+1) w4 sv2 (iabs o):=by assumption
  clear hbW hbox hc0 hc1 hc2 hc3 hsv1' hsv2
  obtain ⟨hbW,hbox,hc0,hc1,hc2,hc3,hsv1,hsv2⟩:=hS4
  go_wp2_with fail
  go_fit (zqn _ _ _)
  rintro e w5 ⟨rfl,hb5⟩
  go_wp2_with fail
  go_fit (sum_any _ (hsv1.later hb5) (hsv2.later hb5) (by omega))
  rintro e w6 ⟨sv,rfl,hsv,hb6⟩
  go_wp2_with fail
  go_fit (zxg _ _ (Or.inl hsv) (uh HC))
  rintro e w7 ⟨⟨v7,rfl,hZ7⟩,hb7⟩
  obtain ⟨near7,a7,n7,c7,hv7⟩:=hZ7.shape
  subst hv7
  have hbx:Box w7 (w.heap.size+2):=((hbox.later hb5).later hb6).later hb7
  obtain ⟨⟨x0,g0⟩,⟨a0,n0,c0,g1⟩,gf⟩:=hbx.cells
  have hbl:Below w.heap.size w w7:=bk hb7 (bk hb6 (bk hb5 hbW))
  go_wp2
  obtain ⟨st0,st1⟩:=hbx.stored (.int .i64 near7) (.slice a7 n7 c7)
  exact bodyPost_ret (v:=.agg #[.int .i64 near7,.slice a7 n7 c7]) (by simp [results,Tryz.results111,go_sem,st0,st1]) rfl ⟨⟨_,rfl,((hZ7.mono (by omega)).stored hbx _ _).eq (uh HE)⟩,zqc hbl (by omega) _ _⟩
 ·have hss':(sgn x == sgn y)=false:=by simpa using hss
  obtain ⟨sg,hsg⟩:∃ sg,sgn (iabs z - iabs o)=sg:=⟨_,rfl⟩
  have HSG:=qh hsg
  by_cases hge:iabs o<=iabs z
  ·have hsg0:0<=sg:=by
    rw [<- hsg]
    by_cases e:iabs z=iabs o
    ·rw [zxi (by omega)];decide
    ·rw [zqq (by omega)];decide
   have HC:=qh (add_condB (z:=z) (o:=o) (uh HSX) (uh HSY) hss hge)
   have HE:=qh (add_diffB (z:=z) (o:=o) (uh HSX) (uh HSY) hss hge)
   have HG:=qh hge
   clear hss hsg hge
   go_wp2_with fail
   go_region_held3 (fun w'=>Below w.heap.size w w'/\Box w' (w.heap.size+2)/\w'.cell? ⟨w.heap.size,0,none⟩=some (.int .i64 x)/\w'.cell? ⟨w.heap.size,1,none⟩=some (.slice a1 n1 c1)/\w'.cell? ⟨w.heap.size+1,0,none⟩=some (.int .i64 y)/\w'.cell? ⟨w.heap.size+1,1,none⟩=some (.slice a2 n2 c2)/\Sz (N+1) w' sv1 (iabs z)/\Sz (N+1) w' sv2 (iabs o))
    (first | exact ⟨hbW.drew,hbox,hc0,hc1,hc2,hc3,hsv1',hsv2⟩ | exact keep21s (by assumption) (by assumption))
    (first | (go_at_call 118;go_fit (zqn _ _ _);rintro e w4 ⟨rfl,hb4⟩))
   have hS4:Below w.heap.size w w4/\Box w4 (w.heap.size+2)/\w4.cell? ⟨w.heap.size,0,none⟩=some (.int .i64 x)/\w4.cell? ⟨w.heap.size,1,none⟩=some (.slice a1 n1 c1)/\w4.cell? ⟨w.heap.size+1,0,none⟩=some (.int .i64 y)/\w4.cell? ⟨w.heap.size+1,1,none⟩=some (.slice a2 n2 c2)/\Sz (N+1) w4 sv1 (iabs z)/\Sz (N+1) w4 sv2 (iabs o):=by assumption
   clear hbW hbox hc0 hc1 hc2 hc3 hsv1' hsv2
   obtain ⟨hbW,hbox,hc0,hc1,hc2,hc3,hsv1,hsv2⟩:=hS4
   go_wp2_with fail
   go_fit (compare_sz _ hsv1 hsv2 (by omega) (by omega))
   rintro e w8 ⟨rfl,hb8⟩
   rw [uh HSG]
   have hbW:=bk hb8 hbW
   have hbox:=hbox.later hb8
   have hc0:=ck hb8 hc0
   have hc1:=ck hb8 hc1
   have hc2:=ck hb8 hc2
   have hc3:=ck hb8 hc3
   have hsv1:=hsv1.later hb8
   have hsv2:=hsv2.later hb8
   go_wp2_with fail
   go_fit (zqn _ _ _)
   rintro e w5 ⟨rfl,hb5⟩
   go_wp2_with fail
   go_fit (zkx _ (hsv1.later hb5) (hsv2.later hb5) (uh HG) (by omega))
   rintro e w6 ⟨sv,rfl,hsv,hb6⟩
   go_wp2_with fail
   go_fit (zxg _ _ (Or.inl hsv) (uh HC))
   rintro e w7 ⟨⟨v7,rfl,hZ7⟩,hb7⟩
   obtain ⟨near7,a7,n7,c7,hv7⟩:=hZ7.shape
   subst hv7
   have hbx:Box w7 (w.heap.size+2):=((hbox.later hb5).later hb6).later hb7
   obtain ⟨⟨x0,g0⟩,⟨a0,n0,c0,g1⟩,gf⟩:=hbx.cells
   have hbl:Below w.heap.size w w7:=bk hb7 (bk hb6 (bk hb5 hbW))
   go_wp2
   obtain ⟨st0,st1⟩:=hbx.stored (.int .i64 near7) (.slice a7 n7 c7)
   exact bodyPost_ret (v:=.agg #[.int .i64 near7,.slice a7 n7 c7]) (by simp [results,Tryz.results111,go_sem,st0,st1]) rfl ⟨⟨_,rfl,((hZ7.mono (by omega)).stored hbx _ _).eq (uh HE)⟩,zqc hbl (by omega) _ _⟩
  ·have hsg0:sg<0:=by rw [<- hsg,zqp (by omega)];decide
   have hge':iabs z<=iabs o:=by omega
   have HC:=qh (add_condC (z:=z) (o:=o) (uh HSX) (uh HSY) hss hge')
   have HE:=qh (add_diffC (z:=z) (o:=o) (uh HSX) (uh HSY) hss hge')
   have HG:=qh hge'
   clear hss hsg hge hge'
   go_wp2_with fail
   go_region_held3 (fun w'=>Below w.heap.size w w'/\Box w' (w.heap.size+2)/\w'.cell? ⟨w.heap.size,0,none⟩=some (.int .i64 x)/\w'.cell? ⟨w.heap.size,1,none⟩=some (.slice a1 n1 c1)/\w'.cell? ⟨w.heap.size+1,0,none⟩=some (.int .i64 y)/\w'.cell? ⟨w.heap.size+1,1,none⟩=some (.slice a2 n2 c2)/\Sz (N+1) w' sv1 (iabs z)/\Sz (N+1) w' sv2 (iabs o))
    (first | exact ⟨hbW.drew,hbox,hc0,hc1,hc2,hc3,hsv1',hsv2⟩ | exact keep21s (by assumption) (by assumption))
    (first | (go_at_call 118;go_fit (zqn _ _ _);rintro e w4 ⟨rfl,hb4⟩))
   have hS4:Below w.heap.size w w4/\Box w4 (w.heap.size+2)/\w4.cell? ⟨w.heap.size,0,none⟩=some (.int .i64 x)/\w4.cell? ⟨w.heap.size,1,none⟩=some (.slice a1 n1 c1)/\w4.cell? ⟨w.heap.size+1,0,none⟩=some (.int .i64 y)/\w4.cell? ⟨w.heap.size+1,1,none⟩=some (.slice a2 n2 c2)/\Sz (N+1) w4 sv1 (iabs z)/\Sz (N+1) w4 sv2 (iabs o):=by assumption
   clear hbW hbox hc0 hc1 hc2 hc3 hsv1' hsv2
   obtain ⟨hbW,hbox,hc0,hc1,hc2,hc3,hsv1,hsv2⟩:=hS4
   go_wp2_with fail
   go_fit (compare_sz _ hsv1 hsv2 (by omega) (by omega))
   rintro e w8 ⟨rfl,hb8⟩
   rw [uh HSG]
   have hbW:=bk hb8 hbW
   have hbox:=hbox.later hb8
   have hc0:=ck hb8 hc0
   have hc1:=ck hb8 hc1
   have hc2:=ck hb8 hc2
   have hc3:=ck hb8 hc3
   have hsv1:=hsv1.later hb8
   have hsv2:=hsv2.later hb8
   go_wp2_with fail
   go_fit (zqn _ _ _)
   rintro e w5 ⟨rfl,hb5⟩
   go_wp2_with fail
   go_fit (zkx _ (hsv2.later hb5) (hsv1.later hb5) (uh HG) (by omega))
   rintro e w6 ⟨sv,rfl,hsv,hb6⟩
   go_wp2_with fail
   go_fit (zxg _ _ (Or.inl hsv) (uh HC))
   rintro e w7 ⟨⟨v7,rfl,hZ7⟩,hb7⟩
   obtain ⟨near7,a7,n7,c7,hv7⟩:=hZ7.shape
   subst hv7
   have hbx:Box w7 (w.heap.size+2):=((hbox.later hb5).later hb6).later hb7
   obtain ⟨⟨x0,g0⟩,⟨a0,n0,c0,g1⟩,gf⟩:=hbx.cells
   have hbl:Below w.heap.size w w7:=bk hb7 (bk hb6 (bk hb5 hbW))
   go_wp2
   obtain ⟨st0,st1⟩:=hbx.stored (.int .i64 near7) (.slice a7 n7 c7)
   exact bodyPost_ret (v:=.agg #[.int .i64 near7,.slice a7 n7 c7]) (by simp [results,Tryz.results111,go_sem,st0,st1]) rfl ⟨⟨_,rfl,((hZ7.mono (by omega)).stored hbx _ _).eq (uh HE)⟩,zqc hbl (by omega) _ _⟩
end Go.Proofs.YtkdobjmhammhbaaGreatDoor
