import Derived.Test.YtkdobjmhammhbaaGreatDoorMAJ
namespace Go.Proofs.YtkdobjmhammhbaaGreatDoor
set_option maxHeartbeats 16000000
set_option maxRecDepth 8000
open Go.RowKit
theorem news1 (w:World) (a:Nat) (ha:a<=1000):News 1 JE w [.int .i64 (a:Int)] [(a:Int)]:=News.cons (cs:=[.int .i64 (a:Int)]) (News.nil _ _ _) rfl ⟨rfl,by omega,by omega⟩
theorem news_cell (w:World) (t:TypeId) (news:List Value):∀ (j:Nat) (u:Value),news[j]? = some u->(w.alloc (.cells news.toArray t)).drew.cell? ⟨w.heap.size,j,none⟩=some u:=fun j u hu=>(zqe (X:=w) rfl _ _ _).trans (by rw [List.getElem?_toArray];exact hu)
theorem two_at {w:World}{g:Nat}{u v:Value} (h0:w.cell? ⟨g,0,none⟩=some u) (h1:w.cell? ⟨g,1,none⟩=some v):∀ (j:Nat) (x:Value),[u,v][j]? = some x->w.cell? ⟨g,j,none⟩=some x
 | 0,x,h=>by obtain rfl:u=x:=(by simpa using h);exact h0
 | 1,x,h=>by obtain rfl:v=x:=(by simpa using h);exact h1
theorem two_one (x y:Int):∀ u ∈ [Value.int .i64 x,.int .i64 y],u.oneCell'=true:=by
 intro v hv
 simp at hv
 rcases hv with rfl | rfl <;> rfl
theorem two_kd (x y:Int):∀ u ∈ [Value.int .i64 x,.int .i64 y],NoWord u:=by
 intro v hv z e
 simp at hv
 rcases hv with rfl | rfl <;> cases e
theorem one_zz (x:Int) (a:Option Addr) (n c:Nat):∀ u ∈ [Value.int .i64 x,.slice a n c,.int .i64 0,.slice none 0 0],u.oneCell'=true:=by
 intro v hv
 simp at hv
 rcases hv with rfl | rfl | rfl | rfl <;> rfl
theorem kd_zz (x:Int) (a:Option Addr) (n c:Nat):∀ u ∈ [Value.int .i64 x,.slice a n c,.int .i64 0,.slice none 0 0],NoWord u:=by
 intro v hv z e
 simp at hv
 rcases hv with rfl | rfl | rfl | rfl <;> cases e
theorem join_any {K gn gl n a b i:Nat}{F:Nat->Value}{X:Nat->List Int}{rv:Value}{rm:List Int}{u:Int} (y:Z4) (w W:World) (h:NjS w K gn gl n F F X rv rv rm W) (hz:Zr (K+1) W (vz y) u) (ha:a<n) (hb:b<n) (hn:n<=60) (hi:i<=300) (hl:rm.length=2*i) (h0:∀ k,(X k).length<=2*i) :
 Calls Tryz.prog 105 #[.pointer (some ⟨gn,0,none⟩),.int .i64 (a:Int),.int .i64 (b:Int),vz y] W fun e W'=>e=.returned (.tuple #[])/\∃ F' rv',NjS w K gn gl n F' F' (xj2 (xj2 (xj1 X a b) a (2*i)) b (2*i+1)) rv' rv' (rm++[u,0]) W':=by
 obtain ⟨V,hV⟩:∃ V,V=W.alloc (.cells #[.int .i64 y.a,.slice y.b y.c y.d] 37):=⟨_,rfl⟩
 obtain ⟨q,hq⟩:∃ q,q=W.heap.size:=⟨_,rfl⟩
 have kn:=zqa W (.cells #[.int .i64 y.a,.slice y.b y.c y.d] 37)
 have hx:=ZX.new hz
 rw [<- hV,<- hq] at hx
 rw [<- hV] at kn
 have HJ:=qh (h.later kn)
 have HX:=qh hx
 have HL:=qh (And.intro hl h0)
 have HFL:=qh (show ∀ k,k<n+4->∀ g,(F k).ownBlock=some g->g<V.heap.size from fun k hk g hg=>Nat.lt_of_lt_of_le (h.fam.lt hk hg) kn.size)
 have HGN:=qh (show gn<V.heap.size by obtain ⟨_,_,hh⟩:=h.bn.cell (o:=0) (by decide);exact Nat.lt_of_lt_of_le hh kn.size)
 obtain ⟨ra,rc,hrv⟩:=h.room.slice
 rw [hl] at hrv
 have c2:=(uh HJ).c2
 rw [hrv] at c2
 have HRV:=qh hrv
 have e2i:((2*i:Nat):Int)=2*(i:Int):=by omega
 obtain ⟨l,hll⟩:∃ l,l=2*i:=⟨_,rfl⟩
 rw [<- hll] at c2 HRV HL ⊢
 have HLL:=qh hll
 clear h hz kn hx hrv hl h0 e2i hll
 go_enter Tryz.func105,Tryz.ntmps105
 go_upto_region 1 with fail
 rw [<- hV,<- hq]
 clear hV hq
 go_upto_region 2 with fail
 go_cut [] (fun wx=>∃ F2,Hid (NjS w K gn gl n F2 F2 (xj1 X a b) rv rv rm wx)/\Hid (ZX (K+1) wx q y u))
 case first =>
  have HLO:=(uh HFL)
  refine zkk (by kernel_rfl) (by kernel_rfl) (by kernel_rfl) (fun L vals W1=>∃ f0 f1 x0 x1 d0 d1,J2 w K gn gl n q a b y u F X rv rm V f0 f1 x0 x1 d0 d1 L vals W1) (fun vals=>⟨F 0,F 1,X 0,X 1,F 0,F 1,by
   have eF:∀ {β:Type} (F:Nat -> β),upd (upd F 0 (F 0)) 1 (F 1)=F:=fun F=>by funext j;unfold upd;split <;> (try split) <;> first | rfl | (rename_i h;rw [h]) | (rename_i h _;rw [h])
   refine ⟨by rw [eF,eF];exact (uh HJ).later (Below.refl _ _).drew,Nat.le_refl _,(uh HX).keep (Below.refl _ _).drew,(fun _ _ h=>by cases h),(fun h=>by cases h),(fun h=>by cases h),fun _=>⟨rfl,rfl⟩,(fun h=>by cases h),fun _=>⟨rfl,rfl⟩,(fun h=>by cases h),fun _=>rfl,(fun h=>by cases h),fun _=>rfl,(fun h=>by cases h)⟩⟩) ?_ ?_
  ·rintro L vals W1 i' o' ⟨f0,f1,x0,x1,d0,d1,hG⟩ hL ho hdep
   have hi':i'<24:=(Array.getElem?_eq_some_iff.1 ho).1
   rcases (by omega:i'=0\/i'=1\/i'=2\/i'=3\/i'=4\/i'=5\/i'=6\/i'=7\/i'=8\/i'=9\/i'=10\/i'=11\/i'=12\/i'=13\/i'=14\/i'=15\/i'=16\/i'=17\/i'=18\/i'=19\/i'=20\/i'=21\/i'=22\/i'=23) with rfl | rfl | rfl | rfl | rfl | rfl | rfl | rfl | rfl | rfl | rfl | rfl | rfl | rfl | rfl | rfl | rfl | rfl | rfl | rfl | rfl | rfl | rfl | rfl
   ·obtain rfl:=Option.some.inj ho
    refine wpOp_step rfl (fun K hK' => ?_)
    simp only [frs]
    go_simp
    exact hK' _ _ ⟨_,(by show _=Act.put _ (some 14) _;simp only [frs]),f0,f1,x0,x1,d0,d1,hG.const (by decide) rfl⟩
   ·obtain rfl:=Option.some.inj ho
    refine wpOp_step rfl (fun K hK' => ?_)
    simp only [frs]
    go_simp
    exact hK' _ _ ⟨_,(by show _=Act.put _ (some 15) _;simp only [frs]),f0,f1,x0,x1,d0,d1,hG.const (by decide) rfl⟩
   ·obtain rfl:=Option.some.inj ho
    refine wpOp_step rfl (fun K hK' => ?_)
    simp only [frs]
    go_simp
    exact hK' _ _ ⟨_,(by show _=Act.put _ (some 16) _;simp only [frs]),f0,f1,x0,x1,d0,d1,hG.const (by decide) rfl⟩
   ·obtain rfl:=Option.some.inj ho
    have e2:=hG.cf 2 _ (hdep ⟨2,.data⟩ (by simp) rfl) rfl
    refine wpOp_step rfl (fun K hK' => ?_)
    simp only [frs]
    rw [e2]
    go_simp
    exact hK' _ _ ⟨_,(by show _=Act.put _ (some 17) _;simp only [frs,e2]),f0,f1,x0,x1,d0,d1,hG.const (by decide) rfl⟩
   ·obtain rfl:=Option.some.inj ho
    have e3:=hG.cf 3 _ (hdep ⟨3,.data⟩ (by simp) rfl) rfl
    refine wpOp_step rfl (fun K hK' => ?_)
    simp only [frs]
    rw [e3]
    go_simp
    exact hK' _ _ ⟨_,(by show _=Act.put _ (some 18) _;simp only [frs,e3]),f0,f1,x0,x1,d0,d1,hG.const (by decide) rfl⟩
   ·obtain rfl:=Option.some.inj ho
    have e4:=hG.cf 4 _ (hdep ⟨4,.data⟩ (by simp) rfl) rfl
    have hd:d0=F 0:=by
     cases hh:L 20 with
     | false=>exact hG.s20f hh
     | true=>have h1:=(hG.s20t hh).2.2;rw [hL] at h1;cases h1
    have h1:=hG.nj.c0
    rw [zqi _ _ (by decide),zqk] at h1
    rw [hd] at h1
    refine wpOp_step rfl (fun K hK' => ?_)
    simp only [frs]
    rw [e4]
    go_simp
    exact hK' _ _ ⟨_,(by show _=Act.put _ (some 19) _;simp only [frs,e4]),f0,f1,x0,x1,d0,d1,hG.const (by decide) rfl⟩
   ·obtain rfl:=Option.some.inj ho
    refine wpOp_step rfl (fun K hK' => ?_)
    simp only [frs]
    go_simp
    exact hK' _ _ ⟨_,(by show _=Act.put _ (some 20) _;simp only [frs]),f0,f1,x0,x1,d0,d1,hG.const (by decide) rfl⟩
   ·obtain rfl:=Option.some.inj ho
    refine wpOp_step rfl (fun K hK' => ?_)
    simp only [frs]
    go_simp
    exact hK' _ _ ⟨_,(by show _=Act.put _ (some 21) _;simp only [frs]),f0,f1,x0,x1,d0,d1,hG.const (by decide) rfl⟩
   ·obtain rfl:=Option.some.inj ho
    have e6:=hG.cf 6 _ (hdep ⟨6,.data⟩ (by simp) rfl) rfl
    have e7:=hG.cf 7 _ (hdep ⟨7,.data⟩ (by simp) rfl) rfl
    refine wpOp_step rfl (fun K hK' => ?_)
    simp only [frs]
    rw [e6,e7]
    go_simp
    exact hK' _ _ ⟨_,(by show _=Act.put _ (some 22) _;simp only [frs,e6,e7]),f0,f1,x0,x1,d0,d1,hG.alloc8⟩
   ·obtain rfl:=Option.some.inj ho
    have e5:=hG.cf 5 _ (hdep ⟨5,.data⟩ (by simp) rfl) rfl
    obtain ⟨g,e8,hg8,k0,k1⟩:=hG.a8 (hdep ⟨8,.data⟩ (by simp) rfl)
    have hown:=hG.nj.fam.own 0 (by omega)
    rw [zqi _ _ (by decide),zqk,zqi _ _ (by decide),zqk] at hown
    rw [(hG.p9f hL).1,(hG.p9f hL).2] at hown
    obtain ⟨v',W',hr,ho',hg',hc',hp'⟩:=run_app (P:=Tryz.prog) (ty:=55) (T:=55) Tryz.underlying55 info_ji rfl (by decide) (by decide) zk_i (JE.stays _ _) w.heap.size (F 0) hown g 2 [.int .i64 (a:Int),.int .i64 (b:Int)] (ys:=[(a:Int),(b:Int)]) (Nat.zero_lt_succ _) (news2 _ a b (by omega) (by omega)) (two_at k0 k1) (two_one _ _) (two_kd _ _) (by have:=(uh HL).2 0;have:=uh HLL;omega) (show 2<=1000 by omega) hG.nj.below.size
    refine wpOp_app rfl rfl (.tmp 19) (.tmp 22) 55 rfl (v1:=F 0) (v2:=.slice (some ⟨g,0,none⟩) 2 2) (by simp only [frs];exact e5) (by simp only [frs];exact e8) hr ?_
    exact ⟨v',rfl,v',f1,X 0++[(a:Int),(b:Int)],x1,d0,d1,hG.app9 HLO hL ho' hg' hc' hp'⟩
   ·obtain rfl:=Option.some.inj ho
    refine wpOp_step rfl (fun K hK' => ?_)
    simp only [frs]
    go_simp
    exact hK' _ _ ⟨_,(by show _=Act.put _ (some 24) _;simp only [frs]),f0,f1,x0,x1,d0,d1,hG.const (by decide) rfl⟩
   ·obtain rfl:=Option.some.inj ho
    have e10:=hG.cf 10 _ (hdep ⟨10,.data⟩ (by simp) rfl) rfl
    refine wpOp_step rfl (fun K hK' => ?_)
    simp only [frs]
    rw [e10]
    go_simp
    exact hK' _ _ ⟨_,(by show _=Act.put _ (some 25) _;simp only [frs,e10]),f0,f1,x0,x1,d0,d1,hG.const (by decide) rfl⟩
   ·obtain rfl:=Option.some.inj ho
    have e11:=hG.cf 11 _ (hdep ⟨11,.data⟩ (by simp) rfl) rfl
    refine wpOp_step rfl (fun K hK' => ?_)
    simp only [frs]
    rw [e11]
    go_simp
    exact hK' _ _ ⟨_,(by show _=Act.put _ (some 26) _;simp only [frs,e11]),f0,f1,x0,x1,d0,d1,hG.const (by decide) rfl⟩
   ·obtain rfl:=Option.some.inj ho
    have e12:=hG.cf 12 _ (hdep ⟨12,.data⟩ (by simp) rfl) rfl
    have hd:d1=F 1:=by
     cases hh:L 23 with
     | false=>exact hG.s23f hh
     | true=>have h1:=(hG.s23t hh).2.2;rw [hL] at h1;cases h1
    have h1:=hG.nj.c1
    rw [zqk] at h1
    rw [hd] at h1
    refine wpOp_step rfl (fun K hK' => ?_)
    simp only [frs]
    rw [e12]
    go_simp
    exact hK' _ _ ⟨_,(by show _=Act.put _ (some 27) _;simp only [frs,e12]),f0,f1,x0,x1,d0,d1,hG.const (by decide) rfl⟩
   ·obtain rfl:=Option.some.inj ho
    refine wpOp_step rfl (fun K hK' => ?_)
    simp only [frs]
    go_simp
    exact hK' _ _ ⟨_,(by show _=Act.put _ (some 28) _;simp only [frs]),f0,f1,x0,x1,d0,d1,hG.const (by decide) rfl⟩
   ·obtain rfl:=Option.some.inj ho
    refine wpOp_step rfl (fun K hK' => ?_)
    simp only [frs]
    go_simp
    exact hK' _ _ ⟨_,(by show _=Act.put _ (some 29) _;simp only [frs]),f0,f1,x0,x1,d0,d1,hG.const (by decide) rfl⟩
   ·obtain rfl:=Option.some.inj ho
    have e14:=hG.cf 14 _ (hdep ⟨14,.data⟩ (by simp) rfl) rfl
    have e15:=hG.cf 15 _ (hdep ⟨15,.data⟩ (by simp) rfl) rfl
    refine wpOp_step rfl (fun K hK' => ?_)
    simp only [frs]
    rw [e14,e15]
    go_simp
    exact hK' _ _ ⟨_,(by show _=Act.put _ (some 30) _;simp only [frs,e14,e15]),f0,f1,x0,x1,d0,d1,hG.alloc16⟩
   ·obtain rfl:=Option.some.inj ho
    have e13:=hG.cf 13 _ (hdep ⟨13,.data⟩ (by simp) rfl) rfl
    obtain ⟨g,e16,hg8,k0,k1⟩:=hG.a16 (hdep ⟨16,.data⟩ (by simp) rfl)
    have hown:=hG.nj.fam.own 1 (by omega)
    rw [zqk,zqk] at hown
    rw [(hG.p17f hL).1,(hG.p17f hL).2] at hown
    obtain ⟨v',W',hr,ho',hg',hc',hp'⟩:=run_app (P:=Tryz.prog) (ty:=55) (T:=55) Tryz.underlying55 info_ji rfl (by decide) (by decide) zk_i (JE.stays _ _) w.heap.size (F 1) hown g 2 [.int .i64 (b:Int),.int .i64 (a:Int)] (ys:=[(b:Int),(a:Int)]) (Nat.zero_lt_succ _) (news2 _ b a (by omega) (by omega)) (two_at k0 k1) (two_one _ _) (two_kd _ _) (by have:=(uh HL).2 1;have:=uh HLL;omega) (show 2<=1000 by omega) hG.nj.below.size
    refine wpOp_app rfl rfl (.tmp 27) (.tmp 30) 55 rfl (v1:=F 1) (v2:=.slice (some ⟨g,0,none⟩) 2 2) (by simp only [frs];exact e13) (by simp only [frs];exact e16) hr ?_
    exact ⟨v',rfl,f0,v',x0,X 1++[(b:Int),(a:Int)],d0,d1,hG.app17 HLO hL ho' hg' hc' hp'⟩
   ·obtain rfl:=Option.some.inj ho
    have e0:=hG.cf 0 _ (hdep ⟨0,.data⟩ (by simp) rfl) rfl
    refine wpOp_step rfl (fun K hK' => ?_)
    simp only [frs]
    rw [e0]
    go_simp
    exact hK' _ _ ⟨_,(by show _=Act.put _ (some 32) _;simp only [frs,e0]),f0,f1,x0,x1,d0,d1,hG.const (by decide) rfl⟩
   ·obtain rfl:=Option.some.inj ho
    have e18:=hG.cf 18 _ (hdep ⟨18,.data⟩ (by simp) rfl) rfl
    refine wpOp_step rfl (fun K hK' => ?_)
    simp only [frs]
    rw [e18]
    go_simp
    exact hK' _ _ ⟨_,(by show _=Act.put _ (some 33) _;simp only [frs,e18]),f0,f1,x0,x1,d0,d1,hG.const (by decide) rfl⟩
   ·obtain rfl:=Option.some.inj ho
    have e19:=hG.cf 19 _ (hdep ⟨19,.data⟩ (by simp) rfl) rfl
    have hv:=hdep ⟨9,.data⟩ (by simp) rfl
    obtain ⟨e9,_,sa,sn,sc,hs⟩:=hG.p9t hv
    obtain ⟨⟨w0,z0⟩,z1,hlt⟩:=hG.nj.bn.cell (o:=0) (by decide)
    refine wpOp_step rfl (fun K hK' => ?_)
    simp only [frs]
    rw [e19,e9,hs]
    go_simp
    have hN:=hG.st20 hv (hdep ⟨5,.phase⟩ (by simp) rfl) (fun g hg=>by have:=uh HGN;omega)
    rw [show W1.setCell ⟨gn,0,none⟩ f0=W1.setCell ⟨gn,0,none⟩ (.slice sa sn sc) by rw [hs]] at hN
    exact hK' _ _ ⟨undef,(by show _=Act.put _ (none) _;simp only [frs,e19,e9,hs]),f0,f1,x0,x1,f0,d1,hN⟩
   ·obtain rfl:=Option.some.inj ho
    have e1:=hG.cf 1 _ (hdep ⟨1,.data⟩ (by simp) rfl) rfl
    refine wpOp_step rfl (fun K hK' => ?_)
    simp only [frs]
    rw [e1]
    go_simp
    exact hK' _ _ ⟨_,(by show _=Act.put _ (some 34) _;simp only [frs,e1]),f0,f1,x0,x1,d0,d1,hG.const (by decide) rfl⟩
   ·obtain rfl:=Option.some.inj ho
    have e21:=hG.cf 21 _ (hdep ⟨21,.data⟩ (by simp) rfl) rfl
    refine wpOp_step rfl (fun K hK' => ?_)
    simp only [frs]
    rw [e21]
    go_simp
    exact hK' _ _ ⟨_,(by show _=Act.put _ (some 35) _;simp only [frs,e21]),f0,f1,x0,x1,d0,d1,hG.const (by decide) rfl⟩
   ·obtain rfl:=Option.some.inj ho
    have e22:=hG.cf 22 _ (hdep ⟨22,.data⟩ (by simp) rfl) rfl
    have hv:=hdep ⟨17,.data⟩ (by simp) rfl
    obtain ⟨e17,_,sa,sn,sc,hs⟩:=hG.p17t hv
    obtain ⟨⟨w0,z0⟩,z1,hlt⟩:=hG.nj.bn.cell (o:=1) (by decide)
    refine wpOp_step rfl (fun K hK' => ?_)
    simp only [frs]
    rw [e22,e17,hs]
    go_simp
    have hN:=hG.st23 hv (hdep ⟨13,.phase⟩ (by simp) rfl) (fun g hg=>by have:=uh HGN;omega)
    rw [show W1.setCell ⟨gn,1,none⟩ f1=W1.setCell ⟨gn,1,none⟩ (.slice sa sn sc) by rw [hs]] at hN
    exact hK' _ _ ⟨undef,(by show _=Act.put _ (none) _;simp only [frs,e22,e17,hs]),f0,f1,x0,x1,d0,f1,hN⟩
  ·rintro L vals W1 ⟨f0,f1,x0,x1,d0,d1,hG⟩ hall
   have h9:=hG.p9t (hall 9 (by decide))
   have h17:=hG.p17t (hall 17 (by decide))
   have h20:=hG.s20t (hall 20 (by decide))
   have h23:=hG.s23t (hall 23 (by decide))
   have hn:=hG.nj
   rw [h20.1,h23.1,h9.2.1,h17.2.1] at hn
   have HN:=qh hn
   have HZ:=qh hG.zx
   clear hn hG hall h9 h17 h20 h23
   simp only [frs]
   go_wp2
   go_meet
   exact ⟨_,HN,HZ⟩
 case rest =>
  clear HJ HX c2 HFL HGN
  obtain ⟨F2,HJ,HX⟩:=hcut
  obtain ⟨Z,rfl⟩:∃ X,X=wc:=⟨_,rfl⟩
  have c2:=(uh HJ).c2
  rw [uh HRV] at c2
  have x0:=(uh HX).c0
  have x1:=(uh HX).c1
  have hbs:w.heap.size<=Z.heap.size:=(uh HJ).below.size
  have hrl:rm.length<=100000000:=by have:=(uh HL).1;have:=uh HLL;omega
  have HZ:=qh (uh HX).z
  obtain ⟨_,_,hgz⟩:=(uh HJ).bn.cell (o:=2) (by decide)
  have hgz1:gn≠Z.heap.size:=Nat.ne_of_lt hgz
  have hqz1:q≠Z.heap.size:=Nat.ne_of_lt (zko (uh HX).box)
  go_upto_region 3 with fail
  go_cut [] (fun wx=>∃ rv',Hid (NjS w K gn gl n F2 F2 (xj1 X a b) rv' rv' (rm++[u,0]) wx))
  case first =>
   go_region_law (refine step_app (ys:=[u,0]) rfl (.tmp 40) (.tmp 43) 129 rfl Tryz.underlying129 info_z rfl (by decide) (by decide) (kd_z 0 none 0 0) (zqs _ _) w.heap.size rv (by rw [uh HRV];rfl) ((uh HJ).room.later (zqs _ _) (zqa Z _).drew) Z.heap.size 2 [.int .i64 y.a,.slice y.b y.c y.d,.int .i64 0,.slice none 0 0] (Nat.zero_lt_succ _) (News.cons (cs:=[.int .i64 y.a,.slice y.b y.c y.d]) (News.cons (cs:=[.int .i64 0,.slice none 0 0]) (News.nil _ _ _) rfl ⟨_,_,_,_,rfl,Zr.near _ (by decide) (by decide)⟩) rfl ⟨_,_,_,_,rfl,(uh HZ).later (zqa Z _).drew⟩) (news_cell Z _ _) (one_zz _ _ _ _) (kd_zz _ _ _ _) rfl hrl (show 2<=1000 by omega) (Nat.le_trans hbs (zqa Z _).drew.size) ?_;intro v' W' ho hg hc hp;obtain ⟨va,vc,rfl⟩:=ho.slice;have HJ:=qh (((uh HJ).later (zqa Z _).drew).appR ho hg hc);have c2:=(uh HJ).c2;obtain ⟨⟨w0,e0⟩,f0,hlt⟩:=(uh HJ).bn.cell (o:=2) (by decide);clear hg hc hp)
   all_goals
    go_wp2
    go_meet
    exact ⟨_,qh ((uh HJ).put (o:=2) (fun z e=>by cases e) rfl rfl (by simp) (by decide) (fun _=>rfl))⟩
  case rest =>
   clear HJ HX c2 x0 x1 hbs hrl HZ hgz hgz1 hqz1
   obtain ⟨rv',HJ⟩:=hcut
   obtain ⟨Z1,rfl⟩:∃ X,X=wc:=⟨_,rfl⟩
   have HXL:=qh (show ∀ k,(xj1 X a b k).length<=1000 from fun k=>by
    unfold xj1 upd
    have h1:=(uh HL).2
    have h2:=uh HLL
    have:=h1 0
    have:=h1 1
    have:=h1 k
    split
    ·simp;omega
    ·split
     ·simp;omega
     ·omega)
   have c3:=(uh HJ).c3
   obtain ⟨fa,fc,hfv⟩:=((uh HJ).fam.own (a+2) (by omega)).slice
   have cl:=(uh HJ).cl a (by omega)
   rw [hfv] at cl
   have HFV:=qh hfv
   have hxl:((xj1 X a b) (a+2)).length<=100000000:=by have:=uh HXL (a+2);omega
   have hbs:w.heap.size<=Z1.heap.size:=(uh HJ).below.size
   obtain ⟨_,_,hgz⟩:=(uh HJ).bn.cell (o:=3) (by decide)
   have hgz1:gn≠Z1.heap.size:=Nat.ne_of_lt hgz
   obtain ⟨_,_,hgl⟩:=(uh HJ).bl.cell (o:=a) (by omega)
   have cl':=ck (zqa Z1 (.cells #[.int .i64 (l:Int)] 3)) cl
   have c3':=ck (zqa Z1 (.cells #[.int .i64 (l:Int)] 3)) c3
   have hv0:(a:Int)<(n:Int):=by omega
   have hl5:l+1<=1000:=by have:=uh HLL;omega
   clear hfv hgz hgl
   go_upto_region 4 with fail
   go_cut [] (fun wx=>∃ F3,Hid (NjS w K gn gl n F3 F3 (xj2 (xj1 X a b) a l) rv' rv' (rm++[u,0]) wx))
   case first =>
    go_region_law (refine step_app (ys:=[(l:Int)]) rfl (.tmp 58) (.tmp 60) 55 rfl Tryz.underlying55 info_ji rfl (by decide) (by decide) zk_i (JE.stays _ _) w.heap.size (F2 (a+2)) (by rw [uh HFV];rfl) (((uh HJ).fam.own (a+2) (by omega)).later (JE.stays _ _) (zqa Z1 _).drew) Z1.heap.size 1 [.int .i64 ((l:Int))] (Nat.zero_lt_succ _) (news1 _ l (by omega)) (news_cell Z1 _ _) (one_i _) (JE.kinds _) rfl hxl (show 1<=1000 by omega) (Nat.le_trans hbs (zqa Z1 _).drew.size) ?_;intro v' W' ho hg hc hp;obtain ⟨va,vc,rfl⟩:=ho.slice;have HJ:=qh (((uh HJ).later (zqa Z1 _).drew).app (by omega) ho hg hc hp);have c3:=(uh HJ).c3;have cl:=(uh HJ).cl a (by omega);rw [uh HFV] at cl;obtain ⟨⟨w0,e0⟩,f0,hlt⟩:=(uh HJ).bl.cell (o:=a) (by omega);clear hg hc hp)
    all_goals
     go_wp2
     go_meet
     have hh:=(uh HJ).putL (k:=a) (u:=.slice va (xj1 X a b (a+2)++[(l:Int)]).length vc) (fun z e=>by cases e) (by omega)
     rw [show (xj1 X a b (a+2)++[(l:Int)]).length=(xj1 X a b (a+2)).length+1 by simp] at hh
     exact ⟨_,qh hh⟩
   case rest =>
    clear HJ HFV c3 cl hxl hbs hgz1
    obtain ⟨F3,HJ⟩:=hcut
    obtain ⟨Z2,rfl⟩:∃ X,X=wc:=⟨_,rfl⟩
    have HXL:=qh (show ∀ k,(xj2 (xj1 X a b) a l k).length<=2000 from fun k=>by
     unfold xj2 upd
     have h1:=uh HXL k
     have h2:=uh HXL (a+2)
     split
     ·simp;omega
     ·omega)
    have c3:=(uh HJ).c3
    obtain ⟨fa,fc,hfv⟩:=((uh HJ).fam.own (b+2) (by omega)).slice
    have cl:=(uh HJ).cl b (by omega)
    rw [hfv] at cl
    have HFV:=qh hfv
    have hxl:((xj2 (xj1 X a b) a l) (b+2)).length<=100000000:=by have:=uh HXL (b+2);omega
    have hbs:w.heap.size<=Z2.heap.size:=(uh HJ).below.size
    obtain ⟨_,_,hgz⟩:=(uh HJ).bn.cell (o:=3) (by decide)
    have hgz1:gn≠Z2.heap.size:=Nat.ne_of_lt hgz
    obtain ⟨_,_,hgl⟩:=(uh HJ).bl.cell (o:=b) (by omega)
    have cl':=ck (zqa Z2 (.cells #[.int .i64 ((l:Int)+1)] 3)) cl
    have c3':=ck (zqa Z2 (.cells #[.int .i64 ((l:Int)+1)] 3)) c3
    have hv0:(b:Int)<(n:Int):=by omega
    have hl5:l+1<=1000:=by have:=uh HLL;omega
    have ew:IntKind.i64.wrap ((l:Int)+1)=(l:Int)+1:=by rw [wrapI64];unfold wrap64;omega
    clear hfv hgz hgl
    go_upto_region 5 with fail
    go_region_law (refine step_app (ys:=[((l:Int)+1)]) rfl (.tmp 74) (.tmp 77) 55 rfl Tryz.underlying55 info_ji rfl (by decide) (by decide) zk_i (JE.stays _ _) w.heap.size (F3 (b+2)) (by rw [uh HFV];rfl) (((uh HJ).fam.own (b+2) (by omega)).later (JE.stays _ _) (zqa Z2 _).drew) Z2.heap.size 1 [.int .i64 (((l:Int)+1))] (Nat.zero_lt_succ _) (news1 _ (l+1) (by omega)) (news_cell Z2 _ _) (one_i _) (JE.kinds _) rfl hxl (show 1<=1000 by omega) (Nat.le_trans hbs (zqa Z2 _).drew.size) ?_;intro v' W' ho hg hc hp;obtain ⟨va,vc,rfl⟩:=ho.slice;have HJ:=qh (((uh HJ).later (zqa Z2 _).drew).app (by omega) ho hg hc hp);have c3:=(uh HJ).c3;have cl:=(uh HJ).cl b (by omega);rw [uh HFV] at cl;obtain ⟨⟨w0,e0⟩,f0,hlt⟩:=(uh HJ).bl.cell (o:=b) (by omega);clear hg hc hp)
    all_goals
     go_wp2
     have hh:=(uh HJ).putL (k:=b) (u:=.slice va (xj2 (xj1 X a b) a l (b+2)++[((l:Int)+1)]).length vc) (fun z e=>by cases e) (by omega)
     rw [show (xj2 (xj1 X a b) a l (b+2)++[((l:Int)+1)]).length=(xj2 (xj1 X a b) a l (b+2)).length+1 by simp] at hh
     exact bodyPost_end (results_none rfl _ _ _) rfl ⟨rfl,_,_,hh⟩
def XN (A:List (Nat×Nat)):Nat->Nat->List Int
 | 0=>fun _=>[]
 | i+1=>xj2 (xj2 (xj1 (XN A i) (A.getD i (0,0)).1 (A.getD i (0,0)).2) (A.getD i (0,0)).1 (2*i)) (A.getD i (0,0)).2 (2*i+1)
theorem XN_from (A:List (Nat×Nat)) (i:Nat):XN A (i+1) 0=XN A i 0++[((A.getD i (0,0)).1:Int),((A.getD i (0,0)).2:Int)]:=by
 simp only [XN,xj2,xj1]
 rw [zqi _ _ (by omega),zqi _ _ (by omega),zqi _ _ (by omega),zqk]
theorem XN_to (A:List (Nat×Nat)) (i:Nat):XN A (i+1) 1=XN A i 1++[((A.getD i (0,0)).2:Int),((A.getD i (0,0)).1:Int)]:=by
 simp only [XN,xj2,xj1]
 rw [zqi _ _ (by omega),zqi _ _ (by omega),zqk]
theorem XN_lv (A:List (Nat×Nat)) (i v:Nat):XN A (i+1) (v+2)=XN A i (v+2)++((if v=(A.getD i (0,0)).1 then [((2*i:Nat):Int)] else [])++(if v=(A.getD i (0,0)).2 then [((2*i+1:Nat):Int)] else [])):=by
 simp only [XN,xj2]
 generalize (A.getD i (0,0)).1=a
 generalize (A.getD i (0,0)).2=b
 have hx:∀ k,xj1 (XN A i) a b (k+2)=XN A i (k+2):=fun k=>by unfold xj1;rw [zqi _ _ (by omega),zqi _ _ (by omega)]
 by_cases e1:v=b
 ·subst e1
  rw [zqk,if_pos rfl]
  by_cases e2:v=a
  ·subst e2;rw [zqk,hx,if_pos rfl];simp
  ·rw [zqi _ _ (by omega),hx,if_neg e2];simp
 ·rw [zqi _ _ (by omega),if_neg e1]
  by_cases e2:v=a
  ·subst e2;rw [zqk,hx,if_pos rfl];simp
  ·rw [zqi _ _ (by omega),hx,if_neg e2];simp
theorem XN_len (A:List (Nat×Nat)) (i k:Nat):(XN A i k).length<=2*i:=by
 induction i with
 | zero=>simp [XN]
 | succ i ih =>
  match k,ih with
  | 0,ih=>rw [XN_from];simp;omega
  | 1,ih=>rw [XN_to];simp;omega
  | v+2,ih=>rw [XN_lv];split <;> split <;> simp <;> omega
theorem rm0_take {U:List Int}{i:Nat}{u:Int} (h:U[i]? = some u):rm0 (U.take (i+1))=rm0 (U.take i)++[u,0]:=by rw [tkn h,rm0_snoc]
theorem info_is:(Tryz.prog.info? 55).map (fun i=>(i.zero,i.size,i.bytes))=some (some (.slice none 0 0),1,24):=by kernel_rfl
theorem made_one {w:World}{B n i:Nat}{z:Value}{t:TypeId}{f:Nat×Nat} (h:w.heap[B]? = some (.cells (madeCells #[z] n) t f)) (hi:i<n):w.cell? ⟨B,i,none⟩=some z:=by
 have e:(madeCells #[z] n)[i]? = some z:=by
  rw [<- Array.getElem?_toList,toList_madeCells_one,List.getElem?_replicate,if_pos hi]
 simp [World.cell?,h,e]
theorem Rows.z2 {K:Nat}{w:World}{a:Option Addr}{n c i:Nat}{L:List Int}{s:Int} (h:Rows 2 (ZE K) w (.slice a n c) L) (hx:L[i]? = some s):∃ b o y,a=some ⟨b,o,none⟩/\w.cell? ⟨b,o+i*2,none⟩=some (.int .i64 y.a)/\w.cell? ⟨b,o+i*2+1,none⟩=some (.slice y.b y.c y.d)/\Zr K w (vz y) s:=by
 obtain ⟨b,o,rfl,cs,_,hcs,x1,x2,x3,x4,rfl,hz⟩:=h.at hx
 exact ⟨b,o,⟨x1,x2,x3,x4⟩,rfl,by simpa using hcs 0 _ rfl,hcs 1 _ rfl,hz⟩
theorem nj_start {w W:World}{gn gl n:Nat} (K:Nat) (hb:Below w.heap.size w W) (hl:W.heap[gl]? = some (.cells (madeCells #[Value.slice none 0 0] n) 55 (0,0))) (hn:W.heap[gn]? = some (.cells #[.slice none 0 0,.slice none 0 0,.slice none 0 0,.slice (some ⟨gl,0,none⟩) n n] 180 (0,0))) (hw:w.heap.size<=gn/\w.heap.size<=gl) :
 NjS w K gn gl n (fun _=>.slice none 0 0) (fun _=>.slice none 0 0) (fun _=>[]) (.slice none 0 0) (.slice none 0 0) [] W:=by
 refine ⟨hb,⟨fun k _=>OwnR.nil _ _ _ _ _ _,fun k k' _ _ _ g hg=>by simp [Value.ownBlock] at hg⟩,OwnR.nil _ _ _ _ _ _,by simp [World.cell?,hn],by simp [World.cell?,hn],by simp [World.cell?,hn],by simp [World.cell?,hn],fun k hk=>made_one hl hk,⟨_,hn,rfl,fun u hu z e => ?_⟩,⟨_,hl,by simp [size_madeCells],fun u hu z e => ?_⟩,hw⟩
 ·simp at hu
  rcases hu with rfl | rfl <;> cases e
 ·rw [toList_madeCells_one] at hu
  rw [(List.mem_replicate.1 hu).2] at e
  cases e
theorem netOf_any {K N n:Nat}{D:Int}{v uv:Value}{L:List (Int×Int×Int×Int)}{U:List Int} (w:World) (h:Rows 10 (ArE (RsE N D)) w v L) (hu:Rows 2 (ZE (K+1)) w uv U) (hlen:U.length=L.length) (hL:∀ x ∈ L,¬ badArc n x) (hn:n<=60) (hl:L.length<=300) :
 Calls Tryz.prog 59 #[.int .i64 (n:Int),v,uv] w fun e W=>∃ gn gl F rv,e=.returned (.pointer (some ⟨gn,0,none⟩))/\NjS w K gn gl n F F (XN (arcN L) L.length) rv rv (rm0 U) W:=by
 obtain ⟨la,lc,rfl⟩:=h.shape
 obtain ⟨ua,uc,rfl⟩:=hu.shape
 obtain ⟨m,hm⟩:∃ m,m=L.length:=⟨_,rfl⟩
 rw [hlen,<- hm] at hu
 rw [<- hm] at h hl
 have hmk:=zjk (P:=Tryz.prog) 73 55 _ 1 24 Tryz.underlying73 info_is .i64 .i64 n (by omega) (by omega)
 obtain ⟨g,hg⟩:∃ g,g=w.heap.size:=⟨_,rfl⟩
 obtain ⟨V,hV⟩:∃ V,V=(w.alloc (.cells (madeCells #[Value.slice none 0 0] n) 55)).alloc (.cells #[.slice none 0 0,.slice none 0 0,.slice none 0 0,.slice (some ⟨g,0,none⟩) n n] 180):=⟨_,rfl⟩
 have s1:=zxc w (.cells (madeCells #[Value.slice none 0 0] n) 55)
 rw [<- hg] at s1
 have hJ:NjS w K (g+1) g n (fun _=>.slice none 0 0) (fun _=>.slice none 0 0) (fun _=>[]) (.slice none 0 0) (.slice none 0 0) [] V:=by
  rw [hV]
  refine nj_start K (bk (zqa _ _) (zqa _ _)) ?_ ?_ (by omega)
  ·rw [hg]
   exact heap_keep (zqa _ _) (heap_new (w:=w) rfl _ _)
  ·rw [<- s1]
   exact heap_alloc_new _ _
 have HJ:=qh hJ
 have HR:=qh h
 have HU:=qh hu
 have HL:=qh hL
 have HM:=qh (And.intro hm (show U.length=m by omega))
 rw [hlen,<- hm]
 clear h hu hJ s1 hlen hL
 go_enter Tryz.func59,Tryz.ntmps59
 go_upto_region 2 with fail
 rw [<- hg,<- hV]
 clear hV hg hmk
 go_wp2_with fail
 go_loopg [8,9,16] m (fun gk _ _ iv wr=>∃ (i:Nat) (F:Nat->Value) (rv:Value),i<=m/\gk=m - i/\iv=.int .i64 (i:Int)/\Hid (NjS w K (g+1) g n F F (XN (arcN L) i) rv rv (rm0 (U.take i)) wr))
 case atStart=>exact ⟨0,_,_,by omega,by omega,rfl,HJ⟩
 case round =>
  clear HJ
  obtain ⟨i,F,rv,hi,hgk,rfl,HJ⟩:=hrel
  by_cases hil:i<m
  ·obtain ⟨⟨fr,to',cp,co⟩,hx⟩:∃ x,L[i]? = some x:=⟨L[i]'(by have:=(uh HM).1;omega),by simp⟩
   obtain ⟨uu,hu⟩:∃ x,U[i]? = some x:=⟨U[i]'(by have:=(uh HM).2;omega),by simp⟩
   have hbad:=uh HL _ (List.mem_of_getElem? hx)
   unfold badArc at hbad
   simp only at hbad
   obtain ⟨a,rfl⟩:∃ a:Nat,fr=(a:Int):=⟨fr.toNat,by omega⟩
   obtain ⟨b,rfl⟩:∃ b:Nat,to'=(b:Int):=⟨to'.toNat,by omega⟩
   obtain ⟨q,o,x,z,rfl,⟨c0,c1,c2,c3⟩,_,_⟩:=(uh HR).rarc hx
   obtain ⟨q',o',y,rfl,k0,k1,hz⟩:=(uh HU).z2 hu
   simp only at c0 c1
   have hbl:=(uh HJ).below
   have c0:=ck hbl c0
   have c1:=ck hbl c1
   obtain ⟨d0,d1,d2,d3⟩:=c2.keep hbl
   obtain ⟨e0,e1,e2,e3⟩:=c3.keep hbl
   have ha:a<n:=by omega
   have hb:b<n:=by omega
   have HXN:=qh (show XN (arcN L) (i+1)=xj2 (xj2 (xj1 (XN (arcN L) i) a b) a (2*i)) b (2*i+1) by
    have e:(arcN L).getD i (0,0)=(a,b):=by rw [List.getD_eq_getElem?_getD];simp [arcN,hx]
    simp only [XN,e])
   have HRM:=qh (And.intro (rm0_take hu) (show (rm0 (U.take i)).length=2*i by rw [rm0_len,List.length_take];have:=(uh HM).2;omega))
   have hil':(i:Int)<(m:Int):=by omega
   have him:(i:Int)+1<=1000:=by omega
   obtain ⟨V,hV⟩:∃ V,V=wr.alloc (.cells #[.int .i64 (a:Int),.int .i64 (b:Int),.int .i64 x.a,.slice x.b x.c x.d,.int .i64 x.e,.slice x.f x.g x.h,.int .i64 z.a,.slice z.b z.c z.d,.int .i64 z.e,.slice z.f z.g z.h] 93):=⟨_,rfl⟩
   obtain ⟨p,hp⟩:∃ q,q=wr.heap.size:=⟨_,rfl⟩
   have hn':=arc_new wr a b x z
   have kn:=zqa wr (.cells #[.int .i64 (a:Int),.int .i64 (b:Int),.int .i64 x.a,.slice x.b x.c x.d,.int .i64 x.e,.slice x.f x.g x.h,.int .i64 z.a,.slice z.b z.c z.d,.int .i64 z.e,.slice z.f z.g z.h] 93)
   simp only [<- hV,<- hp] at hn'
   rw [<- hV] at kn
   have HJ:=qh ((uh HJ).later kn)
   have hbl:=(uh HJ).below
   have k0:=ck hbl k0
   have k1:=ck hbl k1
   have HZ:=qh (hz.later hbl)
   clear hx hu c2 c3 kn hz hbl hbad
   go_upto_region 5 with fail
   rw [<- hV,<- hp]
   obtain ⟨n0,n1,_,_⟩:=hn'
   clear hV hp c0 c1 d0 d1 d2 d3 e0 e1 e2 e3
   go_region_with (go_at_call 105;go_fit (join_any y w _ ((uh HJ).later (Below.refl _ _).drew) ((uh HZ).later (Below.refl _ _).drew) ha hb hn (show i<=300 by omega) (uh HRM).2 (fun k=>XN_len _ _ _));rintro e W1 ⟨rfl,F',rv',hJ⟩)
   all_goals
    have HJ:=qh hJ
    clear hJ n0 n1 k0 k1 HZ
    go_wp2
    go_roundg (m - (i+1))
    case measure=>omega
    case rel=>exact ⟨i+1,F',rv',by omega,rfl,by go_num,qh (by rw [uh HXN,(uh HRM).1];exact uh HJ)⟩
  ·obtain rfl:m=i:=by omega
   have HT:=qh (show U.take m=U by rw [List.take_of_length_le (by have:=(uh HM).2;omega)])
   clear hil hi hgk
   go_wp2
   go_ret
   exact ⟨_,_,F,rv,rfl,by have h1:=uh HJ;rw [uh HT] at h1;exact h1⟩
end Go.Proofs.YtkdobjmhammhbaaGreatDoor
