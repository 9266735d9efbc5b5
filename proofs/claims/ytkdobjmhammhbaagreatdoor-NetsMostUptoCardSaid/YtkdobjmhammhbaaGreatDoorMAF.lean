import Derived.Test.YtkdobjmhammhbaaGreatDoorMAA
namespace Go.Proofs.YtkdobjmhammhbaaGreatDoor
set_option maxHeartbeats 16000000
set_option maxRecDepth 8000
open Go.RowKit
theorem zko {w:World}{r:Nat} (h:Box w r):r<w.heap.size:=by
 obtain ⟨_,_,_,_,h⟩:=h
 exact (Array.getElem?_eq_some_iff.1 h).1
theorem box_aside {w:World}{r q:Nat} (h:Box w r) (hne:r≠q) (u u':Value):Box ((w.setCell ⟨q,0,none⟩ u).setCell ⟨q,1,none⟩ u') r:=(h.other hne u).other hne u'
structure DvG (K:Nat) (V:World) (u0 u1 u2:Value) (d q r:Int) (L:Nat->Bool) (vals:Nat->Value) (w:World):Prop where
 b:Below V.heap.size V w
 f0:L 0=true->vals 0=u0
 f1:L 1=true->vals 1=u1
 f2:L 2=true->vals 2=u2
 f3:L 3=true->Zr (K+1) w (vals 3) d
 f4:L 4=true->∃ x y,vals 4=.tuple #[vz x,vz y,.bool true]/\Zr (K+1) w (vz x) q/\Zr (K+1) w (vz y) r
 f5:L 5=true->∃ x y,vals 5=.tuple #[vz x,vz y,.bool true]/\Zr (K+1) w (vz x) q/\Zr (K+1) w (vz y) r
 f6:L 6=true->∃ x,vals 6=vz x/\Zr (K+1) w (vz x) q
 f7:L 7=true->∃ x,vals 7=vz x/\Zr (K+1) w (vz x) r
 f8:L 8=true->vals 8=.bool true
 f9:L 9=true->∃ g,vals 9=.pointer (some ⟨g,0,none⟩)/\V.heap.size<=g/\Box w g
 f10:L 10=true->∃ g,vals 10=.pointer (some ⟨g,0,none⟩)/\V.heap.size<=g/\Box w g
 ap:L 9=true->L 10=true->vals 9≠vals 10
 f11:L 11=true->L 9=true/\∃ g x,vals 9=.pointer (some ⟨g,0,none⟩)/\w.cell? ⟨g,0,none⟩=some (.int .i64 x.a)/\w.cell? ⟨g,1,none⟩=some (.slice x.b x.c x.d)/\Zr (K+1) w (vz x) q
theorem DvG.later {K:Nat}{V:World}{u0 u1 u2:Value}{d q r:Int}{L:Nat->Bool}{vals:Nat->Value}{w w':World} (h:DvG K V u0 u1 u2 d q r L vals w) (hb:Below w.heap.size w w'):DvG K V u0 u1 u2 d q r L vals w' :=
 ⟨bk hb h.b,h.f0,h.f1,h.f2,fun e=>(h.f3 e).later hb,fun e=>by obtain ⟨x,y,e,h1,h2⟩:=h.f4 e;exact ⟨x,y,e,h1.later hb,h2.later hb⟩,fun e=>by obtain ⟨x,y,e,h1,h2⟩:=h.f5 e;exact ⟨x,y,e,h1.later hb,h2.later hb⟩,fun e=>by obtain ⟨x,e,h1⟩:=h.f6 e;exact ⟨x,e,h1.later hb⟩,fun e=>by obtain ⟨x,e,h1⟩:=h.f7 e;exact ⟨x,e,h1.later hb⟩,h.f8,fun e=>by obtain ⟨x,e,h1,h2⟩:=h.f9 e;exact ⟨x,e,h1,h2.later hb⟩,fun e=>by obtain ⟨x,e,h1,h2⟩:=h.f10 e;exact ⟨x,e,h1,h2.later hb⟩,h.ap,fun e=>by obtain ⟨h1,g,x,e,c0,c1,h2⟩:=h.f11 e;exact ⟨h1,g,x,e,ck hb c0,ck hb c1,h2.later hb⟩⟩
theorem count_any {K N:Nat}{T D P s:Int} (x:Z4) (u:F8 Int) (w:World) (hB:Big K N T) (hD:Dn T D) (h:Zr (K+1) w (vz x) P) (hr:Rs K D w (vr u) s) (P0:0<P) (hP:P<pw (K+1)) (hin:-pw (K+1)<cnt D P s/\cnt D P s<pw (K+1)) :
 Calls Tryz.prog 107 #[.agg #[.int .i64 x.a,.slice x.b x.c x.d],vr u] w fun e w'=>(∃ z,e=.returned (vz z)/\Zr (K+1) w' (vz z) (cnt D P s))/\Below w.heap.size w w':=by
 obtain ⟨V,hV⟩:∃ V,V=((w.alloc (.cells #[.int .i64 x.a,.slice x.b x.c x.d] 125)).alloc (.cells #[.int .i64 u.a,.slice u.b u.c u.d,.int .i64 u.e,.slice u.f u.g u.h] 39)).alloc (.cells #[.int .i64 0,.slice none 0 0] 37):=⟨_,rfl⟩
 obtain ⟨q,hq⟩:∃ g,g=w.heap.size:=⟨_,rfl⟩
 have hb:Below w.heap.size w V:=by rw [hV];exact bk (zqa _ _) (bk (zqa _ _) (zqa _ _))
 have s1:=zxc w (.cells #[.int .i64 x.a,.slice x.b x.c x.d] 125)
 have s2:=zxc (w.alloc (.cells #[.int .i64 x.a,.slice x.b x.c x.d] 125)) (.cells #[.int .i64 u.a,.slice u.b u.c u.d,.int .i64 u.e,.slice u.f u.g u.h] 39)
 rw [s1] at s2
 rw [<- hq] at s1 s2
 have hbx:Box V (q+1+1):=by rw [hV,<- s2];exact zqy _
 have c0:V.cell? ⟨q,0,none⟩=some (.int .i64 x.a):=by rw [hV,hq];exact ck (zqa _ _) (ck (zqa _ _) (by rw [zqe rfl];rfl))
 have c1:V.cell? ⟨q,1,none⟩=some (.slice x.b x.c x.d):=by rw [hV,hq];exact ck (zqa _ _) (ck (zqa _ _) (by rw [zqe rfl];rfl))
 have hc:∀ k v,(#[Value.int .i64 u.a,.slice u.b u.c u.d,.int .i64 u.e,.slice u.f u.g u.h])[k]? = some v->V.cell? ⟨q+1,k,none⟩=some v:=fun k v hv=>by rw [hV,<- s1];exact ck (zqa _ _) (by rw [zqe rfl];exact hv)
 have HCC:=qh (And.intro (And.intro c0 c1) (show R4 V (q+1) 0 u from ⟨hc 0 _ rfl,hc 1 _ rfl,hc 2 _ rfl,hc 3 _ rfl⟩))
 have HZ:=qh (And.intro (h.later hb) (And.intro (hr.later hb) ((hr.later hb).low hD.1)))
 have hsp:=dO_spec hD.1 s
 have HSP:=qh hsp
 have HB:=qh hb
 have HX:=qh hbx
 have HG:=qh (show w.heap.size<=q+1+1/\V.heap.size=q+1+1+1 by rw [hV,zxc,s2];omega)
 have HIN:=qh hin
 clear h hr hb s1 s2 hbx hc c0 c1 hsp hin
 go_enter Tryz.func107,Tryz.ntmps107
 go_upto_region 1 with fail
 rw [<- hV,<- hq]
 clear hV hq
 refine zkk (by kernel_rfl) (by kernel_rfl) (by kernel_rfl) (DvG K V (.pointer (some ⟨q,0,none⟩)) (vz x) (vr u) (dO D s) (P / dO D s) (P % dO D s)) (fun vals=>⟨(Below.refl _ _).drew,(fun h=>by cases h),(fun h=>by cases h),(fun h=>by cases h),(fun h=>by cases h),(fun h=>by cases h),(fun h=>by cases h),(fun h=>by cases h),(fun h=>by cases h),(fun h=>by cases h),(fun h=>by cases h),(fun h=>by cases h),(fun h=>by cases h),(fun h=>by cases h)⟩) ?_ ?_
 ·intro L vals w1 i' o' hG hL ho hdep
  have hi':i'<14:=(Array.getElem?_eq_some_iff.1 ho).1
  rcases (by omega:i'=0\/i'=1\/i'=2\/i'=3\/i'=4\/i'=5\/i'=6\/i'=7\/i'=8\/i'=9\/i'=10\/i'=11\/i'=12\/i'=13) with rfl | rfl | rfl | rfl | rfl | rfl | rfl | rfl | rfl | rfl | rfl | rfl | rfl | rfl
  ·obtain rfl:=Option.some.inj ho
   refine wpOp_step rfl (fun K hK' => ?_)
   simp only [frs]
   go_simp
   exact hK' _ _ ⟨.pointer (some ⟨q,0,none⟩),(by show _=Act.put _ (some 9) _;simp only [frs]),⟨hG.b,(fun _=>rfl),hG.f1,hG.f2,hG.f3,hG.f4,hG.f5,hG.f6,hG.f7,hG.f8,hG.f9,hG.f10,hG.ap,hG.f11⟩⟩
  ·obtain rfl:=Option.some.inj ho
   have e0:=hG.f0 (hdep ⟨0,.data⟩ (by simp) rfl)
   have z0:=ck hG.b (uh HCC).1.1
   have z1:=ck hG.b (uh HCC).1.2
   refine wpOp_step rfl (fun K hK' => ?_)
   simp only [frs]
   rw [e0]
   go_simp
   exact hK' _ _ ⟨vz x,(by show _=Act.put _ (some 10) _;simp only [frs,e0]),⟨hG.b,hG.f0,(fun _=>rfl),hG.f2,hG.f3,hG.f4,hG.f5,hG.f6,hG.f7,hG.f8,hG.f9,hG.f10,hG.ap,hG.f11⟩⟩
  ·obtain rfl:=Option.some.inj ho
   obtain ⟨z0,z1,z2,z3⟩:=(uh HCC).2.keep hG.b
   refine wpOp_step rfl (fun K hK' => ?_)
   simp only [frs]
   go_simp
   exact hK' _ _ ⟨vr u,(by show _=Act.put _ (some 11) _;simp only [frs]),⟨hG.b,hG.f0,hG.f1,(fun _=>rfl),hG.f3,hG.f4,hG.f5,hG.f6,hG.f7,hG.f8,hG.f9,hG.f10,hG.ap,hG.f11⟩⟩
  ·obtain rfl:=Option.some.inj ho
   have e2:=hG.f2 (hdep ⟨2,.data⟩ (by simp) rfl)
   refine wpOp_step rfl (fun K hK' => ?_)
   simp only [frs]
   go_simp
   try rw [e2]
   go_fit (den_any _ ((uh HZ).2.2.later hG.b))
   rintro e9 Y ⟨⟨v,rfl,hV⟩,hb⟩
   have hG:=hG.later hb
   exact hK' _ _ ⟨v,(by show _=Act.put _ (some 12) _;simp only [frs,e2]),⟨hG.b,hG.f0,hG.f1,hG.f2,(fun _=>hV),hG.f4,hG.f5,hG.f6,hG.f7,hG.f8,hG.f9,hG.f10,hG.ap,hG.f11⟩⟩
  ·obtain rfl:=Option.some.inj ho
   have e1:=hG.f1 (hdep ⟨1,.data⟩ (by simp) rfl)
   have hd:=hG.f3 (hdep ⟨3,.data⟩ (by simp) rfl)
   refine wpOp_step rfl (fun K hK' => ?_)
   simp only [frs]
   go_simp
   try rw [e1]
   go_fit (zs_div _ hB ((uh HZ).1.later hG.b) hd (uh HSP).1 (Int.le_of_lt P0) hP)
   rintro e9 Y ⟨⟨x,y,rfl,hx,hy⟩,hb⟩
   have hG:=hG.later hb
   exact hK' _ _ ⟨_,(by show _=Act.put _ (some 13) _;simp only [frs,e1]),⟨hG.b,hG.f0,hG.f1,hG.f2,hG.f3,(fun _=>⟨x,y,rfl,hx,hy⟩),hG.f5,hG.f6,hG.f7,hG.f8,hG.f9,hG.f10,hG.ap,hG.f11⟩⟩
  ·obtain rfl:=Option.some.inj ho
   obtain ⟨x,y,e4,hx,hy⟩:=hG.f4 (hdep ⟨4,.data⟩ (by simp) rfl)
   refine wpOp_step rfl (fun K hK' => ?_)
   simp only [frs]
   rw [e4]
   go_simp
   exact hK' _ _ ⟨_,(by show _=Act.put _ (some 8) _;simp only [frs,e4]),⟨hG.b,hG.f0,hG.f1,hG.f2,hG.f3,hG.f4,(fun _=>⟨x,y,rfl,hx,hy⟩),hG.f6,hG.f7,hG.f8,hG.f9,hG.f10,hG.ap,hG.f11⟩⟩
  ·obtain rfl:=Option.some.inj ho
   obtain ⟨x,y,e5,hx,hy⟩:=hG.f5 (hdep ⟨5,.data⟩ (by simp) rfl)
   refine wpOp_step rfl (fun K hK' => ?_)
   simp only [frs]
   rw [e5]
   go_simp
   exact hK' _ _ ⟨vz x,(by show _=Act.put _ (some 14) _;simp only [frs,e5]),⟨hG.b,hG.f0,hG.f1,hG.f2,hG.f3,hG.f4,hG.f5,(fun _=>⟨x,rfl,hx⟩),hG.f7,hG.f8,hG.f9,hG.f10,hG.ap,hG.f11⟩⟩
  ·obtain rfl:=Option.some.inj ho
   obtain ⟨x,y,e5,hx,hy⟩:=hG.f5 (hdep ⟨5,.data⟩ (by simp) rfl)
   refine wpOp_step rfl (fun K hK' => ?_)
   simp only [frs]
   rw [e5]
   go_simp
   exact hK' _ _ ⟨vz y,(by show _=Act.put _ (some 15) _;simp only [frs,e5]),⟨hG.b,hG.f0,hG.f1,hG.f2,hG.f3,hG.f4,hG.f5,hG.f6,(fun _=>⟨y,rfl,hy⟩),hG.f8,hG.f9,hG.f10,hG.ap,hG.f11⟩⟩
  ·obtain rfl:=Option.some.inj ho
   obtain ⟨x,y,e5,hx,hy⟩:=hG.f5 (hdep ⟨5,.data⟩ (by simp) rfl)
   refine wpOp_step rfl (fun K hK' => ?_)
   simp only [frs]
   rw [e5]
   go_simp
   exact hK' _ _ ⟨.bool true,(by show _=Act.put _ (some 16) _;simp only [frs,e5]),⟨hG.b,hG.f0,hG.f1,hG.f2,hG.f3,hG.f4,hG.f5,hG.f6,hG.f7,(fun _=>rfl),hG.f9,hG.f10,hG.ap,hG.f11⟩⟩
  ·obtain rfl:=Option.some.inj ho
   refine wpOp_step rfl (fun K hK' => ?_)
   simp only [frs]
   go_simp
   have hN:=hG.later (zqa w1 (.cells #[.int .i64 0,.slice none 0 0] 37))
   exact hK' _ _ ⟨_,(by show _=Act.put _ (some 5) _;simp only [frs]),⟨hN.b,hN.f0,hN.f1,hN.f2,hN.f3,hN.f4,hN.f5,hN.f6,hN.f7,hN.f8,(fun _=>⟨_,rfl,hG.b.size,zqy _⟩),hN.f10,(fun _ h=>by obtain ⟨g,e,_,hx⟩:=hG.f10 h;have h1:=zko hx;simp [e]),(fun h=>by have h1:=(hG.f11 h).1;rw [hL] at h1;cases h1)⟩⟩
  ·obtain rfl:=Option.some.inj ho
   refine wpOp_step rfl (fun K hK' => ?_)
   simp only [frs]
   go_simp
   have hN:=hG.later (zqa w1 (.cells #[.int .i64 0,.slice none 0 0] 37))
   exact hK' _ _ ⟨_,(by show _=Act.put _ (some 6) _;simp only [frs]),⟨hN.b,hN.f0,hN.f1,hN.f2,hN.f3,hN.f4,hN.f5,hN.f6,hN.f7,hN.f8,hN.f9,(fun _=>⟨_,rfl,hG.b.size,zqy _⟩),(fun h _=>by obtain ⟨g,e,_,hx⟩:=hG.f9 h;have h1:=zko hx;simp [e]),hN.f11⟩⟩
  ·obtain rfl:=Option.some.inj ho
   obtain ⟨g,eg,hg,hx⟩:=hG.f9 (hdep ⟨9,.data⟩ (by simp) rfl)
   obtain ⟨x,ex,hz⟩:=hG.f6 (hdep ⟨6,.data⟩ (by simp) rfl)
   obtain ⟨⟨w0,c0⟩,⟨w2,w3,w4,c1⟩,gf⟩:=hx.cells
   have hlt:=zko hx
   refine wpOp_step rfl (fun K hK' => ?_)
   simp only [frs]
   rw [eg,ex]
   go_simp
   have h9:=(hdep ⟨9,.data⟩ (by simp) rfl)
   exact hK' _ _ ⟨undef,(by show _=Act.put _ (none) _;simp only [frs,eg,ex]),⟨(zqc hG.b hg _ _),hG.f0,hG.f1,hG.f2,(fun h=>(hG.f3 h).stored hx _ _),(fun h=>by obtain ⟨a,b,e,h1,h2⟩:=hG.f4 h;exact ⟨a,b,e,h1.stored hx _ _,h2.stored hx _ _⟩),(fun h=>by obtain ⟨a,b,e,h1,h2⟩:=hG.f5 h;exact ⟨a,b,e,h1.stored hx _ _,h2.stored hx _ _⟩),(fun h=>by obtain ⟨a,e,h1⟩:=hG.f6 h;exact ⟨a,e,h1.stored hx _ _⟩),(fun h=>by obtain ⟨a,e,h1⟩:=hG.f7 h;exact ⟨a,e,h1.stored hx _ _⟩),hG.f8,(fun _=>⟨g,eg,hg,hx.stored' _ _ _ _⟩),(fun h=>by obtain ⟨g',e,h1,h2⟩:=hG.f10 h;exact ⟨g',e,h1,box_aside h2 (fun hh=>hG.ap h9 h (by rw [show vals 9=_ from eg,show vals 10=_ from e,hh])) _ _⟩),hG.ap,(fun _=>⟨h9,g,x,eg,(hx.stored _ _).1,(hx.stored _ _).2,hz.stored hx _ _⟩)⟩⟩
  ·obtain rfl:=Option.some.inj ho
   obtain ⟨g,eg,hg,hx⟩:=hG.f10 (hdep ⟨10,.data⟩ (by simp) rfl)
   obtain ⟨x,ex,hz⟩:=hG.f7 (hdep ⟨7,.data⟩ (by simp) rfl)
   obtain ⟨⟨w0,c0⟩,⟨w2,w3,w4,c1⟩,gf⟩:=hx.cells
   have hlt:=zko hx
   refine wpOp_step rfl (fun K hK' => ?_)
   simp only [frs]
   rw [eg,ex]
   go_simp
   have h10:=(hdep ⟨10,.data⟩ (by simp) rfl)
   exact hK' _ _ ⟨undef,(by show _=Act.put _ (none) _;simp only [frs,eg,ex]),⟨(zqc hG.b hg _ _),hG.f0,hG.f1,hG.f2,(fun h=>(hG.f3 h).stored hx _ _),(fun h=>by obtain ⟨a,b,e,h1,h2⟩:=hG.f4 h;exact ⟨a,b,e,h1.stored hx _ _,h2.stored hx _ _⟩),(fun h=>by obtain ⟨a,b,e,h1,h2⟩:=hG.f5 h;exact ⟨a,b,e,h1.stored hx _ _,h2.stored hx _ _⟩),(fun h=>by obtain ⟨a,e,h1⟩:=hG.f6 h;exact ⟨a,e,h1.stored hx _ _⟩),(fun h=>by obtain ⟨a,e,h1⟩:=hG.f7 h;exact ⟨a,e,h1.stored hx _ _⟩),hG.f8,(fun h=>by obtain ⟨g',e,h1,h2⟩:=hG.f9 h;exact ⟨g',e,h1,box_aside h2 (fun hh=>hG.ap h h10 (by rw [show vals 10=_ from eg,show vals 9=_ from e,hh])) _ _⟩),(fun _=>⟨g,eg,hg,hx.stored' _ _ _ _⟩),hG.ap,(fun h'=>by obtain ⟨h,g',y,e,c0',c1',h2⟩:=hG.f11 h';have hne:g'≠g:=fun hh=>hG.ap h h10 (by rw [show vals 9=_ from e,show vals 10=_ from eg,hh]);exact ⟨h,g',y,e,by rw [zqb _ _ _ _ _ _ (by omega),zqb _ _ _ _ _ _ (by omega)];exact c0',by rw [zqb _ _ _ _ _ _ (by omega),zqb _ _ _ _ _ _ (by omega)];exact c1',h2.stored hx _ _⟩)⟩⟩
  ·obtain rfl:=Option.some.inj ho
   have e8:=hG.f8 (hdep ⟨8,.data⟩ (by simp) rfl)
   refine wpOp_step rfl (fun K hK' => ?_)
   simp only [frs]
   rw [e8]
   go_simp
   exact hK' _ _ ⟨.bool true,(by show _=Act.put _ (some 7) _;simp only [frs,e8]),⟨hG.b,hG.f0,hG.f1,hG.f2,hG.f3,hG.f4,hG.f5,hG.f6,hG.f7,hG.f8,hG.f9,hG.f10,hG.ap,hG.f11⟩⟩
 ·intro L vals w1 hG hall
  obtain ⟨_,g,y,e9,d0,d1,hz⟩:=hG.f11 (hall 11 (by decide))
  have HW:=qh (And.intro (And.intro d0 d1) (And.intro hz hG.b))
  have HX:=qh ((uh HX).later hG.b)
  obtain ⟨a0,a1,a2,a3⟩:=(uh HCC).2.keep hG.b
  have hgn:=World.block_lt_of_cell? w1 _ d0
  clear hz hG hall
  simp only [frs]
  rw [e9]
  clear e9
  clear hgn
  go_upto_region 2 with fail
  go_region_with (first
   | (go_at_call 160;go_fit (num_any _ ((uh HZ).2.2.later (bk (Below.refl _ _).drew (uh HW).2.2)));rintro e7 Y0 ⟨⟨vn,rfl,hn⟩,hb⟩;have BW:=qh (bk hb (Below.refl w1.heap.size w1).drew);have d0:=ck (uh BW) d0;have d1:=ck (uh BW) d1;clear hb a0 a1 a2 a3)
   | (go_at_call 132;go_fit (zs_mul _ hB hn ((uh HW).2.1.later (uh BW)) (uh HIN));rintro e8 Y1 ⟨⟨vm,rfl,hm⟩,hb⟩;obtain ⟨zm,rfl⟩:=hm.sh;have BW:=qh (bk hb (uh BW));have hbx:=(uh HX).later (uh BW);obtain ⟨⟨w0,e0⟩,⟨w2,w3,w4,e1⟩,gf⟩:=hbx.cells;have hxlt:=zko hbx;clear hb d0 d1))
  all_goals
   go_wp2
   obtain ⟨st0,st1⟩:=hbx.stored (.int .i64 zm.a) (.slice zm.b zm.c zm.d)
   exact bodyPost_ret (v:=vz zm) (by simp [results,Tryz.results107,go_sem,st0,st1]) rfl ⟨⟨zm,rfl,hm.stored hbx _ _⟩,zqc (bk (uh BW) (bk (uh HW).2.2 (uh HB))) (by have:=uh HG;omega) _ _⟩
theorem mul_gcd {a b:Int} (hb:0<b) (h:a % b=0):a*(b / (Int.gcd a b:Int))=a:=by
 have e:Int.gcd a b=b.natAbs:=Nat.gcd_eq_right (Int.natAbs_dvd_natAbs.2 (Int.dvd_of_emod_eq_zero h))
 rw [e,show (b.natAbs:Int)=b by omega,Int.ediv_self (by omega),Int.mul_one]
theorem multiple_any {K N:Nat}{T a b:Int} (x y:Z4) (w:World) (hB:Big K N T) (hT:Tab64 w) (h:Zr (K+1) w (vz x) a) (h':Zr (K+1) w (vz y) b) (a0:0<a) (b0:0<b) (ha:a<pw (K+1)) (hb:b<pw (K+1)) (hin:-pw (K+1)<a*(b / (Int.gcd a b:Int))/\a*(b / (Int.gcd a b:Int))<pw (K+1)) :
 Calls Tryz.prog 103 #[vz x,vz y] w fun e w'=>(∃ z,e=.returned (vz z)/\Zr (K+1) w' (vz z) (a*(b / (Int.gcd a b:Int))))/\Below w.heap.size w w':=by
 obtain ⟨V,hV⟩:∃ V,V=((w.alloc (.cells #[.int .i64 x.a,.slice x.b x.c x.d] 37)).alloc (.cells #[.int .i64 y.a,.slice y.b y.c y.d] 37)).alloc (.cells #[.int .i64 0,.slice none 0 0] 37):=⟨_,rfl⟩
 obtain ⟨q,hq⟩:∃ g,g=w.heap.size:=⟨_,rfl⟩
 have hbl:Below w.heap.size w V:=by rw [hV];exact bk (zqa _ _) (bk (zqa _ _) (zqa _ _))
 have s1:=zxc w (.cells #[.int .i64 x.a,.slice x.b x.c x.d] 37)
 have s2:=zxc (w.alloc (.cells #[.int .i64 x.a,.slice x.b x.c x.d] 37)) (.cells #[.int .i64 y.a,.slice y.b y.c y.d] 37)
 rw [s1] at s2
 rw [<- hq] at s1 s2
 have hbx:Box V (q+1+1):=by rw [hV,<- s2];exact zqy _
 have c0:V.cell? ⟨q,0,none⟩=some (.int .i64 x.a):=by rw [hV,hq];exact ck (zqa _ _) (ck (zqa _ _) (by rw [zqe rfl];rfl))
 have c1:V.cell? ⟨q,1,none⟩=some (.slice x.b x.c x.d):=by rw [hV,hq];exact ck (zqa _ _) (ck (zqa _ _) (by rw [zqe rfl];rfl))
 have d0:V.cell? ⟨q+1,0,none⟩=some (.int .i64 y.a):=by rw [hV,<- s1];exact ck (zqa _ _) (by rw [zqe rfl];rfl)
 have d1:V.cell? ⟨q+1,1,none⟩=some (.slice y.b y.c y.d):=by rw [hV,<- s1];exact ck (zqa _ _) (by rw [zqe rfl];rfl)
 have HCC:=qh (And.intro (And.intro c0 c1) (And.intro d0 d1))
 have HZ:=qh (And.intro (h.later hbl) (And.intro (h'.later hbl) (hT.later hbl)))
 have HB:=qh hbl
 have HX:=qh hbx
 have HG:=qh (show w.heap.size<=q+1+1/\V.heap.size=q+1+1+1 by rw [hV,zxc,s2];omega)
 have HIN:=qh hin
 have HGP:=qh (show 0<(Int.gcd a b:Int)/\(Int.gcd a b:Int)<=b from ⟨by have:=Int.gcd_pos_of_ne_zero_right a (show b≠0 by omega);omega,Int.le_of_dvd b0 (Int.gcd_dvd_right (a:=a) (b:=b))⟩)
 clear h h' hT hbl s1 s2 hbx hin
 go_enter Tryz.func103,Tryz.ntmps103
 go_upto_region 1 with fail
 rw [<- hV,<- hq]
 clear hV hq
 go_wp2_with fail
 go_fit (zs_div _ hB (uh HZ).1 (uh HZ).2.1 b0 (Int.le_of_lt a0) ha)
 rintro e W1 ⟨⟨qq,rr,rfl,_,hr⟩,B1⟩
 obtain ⟨V1,hV1⟩:∃ V,V=(W1.alloc (.cells #[.int .i64 qq.a,.slice qq.b qq.c qq.d] 37)).alloc (.cells #[.int .i64 rr.a,.slice rr.b rr.c rr.d] 37):=⟨_,rfl⟩
 obtain ⟨q1,hq1⟩:∃ g,g=W1.heap.size:=⟨_,rfl⟩
 have kb:Below W1.heap.size W1 V1:=by rw [hV1];exact bk (zqa _ _) (zqa _ _)
 have t1:=zxc W1 (.cells #[.int .i64 qq.a,.slice qq.b qq.c qq.d] 37)
 rw [<- hq1] at t1
 have e0:V1.cell? ⟨q1+1,0,none⟩=some (.int .i64 rr.a):=by rw [hV1,<- t1,zqe rfl];rfl
 have e1:V1.cell? ⟨q1+1,1,none⟩=some (.slice rr.b rr.c rr.d):=by rw [hV1,<- t1,zqe rfl];rfl
 have kB:=bk kb B1
 obtain ⟨⟨c0,c1⟩,⟨d0,d1⟩⟩:=uh HCC
 have c0:=ck kB c0
 have c1:=ck kB c1
 have HBV:=qh kB
 have HR:=qh (hr.later kb)
 clear hr kb B1 d0 d1 t1 kB
 go_upto_region 2 with fail
 rw [<- hV1,<- hq1]
 clear hV1 hq1
 go_wp2_with fail
 go_fit (zs_sign _ (uh HR))
 rintro e W2 ⟨rfl,B2⟩
 have HBV:=qh (bk B2 (uh HBV))
 have c0:=ck B2 c0
 have c1:=ck B2 c1
 obtain ⟨sg,hsg⟩:∃ z,z=sgn (a % b):=⟨_,rfl⟩
 have hnil:=@sgn_nil (a % b)
 rw [<- hsg] at hnil ⊢
 by_cases hg:sg=0
 ·have hm:=hnil.1 hg
  have HFIN:=qh (mul_gcd b0 hm)
  have hd:(sg == 0)=true:=by simpa using hg
  have HX:=qh ((uh HX).later (uh HBV))
  obtain ⟨⟨w0,f0⟩,⟨w1,w2,w3,f1⟩,gf⟩:=(uh HX).cells
  have hlt:=zko (uh HX)
  clear hsg hnil hm e0 e1 B2
  go_wp2
  obtain ⟨st0,st1⟩:=(uh HX).stored (.int .i64 x.a) (.slice x.b x.c x.d)
  exact bodyPost_ret (v:=vz x) (by simp [results,Tryz.results103,go_sem,st0,st1]) rfl ⟨⟨x,rfl,by rw [uh HFIN];exact ((uh HZ).1.later (uh HBV)).stored (uh HX) _ _⟩,zqc (bk (uh HBV) (uh HB)) (by have:=uh HG;omega) _ _⟩
 have hd:(sg == 0)=false:=by simpa using hg
 clear hsg hnil hg e0 e1 B2 c0 c1
 have HCW:=qh (And.intro (And.intro (ck (uh HBV) (uh HCC).1.1) (ck (uh HBV) (uh HCC).1.2)) (And.intro (ck (uh HBV) (uh HCC).2.1) (ck (uh HBV) (uh HCC).2.2)))
 have HZW:=qh (And.intro ((uh HZ).1.later (uh HBV)) (And.intro ((uh HZ).2.1.later (uh HBV)) ((uh HZ).2.2.later (uh HBV))))
 go_upto_region 4 with fail
 clear hd
 refine zkk (by kernel_rfl) (by kernel_rfl) (by kernel_rfl) (DvG K W2 (vz y) (vz x) (vz y) (Int.gcd a b:Int) (b / (Int.gcd a b:Int)) (b % (Int.gcd a b:Int))) (fun vals=>⟨(Below.refl _ _).drew,(fun h=>by cases h),(fun h=>by cases h),(fun h=>by cases h),(fun h=>by cases h),(fun h=>by cases h),(fun h=>by cases h),(fun h=>by cases h),(fun h=>by cases h),(fun h=>by cases h),(fun h=>by cases h),(fun h=>by cases h),(fun h=>by cases h),(fun h=>by cases h)⟩) ?_ ?_
 ·intro L vals w1 i' o' hG hL ho hdep
  have hi':i'<14:=(Array.getElem?_eq_some_iff.1 ho).1
  rcases (by omega:i'=0\/i'=1\/i'=2\/i'=3\/i'=4\/i'=5\/i'=6\/i'=7\/i'=8\/i'=9\/i'=10\/i'=11\/i'=12\/i'=13) with rfl | rfl | rfl | rfl | rfl | rfl | rfl | rfl | rfl | rfl | rfl | rfl | rfl | rfl
  ·obtain rfl:=Option.some.inj ho
   obtain ⟨_,z0,z1⟩:=uh HCW
   have z0:=ck hG.b z0
   have z1:=ck hG.b z1
   refine wpOp_step rfl (fun K hK' => ?_)
   simp only [frs]
   go_simp
   exact hK' _ _ ⟨vz y,(by show _=Act.put _ (some 23) _;simp only [frs]),⟨hG.b,(fun _=>rfl),hG.f1,hG.f2,hG.f3,hG.f4,hG.f5,hG.f6,hG.f7,hG.f8,hG.f9,hG.f10,hG.ap,hG.f11⟩⟩
  ·obtain rfl:=Option.some.inj ho
   obtain ⟨⟨z0,z1⟩,_⟩:=uh HCW
   have z0:=ck hG.b z0
   have z1:=ck hG.b z1
   refine wpOp_step rfl (fun K hK' => ?_)
   simp only [frs]
   go_simp
   exact hK' _ _ ⟨vz x,(by show _=Act.put _ (some 24) _;simp only [frs]),⟨hG.b,hG.f0,(fun _=>rfl),hG.f2,hG.f3,hG.f4,hG.f5,hG.f6,hG.f7,hG.f8,hG.f9,hG.f10,hG.ap,hG.f11⟩⟩
  ·obtain rfl:=Option.some.inj ho
   obtain ⟨_,z0,z1⟩:=uh HCW
   have z0:=ck hG.b z0
   have z1:=ck hG.b z1
   refine wpOp_step rfl (fun K hK' => ?_)
   simp only [frs]
   go_simp
   exact hK' _ _ ⟨vz y,(by show _=Act.put _ (some 25) _;simp only [frs]),⟨hG.b,hG.f0,hG.f1,(fun _=>rfl),hG.f3,hG.f4,hG.f5,hG.f6,hG.f7,hG.f8,hG.f9,hG.f10,hG.ap,hG.f11⟩⟩
  ·obtain rfl:=Option.some.inj ho
   have e1:=hG.f1 (hdep ⟨1,.data⟩ (by simp) rfl)
   have e2:=hG.f2 (hdep ⟨2,.data⟩ (by simp) rfl)
   refine wpOp_step rfl (fun K hK' => ?_)
   simp only [frs]
   go_simp
   try rw [e1,e2]
   go_fit (zs_gcd _ hB ((uh HZW).2.2.later hG.b) ((uh HZW).1.later hG.b) ((uh HZW).2.1.later hG.b) a0 ha)
   rintro e9 Y ⟨⟨v,rfl,hV⟩,hb⟩
   have hG:=hG.later hb
   exact hK' _ _ ⟨v,(by show _=Act.put _ (some 26) _;simp only [frs,e1,e2]),⟨hG.b,hG.f0,hG.f1,hG.f2,(fun _=>hV),hG.f4,hG.f5,hG.f6,hG.f7,hG.f8,hG.f9,hG.f10,hG.ap,hG.f11⟩⟩
  ·obtain rfl:=Option.some.inj ho
   have e0:=hG.f0 (hdep ⟨0,.data⟩ (by simp) rfl)
   have hd:=hG.f3 (hdep ⟨3,.data⟩ (by simp) rfl)
   refine wpOp_step rfl (fun K hK' => ?_)
   simp only [frs]
   go_simp
   try rw [e0]
   go_fit (zs_div _ hB ((uh HZW).2.1.later hG.b) hd (uh HGP).1 (Int.le_of_lt b0) hb)
   rintro e9 Y ⟨⟨x,y,rfl,hx,hy⟩,hb⟩
   have hG:=hG.later hb
   exact hK' _ _ ⟨_,(by show _=Act.put _ (some 27) _;simp only [frs,e0]),⟨hG.b,hG.f0,hG.f1,hG.f2,hG.f3,(fun _=>⟨x,y,rfl,hx,hy⟩),hG.f5,hG.f6,hG.f7,hG.f8,hG.f9,hG.f10,hG.ap,hG.f11⟩⟩
  ·obtain rfl:=Option.some.inj ho
   obtain ⟨x,y,e4,hx,hy⟩:=hG.f4 (hdep ⟨4,.data⟩ (by simp) rfl)
   refine wpOp_step rfl (fun K hK' => ?_)
   simp only [frs]
   rw [e4]
   go_simp
   exact hK' _ _ ⟨_,(by show _=Act.put _ (some 22) _;simp only [frs,e4]),⟨hG.b,hG.f0,hG.f1,hG.f2,hG.f3,hG.f4,(fun _=>⟨x,y,rfl,hx,hy⟩),hG.f6,hG.f7,hG.f8,hG.f9,hG.f10,hG.ap,hG.f11⟩⟩
  ·obtain rfl:=Option.some.inj ho
   obtain ⟨x,y,e5,hx,hy⟩:=hG.f5 (hdep ⟨5,.data⟩ (by simp) rfl)
   refine wpOp_step rfl (fun K hK' => ?_)
   simp only [frs]
   rw [e5]
   go_simp
   exact hK' _ _ ⟨vz x,(by show _=Act.put _ (some 28) _;simp only [frs,e5]),⟨hG.b,hG.f0,hG.f1,hG.f2,hG.f3,hG.f4,hG.f5,(fun _=>⟨x,rfl,hx⟩),hG.f7,hG.f8,hG.f9,hG.f10,hG.ap,hG.f11⟩⟩
  ·obtain rfl:=Option.some.inj ho
   obtain ⟨x,y,e5,hx,hy⟩:=hG.f5 (hdep ⟨5,.data⟩ (by simp) rfl)
   refine wpOp_step rfl (fun K hK' => ?_)
   simp only [frs]
   rw [e5]
   go_simp
   exact hK' _ _ ⟨vz y,(by show _=Act.put _ (some 29) _;simp only [frs,e5]),⟨hG.b,hG.f0,hG.f1,hG.f2,hG.f3,hG.f4,hG.f5,hG.f6,(fun _=>⟨y,rfl,hy⟩),hG.f8,hG.f9,hG.f10,hG.ap,hG.f11⟩⟩
  ·obtain rfl:=Option.some.inj ho
   obtain ⟨x,y,e5,hx,hy⟩:=hG.f5 (hdep ⟨5,.data⟩ (by simp) rfl)
   refine wpOp_step rfl (fun K hK' => ?_)
   simp only [frs]
   rw [e5]
   go_simp
   exact hK' _ _ ⟨.bool true,(by show _=Act.put _ (some 30) _;simp only [frs,e5]),⟨hG.b,hG.f0,hG.f1,hG.f2,hG.f3,hG.f4,hG.f5,hG.f6,hG.f7,(fun _=>rfl),hG.f9,hG.f10,hG.ap,hG.f11⟩⟩
  ·obtain rfl:=Option.some.inj ho
   refine wpOp_step rfl (fun K hK' => ?_)
   simp only [frs]
   go_simp
   have hN:=hG.later (zqa w1 (.cells #[.int .i64 0,.slice none 0 0] 37))
   exact hK' _ _ ⟨_,(by show _=Act.put _ (some 8) _;simp only [frs]),⟨hN.b,hN.f0,hN.f1,hN.f2,hN.f3,hN.f4,hN.f5,hN.f6,hN.f7,hN.f8,(fun _=>⟨_,rfl,hG.b.size,zqy _⟩),hN.f10,(fun _ h=>by obtain ⟨g,e,_,hx⟩:=hG.f10 h;have h1:=zko hx;simp [e]),(fun h=>by have h1:=(hG.f11 h).1;rw [hL] at h1;cases h1)⟩⟩
  ·obtain rfl:=Option.some.inj ho
   refine wpOp_step rfl (fun K hK' => ?_)
   simp only [frs]
   go_simp
   have hN:=hG.later (zqa w1 (.cells #[.int .i64 0,.slice none 0 0] 37))
   exact hK' _ _ ⟨_,(by show _=Act.put _ (some 9) _;simp only [frs]),⟨hN.b,hN.f0,hN.f1,hN.f2,hN.f3,hN.f4,hN.f5,hN.f6,hN.f7,hN.f8,hN.f9,(fun _=>⟨_,rfl,hG.b.size,zqy _⟩),(fun h _=>by obtain ⟨g,e,_,hx⟩:=hG.f9 h;have h1:=zko hx;simp [e]),hN.f11⟩⟩
  ·obtain rfl:=Option.some.inj ho
   obtain ⟨g,eg,hg,hx⟩:=hG.f9 (hdep ⟨9,.data⟩ (by simp) rfl)
   obtain ⟨x,ex,hz⟩:=hG.f6 (hdep ⟨6,.data⟩ (by simp) rfl)
   obtain ⟨⟨w0,c0⟩,⟨w2,w3,w4,c1⟩,gf⟩:=hx.cells
   have hlt:=zko hx
   refine wpOp_step rfl (fun K hK' => ?_)
   simp only [frs]
   rw [eg,ex]
   go_simp
   have h9:=(hdep ⟨9,.data⟩ (by simp) rfl)
   exact hK' _ _ ⟨undef,(by show _=Act.put _ (none) _;simp only [frs,eg,ex]),⟨(zqc hG.b hg _ _),hG.f0,hG.f1,hG.f2,(fun h=>(hG.f3 h).stored hx _ _),(fun h=>by obtain ⟨a,b,e,h1,h2⟩:=hG.f4 h;exact ⟨a,b,e,h1.stored hx _ _,h2.stored hx _ _⟩),(fun h=>by obtain ⟨a,b,e,h1,h2⟩:=hG.f5 h;exact ⟨a,b,e,h1.stored hx _ _,h2.stored hx _ _⟩),(fun h=>by obtain ⟨a,e,h1⟩:=hG.f6 h;exact ⟨a,e,h1.stored hx _ _⟩),(fun h=>by obtain ⟨a,e,h1⟩:=hG.f7 h;exact ⟨a,e,h1.stored hx _ _⟩),hG.f8,(fun _=>⟨g,eg,hg,hx.stored' _ _ _ _⟩),(fun h=>by obtain ⟨g',e,h1,h2⟩:=hG.f10 h;exact ⟨g',e,h1,box_aside h2 (fun hh=>hG.ap h9 h (by rw [show vals 9=_ from eg,show vals 10=_ from e,hh])) _ _⟩),hG.ap,(fun _=>⟨h9,g,x,eg,(hx.stored _ _).1,(hx.stored _ _).2,hz.stored hx _ _⟩)⟩⟩
  ·obtain rfl:=Option.some.inj ho
   obtain ⟨g,eg,hg,hx⟩:=hG.f10 (hdep ⟨10,.data⟩ (by simp) rfl)
   obtain ⟨x,ex,hz⟩:=hG.f7 (hdep ⟨7,.data⟩ (by simp) rfl)
   obtain ⟨⟨w0,c0⟩,⟨w2,w3,w4,c1⟩,gf⟩:=hx.cells
   have hlt:=zko hx
   refine wpOp_step rfl (fun K hK' => ?_)
   simp only [frs]
   rw [eg,ex]
   go_simp
   have h10:=(hdep ⟨10,.data⟩ (by simp) rfl)
   exact hK' _ _ ⟨undef,(by show _=Act.put _ (none) _;simp only [frs,eg,ex]),⟨(zqc hG.b hg _ _),hG.f0,hG.f1,hG.f2,(fun h=>(hG.f3 h).stored hx _ _),(fun h=>by obtain ⟨a,b,e,h1,h2⟩:=hG.f4 h;exact ⟨a,b,e,h1.stored hx _ _,h2.stored hx _ _⟩),(fun h=>by obtain ⟨a,b,e,h1,h2⟩:=hG.f5 h;exact ⟨a,b,e,h1.stored hx _ _,h2.stored hx _ _⟩),(fun h=>by obtain ⟨a,e,h1⟩:=hG.f6 h;exact ⟨a,e,h1.stored hx _ _⟩),(fun h=>by obtain ⟨a,e,h1⟩:=hG.f7 h;exact ⟨a,e,h1.stored hx _ _⟩),hG.f8,(fun h=>by obtain ⟨g',e,h1,h2⟩:=hG.f9 h;exact ⟨g',e,h1,box_aside h2 (fun hh=>hG.ap h h10 (by rw [show vals 10=_ from eg,show vals 9=_ from e,hh])) _ _⟩),(fun _=>⟨g,eg,hg,hx.stored' _ _ _ _⟩),hG.ap,(fun h'=>by obtain ⟨h,g',y,e,c0',c1',h2⟩:=hG.f11 h';have hne:g'≠g:=fun hh=>hG.ap h h10 (by rw [show vals 9=_ from e,show vals 10=_ from eg,hh]);exact ⟨h,g',y,e,by rw [zqb _ _ _ _ _ _ (by omega),zqb _ _ _ _ _ _ (by omega)];exact c0',by rw [zqb _ _ _ _ _ _ (by omega),zqb _ _ _ _ _ _ (by omega)];exact c1',h2.stored hx _ _⟩)⟩⟩
  ·obtain rfl:=Option.some.inj ho
   have e8:=hG.f8 (hdep ⟨8,.data⟩ (by simp) rfl)
   refine wpOp_step rfl (fun K hK' => ?_)
   simp only [frs]
   rw [e8]
   go_simp
   exact hK' _ _ ⟨.bool true,(by show _=Act.put _ (some 10) _;simp only [frs,e8]),⟨hG.b,hG.f0,hG.f1,hG.f2,hG.f3,hG.f4,hG.f5,hG.f6,hG.f7,hG.f8,hG.f9,hG.f10,hG.ap,hG.f11⟩⟩
 ·intro L vals w1 hG hall
  obtain ⟨_,g,u,e9,f0,f1,hz⟩:=hG.f11 (hall 11 (by decide))
  have HW:=qh (And.intro hz hG.b)
  obtain ⟨⟨c0,c1⟩,_⟩:=uh HCW
  have c0:=ck hG.b c0
  have c1:=ck hG.b c1
  clear hz hG hall
  simp only [frs]
  rw [e9]
  clear e9
  go_wp2_with fail
  go_fit (zs_mul _ hB ((uh HZW).1.later (uh HW).2) (uh HW).1 (uh HIN))
  rintro e8 Y1 ⟨⟨vm,rfl,hm⟩,hb⟩
  obtain ⟨zm,rfl⟩:=hm.sh
  have BW:=qh (bk hb (bk (uh HW).2 (uh HBV)))
  have hbx:=(uh HX).later (uh BW)
  obtain ⟨⟨w0,e0⟩,⟨w2,w3,w4,e1⟩,gf⟩:=hbx.cells
  have hxlt:=zko hbx
  clear hb c0 c1 f0 f1
  go_wp2
  obtain ⟨st0,st1⟩:=hbx.stored (.int .i64 zm.a) (.slice zm.b zm.c zm.d)
  exact bodyPost_ret (v:=vz zm) (by simp [results,Tryz.results103,go_sem,st0,st1]) rfl ⟨⟨zm,rfl,hm.stored hbx _ _⟩,zqc (bk (uh BW) (uh HB)) (by have:=uh HG;omega) _ _⟩
structure ZX (K:Nat) (w:World) (r:Nat) (x:Z4) (z:Int):Prop where
 c0:w.cell? ⟨r,0,none⟩=some (.int .i64 x.a)
 c1:w.cell? ⟨r,1,none⟩=some (.slice x.b x.c x.d)
 box:Box w r
 z:Zr K w (vz x) z
theorem ZX.keep {K:Nat}{w w':World}{r:Nat}{x:Z4}{z:Int} (h:ZX K w r x z) (hb:Below w.heap.size w w'):ZX K w' r x z:=⟨ck hb h.c0,ck hb h.c1,h.box.later hb,h.z.later hb⟩
theorem ZX.new {K:Nat}{w:World}{x:Z4}{z:Int} (h:Zr K w (vz x) z):ZX K (w.alloc (.cells #[.int .i64 x.a,.slice x.b x.c x.d] 37)) w.heap.size x z :=
 ⟨by rw [zqe rfl];rfl,by rw [zqe rfl];rfl,⟨_,_,_,_,heap_alloc_new w _⟩,h.later (zqa w _)⟩
theorem ZX.put {K:Nat}{w:World}{r:Nat}{y:Z4}{z:Int} (h:Box w r) (hz:Zr K w (vz y) z):ZX K ((w.setCell ⟨r,0,none⟩ (.int .i64 y.a)).setCell ⟨r,1,none⟩ (.slice y.b y.c y.d)) r y z :=
 ⟨(h.stored _ _).1,(h.stored _ _).2,h.stored' _ _ _ _,hz.stored h _ _⟩
theorem mul_form {a b:Int} (ha:0<a):a*(b / (Int.gcd a b:Int))=a / (Int.gcd a b:Int)*b:=by
 have g0:0<Int.gcd a b:=Int.gcd_pos_of_ne_zero_left b (by omega)
 obtain ⟨x,hx⟩:=Int.gcd_dvd_left (a:=a) (b:=b)
 obtain ⟨y,hy⟩:=Int.gcd_dvd_right (a:=a) (b:=b)
 have e1:a / (Int.gcd a b:Int)=x:=Int.ediv_eq_of_eq_mul_right (by omega) hx
 have e2:b / (Int.gcd a b:Int)=y:=Int.ediv_eq_of_eq_mul_right (by omega) hy
 rw [e1,e2]
 generalize (Int.gcd a b:Int)=g at *
 rw [hx,hy]
 grind
theorem partsOf_any {K N:Nat}{T D:Int}{v:Value}{W:List Int} (w:World) (hB:Big K N T) (hD:Dn T D) (hT:Tab64 w) (h:Rows 1 (LE 4 (RsE K D)) w v [W]) (hl:W.length<=300) :
 Calls Tryz.prog 58 #[v] w fun e w'=>(∃ x:Z4,e=.returned (.agg #[.int .i64 x.a,.slice x.b x.c x.d])/\Zr (K+1) w' (vz x) (prt D W W.length))/\Below w.heap.size w w':=by
 obtain ⟨la,lc,rfl⟩:=h.shape
 obtain ⟨b,o,rfl,cs,_,hcs,u,rfl,hr⟩:=h.at (i:=0) rfl
 have c0:w.cell? ⟨b,o,none⟩=some u:=by simpa using hcs 0 _ rfl
 obtain ⟨ra,rc,rfl⟩:=hr.shape
 obtain ⟨m,hm⟩:∃ m,m=W.length:=⟨_,rfl⟩
 rw [<- hm] at hr c0 hl
 have HSP:=qh (fun i=>prt_spec hD.1 W i)
 have HDS:=qh (fun s=>dO_spec hD.1 s)
 obtain ⟨q,hq⟩:∃ g,g=w.heap.size:=⟨_,rfl⟩
 obtain ⟨V,hV⟩:∃ V,V=w.alloc (.cells #[.int .i64 0,.slice none 0 0] 125):=⟨_,rfl⟩
 have hb:Below w.heap.size w V:=by rw [hV];exact zqa _ _
 have hpb:Raw NoWord 125 V q 2:=by rw [hV,hq];exact ⟨_,heap_alloc_new w _,rfl,kd_z 0 none 0 0⟩
 have HB:=qh hb
 have HP:=qh hpb
 have HR:=qh hr
 have HC:=qh c0
 have HG:=qh (And.intro hB (And.intro hD hT))
 have HM:=qh (And.intro hm (show w.heap.size<=q/\V.heap.size=q+1 by rw [hV,zxc];omega))
 clear h hcs hr hb hpb hm
 go_enter Tryz.func58,Tryz.ntmps58
 go_upto_region 1 with fail
 rw [<- hV,<- hq]
 clear hV hq c0
 go_wp2_with fail
 go_fit (of_any 1 _)
 rintro e W1 ⟨rfl,B1⟩
 obtain ⟨gz,hgz⟩:∃ g,g=W1.heap.size:=⟨_,rfl⟩
 have hz:=ZX.new (x:=⟨1,none,0,0⟩) (Zr.near (w:=W1) (z:=1) (K+1) (by decide) (by decide))
 have kn:=zqa W1 (.cells #[.int .i64 1,.slice none 0 0] 37)
 rw [<- hgz] at hz
 obtain ⟨V1,hV1⟩:∃ V,V=W1.alloc (.cells #[.int .i64 1,.slice none 0 0] 37):=⟨_,rfl⟩
 rw [<- hV1] at hz kn
 have HZ:=qh hz
 have HBV:=qh (bk kn B1)
 have HGZ:=qh (show V.heap.size<=gz by rw [hgz];exact B1.size)
 clear hz kn B1
 go_upto_region 2 with fail
 rw [<- hV1,<- hgz]
 clear hV1 hgz
 go_wp2_with fail
 go_loopg [5,7,11,17] 1 (fun gk _ _ iv _ wr=>∃ (i:Nat) (z:Z4),i<=1/\gk=1 - i/\iv=.int .i64 (i:Int)/\Hid (Below V.heap.size V wr)/\Hid (ZX (K+1) wr gz z (prt D W (if i=0 then 0 else m))))
 case atStart=>exact ⟨0,_,by omega,by omega,rfl,HBV,HZ⟩
 case round =>
  clear HZ HBV
  obtain ⟨i,z,hi,hgk,rfl,HBV,HZ⟩:=hrel
  by_cases h0:i=0
  ·subst h0
   rw [if_pos rfl] at HZ
   have c0:=ck (bk (uh HBV) (uh HB)) (uh HC)
   go_wp2_with fail
   go_loopg [7,17] m (fun gk _ iv wr=>∃ (j:Nat) (z:Z4),j<=m/\gk=m - j/\iv=.int .i64 (j:Int)/\Hid (Below V.heap.size V wr)/\Hid (ZX (K+1) wr gz z (prt D W j)))
   case atStart=>exact ⟨0,z,by omega,by omega,rfl,HBV,HZ⟩
   case round =>
    clear HZ HBV c0
    obtain ⟨j,y,hj,hgk',rfl,HBV,HZ⟩:=hrel
    by_cases hjm:j<m
    ·obtain ⟨s,hs⟩:∃ s,W[j]? = some s:=⟨W[j]'(by have:=(uh HM).1;omega),by simp⟩
     obtain ⟨rb,ro,u,rfl,d,hu⟩:=(uh HR).rnum hs
     have HNX:=qh (prt_next (D:=D) hs)
     have kB:=bk (uh HBV) (uh HB)
     obtain ⟨d0,d1,d2,d3⟩:=d.keep kB
     obtain ⟨X,hX⟩:∃ V,V=wr.alloc (.cells #[.int .i64 u.a,.slice u.b u.c u.d,.int .i64 u.e,.slice u.f u.g u.h] 39):=⟨_,rfl⟩
     obtain ⟨gr,hgr⟩:∃ q,q=wr.heap.size:=⟨_,rfl⟩
     have hx:=RX.new (hu.later kB)
     have kn:=zqa wr (.cells #[.int .i64 u.a,.slice u.b u.c u.d,.int .i64 u.e,.slice u.f u.g u.h] 39)
     rw [<- hX,<- hgr] at hx
     rw [<- hX] at kn
     have HX:=qh hx
     have HZ:=qh ((uh HZ).keep kn)
     have HBV:=qh (bk kn (uh HBV))
     have hjm':(j:Int)<(m:Int):=by omega
     have him:(j:Int)+1<=1000:=by omega
     have HPS:=qh (uh HSP j)
     have HPN:=qh (uh HSP (j+1))
     have HDD:=qh (uh HDS s)
     have HLO:=qh ((hu.later (bk (uh HBV) (uh HB))).low (uh HG).2.1.1)
     have HT:=qh ((uh HG).2.2.later (bk (uh HBV) (uh HB)))
     have HBD:=qh (show prt D W j<pw (K+1)/\dO D s<pw (K+1)/\prt D W (j+1)<pw (K+1) by
      have h1:=Int.le_of_dvd (uh HG).2.1.1 (uh HPS).2.1
      have h2:=Int.le_of_dvd (uh HG).2.1.1 (uh HDD).2.1
      have h3:=Int.le_of_dvd (uh HG).2.1.1 (uh HPN).2.1
      have h4:=(uh HG).2.1.2
      have h5:=(uh HG).1.r
      omega)
     have HMF:=qh (mul_form (b:=dO D s) (uh HPS).1)
     have x0:=(uh HX).c0
     have x1:=(uh HX).c1
     have x2:=(uh HX).c2
     have x3:=(uh HX).c3
     have z0:=(uh HZ).c0
     have z1:=(uh HZ).c1
     clear hs hu hx kn kB d
     go_upto_region 8 with fail
     rw [<- hX,<- hgr]
     clear hX hgr d0 d1 d2 d3
     go_region_with (first
      | (go_at_call 104;go_fit (den_any _ ((uh HLO).later (Below.refl _ _).drew));rintro e7 Y0 ⟨⟨vd,rfl,hd⟩,hb⟩;obtain ⟨zd,rfl⟩:=hd.sh;have BW:=qh (bk hb (Below.refl X.heap.size X).drew);have z0:=ck (uh BW) z0;have z1:=ck (uh BW) z1;clear hb x0 x1 x2 x3)
      | (go_at_call 103;go_fit (multiple_any y zd _ (uh HG).1 ((uh HT).later (uh BW)) ((uh HZ).z.later (uh BW)) hd (uh HPS).1 (uh HDD).1 (uh HBD).1 (uh HBD).2.1 (by rw [uh HMF,<- uh HNX];have h1:=(uh HBD).2.2;have h2:=(uh HPN).1;omega));rintro e8 Y1 ⟨⟨ym,rfl,hm⟩,hb⟩;have BW:=qh (bk hb (uh BW));have hbx:=(uh HZ).box.later (uh BW);obtain ⟨⟨w0,e0⟩,⟨w2,w3,w4,e1⟩,gf⟩:=hbx.cells;have hxlt:=zko hbx;clear hb z0 z1))
     all_goals
      go_wp2
      go_roundg (m - (j+1))
      case measure=>omega
      case rel=>exact ⟨j+1,ym,by omega,rfl,by go_num,qh (zqc (bk (uh BW) (uh HBV)) (uh HGZ) _ _),qh (by rw [uh HNX,<- uh HMF];exact ZX.put hbx hm)⟩
    ·obtain rfl:m=j:=by omega
     clear hjm hj hgk'
     go_wp2
     go_roundg 0
     case measure=>omega
     case rel=>exact ⟨1,y,by omega,by omega,by go_num,HBV,by rw [if_neg (by decide)];exact HZ⟩
  ·obtain rfl:i=1:=by omega
   rw [if_neg (by decide)] at HZ
   have z0:=(uh HZ).c0
   have z1:=(uh HZ).c1
   have HP:=qh ((uh HP).later (uh HBV))
   obtain ⟨⟨w0,f0⟩,e0,hlt⟩:=(uh HP).cell (o:=0) (by decide)
   obtain ⟨⟨w1,f1⟩,e1,_⟩:=(uh HP).cell (o:=1) (by decide)
   clear hi hgk h0
   go_wp2
   have st0:((wr.setCell ⟨q,0,none⟩ (.int .i64 z.a)).setCell ⟨q,1,none⟩ (.slice z.b z.c z.d)).cell? ⟨q,0,none⟩=some (.int .i64 z.a):=by rw [zqb _ _ _ _ _ _ (by omega)];exact zqd f0
   have st1:((wr.setCell ⟨q,0,none⟩ (.int .i64 z.a)).setCell ⟨q,1,none⟩ (.slice z.b z.c z.d)).cell? ⟨q,1,none⟩=some (.slice z.b z.c z.d):=zqd (by rw [zqb _ _ _ _ _ _ (by omega)];exact f1)
   have hs:=(uh HP).store (o:=0) (v:=.int .i64 z.a) (fun _ h=>by cases h)
   have hs':=hs.1.store (o:=1) (v:=.slice z.b z.c z.d) (fun _ h=>by cases h)
   refine bodyPost_ret (v:=.agg #[.int .i64 z.a,.slice z.b z.c z.d]) (by simp [results,Tryz.results58,go_sem,st0,st1]) rfl ⟨⟨z,rfl,?_⟩,zqc (bk (uh HBV) (uh HB)) (uh HM).2.1 _ _⟩
   rw [<- (uh HM).1]
   exact (uh HZ).z.chgW (hs.2.trans hs'.2)
theorem eg_count:∀ args w,(callFunc 107 args).run Tryz.prog w=.ok (.enter 107 args) w:=enters_of Tryz.func107 (by kernel_rfl) rfl
theorem info_zs:(Tryz.prog.info? 37).map (fun i=>(i.zero,i.size,i.bytes))=some (some (.agg #[.int .i64 0,.slice none 0 0]),2,32):=by kernel_rfl
theorem cnt_in' {D P B s:Int} (D0:0<D) (hP:0<P) (hPD:P∣D) (hd:dO D s∣P) (h0:0<=s/\s<=B):0<=cnt D P s/\cnt D P s<=B:=by
 obtain ⟨g,hg⟩:=hPD
 have g0:0<g:=by
  rcases Int.lt_or_le 0 g with h | h
  ·exact h
  ·have:=Int.mul_nonneg (Int.le_of_lt hP) (show 0 <= -g by omega)
   rw [Int.mul_neg] at this
   omega
 have h1:g*cnt D P s=s:=cnt_spec D0 hg hd
 have h2:0<=cnt D P s:=Int.nonneg_of_mul_nonneg_right (by omega) g0
 have h3:1*cnt D P s<=g*cnt D P s:=Int.mul_le_mul_of_nonneg_right (by omega) h2
 omega
theorem Fill.next2 {α:Type}{K:Value->Prop}{E:World->List Value -> α -> Prop}{t:TypeId}{w:World}{g n:Nat}{L:List α}{u0 u1:Value}{x:α} (h:Fill K 2 E t w g n L) (hE:Stays K t E) (hlt:L.length<n) (hk:∀ u ∈ [u0,u1],K u) (he:E w [u0,u1] x) :
 Fill K 2 E t ((w.setCell ⟨g,L.length*2,none⟩ u0).setCell ⟨g,L.length*2+1,none⟩ u1) g n (L++[x])/\Chg K t w ((w.setCell ⟨g,L.length*2,none⟩ u0).setCell ⟨g,L.length*2+1,none⟩ u1):=by
 obtain ⟨a0,e0⟩:=h.cell (o:=L.length*2) (by omega)
 obtain ⟨a1,e1⟩:=h.cell (o:=L.length*2+1) (by omega)
 obtain ⟨f0,c0⟩:=h.store (o:=L.length*2) (v:=u0) hE (by omega) (hk _ (by simp))
 obtain ⟨f1,c1⟩:=f0.store (o:=L.length*2+1) (v:=u1) hE (by omega) (hk _ (by simp))
 have hc:=c0.trans c1
 refine ⟨f1.snoc hlt rfl (fun j u hu => ?_) (hE _ _ _ _ he hc),hc⟩
 match j,hu with
 | 0,hu =>
  obtain rfl:u0=u:=by simpa using hu
  rw [Nat.add_zero,zqb _ _ _ _ _ _ (by omega)]
  exact zqd e0
 | 1,hu =>
  obtain rfl:u1=u:=by simpa using hu
  exact zqd (by rw [zqb _ _ _ _ _ _ (by omega)];exact e1)
theorem eachCount_any {K N:Nat}{T D P B:Int}{v:Value}{W:List Int} (x:Z4) (w:World) (hB:Big K N T) (hD:Dn T D) (hz:Zr (K+1) w (vz x) P) (h:Rows 4 (RsE K D) w v W) (hl:W.length<=300) (P0:0<P) (hPD:P∣D) (hW:∀ s ∈ W,dO D s∣P/\0<=s/\s<=B) (hBT:B<T) :
 Calls Tryz.prog 106 #[v,.func (.func 107) #[.agg #[.int .i64 x.a,.slice x.b x.c x.d]] #[]] w fun e w'=>(∃ u,e=.returned u/\Rows 2 (ZE (K+1)) w' u (W.map (cnt D P)))/\Below w.heap.size w w':=by
 obtain ⟨la,lc,rfl⟩:=h.shape
 obtain ⟨m,hm⟩:∃ m,m=W.length:=⟨_,rfl⟩
 rw [<- hm] at h hl ⊢
 have hmk:=zjk (P:=Tryz.prog) 129 37 _ 2 32 Tryz.underlying129 info_zs .i64 .i64 m (by omega) (by omega)
 obtain ⟨g,hg⟩:∃ g,g=w.heap.size:=⟨_,rfl⟩
 obtain ⟨V,hV⟩:∃ V,V=w.alloc (.cells (madeCells #[Value.int .i64 0,.slice none 0 0] (m*2)) 37):=⟨_,rfl⟩
 have hF:Fill NoWord 2 (ZE (K+1)) 37 V g m ([]:List Int):=by rw [hV,hg];exact Fill.new w m (kd_z _ _ _ _) (by decide)
 have hb:Below w.heap.size w V:=by rw [hV];exact zqa _ _
 have HF:=qh hF
 have HB:=qh hb
 have HR:=qh h
 have HZ:=qh hz
 have HM:=qh (And.intro hm (show w.heap.size<=g by omega))
 have HG:=qh (And.intro hB (And.intro hD (And.intro P0 (And.intro hPD hBT))))
 have HW:=qh hW
 clear h hF hb hm hz hB hD P0 hPD hW hBT
 go_enter Tryz.func106,Tryz.ntmps106
 go_upto_region 2 with fail
 rw [<- hV,<- hg]
 clear hV hg hmk
 go_wp2_with fail
 go_loopg [6,7,13] m (fun gk _ _ iv wr=>∃ i:Nat,i<=m/\gk=m - i/\iv=.int .i64 (i:Int)/\Hid (Below w.heap.size w wr)/\Hid (Fill NoWord 2 (ZE (K+1)) 37 wr g m ((W.take i).map (cnt D P))))
 case atStart=>exact ⟨0,by omega,by omega,rfl,HB,HF⟩
 case round =>
  clear HB HF
  obtain ⟨i,hi,hgk,rfl,HB,HF⟩:=hrel
  by_cases hil:i<m
  ·obtain ⟨s,hs⟩:∃ s,W[i]? = some s:=⟨W[i]'(by have:=(uh HM).1;omega),by simp⟩
   obtain ⟨b,o,u,rfl,d,hu⟩:=(uh HR).rnum hs
   obtain ⟨d0,d1,d2,d3⟩:=d.keep (uh HB)
   have HN:=qh (take_map (f:=cnt D P) hs)
   have HLN:=qh (show ((W.take i).map (cnt D P)).length=i by simp;have:=(uh HM).1;omega)
   have HCI:=qh (cnt_in' (uh HG).2.1.1 (uh HG).2.2.1 (uh HG).2.2.2.1 (uh HW s (List.mem_of_getElem? hs)).1 (uh HW s (List.mem_of_getElem? hs)).2)
   have hil':(i:Int)<(m:Int):=by omega
   have him:(i:Int)+1<=1000:=by omega
   obtain ⟨V,hV⟩:∃ V,V=wr.alloc (.cells #[.int .i64 u.a,.slice u.b u.c u.d,.int .i64 u.e,.slice u.f u.g u.h] 39):=⟨_,rfl⟩
   obtain ⟨q,hq⟩:∃ q,q=wr.heap.size:=⟨_,rfl⟩
   have hx:=RX.new (hu.later (uh HB))
   have kn:=zqa wr (.cells #[.int .i64 u.a,.slice u.b u.c u.d,.int .i64 u.e,.slice u.f u.g u.h] 39)
   rw [<- hV,<- hq] at hx
   rw [<- hV] at kn
   have HB:=qh (bk kn (uh HB))
   have HF:=qh ((uh HF).later (zqs _ _) kn)
   have HX:=qh hx
   have x0:=hx.c0
   have x1:=hx.c1
   have x2:=hx.c2
   have x3:=hx.c3
   clear hs hu d kn hx
   go_upto_region 5 with fail
   rw [<- hV,<- hq]
   clear hV hq d0 d1 d2 d3
   have eg:=eg_count
   go_wp2_with fail
   go_fit (count_any x u _ (uh HG).1 (uh HG).2.1 ((uh HZ).later (uh HB)) (uh HX).q (uh HG).2.2.1 (by have h1:=Int.le_of_dvd (uh HG).2.1.1 (uh HG).2.2.2.1;have h2:=(uh HG).2.1.2;have h3:=(uh HG).1.r;omega) (by have h1:=uh HCI;have h2:=(uh HG).2.2.2.2;have h3:=(uh HG).1.r;omega))
   rintro e W1 ⟨⟨z,rfl,hc⟩,B1⟩
   have HB:=qh (bk B1 (uh HB))
   have HF:=qh ((uh HF).later (zqs _ _) B1)
   have HC:=qh hc
   obtain ⟨w0,f0⟩:=(uh HF).cell (o:=i*2) (by omega)
   obtain ⟨w1,f1⟩:=(uh HF).cell (o:=i*2+1) (by omega)
   have fz:=(uh HF).free
   have flt:=(uh HF).lt
   clear B1 hc x0 x1 x2 x3 eg
   go_wp2
   go_roundg (m - (i+1))
   case measure=>omega
   case rel =>
    have hf:=(uh HF).next2 (u0:=.int .i64 z.a) (u1:=.slice z.b z.c z.d) (zqs _ _) (by rw [uh HLN];omega) (kd_z _ _ _ _) ⟨_,_,_,_,rfl,uh HC⟩
    rw [uh HLN,<- uh HN] at hf
    exact ⟨i+1,by omega,rfl,by go_num,qh (((uh HB).setCell (p:=⟨g,_,none⟩) (uh HM).2 _).setCell (p:=⟨g,_,none⟩) (uh HM).2 _),qh hf.1⟩
  ·obtain rfl:m=i:=by omega
   have HLN:=qh (show ((W.take m).map (cnt D P)).length=m by simp;have:=(uh HM).1;omega)
   have HTK:=qh (show (W.take m).map (cnt D P)=W.map (cnt D P) by rw [List.take_of_length_le (by have:=(uh HM).1;omega)])
   clear hil hi hgk
   go_wp2
   go_ret
   have hr:=(uh HF).rows (uh HLN) (by unfold maxLen;omega)
   rw [uh HTK] at hr
   exact ⟨⟨_,rfl,hr⟩,uh HB⟩
theorem counts_any {K N:Nat}{T D P B:Int}{v:Value}{W:List Int} (x:Z4) (w:World) (hB:Big K N T) (hD:Dn T D) (hz:Zr (K+1) w (vz x) P) (h:Rows 4 (RsE K D) w v W) (hl:W.length<=300) (P0:0<P) (hPD:P∣D) (hW:∀ s ∈ W,dO D s∣P/\0<=s/\s<=B) (hBT:B<T) :
 Calls Tryz.prog 60 #[.agg #[.int .i64 x.a,.slice x.b x.c x.d],v] w fun e w'=>(∃ u,e=.returned u/\Rows 2 (ZE (K+1)) w' u (W.map (cnt D P)))/\Below w.heap.size w w':=by
 obtain ⟨la,lc,rfl⟩:=h.shape
 obtain ⟨V,hV⟩:∃ V,V=w.alloc (.cells #[.int .i64 x.a,.slice x.b x.c x.d] 125):=⟨_,rfl⟩
 obtain ⟨q,hq⟩:∃ g,g=w.heap.size:=⟨_,rfl⟩
 have hb:Below w.heap.size w V:=by rw [hV];exact zqa _ _
 have c0:V.cell? ⟨q,0,none⟩=some (.int .i64 x.a):=by rw [hV,hq,zqe rfl];rfl
 have c1:V.cell? ⟨q,1,none⟩=some (.slice x.b x.c x.d):=by rw [hV,hq,zqe rfl];rfl
 have HC:=qh (eachCount_any x V hB hD (hz.later hb) (h.later (RsE.stays K D 0 nww) hb) hl P0 hPD hW hBT)
 have HB:=qh hb
 clear h hz hb hB hD P0 hPD hW hBT
 go_enter Tryz.func60,Tryz.ntmps60
 go_upto_region 1 with fail
 rw [<- hV,<- hq]
 clear hV hq
 go_wp2_with fail
 go_fit (uh HC)
 rintro e W1 ⟨⟨u,rfl,hu⟩,B1⟩
 obtain ⟨ua,uc,rfl⟩:=hu.shape
 obtain ⟨nn,hnn⟩:∃ n,n=(W.map (cnt D P)).length:=⟨_,rfl⟩
 rw [<- hnn] at hu ⊢
 have HU:=qh hu
 have HB:=qh (bk B1 (uh HB))
 clear hu B1 c0 c1 hnn
 go_wp2
 go_ret
 exact ⟨⟨_,rfl,uh HU⟩,uh HB⟩
end Go.Proofs.YtkdobjmhammhbaaGreatDoor
