import Derived.Test.YtkifiolkfdicoaaGreatDoorMN2
namespace Go.Proofs.YtkifiolkfdicoaaGreatDoor
open Go.RowKit
def CrW (V:World) (K qz:Nat) (zn:Int) (L:Nat→Bool) (w1:World):Prop :=
 (L 10=false∧Below V.heap.size V w1)∨(L 10=true∧(∀ i,i<11→L i=true)∧∃ (Y:World) (u1:Int) (u2:Option Addr) (u3 u4:Nat),Below V.heap.size V Y∧Zr K Y (.agg #[.int .i64 u1,.slice u2 u3 u4]) zn∧w1=(Y.setCell ⟨qz,0,none⟩ (.int .i64 u1)).setCell ⟨qz,1,none⟩ (.slice u2 u3 u4))
def CrF (N:Nat) (x y more less:Int) (vx vm vl vy vo:Value) (i ob oo:Nat):Nat→Value→World→Prop
 | 0,v,_=>v=vx
 | 1,v,_=>v=vm
 | 2,v,w=>Zr (N+1+(N+1)) w v (x*more)
 | 3,v,_=>v=vo
 | 4,v,_=>v=.int .i64 (i:Int)
 | 5,v,_=>v=.pointer (some ⟨ob,oo+i*2,none⟩)
 | 6,v,_=>v=vy
 | 7,v,_=>v=vl
 | 8,v,w=>Zr (N+1+(N+1)) w v (y*less)
 | 9,v,w=>Zr (N+1+(N+1)+1) w v (x*more - y*less)
 | _,_,_=>True
theorem CrF.later {N:Nat}{x y more less:Int}{vx vm vl vy vo:Value}{i ob oo j:Nat}{v:Value}{w w':World} (h:CrF N x y more less vx vm vl vy vo i ob oo j v w) (hb:Below w.heap.size w w'):CrF N x y more less vx vm vl vy vo i ob oo j v w':=by
 rcases j with _ | _ | _ | _ | _ | _ | _ | _ | _ | _ | _
 all_goals first | exact h | exact Zr.later h hb
theorem CrF.stored {N:Nat}{x y more less:Int}{vx vm vl vy vo:Value}{i ob oo j b:Nat}{v:Value}{w:World} (h:CrF N x y more less vx vm vl vy vo i ob oo j v w) (hb:Box w b) (u u':Value):CrF N x y more less vx vm vl vy vo i ob oo j v ((w.setCell ⟨b,0,none⟩ u).setCell ⟨b,1,none⟩ u'):=by
 rcases j with _ | _ | _ | _ | _ | _ | _ | _ | _ | _ | _
 all_goals first | exact h | exact Zr.stored h hb _ _
theorem Zr.fit2 {N M:Nat}{w:World}{v:Value}{z:Int} (h:Zr N w v z) (hz:-pw M<z∧z<pw M):Zr M w v z:=h.fit hz.1 hz.2
theorem box_stored {V Y:World}{qz:Nat}{K:Nat}{u1:Int}{u2:Option Addr}{u3 u4:Nat}{zn:Int} (hq:Box V qz) (hY:Below V.heap.size V Y) (hz:Zr K Y (.agg #[.int .i64 u1,.slice u2 u3 u4]) zn):Vr ((Y.setCell ⟨qz,0,none⟩ (.int .i64 u1)).setCell ⟨qz,1,none⟩ (.slice u2 u3 u4)) qz u1 u2 u3 u4 K zn:=Vr.in (hq.later hY) hz
structure B3 (W0:World) (N q g:Nat) (a1:Int) (a2:Option Addr) (a3 a4:Nat) (b1:Int) (b2:Option Addr) (b3 b4:Nat) (d1:Int) (d2:Option Addr) (d3 d4:Nat) (more less d:Int) (wr:World):Prop where
 bes:Bes g W0 wr
 m:Vr wr q a1 a2 a3 a4 N more
 l:Vr wr (q+1) b1 b2 b3 b4 N less
 d:Vr wr (q+1+1) d1 d2 d3 d4 N d
theorem B3.then {W0 w1 w2:World}{N q g:Nat}{a1 b1 d1:Int}{a2 b2 d2:Option Addr}{a3 a4 b3 b4 d3 d4:Nat}{more less d:Int} (h:B3 W0 N q g a1 a2 a3 a4 b1 b2 b3 b4 d1 d2 d3 d4 more less d w1) (hb:Bes g w1 w2) (hg:g<q):B3 W0 N q g a1 a2 a3 a4 b1 b2 b3 b4 d1 d2 d3 d4 more less d w2 :=
 ⟨h.bes.trans hb,h.m.bes hb (by omega),h.l.bes hb (by omega),h.d.bes hb (by omega)⟩
theorem B3.start {w:World}{N g:Nat}{a1 b1 d1:Int}{a2 b2 d2:Option Addr}{a3 a4 b3 b4 d3 d4:Nat}{more less d:Int} (hm:Zr N w (.agg #[.int .i64 a1,.slice a2 a3 a4]) more) (hl:Zr N w (.agg #[.int .i64 b1,.slice b2 b3 b4]) less) (hd:Zr N w (.agg #[.int .i64 d1,.slice d2 d3 d4]) d) (hg:g<w.heap.size) :
   B3 w N w.heap.size g a1 a2 a3 a4 b1 b2 b3 b4 d1 d2 d3 d4 more less d (((w.alloc (.cells #[.int .i64 a1,.slice a2 a3 a4] 31)).alloc (.cells #[.int .i64 b1,.slice b2 b3 b4] 31)).alloc (.cells #[.int .i64 d1,.slice d2 d3 d4] 31)):=by
 have k1:=zqa w (.cells #[.int .i64 a1,.slice a2 a3 a4] 31)
 have k2:=zqa (w.alloc (.cells #[.int .i64 a1,.slice a2 a3 a4] 31)) (.cells #[.int .i64 b1,.slice b2 b3 b4] 31)
 have k3:=zqa ((w.alloc (.cells #[.int .i64 a1,.slice a2 a3 a4] 31)).alloc (.cells #[.int .i64 b1,.slice b2 b3 b4] 31)) (.cells #[.int .i64 d1,.slice d2 d3 d4] 31)
 have q1:=((Vr.new hm).keep k2).keep k3
 have q2:=(Vr.new (hl.later k1)).keep k3
 have q3:=Vr.new ((hd.later k1).later k2)
 rw [show (w.alloc (.cells #[.int .i64 a1,.slice a2 a3 a4] 31)).heap.size=w.heap.size+1 by simp] at q2
 rw [show ((w.alloc (.cells #[.int .i64 a1,.slice a2 a3 a4] 31)).alloc (.cells #[.int .i64 b1,.slice b2 b3 b4] 31)).heap.size=w.heap.size+1+1 by simp] at q3
 exact ⟨Bes.of (bk k3 (bk k2 k1)) (by omega),q1,q2,q3⟩
set_option maxHeartbeats 16000000 in
set_option maxRecDepth 8000 in
theorem crossed_any {N g n m:Nat}{A:Option Addr}{X r oo' Y:List Int}{vr vo:Value}{more less d:Int}{a1 b1 d1:Int}{a2 b2 d2:Option Addr}{a3 a4 b3 b4 d3 d4:Nat} (w:World)
   (hroom:Fill NoWord 2 (ZE (N+1)) 31 w g n X) (hA:0<m→A=some ⟨g,X.length*2,none⟩) (hXn:X.length+m≤n) (hr:Zo (N+1) g w vr r) (ho:Zo (N+1) g w vo oo')
   (hm:Zr (N+1) w (.agg #[.int .i64 a1,.slice a2 a3 a4]) more) (hl:Zr (N+1) w (.agg #[.int .i64 b1,.slice b2 b3 b4]) less) (hd:Zr (N+1) w (.agg #[.int .i64 d1,.slice d2 d3 d4]) d) (d0:d≠0)
   (hrl:r.length=m) (hol:oo'.length=m) (hYl:Y.length=m) (hY:∀ (i:Nat) (y x z:Int),Y[i]? = some y→r[i]? = some x→oo'[i]? = some z→y*d=x*more - z*less) (hYf:∀ y ∈ Y,-pw (N+1)<y∧y<pw (N+1)) (hm6:m≤6) (hN:N≤100000) :
   Calls Tryz.prog 210 #[.slice A 0 m,vr,vo,.agg #[.int .i64 a1,.slice a2 a3 a4],.agg #[.int .i64 b1,.slice b2 b3 b4],.agg #[.int .i64 d1,.slice d2 d3 d4]] w fun e w'=>e=.returned (.slice A m m)∧Fill NoWord 2 (ZE (N+1)) 31 w' g n (X++Y)∧Bes g w w':=by
 obtain ⟨ra,rc,rfl⟩:=hr.1.shape
 obtain ⟨va,vc,rfl⟩:=ho.1.shape
 have hg:=hroom.lt
 have HB3:=qh (B3.start (g:=g) hm hl hd hg)
 obtain ⟨q,hq⟩:∃ q,q=w.heap.size:=⟨_,rfl⟩
 rw [← hq] at HB3
 have hgq:g<q:=by omega
 have k1:=zqa w (.cells #[.int .i64 a1,.slice a2 a3 a4] 31)
 have k2:=zqa (w.alloc (.cells #[.int .i64 a1,.slice a2 a3 a4] 31)) (.cells #[.int .i64 b1,.slice b2 b3 b4] 31)
 have k3:=zqa ((w.alloc (.cells #[.int .i64 a1,.slice a2 a3 a4] 31)).alloc (.cells #[.int .i64 b1,.slice b2 b3 b4] 31)) (.cells #[.int .i64 d1,.slice d2 d3 d4] 31)
 have kk:=bk k3 (bk k2 k1)
 have HF:=qh (hroom.later (ZE.stays _ _ nww) kk)
 have HR:=qh (hr.later kk)
 have HO:=qh (ho.later kk)
 have HY:=qh (And.intro hY hYf)
 have HA:=qh hA
 have HQ:=qh hq
 have HL:=qh (And.intro hrl (And.intro hol hYl))
 have HXN:=qh hXn
 rw [hrl] at HR
 rw [hol] at HO
 rw [hrl,hol]
 clear hroom hr ho hm hl hd k1 k2 k3 kk hY hYf hA hq hrl hol hYl hXn hg
 go_enter Tryz.func210,Tryz.ntmps210
 go_wp2_with fail
 obtain ⟨W0,hW0⟩:∃ X,X=((w.alloc (.cells #[.int .i64 a1,.slice a2 a3 a4] 31)).alloc (.cells #[.int .i64 b1,.slice b2 b3 b4] 31)).alloc (.cells #[.int .i64 d1,.slice d2 d3 d4] 31):=⟨_,rfl⟩
 rw [← hW0,← uh HQ]
 rw [← hW0] at HB3 HF HR HO
 clear hW0
 go_loopg [0,17] m (fun gk ov iv wr=>∃ (i:Nat),i≤m∧gk=m - i∧ov=.slice A i m∧iv=.int .i64 (i:Int)∧Hid (B3 w (N+1) q g a1 a2 a3 a4 b1 b2 b3 b4 d1 d2 d3 d4 more less d wr)∧Hid (Fill NoWord 2 (ZE (N+1)) 31 wr g n (X++Y.take i))∧Hid (Zo (N+1) g wr (.slice ra m rc) r)∧Hid (Zo (N+1) g wr (.slice va m vc) oo'))
 case atStart=>exact ⟨0,by omega,by omega,rfl,rfl,HB3,qh (by simpa using uh HF),HR,HO⟩
 case round =>
   clear HB3 HF HR HO
   obtain ⟨i,hi,hgk,rfl,rfl,HB3,HF,HR,HO⟩:=hrel
   by_cases him:i<m
   · obtain ⟨hrl,hol,hYl⟩:=uh HL
     obtain ⟨x,hx⟩:∃ x,r[i]? = some x:=⟨r[i]'(by omega),by simp⟩
     obtain ⟨z,hz⟩:∃ x,oo'[i]? = some x:=⟨oo'[i]'(by omega),by simp⟩
     obtain ⟨y,hy⟩:∃ x,Y[i]? = some x:=⟨Y[i]'(by omega),by simp⟩
     obtain ⟨rb,ro,x1,x2,x3,x4,rfl,hrg,c0,c1,hX⟩:=(uh HR).at hx
     obtain ⟨ob,oo,z1,z2,z3,z4,rfl,hog,e0,e1,hZ⟩:=(uh HO).at hz
     have hyd:=(uh HY).1 i y x z hy hx hz
     have hyf:=(uh HY).2 y (List.mem_of_getElem? hy)
     have him':(i:Int)<(m:Int):=by omega
     have hi1:(i:Int)+1≤100:=by omega
     have kn:=zqa wr (.cells #[.int .i64 x1,.slice x2 x3 x4] 31)
     have hgw:g≤wr.heap.size:=Nat.le_of_lt (uh HF).lt
     have HZ:=qh (And.intro (And.intro (ck kn e0) (ck kn e1)) (hZ.later kn))
     have HX:=qh (Vr.new hX)
     have HBV:=qh ((uh HB3).then (Bes.of kn hgw) hgq)
     have HKN:=qh kn
     have HIN:=qh (And.intro (And.intro hyd hyf) (And.intro hy (And.intro hgk hi)))
     have hqw:q+1+1<wr.heap.size:=(uh HB3).d.lt
     clear hrl hol hYl hx hz hy hX hZ hyd hyf kn hgk hi e0 e1
     go_upto_region 4 with fail
     obtain ⟨V,hV⟩:∃ X,X=wr.alloc (.cells #[.int .i64 x1,.slice x2 x3 x4] 31):=⟨_,rfl⟩
     obtain ⟨qz,hqe⟩:∃ X,X=wr.heap.size:=⟨_,rfl⟩
     rw [← hV,← hqe]
     rw [← hV] at HZ HX HBV HKN
     rw [← hqe] at HX hqw hgw HKN
     have HQE:=qh hqe
     clear hV hqe c0 c1
     have l0:=(uh HBV).l.c0
     have l1:=(uh HBV).l.c1
     have end6:∀ (Y:World) (v:Value),Below V.heap.size V Y→Zr (N+1+(N+1)) Y v (x*more)→z*less=0→∃ (u1:Int) (u2:Option Addr) (u3 u4:Nat),v=.agg #[.int .i64 u1,.slice u2 u3 u4]∧Hid (Vr ((Y.setCell ⟨qz,0,none⟩ (.int .i64 u1)).setCell ⟨qz,1,none⟩ (.slice u2 u3 u4)) qz u1 u2 u3 u4 (N+1+(N+1)+1) (x*more - z*less))∧Hid (Below qz wr ((Y.setCell ⟨qz,0,none⟩ (.int .i64 u1)).setCell ⟨qz,1,none⟩ (.slice u2 u3 u4))):=by
       intro Y v hb hz h0
       obtain ⟨u1,u2,u3,u4,rfl⟩:=hz.shape
       refine ⟨u1,u2,u3,u4,rfl,qh (by rw [h0,Int.sub_zero];exact box_stored (uh HX).box hb (hz.mono (by omega))),qh (below_put2 ((uh HKN).trans (hb.mono (Nat.le_of_lt (uh HX).lt))) (Nat.le_refl _) _ _)⟩
     have E6:=qh end6
     clear end6
     go_wp2_with fail
     go_fit (sign_zr _ (uh HBV).l.zr)
     rintro e W1 ⟨rfl,B1⟩
     have HB1:=qh B1
     clear l0 l1
     by_cases hl0:less=0
     · have hsg:(sgn less != 0)=false:=by rw [hl0];rfl
       have z0:=ck B1 (uh HX).c0
       have z1:=ck B1 (uh HX).c1
       have m0:=ck B1 (uh HBV).m.c0
       have m1:=ck B1 (uh HBV).m.c1
       have HL0:Hid (z*less=0):=qh (by rw [hl0,Int.mul_zero])
       clear hl0 B1
       go_wp2_with fail
       go_fit (zjb (N:=N) _ ((uh HX).zr.later (uh HB1)) ((uh HBV).m.zr.later (uh HB1)) (by omega))
       rintro e W2 ⟨⟨v,rfl,hV⟩,B2⟩
       obtain ⟨u1,u2,u3,u4,rfl,hv1,hv2⟩:=uh E6 W2 v (bk B2 (uh HB1)) hV (uh HL0)
       have hbx:=((uh HX).box.later (uh HB1)).later B2
       obtain ⟨⟨g0,h0⟩,⟨g1,g2,g3,h1⟩,gf⟩:=hbx.cells
       clear z0 z1 m0 m1 B2 hV
       obtain ⟨Z,hZ⟩:∃ X,X=(W2.setCell ⟨qz,0,none⟩ (.int .i64 u1)).setCell ⟨qz,1,none⟩ (.slice u2 u3 u4):=⟨_,rfl⟩
       rw [← hZ] at hv1 hv2
       have HV:=hv1
       go_upto_region 7 with fail
       rw [← hZ]
       have HBW:Hid (Below wr.heap.size wr Z):=by rw [← uh HQE];exact hv2
       clear hZ hv1 hv2
       have HB3:=qh ((uh HB3).then (Bes.of (uh HBW) (by rw [← uh HQE];exact hgw)) hgq)
       have HF:=qh ((uh HF).later (ZE.stays _ _ nww) (uh HBW))
       have HR:=qh ((uh HR).later (uh HBW))
       have HO:=qh ((uh HO).later (uh HBW))
       have z0:=(uh HV).c0
       have z1:=(uh HV).c1
       have k0:=(uh HB3).d.c0
       have k1:=(uh HB3).d.c1
       clear HBW HBV HX HZ HKN
       go_wp2_with fail
       go_fit (zjp (N:=N+1+(N+1)) (q:=y) _ (uh HV).zr ((uh HB3).d.zr.mono (by omega)) d0 (uh HIN).1.1 (by omega))
       rintro e W1 ⟨⟨v,rfl,hE⟩,B1⟩
       have hE:=hE.fit2 (uh HIN).1.2
       obtain ⟨t1,t2,t3,t4,rfl⟩:=hE.shape
       have HE:=qh hE
       have hgz:g≤Z.heap.size:=Nat.le_of_lt (uh HF).lt
       have HB3:=qh ((uh HB3).then (Bes.of B1 hgz) hgq)
       have HF:=qh ((uh HF).later (ZE.stays _ _ nww) B1)
       have HR:=qh ((uh HR).later B1)
       have HO:=qh ((uh HO).later B1)
       obtain ⟨hrl,hol,hYl⟩:=uh HL
       have hlen:(X++Y.take i).length=X.length+i:=by rw [List.length_append,List.length_take];omega
       have HAi:=qh (uh HA (by omega))
       have hxn:=uh HXN
       have hn1:(X++Y.take i).length<n:=by omega
       have hb0:Hid (X.length+i=(X++Y.take i).length):=qh hlen.symm
       clear z0 z1 k0 k1 B1 hE hrl hol hlen hxn HV
       go_wp2_with (at_builtin;refine wpList_room2 (b0:=X.length) rfl _ _ rfl rfl rfl rfl (uh HF) (uh HAi) him (uh hb0) hn1 (uh HE) ?_;intro Z1 hF1 hb1)
       obtain ⟨hy,hgk,hi⟩:=(uh HIN).2
       have kn:=zqa W1 (.cells #[.int .i64 t1,.slice t2 t3 t4] 31)
       have hgv:g≤W1.heap.size:=Nat.le_of_lt (uh HF).lt
       have hbb:=(Bes.of kn hgv).trans hb1
       go_roundg (m - (i+1))
       case measure=>omega
       case rel=>exact ⟨i+1,by omega,rfl,rfl,by go_num,qh ((uh HB3).then hbb hgq),qh (by rw [tkn hy,← List.append_assoc];exact hF1),qh ((uh HR).bes hbb),qh ((uh HO).bes hbb)⟩
     have hsg:(sgn less != 0)=true:=by simp [sgn];omega
     have e0:=ck B1 (uh HZ).1.1
     have e1:=ck B1 (uh HZ).1.2
     clear B1 hl0
     go_wp2_with fail
     go_fit (sign_zr _ ((uh HZ).2.later (uh HB1)))
     rintro e W2 ⟨rfl,B2⟩
     have HB2:=qh (bk B2 (uh HB1))
     clear e0 e1 B2
     by_cases hz0:z=0
     · have hsg2:(sgn z != 0)=false:=by rw [hz0];rfl
       have z0:=ck (uh HB2) (uh HX).c0
       have z1:=ck (uh HB2) (uh HX).c1
       have m0:=ck (uh HB2) (uh HBV).m.c0
       have m1:=ck (uh HB2) (uh HBV).m.c1
       have HL0:Hid (z*less=0):=qh (by rw [hz0,Int.zero_mul])
       clear hz0
       go_wp2_with fail
       go_fit (zjb (N:=N) _ ((uh HX).zr.later (uh HB2)) ((uh HBV).m.zr.later (uh HB2)) (by omega))
       rintro e W3 ⟨⟨v,rfl,hV⟩,B3⟩
       obtain ⟨u1,u2,u3,u4,rfl,hv1,hv2⟩:=uh E6 W3 v (bk B3 (uh HB2)) hV (uh HL0)
       have hbx:=((uh HX).box.later (uh HB2)).later B3
       obtain ⟨⟨g0,h0⟩,⟨g1,g2,g3,h1⟩,gf⟩:=hbx.cells
       clear z0 z1 m0 m1 B3 hV
       obtain ⟨Z,hZ⟩:∃ X,X=(W3.setCell ⟨qz,0,none⟩ (.int .i64 u1)).setCell ⟨qz,1,none⟩ (.slice u2 u3 u4):=⟨_,rfl⟩
       rw [← hZ] at hv1 hv2
       have HV:=hv1
       go_upto_region 7 with fail
       rw [← hZ]
       have HBW:Hid (Below wr.heap.size wr Z):=by rw [← uh HQE];exact hv2
       clear hZ hv1 hv2
       have HB3:=qh ((uh HB3).then (Bes.of (uh HBW) (by rw [← uh HQE];exact hgw)) hgq)
       have HF:=qh ((uh HF).later (ZE.stays _ _ nww) (uh HBW))
       have HR:=qh ((uh HR).later (uh HBW))
       have HO:=qh ((uh HO).later (uh HBW))
       have z0:=(uh HV).c0
       have z1:=(uh HV).c1
       have k0:=(uh HB3).d.c0
       have k1:=(uh HB3).d.c1
       clear HBW HBV HX HZ HKN
       go_wp2_with fail
       go_fit (zjp (N:=N+1+(N+1)) (q:=y) _ (uh HV).zr ((uh HB3).d.zr.mono (by omega)) d0 (uh HIN).1.1 (by omega))
       rintro e W1 ⟨⟨v,rfl,hE⟩,B1⟩
       have hE:=hE.fit2 (uh HIN).1.2
       obtain ⟨t1,t2,t3,t4,rfl⟩:=hE.shape
       have HE:=qh hE
       have hgz:g≤Z.heap.size:=Nat.le_of_lt (uh HF).lt
       have HB3:=qh ((uh HB3).then (Bes.of B1 hgz) hgq)
       have HF:=qh ((uh HF).later (ZE.stays _ _ nww) B1)
       have HR:=qh ((uh HR).later B1)
       have HO:=qh ((uh HO).later B1)
       obtain ⟨hrl,hol,hYl⟩:=uh HL
       have hlen:(X++Y.take i).length=X.length+i:=by rw [List.length_append,List.length_take];omega
       have HAi:=qh (uh HA (by omega))
       have hxn:=uh HXN
       have hn1:(X++Y.take i).length<n:=by omega
       have hb0:Hid (X.length+i=(X++Y.take i).length):=qh hlen.symm
       clear z0 z1 k0 k1 B1 hE hrl hol hlen hxn HV
       go_wp2_with (at_builtin;refine wpList_room2 (b0:=X.length) rfl _ _ rfl rfl rfl rfl (uh HF) (uh HAi) him (uh hb0) hn1 (uh HE) ?_;intro Z1 hF1 hb1)
       obtain ⟨hy,hgk,hi⟩:=(uh HIN).2
       have kn:=zqa W1 (.cells #[.int .i64 t1,.slice t2 t3 t4] 31)
       have hgv:g≤W1.heap.size:=Nat.le_of_lt (uh HF).lt
       have hbb:=(Bes.of kn hgv).trans hb1
       go_roundg (m - (i+1))
       case measure=>omega
       case rel=>exact ⟨i+1,by omega,rfl,rfl,by go_num,qh ((uh HB3).then hbb hgq),qh (by rw [tkn hy,← List.append_assoc];exact hF1),qh ((uh HR).bes hbb),qh ((uh HO).bes hbb)⟩
     have hsg2:(sgn z != 0)=true:=by simp [sgn];omega
     clear hz0
     go_upto_region 5 with fail
     have HB2:=qh (uh HB2).drew
     refine zki (by kernel_rfl) (by kernel_rfl) (by kernel_rfl) (CrW V (N+1+(N+1)+1) qz (x*more - z*less)) (CrF N x z more less (.agg #[.int .i64 x1,.slice x2 x3 x4]) (.agg #[.int .i64 a1,.slice a2 a3 a4]) (.agg #[.int .i64 b1,.slice b2 b3 b4]) (.agg #[.int .i64 z1,.slice z2 z3 z4]) (.slice (some ⟨ob,oo,none⟩) m vc) i ob oo) (Or.inl ⟨rfl,uh HB2⟩) ?_ ?_
     · intro L' vals w1 i' o' hW hF hL ho hdep
       have hi':i'<11:=(Array.getElem?_eq_some_iff.1 ho).1
       rcases hW with ⟨h9,hB⟩ | ⟨_,hall,_⟩
       rotate_left
       · exact absurd (hall i' hi') (by rw [hL];decide)
       rcases (by omega:i'=0∨i'=1∨i'=2∨i'=3∨i'=4∨i'=5∨i'=6∨i'=7∨i'=8∨i'=9∨i'=10) with rfl | rfl | rfl | rfl | rfl | rfl | rfl | rfl | rfl | rfl | rfl
       · obtain rfl:=Option.some.inj ho
         have y0:=ck hB (uh HX).c0;have y1:=ck hB (uh HX).c1
         refine wpOp_step rfl (fun K hK' => ?_)
         simp only [frs]
         go_simp
         exact hK' _ _ ⟨.agg #[.int .i64 x1,.slice x2 x3 x4],(by show _=Act.put _ (some 33) _;simp only [frs]),rfl,Or.inl ⟨by simp [h9],hB⟩,hF⟩
       · obtain rfl:=Option.some.inj ho
         have y0:=ck hB (uh HBV).m.c0;have y1:=ck hB (uh HBV).m.c1
         refine wpOp_step rfl (fun K hK' => ?_)
         simp only [frs]
         go_simp
         exact hK' _ _ ⟨.agg #[.int .i64 a1,.slice a2 a3 a4],(by show _=Act.put _ (some 34) _;simp only [frs]),rfl,Or.inl ⟨by simp [h9],hB⟩,hF⟩
       · obtain rfl:=Option.some.inj ho
         have f0:=hF 0 (hdep ⟨0,.data⟩ (by simp) rfl)
         have f1:=hF 1 (hdep ⟨1,.data⟩ (by simp) rfl)
         refine wpOp_step rfl (fun K hK' => ?_)
         simp only [frs]
         go_simp
         rw [show vals 0=_ from f0]
         rw [show vals 1=_ from f1]
         go_fit (zjb (N:=N) _ ((uh HX).zr.later hB) ((uh HBV).m.zr.later hB) (by omega))
         rintro e9 Y ⟨⟨v,rfl,hV⟩,hb⟩
         exact hK' _ _ ⟨v,(by show _=Act.put _ (some 35) _;simp only [frs,show vals 0=_ from f0,show vals 1=_ from f1]),hV,Or.inl ⟨by simp [h9],bk hb hB⟩,fun j hj=>CrF.later (hF j hj) hb⟩
       · obtain rfl:=Option.some.inj ho
         refine wpOp_step rfl (fun K hK' => ?_)
         simp only [frs]
         go_simp
         exact hK' _ _ ⟨.slice (some ⟨ob,oo,none⟩) m vc,(by show _=Act.put _ (some 36) _;simp only [frs]),rfl,Or.inl ⟨by simp [h9],hB⟩,hF⟩
       · obtain rfl:=Option.some.inj ho
         refine wpOp_step rfl (fun K hK' => ?_)
         simp only [frs]
         go_simp
         exact hK' _ _ ⟨.int .i64 (i:Int),(by show _=Act.put _ (some 37) _;simp only [frs]),rfl,Or.inl ⟨by simp [h9],hB⟩,hF⟩
       · obtain rfl:=Option.some.inj ho
         have f3:=hF 3 (hdep ⟨3,.data⟩ (by simp) rfl)
         have f4:=hF 4 (hdep ⟨4,.data⟩ (by simp) rfl)
         refine wpOp_step rfl (fun K hK' => ?_)
         simp only [frs]
         rw [show vals 3=_ from f3]
         rw [show vals 4=_ from f4]
         go_simp
         exact hK' _ _ ⟨.pointer (some ⟨ob,oo+i*2,none⟩),(by show _=Act.put _ (some 38) _;simp only [frs,show vals 3=_ from f3,show vals 4=_ from f4]),rfl,Or.inl ⟨by simp [h9],hB⟩,hF⟩
       · obtain rfl:=Option.some.inj ho
         have f5:=hF 5 (hdep ⟨5,.data⟩ (by simp) rfl)
         have y0:=ck hB (uh HZ).1.1;have y1:=ck hB (uh HZ).1.2
         refine wpOp_step rfl (fun K hK' => ?_)
         simp only [frs]
         rw [show vals 5=_ from f5]
         go_simp
         exact hK' _ _ ⟨.agg #[.int .i64 z1,.slice z2 z3 z4],(by show _=Act.put _ (some 39) _;simp only [frs,show vals 5=_ from f5]),rfl,Or.inl ⟨by simp [h9],hB⟩,hF⟩
       · obtain rfl:=Option.some.inj ho
         have y0:=ck hB (uh HBV).l.c0;have y1:=ck hB (uh HBV).l.c1
         refine wpOp_step rfl (fun K hK' => ?_)
         simp only [frs]
         go_simp
         exact hK' _ _ ⟨.agg #[.int .i64 b1,.slice b2 b3 b4],(by show _=Act.put _ (some 40) _;simp only [frs]),rfl,Or.inl ⟨by simp [h9],hB⟩,hF⟩
       · obtain rfl:=Option.some.inj ho
         have f6:=hF 6 (hdep ⟨6,.data⟩ (by simp) rfl)
         have f7:=hF 7 (hdep ⟨7,.data⟩ (by simp) rfl)
         refine wpOp_step rfl (fun K hK' => ?_)
         simp only [frs]
         go_simp
         rw [show vals 6=_ from f6]
         rw [show vals 7=_ from f7]
         go_fit (zjb (N:=N) _ ((uh HZ).2.later hB) ((uh HBV).l.zr.later hB) (by omega))
         rintro e9 Y ⟨⟨v,rfl,hV⟩,hb⟩
         exact hK' _ _ ⟨v,(by show _=Act.put _ (some 41) _;simp only [frs,show vals 6=_ from f6,show vals 7=_ from f7]),hV,Or.inl ⟨by simp [h9],bk hb hB⟩,fun j hj=>CrF.later (hF j hj) hb⟩
       · obtain rfl:=Option.some.inj ho
         have f2:=hF 2 (hdep ⟨2,.data⟩ (by simp) rfl)
         have f8:=hF 8 (hdep ⟨8,.data⟩ (by simp) rfl)
         refine wpOp_step rfl (fun K hK' => ?_)
         simp only [frs]
         go_simp
         go_fit (sub_any (N:=N+1+N) _ f2 f8 (by omega))
         rintro e9 Y ⟨⟨v,rfl,hV⟩,hb⟩
         exact hK' _ _ ⟨v,(by show _=Act.put _ (some 42) _;simp only [frs]),hV,Or.inl ⟨by simp [h9],bk hb hB⟩,fun j hj=>CrF.later (hF j hj) hb⟩
       · obtain rfl:=Option.some.inj ho
         have f9:=hF 9 (hdep ⟨9,.data⟩ (by simp) rfl)
         obtain ⟨m1,m2,m3,m4,hv9⟩:=Zr.shape f9
         rw [hv9] at f9
         have hbx:=(uh HX).box.later hB
         obtain ⟨⟨x0,g0⟩,⟨a0,n0,c0',g1⟩,gf⟩:=hbx.cells
         refine wpOp_step rfl (fun K hK' => ?_)
         simp only [frs]
         rw [hv9]
         go_simp
         refine hK' _ _ ⟨undef,(by show _=Act.put _ (none) _;simp only [frs,hv9]),trivial,Or.inr ⟨rfl,?_,w1,m1,m2,m3,m4,hB,f9,rfl⟩,?_⟩
         · intro i hi
           rcases (by omega:i=0∨i=1∨i=2∨i=3∨i=4∨i=5∨i=6∨i=7∨i=8∨i=9∨i=10) with rfl | rfl | rfl | rfl | rfl | rfl | rfl | rfl | rfl | rfl | rfl
           all_goals first | rfl | exact hdep ⟨_,.phase⟩ (by simp) rfl | exact hdep ⟨_,.data⟩ (by simp) rfl
         · exact fun j hj=>CrF.stored (hF j hj) hbx _ _
     · intro L' vals w1 hW hF
       rcases hW with ⟨h9,_⟩ | ⟨_,_,Y',u1,u2,u3,u4,hb,hz,rfl⟩
       · have:=(hF 10 (by decide)).1
         rw [h9] at this
         cases this
       have hv1:=qh (box_stored (uh HX).box hb hz)
       have hv2:=qh (below_put2 (o:=0) ((uh HKN).trans (hb.mono (Nat.le_of_lt (uh HX).lt))) (Nat.le_refl _) (.int .i64 u1) (.slice u2 u3 u4))
       clear hb hz hF
       simp only [frs]
       obtain ⟨Z,hZ⟩:∃ X,X=(Y'.setCell ⟨qz,0,none⟩ (.int .i64 u1)).setCell ⟨qz,1,none⟩ (.slice u2 u3 u4):=⟨_,rfl⟩
       rw [← hZ] at hv1 hv2
       have HV:=hv1
       go_upto_region 7 with fail
       rw [← hZ]
       have HBW:Hid (Below wr.heap.size wr Z):=by rw [← uh HQE];exact hv2
       clear hZ hv1 hv2
       have HB3:=qh ((uh HB3).then (Bes.of (uh HBW) (by rw [← uh HQE];exact hgw)) hgq)
       have HF:=qh ((uh HF).later (ZE.stays _ _ nww) (uh HBW))
       have HR:=qh ((uh HR).later (uh HBW))
       have HO:=qh ((uh HO).later (uh HBW))
       have z0:=(uh HV).c0
       have z1:=(uh HV).c1
       have k0:=(uh HB3).d.c0
       have k1:=(uh HB3).d.c1
       clear HBW HBV HX HZ HKN
       go_wp2_with fail
       go_fit (zjp (N:=N+1+(N+1)) (q:=y) _ (uh HV).zr ((uh HB3).d.zr.mono (by omega)) d0 (uh HIN).1.1 (by omega))
       rintro e W1 ⟨⟨v,rfl,hE⟩,B1⟩
       have hE:=hE.fit2 (uh HIN).1.2
       obtain ⟨t1,t2,t3,t4,rfl⟩:=hE.shape
       have HE:=qh hE
       have hgz:g≤Z.heap.size:=Nat.le_of_lt (uh HF).lt
       have HB3:=qh ((uh HB3).then (Bes.of B1 hgz) hgq)
       have HF:=qh ((uh HF).later (ZE.stays _ _ nww) B1)
       have HR:=qh ((uh HR).later B1)
       have HO:=qh ((uh HO).later B1)
       obtain ⟨hrl,hol,hYl⟩:=uh HL
       have hlen:(X++Y.take i).length=X.length+i:=by rw [List.length_append,List.length_take];omega
       have HAi:=qh (uh HA (by omega))
       have hxn:=uh HXN
       have hn1:(X++Y.take i).length<n:=by omega
       have hb0:Hid (X.length+i=(X++Y.take i).length):=qh hlen.symm
       clear z0 z1 k0 k1 B1 hE hrl hol hlen hxn HV
       go_wp2_with (at_builtin;refine wpList_room2 (b0:=X.length) rfl _ _ rfl rfl rfl rfl (uh HF) (uh HAi) him (uh hb0) hn1 (uh HE) ?_;intro Z1 hF1 hb1)
       obtain ⟨hy,hgk,hi⟩:=(uh HIN).2
       have kn:=zqa W1 (.cells #[.int .i64 t1,.slice t2 t3 t4] 31)
       have hgv:g≤W1.heap.size:=Nat.le_of_lt (uh HF).lt
       have hbb:=(Bes.of kn hgv).trans hb1
       go_roundg (m - (i+1))
       case measure=>omega
       case rel=>exact ⟨i+1,by omega,rfl,rfl,by go_num,qh ((uh HB3).then hbb hgq),qh (by rw [tkn hy,← List.append_assoc];exact hF1),qh ((uh HR).bes hbb),qh ((uh HO).bes hbb)⟩
   · obtain rfl:i=m:=by omega
     clear him hi hgk
     go_wp2
     go_ret
     obtain ⟨hrl,hol,hYl⟩:=uh HL
     have hF:=uh HF
     rw [← hYl,List.take_length] at hF
     exact ⟨rfl,hF,(uh HB3).bes⟩
end Go.Proofs.YtkifiolkfdicoaaGreatDoor
