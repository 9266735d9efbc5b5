import Derived.Test.YtkdobjmhammhbaaGreatDoorMQD
namespace Go.Proofs.YtkdobjmhammhbaaGreatDoor
set_option maxHeartbeats 8000000
set_option maxRecDepth 4000
open Go.RowKit
theorem W8.store {w w1:World}{r b1 b2:Nat}{v0 v1 v2 v3 u0 u1 u2 u3 t0 t1 t2 t3:Value} (h:Below w.heap.size w w1/\w1.cell? ⟨b1,0,none⟩=some v0/\w1.cell? ⟨b1,1,none⟩=some v1/\w1.cell? ⟨b1,2,none⟩=some v2/\w1.cell? ⟨b1,3,none⟩=some v3/\w1.cell? ⟨b2,0,none⟩=some u0/\w1.cell? ⟨b2,1,none⟩=some u1/\w1.cell? ⟨b2,2,none⟩=some u2/\w1.cell? ⟨b2,3,none⟩=some u3) (hr:w.heap.size<=r) (hb1:b1≠r) (hb2:b2≠r) :
 let w2:=(((w1.setCell ⟨r,0,none⟩ t0).setCell ⟨r,1,none⟩ t1).setCell ⟨r,2,none⟩ t2).setCell ⟨r,3,none⟩ t3
 Below w.heap.size w w2/\w2.cell? ⟨b1,0,none⟩=some v0/\w2.cell? ⟨b1,1,none⟩=some v1/\w2.cell? ⟨b1,2,none⟩=some v2/\w2.cell? ⟨b1,3,none⟩=some v3/\w2.cell? ⟨b2,0,none⟩=some u0/\w2.cell? ⟨b2,1,none⟩=some u1/\w2.cell? ⟨b2,2,none⟩=some u2/\w2.cell? ⟨b2,3,none⟩=some u3:=by
 intro w2
 obtain ⟨k0,k1,k2,k3,k4,k5,k6,k7,k8⟩:=h
 have hc:∀ b o v,b≠r->w1.cell? ⟨b,o,none⟩=some v->w2.cell? ⟨b,o,none⟩=some v:=fun b o v hb hv=>by
  show (World.setCell _ _ _).cell? _=_
  rw [zqb _ _ _ _ _ _ (by omega),zqb _ _ _ _ _ _ (by omega),zqb _ _ _ _ _ _ (by omega),zqb _ _ _ _ _ _ (by omega)]
  exact hv
 exact ⟨zqf k0 hr _ _ _ _,hc _ _ _ hb1 k1,hc _ _ _ hb1 k2,hc _ _ _ hb1 k3,hc _ _ _ hb1 k4,hc _ _ _ hb2 k5,hc _ _ _ hb2 k6,hc _ _ _ hb2 k7,hc _ _ _ hb2 k8⟩
theorem W9.start (w:World) (x y x' y':Bool) (a b a' b':Option Addr) (n c m k n' c' m' k':Nat) :
 let w2:=((w.alloc (.cells #[.bool x,.slice a n c,.bool y,.slice b m k] 59)).alloc (.cells #[.bool x',.slice a' n' c',.bool y',.slice b' m' k'] 59)).alloc (.cells #[.bool false,.slice none 0 0,.bool false,.slice none 0 0] 59)
 QBox w2 (w.heap.size+2)/\Below w.heap.size w w2/\w2.cell? ⟨w.heap.size,0,none⟩=some (.bool x)/\w2.cell? ⟨w.heap.size,1,none⟩=some (.slice a n c)/\w2.cell? ⟨w.heap.size,2,none⟩=some (.bool y)/\w2.cell? ⟨w.heap.size,3,none⟩=some (.slice b m k)/\w2.cell? ⟨w.heap.size+1,0,none⟩=some (.bool x')/\w2.cell? ⟨w.heap.size+1,1,none⟩=some (.slice a' n' c')/\w2.cell? ⟨w.heap.size+1,2,none⟩=some (.bool y')/\w2.cell? ⟨w.heap.size+1,3,none⟩=some (.slice b' m' k'):=by
 intro w2
 have h:=K1.start w x y a b n c m k
 have g:=K1.start (w.alloc (.cells #[.bool x,.slice a n c,.bool y,.slice b m k] 59)) x' y' a' b' n' c' m' k'
 have h:=h.keep (zqm _ (.cells #[.bool x',.slice a' n' c',.bool y',.slice b' m' k'] 59) (.cells #[.bool false,.slice none 0 0,.bool false,.slice none 0 0] 59))
 have g:=g.keep (zqa _ (.cells #[.bool false,.slice none 0 0,.bool false,.slice none 0 0] 59))
 have hq:=zju ((w.alloc (.cells #[.bool x,.slice a n c,.bool y,.slice b m k] 59)).alloc (.cells #[.bool x',.slice a' n' c',.bool y',.slice b' m' k'] 59)) false none 0 0 false none 0 0
 rw [show ((w.alloc (.cells #[.bool x,.slice a n c,.bool y,.slice b m k] 59)).alloc (.cells #[.bool x',.slice a' n' c',.bool y',.slice b' m' k'] 59)).heap.size=w.heap.size+2 by simp] at hq
 obtain ⟨_,g0,g1,g2,g3⟩:=g
 rw [show (w.alloc (.cells #[.bool x,.slice a n c,.bool y,.slice b m k] 59)).heap.size=w.heap.size+1 by simp] at g0 g1 g2 g3
 exact ⟨hq,h.below,h.c0,h.c1,h.c2,h.c3,g0,g1,g2,g3⟩
theorem W8.start (w:World) (x y x' y':Bool) (a b a' b':Option Addr) (n c m k n' c' m' k':Nat) :
 let w2:=(w.alloc (.cells #[.bool x,.slice a n c,.bool y,.slice b m k] 59)).alloc (.cells #[.bool x',.slice a' n' c',.bool y',.slice b' m' k'] 59)
 Below w.heap.size w w2/\w2.cell? ⟨w.heap.size,0,none⟩=some (.bool x)/\w2.cell? ⟨w.heap.size,1,none⟩=some (.slice a n c)/\w2.cell? ⟨w.heap.size,2,none⟩=some (.bool y)/\w2.cell? ⟨w.heap.size,3,none⟩=some (.slice b m k)/\w2.cell? ⟨w.heap.size+1,0,none⟩=some (.bool x')/\w2.cell? ⟨w.heap.size+1,1,none⟩=some (.slice a' n' c')/\w2.cell? ⟨w.heap.size+1,2,none⟩=some (.bool y')/\w2.cell? ⟨w.heap.size+1,3,none⟩=some (.slice b' m' k'):=by
 intro w2
 have h:=K1.start w x y a b n c m k
 have g:=K1.start (w.alloc (.cells #[.bool x,.slice a n c,.bool y,.slice b m k] 59)) x' y' a' b' n' c' m' k'
 have h:=h.keep (zqa _ (.cells #[.bool x',.slice a' n' c',.bool y',.slice b' m' k'] 59))
 obtain ⟨_,g0,g1,g2,g3⟩:=g
 rw [show (w.alloc (.cells #[.bool x,.slice a n c,.bool y,.slice b m k] 59)).heap.size=w.heap.size+1 by simp] at g0 g1 g2 g3
 exact ⟨h.below,h.c0,h.c1,h.c2,h.c3,g0,g1,g2,g3⟩
theorem rqcmp_any {N:Nat}{v v':Value}{p d p' d':Int} (w:World) (h:Qr N w v p d) (h':Qr N w v' p' d') (hN:N<=38000) :
 Calls Tryz.prog 41 #[v,v'] w fun e w'=>e=.returned (.int .i64 (sgn (p*d' - p'*d)))/\Below w.heap.size w w':=by
 obtain ⟨x,a,n,c,y,b,m,k,rfl,h2,h3,d0,hg⟩:=h
 obtain ⟨x',a',n',c',y',b',m',k',rfl,h2',h3',d0',hg'⟩:=h'
 have hst:=W8.start w x y x' y' a b a' b' n c m k n' c' m' k'
 go_enter Tryz.func41,Tryz.ntmps41
 go_wp2_with fail
 obtain ⟨W0,hW0⟩:∃ W0,W0=(w.alloc (.cells #[.bool x,.slice a n c,.bool y,.slice b m k] 59)).alloc (.cells #[.bool x',.slice a' n' c',.bool y',.slice b' m' k'] 59):=⟨_,rfl⟩
 rw [<- hW0] at hst ⊢
 clear hW0
 obtain ⟨hB,e0,e1,e2,e3,f0,f1,f2,f3⟩:=hst
 go_wp2_with fail
 go_fit (zjh (N:=N) (M:=N) _ (h2.later hB) (h3'.later hB) (by omega))
 rintro e W1 ⟨⟨v1,rfl,hN1⟩,hb1⟩
 obtain ⟨i1,i2,i3,i4,rfl⟩:=hN1.shape
 have hS:=keepW8 hb1 ⟨hB,e0,e1,e2,e3,f0,f1,f2,f3⟩
 have hX:=NB.new hN1
 obtain ⟨hB,e0,e1,e2,e3,f0,f1,f2,f3⟩:=keepW8 (zqa _ (.cells #[.bool i1,.slice i2 i3 i4] 57)) hS
 clear hb1 hS hN1
 go_wp2_with fail
 obtain ⟨W3,hW3⟩:∃ W3,W3=W1.alloc (.cells #[.bool i1,.slice i2 i3 i4] 57):=⟨_,rfl⟩
 rw [<- hW3] at hX hB ⊢
 clear hW3 e0 e1 e2 e3 f0 f1 f2 f3
 go_fit (zjh (N:=N) (M:=N) _ (h2'.later hB) (h3.later hB) (by omega))
 rintro e W4 ⟨⟨v4,rfl,hN4⟩,hb4⟩
 obtain ⟨i5,i6,i7,i8,rfl⟩:=hN4.shape
 have hY:=NB.new hN4
 have k4:=zqa W4 (.cells #[.bool i5,.slice i6 i7 i8] 57)
 have hX:=(hX.keep hb4).keep k4
 have hB:=bk k4 (bk hb4 hB)
 clear hb4 k4 hN4
 have e1:=hX.c0
 have e2:=hX.c1
 have e3:=hY.c0
 have e4:=hY.c1
 go_wp2_with fail
 go_fit (rcmp_any (N:=N+N) (M:=N+N) _ hX.nr hY.nr (by omega) (by omega))
 rintro e W5 ⟨rfl,hb5⟩
 have hB5:=bk hb5 hB
 clear hX hY hb5 hB e1 e2 e3 e4
 go_wp2
 go_ret
 first | exact hB5 | exact ⟨rfl,hB5⟩
theorem keep8 {w w1 w2:World}{b0 b1 b2 b3 b4 b5 b6 b7 o0 o1 o2 o3 o4 o5 o6 o7:Nat}{v0 v1 v2 v3 v4 v5 v6 v7:Value} (hb:Below w1.heap.size w1 w2) (h:Below w.heap.size w w1/\w1.cell? ⟨b0,o0,none⟩=some v0/\w1.cell? ⟨b1,o1,none⟩=some v1/\w1.cell? ⟨b2,o2,none⟩=some v2/\w1.cell? ⟨b3,o3,none⟩=some v3/\w1.cell? ⟨b4,o4,none⟩=some v4/\w1.cell? ⟨b5,o5,none⟩=some v5/\w1.cell? ⟨b6,o6,none⟩=some v6/\w1.cell? ⟨b7,o7,none⟩=some v7):Below w.heap.size w w2/\w2.cell? ⟨b0,o0,none⟩=some v0/\w2.cell? ⟨b1,o1,none⟩=some v1/\w2.cell? ⟨b2,o2,none⟩=some v2/\w2.cell? ⟨b3,o3,none⟩=some v3/\w2.cell? ⟨b4,o4,none⟩=some v4/\w2.cell? ⟨b5,o5,none⟩=some v5/\w2.cell? ⟨b6,o6,none⟩=some v6/\w2.cell? ⟨b7,o7,none⟩=some v7:=by
 obtain ⟨k,k0,k1,k2,k3,k4,k5,k6,k7⟩:=h
 exact ⟨bk hb k,ck hb k0,ck hb k1,ck hb k2,ck hb k3,ck hb k4,ck hb k5,ck hb k6,ck hb k7⟩
theorem store8 {w w1:World}{r b0 b1 b2 b3 b4 b5 b6 b7 o0 o1 o2 o3 o4 o5 o6 o7:Nat}{v0 v1 v2 v3 v4 v5 v6 v7 t0 t1 t2 t3:Value} (h:Below w.heap.size w w1/\w1.cell? ⟨b0,o0,none⟩=some v0/\w1.cell? ⟨b1,o1,none⟩=some v1/\w1.cell? ⟨b2,o2,none⟩=some v2/\w1.cell? ⟨b3,o3,none⟩=some v3/\w1.cell? ⟨b4,o4,none⟩=some v4/\w1.cell? ⟨b5,o5,none⟩=some v5/\w1.cell? ⟨b6,o6,none⟩=some v6/\w1.cell? ⟨b7,o7,none⟩=some v7) (hr:w.heap.size<=r) (h0:b0≠r) (h1:b1≠r) (h2:b2≠r) (h3:b3≠r) (h4:b4≠r) (h5:b5≠r) (h6:b6≠r) (h7:b7≠r) :
 let w2:=(((w1.setCell ⟨r,0,none⟩ t0).setCell ⟨r,1,none⟩ t1).setCell ⟨r,2,none⟩ t2).setCell ⟨r,3,none⟩ t3
 Below w.heap.size w w2/\w2.cell? ⟨b0,o0,none⟩=some v0/\w2.cell? ⟨b1,o1,none⟩=some v1/\w2.cell? ⟨b2,o2,none⟩=some v2/\w2.cell? ⟨b3,o3,none⟩=some v3/\w2.cell? ⟨b4,o4,none⟩=some v4/\w2.cell? ⟨b5,o5,none⟩=some v5/\w2.cell? ⟨b6,o6,none⟩=some v6/\w2.cell? ⟨b7,o7,none⟩=some v7:=by
 intro w2
 obtain ⟨k,k0,k1,k2,k3,k4,k5,k6,k7⟩:=h
 have hc:∀ b o v,b≠r->w1.cell? ⟨b,o,none⟩=some v->w2.cell? ⟨b,o,none⟩=some v:=fun b o v hb hv=>by
  show (World.setCell _ _ _).cell? _=_
  rw [zqb _ _ _ _ _ _ (by omega),zqb _ _ _ _ _ _ (by omega),zqb _ _ _ _ _ _ (by omega),zqb _ _ _ _ _ _ (by omega)]
  exact hv
 exact ⟨zqf k hr _ _ _ _,hc _ _ _ h0 k0,hc _ _ _ h1 k1,hc _ _ _ h2 k2,hc _ _ _ h3 k3,hc _ _ _ h4 k4,hc _ _ _ h5 k5,hc _ _ _ h6 k6,hc _ _ _ h7 k7⟩
theorem rqadd_any {N:Nat}{v v':Value}{p d p' d':Int} (w:World) (h:Qr N w v p d) (h':Qr N w v' p' d') (hN:N<=38000) :
 Calls Tryz.prog 40 #[v,v'] w fun e w'=>(∃ v P D,e=.returned v/\Qr (N+N+1) w' v P D/\P*(d*d')=(p*d'+p'*d)*D)/\Below w.heap.size w w':=by
 obtain ⟨x,a,n,c,y,b,m,k,rfl,h2,h3,d0,hg⟩:=h
 obtain ⟨x',a',n',c',y',b',m',k',rfl,h2',h3',d0',hg'⟩:=h'
 have hst:=W9.start w x y x' y' a b a' b' n c m k n' c' m' k'
 go_enter Tryz.func40,Tryz.ntmps40
 go_wp2_with fail
 obtain ⟨W0,hW0⟩:∃ W0,W0=((w.alloc (.cells #[.bool x,.slice a n c,.bool y,.slice b m k] 59)).alloc (.cells #[.bool x',.slice a' n' c',.bool y',.slice b' m' k'] 59)).alloc (.cells #[.bool false,.slice none 0 0,.bool false,.slice none 0 0] 59):=⟨_,rfl⟩
 rw [<- hW0] at hst ⊢
 clear hW0
 obtain ⟨hq,hB,e0,e1,e2,e3,f0,f1,f2,f3⟩:=hst
 go_wp2_with fail
 go_fit (zjh (N:=N) (M:=N) _ (h2.later hB) (h3'.later hB) (by omega))
 rintro e W1 ⟨⟨v1,rfl,hN1⟩,hb1⟩
 obtain ⟨i1,i2,i3,i4,rfl⟩:=hN1.shape
 have hS:=keepW8 hb1 ⟨hB,e0,e1,e2,e3,f0,f1,f2,f3⟩
 have hq:=hq.later hb1
 have hbx:=hq.lt
 have hX:=NB.new hN1
 have hq:=hq.later (zqa _ (.cells #[.bool i1,.slice i2 i3 i4] 57))
 obtain ⟨hB,e0,e1,e2,e3,f0,f1,f2,f3⟩:=keepW8 (zqa _ (.cells #[.bool i1,.slice i2 i3 i4] 57)) hS
 clear hb1 hS hN1
 go_wp2_with fail
 obtain ⟨W3,hW3⟩:∃ W3,W3=W1.alloc (.cells #[.bool i1,.slice i2 i3 i4] 57):=⟨_,rfl⟩
 rw [<- hW3] at hX hB hq e2 e3 f2 f3 ⊢
 clear hW3 e0 e1 f0 f1
 go_fit (zjh (N:=N) (M:=N) _ (h2'.later hB) (h3.later hB) (by omega))
 rintro e W4 ⟨⟨v4,rfl,hN4⟩,hb4⟩
 obtain ⟨i5,i6,i7,i8,rfl⟩:=hN4.shape
 have hY:=NB.new hN4
 have k4:=zqa W4 (.cells #[.bool i5,.slice i6 i7 i8] 57)
 have hby:=(hq.later hb4).lt
 have hq:=(hq.later hb4).later k4
 have hX:=(hX.keep hb4).keep k4
 have e2:=ck k4 (ck hb4 e2)
 have e3:=ck k4 (ck hb4 e3)
 have f2:=ck k4 (ck hb4 f2)
 have f3:=ck k4 (ck hb4 f3)
 have hB:=bk k4 (bk hb4 hB)
 clear hb4 k4 hN4
 go_wp2_with fail
 obtain ⟨bx,ebx⟩:∃ bx,bx=W1.heap.size:=⟨_,rfl⟩
 obtain ⟨by',eby⟩:∃ by',by'=W4.heap.size:=⟨_,rfl⟩
 obtain ⟨W5,hW5⟩:∃ W5,W5=W4.alloc (.cells #[.bool i5,.slice i6 i7 i8] 57):=⟨_,rfl⟩
 rw [<- hW5] at hX hY hB hq e2 e3 f2 f3 ⊢
 rw [<- ebx] at hX hbx ⊢
 rw [<- eby] at hY hby ⊢
 clear hW5 ebx eby
 have x0:=hX.c0
 have x1:=hX.c1
 have y0:=hY.c0
 have y1:=hY.c1
 go_region_held3 (fun w'=>Below w.heap.size w w'/\w'.cell? ⟨w.heap.size,2,none⟩=some (.bool y)/\w'.cell? ⟨w.heap.size,3,none⟩=some (.slice b m k)/\w'.cell? ⟨w.heap.size+1,2,none⟩=some (.bool y')/\w'.cell? ⟨w.heap.size+1,3,none⟩=some (.slice b' m' k')/\w'.cell? ⟨bx,0,none⟩=some (.bool i1)/\w'.cell? ⟨bx,1,none⟩=some (.slice i2 i3 i4)/\w'.cell? ⟨by',0,none⟩=some (.bool i5)/\w'.cell? ⟨by',1,none⟩=some (.slice i6 i7 i8))
  (first | exact ⟨hB.drew,e2,e3,f2,f3,x0,x1,y0,y1⟩ | exact uh S3 | exact uh S2 | exact uh S1 | exact store8 (uh S3) (by omega) (by omega) (by omega) (by omega) (by omega) (by omega) (by omega) (by omega) (by omega))
  (first | (go_at_call 91;go_fit (radd_any (N:=N+N) _ hX.drew.nr hY.drew.nr (by omega));rintro e q1 ⟨⟨v1,rfl,hN1⟩,hb1⟩;obtain ⟨l1,l2,l3,l4,rfl⟩:=hN1.shape;have S1:=qh (keep8 hb1 ⟨hB.drew,e2,e3,f2,f3,x0,x1,y0,y1⟩)) | (go_at_call 87;go_fit (zjh (N:=N) (M:=N) _ (h3.later (uh S1).1) (h3'.later (uh S1).1) (by omega));rintro e q2 ⟨⟨v2,rfl,hN2⟩,hb2⟩;obtain ⟨l5,l6,l7,l8,rfl⟩:=hN2.shape;have S2:=qh (keep8 hb2 (uh S1))) | (go_at_call 83;go_fit (over_any (N:=N+N+1) _ (hN1.later hb2) (hN2.mono (by omega)) (Int.ne_of_gt (Int.mul_pos d0 d0')) (by omega));rintro e q3 ⟨⟨v3,P,D,rfl,hQ3,hE⟩,hb3⟩;have HE:=qh hE;clear hE;obtain ⟨i9,i10,i11,i12,i13,i14,i15,i16,rfl,hP3,hD3,D0,hG3⟩:=hQ3;have HG3:=qh hG3;clear hG3;have S3:=qh (keep8 hb3 (uh S2));have hbx':=hq.later (w:=W5.drew) (bk hb3 (bk hb2 hb1));obtain ⟨⟨j0,g0⟩,⟨j1,j2,j3,g1⟩,⟨j4,g2⟩,⟨j5,j6,j7,g3⟩,gf⟩:=hbx'.cells;have hlt:=hbx'.lt))
 have hB3:=(uh S3).1
 have hbx':=hq.later (w:=W5.drew) (bk hb3 (bk hb2 hb1))
 go_wp2
 obtain ⟨st0,st1,st2,st3⟩:=hbx'.stored (.bool i9) (.slice i10 i11 i12) (.bool i13) (.slice i14 i15 i16)
 exact bodyPost_ret (v:=.agg #[.bool i9,.slice i10 i11 i12,.bool i13,.slice i14 i15 i16]) (by simp [results,Tryz.results40,go_sem,st0,st1,st2,st3]) rfl ⟨⟨_,P,D,rfl,⟨_,_,_,_,_,_,_,_,rfl,hP3.qstored hbx' _ _ _ _,hD3.qstored hbx' _ _ _ _,D0,uh HG3⟩,uh HE⟩,zqf hB3 (by omega) _ _ _ _⟩
theorem Qr.fit {N M:Nat}{w:World}{v:Value}{p d:Int} (h:Qr N w v p d) (h0:-10000 ^ M<p) (h1:p<10000 ^ M) (h2:d<10000 ^ M):Qr M w v p d:=by
 obtain ⟨x,a,n,c,y,b,m,k,e,g1,g2,d0,hg⟩:=h
 have:(0:Int)<10000 ^ M:=Int.pow_pos (by decide)
 exact ⟨x,a,n,c,y,b,m,k,e,g1.fit h0 h1,g2.fit (by omega) h2,d0,hg⟩
theorem Qr.low {N:Nat}{w:World}{v:Value}{P D p d o z:Int} (h:Qr N w v P D) (ho:o≠0) (e:P*o=z*D) (d0:0<d) (hg:Int.gcd p d=1) (e':p*o=z*d):P=p/\D=d:=by
 obtain ⟨_,_,_,_,_,_,_,_,_,_,_,D0,hG⟩:=h
 exact lowest_one ho e e' D0 d0 hG hg
theorem Qr.qstored {N:Nat}{w:World}{v:Value}{p d:Int}{r:Nat} (h:Qr N w v p d) (hb:QBox w r) (u0 u1 u2 u3:Value):Qr N ((((w.setCell ⟨r,0,none⟩ u0).setCell ⟨r,1,none⟩ u1).setCell ⟨r,2,none⟩ u2).setCell ⟨r,3,none⟩ u3) v p d:=by
 obtain ⟨x,a,n,c,y,b,m,k,e,g1,g2,g3⟩:=h
 exact ⟨x,a,n,c,y,b,m,k,e,g1.qstored hb _ _ _ _,g2.qstored hb _ _ _ _,g3⟩
theorem QBox.after {w:World}{r:Nat} (h:QBox w r) (x y:Bool) (a b:Option Addr) (n c m k:Nat):QBox ((((w.setCell ⟨r,0,none⟩ (.bool x)).setCell ⟨r,1,none⟩ (.slice a n c)).setCell ⟨r,2,none⟩ (.bool y)).setCell ⟨r,3,none⟩ (.slice b m k)) r:=by
 obtain ⟨x',a',n',c',y',b',m',k',h⟩:=h
 exact ⟨x,a,n,c,y,b,m,k,by simp [World.setCell,Array.getElem?_modify,h]⟩
theorem QBox.aside {w:World}{b q:Nat} (h:QBox w b) (hne:b≠q) (u0 u1 u2 u3:Value):QBox ((((w.setCell ⟨q,0,none⟩ u0).setCell ⟨q,1,none⟩ u1).setCell ⟨q,2,none⟩ u2).setCell ⟨q,3,none⟩ u3) b:=by
 obtain ⟨x,a,n,c,y,b',m,k,h⟩:=h
 exact ⟨x,a,n,c,y,b',m,k,by rw [Below.heap_setCell _ _ _ _ hne,Below.heap_setCell _ _ _ _ hne,Below.heap_setCell _ _ _ _ hne,Below.heap_setCell _ _ _ _ hne];exact h⟩
structure QB (w:World) (r:Nat) (x:Bool) (a:Option Addr) (n c:Nat) (y:Bool) (b:Option Addr) (m k:Nat) (N:Nat) (p d:Int):Prop where
 c0:w.cell? ⟨r,0,none⟩=some (.bool x)
 c1:w.cell? ⟨r,1,none⟩=some (.slice a n c)
 c2:w.cell? ⟨r,2,none⟩=some (.bool y)
 c3:w.cell? ⟨r,3,none⟩=some (.slice b m k)
 box:QBox w r
 qr:Qr N w (.agg #[.bool x,.slice a n c,.bool y,.slice b m k]) p d
theorem QB.keep {w w1:World}{r:Nat}{x y:Bool}{a b:Option Addr}{n c m k N:Nat}{p d:Int} (h:QB w r x a n c y b m k N p d) (hb:Below w.heap.size w w1):QB w1 r x a n c y b m k N p d :=
 ⟨ck hb h.c0,ck hb h.c1,ck hb h.c2,ck hb h.c3,h.box.later hb,h.qr.later hb⟩
theorem QB.drew {w:World}{r:Nat}{x y:Bool}{a b:Option Addr}{n c m k N:Nat}{p d:Int} (h:QB w r x a n c y b m k N p d):QB w.drew r x a n c y b m k N p d:=⟨h.c0,h.c1,h.c2,h.c3,h.box,h.qr⟩
theorem QB.new {w:World}{x y:Bool}{a b:Option Addr}{n c m k N:Nat}{p d:Int} (h:Qr N w (.agg #[.bool x,.slice a n c,.bool y,.slice b m k]) p d):QB (w.alloc (.cells #[.bool x,.slice a n c,.bool y,.slice b m k] 59)) w.heap.size x a n c y b m k N p d :=
 ⟨by rw [zqe rfl];rfl,by rw [zqe rfl];rfl,by rw [zqe rfl];rfl,by rw [zqe rfl];rfl,zju _ _ _ _ _ _ _ _ _,h.later (zqa w _)⟩
theorem QB.put {w:World}{r:Nat}{x y:Bool}{a b:Option Addr}{n c m k N:Nat}{p d:Int} (hr:QBox w r) (h:Qr N w (.agg #[.bool x,.slice a n c,.bool y,.slice b m k]) p d):QB ((((w.setCell ⟨r,0,none⟩ (.bool x)).setCell ⟨r,1,none⟩ (.slice a n c)).setCell ⟨r,2,none⟩ (.bool y)).setCell ⟨r,3,none⟩ (.slice b m k)) r x a n c y b m k N p d:=by
 obtain ⟨s0,s1,s2,s3⟩:=hr.stored (.bool x) (.slice a n c) (.bool y) (.slice b m k)
 exact ⟨s0,s1,s2,s3,hr.after _ _ _ _ _ _ _ _,h.qstored hr _ _ _ _⟩
theorem QB.beside {w:World}{q r:Nat}{x y:Bool}{a b:Option Addr}{n c m k N:Nat}{p d:Int} (h:QB w r x a n c y b m k N p d) (hq:QBox w q) (hne:r≠q) (u0 u1 u2 u3:Value):QB ((((w.setCell ⟨q,0,none⟩ u0).setCell ⟨q,1,none⟩ u1).setCell ⟨q,2,none⟩ u2).setCell ⟨q,3,none⟩ u3) r x a n c y b m k N p d:=by
 have hc:∀ o v,w.cell? ⟨r,o,none⟩=some v->((((w.setCell ⟨q,0,none⟩ u0).setCell ⟨q,1,none⟩ u1).setCell ⟨q,2,none⟩ u2).setCell ⟨q,3,none⟩ u3).cell? ⟨r,o,none⟩=some v:=fun o v hv=>by
  rw [zqb _ _ _ _ _ _ (by omega),zqb _ _ _ _ _ _ (by omega),zqb _ _ _ _ _ _ (by omega),zqb _ _ _ _ _ _ (by omega)]
  exact hv
 exact ⟨hc _ _ h.c0,hc _ _ h.c1,hc _ _ h.c2,hc _ _ h.c3,h.box.aside hne _ _ _ _,h.qr.qstored hq _ _ _ _⟩
def Ps (N:Nat) (w:World) (sl:Value) (L:List Int):Prop :=
 (sl=.slice none 0 0/\L=[])\/∃ g cap,sl=.slice (some ⟨g,0,none⟩) L.length cap/\L.length<=cap/\cap<=maxLen /\
  ∀ i,i<L.length->∃ x a n c,w.cell? ⟨g,i*2,none⟩=some (.bool x)/\w.cell? ⟨g,i*2+1,none⟩=some (.slice a n c)/\Nr N w (.agg #[.bool x,.slice a n c]) (nth L i)
theorem Ps.later {N:Nat}{w w':World}{sl:Value}{L:List Int} (h:Ps N w sl L) (hb:Below w.heap.size w w'):Ps N w' sl L:=by
 rcases h with h | ⟨g,cap,h1,h2,h3,h4⟩
 ·exact Or.inl h
 ·refine Or.inr ⟨g,cap,h1,h2,h3,fun i hi => ?_⟩
  obtain ⟨x,a,n,c,k1,k2,k3⟩:=h4 i hi
  exact ⟨x,a,n,c,ck hb k1,ck hb k2,k3.later hb⟩
theorem Ps.len {N:Nat}{w:World}{a:Option Addr}{n c:Nat}{L:List Int} (h:Ps N w (.slice a n c) L):n=L.length:=by
 rcases h with ⟨h,rfl⟩ | ⟨g,cap,h,_⟩
 ·simp at h;simp [h.2.1]
 ·simp at h;exact h.2.1
theorem Ps.shape {N:Nat}{w:World}{sl:Value}{L:List Int} (h:Ps N w sl L):∃ a n c,sl=.slice a n c:=by
 rcases h with ⟨h,rfl⟩ | ⟨g,cap,h,_⟩
 ·exact ⟨_,_,_,h⟩
 ·exact ⟨_,_,_,h⟩
theorem Sl.grown {w w':World}{sl v:Value}{D:List Int}{base size n:Nat}{e:TypeId}{xs:List Value} (h:Sl w sl D) (hown:w.ownsRow base e size v n xs) (he:e≠3) (hg:w.grownBy w' v.ownBlock):Sl w' sl D:=by
 rcases h with h | ⟨b,cap,h1,h2,h3,h4,cur,h5⟩
 ·exact Or.inl h
 ·have hne:some b≠v.ownBlock:=by
   intro hv
   obtain ⟨_,⟨rfl,_⟩ | ⟨g,cap',cur',rfl,_,hgg,_⟩⟩:=hown
   ·simp [Value.ownBlock] at hv
   ·have hbg:b=g:=by simpa [Value.ownBlock] using hv
    subst hbg
    rw [hgg] at h5
    exact he (Obj.cells.inj (Option.some.inj h5)).2.1
  have hk:=hg.block b (Array.getElem?_eq_some_iff.1 h5).1 hne
  exact Or.inr ⟨b,cap,h1,h2,h3,fun k hk'=>hg.cell (h4 k hk') hne,cur,by rw [hk];exact h5⟩
theorem Nr.grown {N:Nat}{w w':World}{u v:Value}{z:Int}{base size n:Nat}{e:TypeId}{xs:List Value} (h:Nr N w u z) (hown:w.ownsRow base e size v n xs) (he:e≠3) (hg:w.grownBy w' v.ownBlock):Nr N w' u z:=by
 obtain ⟨neg,sl,D,h1,h2,h3⟩:=h
 exact ⟨neg,sl,D,h1,h2.grown hown he hg,h3⟩
theorem Qr.grown {N:Nat}{w w':World}{u v:Value}{p d:Int}{base size n:Nat}{e:TypeId}{xs:List Value} (h:Qr N w u p d) (hown:w.ownsRow base e size v n xs) (he:e≠3) (hg:w.grownBy w' v.ownBlock):Qr N w' u p d:=by
 obtain ⟨x,a,n,c,y,b,m,k,h1,h2,h3,h4⟩:=h
 exact ⟨x,a,n,c,y,b,m,k,h1,h2.grown hown he hg,h3.grown hown he hg,h4⟩
theorem QBox.grown {w w':World}{r:Nat}{v:Value}{base size n:Nat}{e:TypeId}{xs:List Value} (h:QBox w r) (hown:w.ownsRow base e size v n xs) (he:e≠59) (hg:w.grownBy w' v.ownBlock):some r≠v.ownBlock/\QBox w' r:=by
 obtain ⟨x,a,n',c,y,b,m,k,h⟩:=h
 have hne:some r≠v.ownBlock:=by
  intro hv
  obtain ⟨_,⟨rfl,_⟩ | ⟨g,cap',cur',rfl,_,hgg,_⟩⟩:=hown
  ·simp [Value.ownBlock] at hv
  ·have hbg:r=g:=by simpa [Value.ownBlock] using hv
   subst hbg
   rw [hgg] at h
   exact he (Obj.cells.inj (Option.some.inj h)).2.1
 exact ⟨hne,x,a,n',c,y,b,m,k,by rw [hg.block r (Array.getElem?_eq_some_iff.1 h).1 hne];exact h⟩
theorem QB.grown {w w':World}{r:Nat}{x y:Bool}{a b:Option Addr}{n c m k N:Nat}{p d:Int}{v:Value}{base size n':Nat}{e:TypeId}{xs:List Value} (h:QB w r x a n c y b m k N p d) (hown:w.ownsRow base e size v n' xs) (he:e≠3) (he':e≠59) (hg:w.grownBy w' v.ownBlock):QB w' r x a n c y b m k N p d:=by
 obtain ⟨hne,hb⟩:=h.box.grown hown he' hg
 exact ⟨hg.cell h.c0 hne,hg.cell h.c1 hne,hg.cell h.c2 hne,hg.cell h.c3 hne,hb,h.qr.grown hown he hg⟩
theorem own_later {w w':World}{base size n:Nat}{e:TypeId}{v:Value}{xs:List Value} (h:w.ownsRow base e size v n xs) (hb:Below w.heap.size w w'):w'.ownsRow base e size v n xs:=by
 obtain ⟨h0,h | ⟨g,cap,cur,h1,h2,h3,h4⟩⟩:=h
 ·exact ⟨h0,Or.inl h⟩
 ·exact ⟨h0,Or.inr ⟨g,cap,cur,h1,h2,by rw [hb.block g (Array.getElem?_eq_some_iff.1 h3).1];exact h3,h4⟩⟩
theorem own_qstored {w:World}{base size n r:Nat}{e:TypeId}{v:Value}{xs:List Value} (h:w.ownsRow base e size v n xs) (hr:QBox w r) (he:e≠59) (u0 u1 u2 u3:Value):((((w.setCell ⟨r,0,none⟩ u0).setCell ⟨r,1,none⟩ u1).setCell ⟨r,2,none⟩ u2).setCell ⟨r,3,none⟩ u3).ownsRow base e size v n xs:=by
 obtain ⟨h0,h | ⟨g,cap,cur,h1,h2,h3,h4⟩⟩:=h
 ·exact ⟨h0,Or.inl h⟩
 ·have hne:g≠r:=by
   rintro rfl
   obtain ⟨x,a,n,c,y,b',m,k,hq⟩:=hr
   rw [hq] at h3
   exact he (Obj.cells.inj (Option.some.inj h3)).2.1.symm
  exact ⟨h0,Or.inr ⟨g,cap,cur,h1,h2,by rw [Below.heap_setCell _ _ _ _ hne,Below.heap_setCell _ _ _ _ hne,Below.heap_setCell _ _ _ _ hne,Below.heap_setCell _ _ _ _ hne];exact h3,h4⟩⟩
def Pr (N:Nat) (w:World) (base:Nat) (v:Value) (L:List Int):Prop :=
 ∃ xs,w.ownsRow base 57 2 v L.length xs/\∀ i,i<L.length->∃ x a n c,xs[i*2]? = some (.bool x)/\xs[i*2+1]? = some (.slice a n c)/\Nr N w (.agg #[.bool x,.slice a n c]) (nth L i)
theorem Pr.nil (N:Nat) (w:World) (base:Nat):Pr N w base (.slice none 0 0) []:=⟨[],World.ownsRow_nil _ _ _ _,fun i hi=>by simp at hi⟩
theorem Pr.later {N:Nat}{w w':World}{base:Nat}{v:Value}{L:List Int} (h:Pr N w base v L) (hb:Below w.heap.size w w'):Pr N w' base v L:=by
 obtain ⟨xs,h1,h2⟩:=h
 refine ⟨xs,own_later h1 hb,fun i hi => ?_⟩
 obtain ⟨x,a,n,c,k1,k2,k3⟩:=h2 i hi
 exact ⟨x,a,n,c,k1,k2,k3.later hb⟩
theorem Pr.qstored {N:Nat}{w:World}{base r:Nat}{v:Value}{L:List Int} (h:Pr N w base v L) (hr:QBox w r) (u0 u1 u2 u3:Value):Pr N ((((w.setCell ⟨r,0,none⟩ u0).setCell ⟨r,1,none⟩ u1).setCell ⟨r,2,none⟩ u2).setCell ⟨r,3,none⟩ u3) base v L:=by
 obtain ⟨xs,h1,h2⟩:=h
 refine ⟨xs,own_qstored h1 hr (by decide) _ _ _ _,fun i hi => ?_⟩
 obtain ⟨x,a,n,c,k1,k2,k3⟩:=h2 i hi
 exact ⟨x,a,n,c,k1,k2,k3.qstored hr _ _ _ _⟩
theorem Pr.snoc {N:Nat}{w w0:World}{base:Nat}{v v':Value}{L:List Int}{xs:List Value}{x:Bool}{a:Option Addr}{n c:Nat}{z:Int} (hown:w0.ownsRow base 57 2 v L.length xs) (h2:∀ i,i<L.length->∃ x a n c,xs[i*2]? = some (.bool x)/\xs[i*2+1]? = some (.slice a n c)/\Nr N w0 (.agg #[.bool x,.slice a n c]) (nth L i)) (hz:Nr N w0 (.agg #[.bool x,.slice a n c]) z)
 (hnew:w.ownsRow base 57 2 v' (L.length+1) (xs++[.bool x,.slice a n c])) (hg:w0.grownBy w v.ownBlock):Pr N w base v' (L++[z]):=by
 have hl:xs.length=L.length*2:=hown.1
 refine ⟨_,by rw [List.length_append,List.length_singleton];exact hnew,fun i hi => ?_⟩
 rw [List.length_append,List.length_singleton] at hi
 rcases Nat.lt_or_ge i L.length with hlt | hge
 ·obtain ⟨x',a',n',c',k1,k2,k3⟩:=h2 i hlt
  refine ⟨x',a',n',c',?_,?_,?_⟩
  ·rw [List.getElem?_append_left (by omega)];exact k1
  ·rw [List.getElem?_append_left (by omega)];exact k2
  ·have e:nth (L++[z]) i=nth L i:=by simp [nth,List.getElem?_append_left hlt]
   rw [e]
   exact k3.grown hown (by decide) hg
 ·obtain rfl:i=L.length:=by omega
  refine ⟨x,a,n,c,?_,?_,?_⟩
  ·rw [List.getElem?_append_right (by omega),hl];simp
  ·rw [List.getElem?_append_right (by omega),hl];simp
  ·rw [nth_snoc];exact hz.grown hown (by decide) hg
theorem rqsub_any {N:Nat}{v v':Value}{p d p' d':Int} (w:World) (h:Qr N w v p d) (h':Qr N w v' p' d') (hN:N<=38000) :
 Calls Tryz.prog 47 #[v,v'] w fun e w'=>(∃ v P D,e=.returned v/\Qr (N+N+1) w' v P D/\P*(d*d')=(p*d'+(-p')*d)*D)/\Below w.heap.size w w':=by
 have h0:=h
 have h0':=h'
 obtain ⟨x,a,n,c,y,b,m,k,rfl,h2,h3,d0,hg⟩:=h
 obtain ⟨x',a',n',c',y',b',m',k',rfl,h2',h3',d0',hg'⟩:=h'
 have hst:=W9.start w x y x' y' a b a' b' n c m k n' c' m' k'
 go_enter Tryz.func47,Tryz.ntmps47
 go_wp2_with fail
 obtain ⟨W0,hW0⟩:∃ W0,W0=((w.alloc (.cells #[.bool x,.slice a n c,.bool y,.slice b m k] 59)).alloc (.cells #[.bool x',.slice a' n' c',.bool y',.slice b' m' k'] 59)).alloc (.cells #[.bool false,.slice none 0 0,.bool false,.slice none 0 0] 59):=⟨_,rfl⟩
 rw [<- hW0] at hst ⊢
 clear hW0
 obtain ⟨hq,hB,e0,e1,e2,e3,f0,f1,f2,f3⟩:=hst
 go_wp2_with fail
 go_fit (rqneg_any _ (h0'.later hB))
 rintro e W1 ⟨⟨v1,rfl,hQ1⟩,hb1⟩
 have hQ1':=hQ1
 obtain ⟨i1,i2,i3,i4,i5,i6,i7,i8,rfl,_,_,_,_⟩:=hQ1'
 have hK:=K1.start W1 i1 i5 i2 i6 i3 i4 i7 i8
 have k1:=zqa W1 (.cells #[.bool i1,.slice i2 i3 i4,.bool i5,.slice i6 i7 i8] 59)
 have hQ1:=hQ1.later k1
 have hq:=(hq.later hb1).later k1
 obtain ⟨hB,e0,e1,e2,e3,f0,f1,f2,f3⟩:=keepW8 k1 (keepW8 hb1 ⟨hB,e0,e1,e2,e3,f0,f1,f2,f3⟩)
 obtain ⟨_,t0,t1,t2,t3⟩:=hK
 clear hb1 k1
 go_wp2_with fail
 obtain ⟨W3,hW3⟩:∃ W3,W3=W1.alloc (.cells #[.bool i1,.slice i2 i3 i4,.bool i5,.slice i6 i7 i8] 59):=⟨_,rfl⟩
 rw [<- hW3] at hQ1 hB hq ⊢
 clear hW3 e0 e1 e2 e3 f0 f1 f2 f3 t0 t1 t2 t3
 go_fit (rqadd_any (N:=N) _ (h0.later hB) hQ1 hN)
 rintro e W4 ⟨⟨v4,P,D,rfl,hQ4,hE⟩,hb4⟩
 have HE:=qh hE
 clear hE
 obtain ⟨i9,i10,i11,i12,i13,i14,i15,i16,rfl,hP3,hD3,D0,hG3⟩:=hQ4
 have HG3:=qh hG3
 clear hG3
 have hbx:=hq.later hb4
 have hB4:=bk hb4 hB
 obtain ⟨⟨j0,g0⟩,⟨j1,j2,j3,g1⟩,⟨j4,g2⟩,⟨j5,j6,j7,g3⟩,gf⟩:=hbx.cells
 have hlt:=hbx.lt
 clear hb4 hq hB hQ1 h0 h0'
 go_wp2
 obtain ⟨st0,st1,st2,st3⟩:=hbx.stored (.bool i9) (.slice i10 i11 i12) (.bool i13) (.slice i14 i15 i16)
 exact bodyPost_ret (v:=.agg #[.bool i9,.slice i10 i11 i12,.bool i13,.slice i14 i15 i16]) (by simp [results,Tryz.results47,go_sem,st0,st1,st2,st3]) rfl ⟨⟨_,P,D,rfl,⟨_,_,_,_,_,_,_,_,rfl,hP3.qstored hbx _ _ _ _,hD3.qstored hbx _ _ _ _,D0,uh HG3⟩,uh HE⟩,zqf hB4 (by omega) _ _ _ _⟩
end Go.Proofs.YtkdobjmhammhbaaGreatDoor
