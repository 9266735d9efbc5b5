import Derived.Test.YtkdobjmhammhbaaGreatDoorMPF
namespace Go.Proofs.YtkdobjmhammhbaaGreatDoor
set_option maxHeartbeats 16000000
set_option maxRecDepth 8000
open Go.RowKit
theorem zs_sign {K:Nat}{v:Value}{z:Int} (w:World) (h:Zr K w v z):Calls Tryz.prog 118 #[v] w fun e w'=>e=.returned (.int .i64 (sgn z))/\Below w.heap.size w w':=by
 obtain ⟨y,a,n,c,rfl,hs,_⟩:=h.sgn
 rw [<- hs]
 exact zqn y (.slice a n c) w
theorem zs_sub {K N:Nat}{T s s':Int}{v v':Value} (w:World) (hB:Big K N T) (h:Zr (K+1) w v s) (h':Zr (K+1) w v' s') (hin:-pw (K+1)<s - s'/\s - s'<pw (K+1)) :
 Calls Tryz.prog 195 #[v,v'] w fun e w'=>(∃ v,e=.returned v/\Zr (K+1) w' v (s - s'))/\Below w.heap.size w w' :=
 (sub_any (N:=K) w h h' (by have:=hB.k;omega)).mono fun _ _ ⟨⟨v,he,hz⟩,hb⟩=>⟨⟨v,he,hz.fit hin.1 hin.2⟩,hb⟩
theorem div_of {z d q r:Int} (h:q*d+r=z) (r0:0<=r) (r1:r<d):q=z / d/\r=z % d:=by
 have h1:=Int.ediv_emod_unique (a:=z) (b:=d) (r:=r) (q:=q) (by omega)
 have:=h1.2 ⟨by rw [Int.mul_comm];omega,r0,r1⟩
 exact ⟨this.1.symm,this.2.symm⟩
theorem zs_div {K N:Nat}{T z d:Int}{v u:Value} (w:World) (hB:Big K N T) (h:Zr (K+1) w v z) (h':Zr (K+1) w u d) (d0:0<d) (z0:0<=z) (hz:z<pw (K+1)) :
 Calls Tryz.prog 162 #[v,u] w fun e w'=>(∃ q r,e=.returned (.tuple #[vz q,vz r,.bool true])/\Zr (K+1) w' (vz q) (z / d)/\Zr (K+1) w' (vz r) (z % d))/\Below w.heap.size w w':=by
 refine (divMod_any (N:=K) w h h' (by have:=hB.k;omega)).mono fun e w' ⟨hc,hb⟩=>⟨?_,hb⟩
 obtain ⟨vq,vr,q,r,rfl,hq,hr,h1,h2,h3⟩:=(hc.resolve_left fun h=>by omega).2
 rw [show iabs d=d by unfold iabs;split <;> omega] at h3
 obtain ⟨rfl,rfl⟩:=div_of h1 h2 h3
 obtain ⟨q,rfl⟩:=hq.sh
 obtain ⟨r,rfl⟩:=hr.sh
 have e1:=Int.ediv_nonneg z0 (Int.le_of_lt d0)
 have e2:=Int.ediv_le_self d z0
 have e3:z % d<=z:=by
  have:=Int.mul_ediv_add_emod z d
  have:=Int.mul_nonneg (Int.le_of_lt d0) e1
  omega
 exact ⟨q,r,rfl,hq.fit (by omega) (by omega),hr.fit (by omega) (by omega)⟩
theorem zs_of {K N:Nat}{T D g P z:Int}{v u:Value} (w:World) (hB:Big K N T) (hD:Dn T D) (hT:Tab64 w) (h:Zr (K+1) w v z) (h':Zr (K+1) w u P) (hP:D=P*g) (P0:0<P) (hs:Ins T (z*g)) :
 Calls Tryz.prog 117 #[v,u] w fun e w'=>(∃ x:F8 Int,e=.returned (.tuple #[vr x,.bool true])/\Rs K D w' (vr x) (z*g))/\Below w.heap.size w w':=by
 refine (rof_ratio (N:=K) w h h' (by have:=hB.k;omega) hT).mono fun e w' ⟨hc,hb⟩=>⟨?_,hb⟩
 obtain ⟨v,p,d,rfl,hr,he⟩:=(hc.resolve_left fun h=>by omega).2
 have hr:=Rs.of (s:=z*g) hB hD hs hr (by rw [hP];grind)
 obtain ⟨x,rfl⟩:=hr.sh
 exact ⟨x,rfl,hr⟩
theorem capOf_any {K:Nat}{D:Int} (a b:Int) (x y:F8 Int) (s:Int) (w:World) (h:Rs K D w (vr x) s) :
 Calls Tryz.prog 57 #[.agg #[.int .i64 a,.int .i64 b,.int .i64 x.a,.slice x.b x.c x.d,.int .i64 x.e,.slice x.f x.g x.h,.int .i64 y.a,.slice y.b y.c y.d,.int .i64 y.e,.slice y.f y.g y.h]] w fun e w'=>(e=.returned (vr x)/\Rs K D w' (vr x) s)/\Below w.heap.size w w':=by
 obtain ⟨V,hV⟩:∃ V,V=(w.alloc (.cells #[.int .i64 a,.int .i64 b,.int .i64 x.a,.slice x.b x.c x.d,.int .i64 x.e,.slice x.f x.g x.h,.int .i64 y.a,.slice y.b y.c y.d,.int .i64 y.e,.slice y.f y.g y.h] 93)).alloc (.cells #[.int .i64 0,.slice none 0 0,.int .i64 0,.slice none 0 0] 39):=⟨_,rfl⟩
 obtain ⟨g,hg⟩:∃ g,g=w.heap.size:=⟨_,rfl⟩
 have hb:Below w.heap.size w V:=by rw [hV];exact bk (zqa _ _) (zqa _ _)
 have s1:=zxc w (.cells #[.int .i64 a,.int .i64 b,.int .i64 x.a,.slice x.b x.c x.d,.int .i64 x.e,.slice x.f x.g x.h,.int .i64 y.a,.slice y.b y.c y.d,.int .i64 y.e,.slice y.f y.g y.h] 93)
 rw [<- hg] at s1
 have hr:RBox V (g+1):=by rw [hV,<- s1];exact zkw _ _ _ _ _ _ _ _ _
 have hc:∀ k u,(#[Value.int .i64 a,.int .i64 b,.int .i64 x.a,.slice x.b x.c x.d,.int .i64 x.e,.slice x.f x.g x.h,.int .i64 y.a,.slice y.b y.c y.d,.int .i64 y.e,.slice y.f y.g y.h])[k]? = some u->V.cell? ⟨g,k,none⟩=some u:=fun k u hu=>by rw [hV,hg];exact ck (zqa _ _) (by rw [zqe rfl];exact hu)
 have c2:=hc 2 _ rfl
 have c3:=hc 3 _ rfl
 have c4:=hc 4 _ rfl
 have c5:=hc 5 _ rfl
 have HB:=qh hb
 have HR:=qh hr
 have HH:=qh (h.later hb)
 have HG:=qh (show w.heap.size<=g+1 by omega)
 clear h hb hr hc s1
 go_enter Tryz.func57,Tryz.ntmps57
 go_upto_region 1 with fail
 rw [<- hV,<- hg]
 clear hV hg
 obtain ⟨⟨j0,g0⟩,⟨j1,j2,j3,g1⟩,⟨j4,g2⟩,⟨j5,j6,j7,g3⟩,gf⟩:=(uh HR).cells
 have hlt:g+1<V.heap.size:=World.block_lt_of_cell? V _ g0
 go_wp2
 obtain ⟨st0,st1,st2,st3⟩:=(uh HR).stored (.int .i64 x.a) (.slice x.b x.c x.d) (.int .i64 x.e) (.slice x.f x.g x.h)
 exact bodyPost_ret (v:=vr x) (by simp [results,Tryz.results57,go_sem,st0,st1,st2,st3]) rfl ⟨⟨rfl,(uh HH).stored (uh HR) _ _ _ _⟩,zqf (uh HB) (uh HG) _ _ _ _⟩
theorem fraction_any {K N:Nat}{T D g P z:Int} (x y:Z4) (w:World) (hB:Big K N T) (hD:Dn T D) (hT:Tab64 w) (h:Zr (K+1) w (vz y) z) (h':Zr (K+1) w (vz x) P) (hP:D=P*g) (P0:0<P) (hs:Ins T (z*g)) :
 Calls Tryz.prog 64 #[.agg #[.int .i64 x.a,.slice x.b x.c x.d],vz y] w fun e w'=>(∃ u:F8 Int,e=.returned (vr u)/\Rs K D w' (vr u) (z*g))/\Below w.heap.size w w':=by
 obtain ⟨V,hV⟩:∃ V,V=((w.alloc (.cells #[.int .i64 x.a,.slice x.b x.c x.d] 125)).alloc (.cells #[.int .i64 y.a,.slice y.b y.c y.d] 37)).alloc (.cells #[.int .i64 0,.slice none 0 0,.int .i64 0,.slice none 0 0] 39):=⟨_,rfl⟩
 obtain ⟨q,hq⟩:∃ g,g=w.heap.size:=⟨_,rfl⟩
 have hb:Below w.heap.size w V:=by rw [hV];exact bk (zqa _ _) (bk (zqa _ _) (zqa _ _))
 have s1:=zxc w (.cells #[.int .i64 x.a,.slice x.b x.c x.d] 125)
 have s2:=zxc (w.alloc (.cells #[.int .i64 x.a,.slice x.b x.c x.d] 125)) (.cells #[.int .i64 y.a,.slice y.b y.c y.d] 37)
 rw [s1] at s2
 rw [<- hq] at s1 s2
 have hr:RBox V (q+1+1):=by rw [hV,<- s2];exact zkw _ _ _ _ _ _ _ _ _
 have c0:V.cell? ⟨q,0,none⟩=some (.int .i64 x.a):=by rw [hV,hq];exact ck (zqa _ _) (ck (zqa _ _) (by rw [zqe rfl];rfl))
 have c1:V.cell? ⟨q,1,none⟩=some (.slice x.b x.c x.d):=by rw [hV,hq];exact ck (zqa _ _) (ck (zqa _ _) (by rw [zqe rfl];rfl))
 have d0:V.cell? ⟨q+1,0,none⟩=some (.int .i64 y.a):=by rw [hV,<- s1];exact ck (zqa _ _) (by rw [zqe rfl];rfl)
 have d1:V.cell? ⟨q+1,1,none⟩=some (.slice y.b y.c y.d):=by rw [hV,<- s1];exact ck (zqa _ _) (by rw [zqe rfl];rfl)
 have HB:=qh hb
 have HR:=qh hr
 have HH:=qh (And.intro (h.later hb) (And.intro (h'.later hb) (hT.later hb)))
 have HG:=qh (show w.heap.size<=q+1+1 by omega)
 clear h h' hT hb hr s1 s2
 go_enter Tryz.func64,Tryz.ntmps64
 go_upto_region 1 with fail
 rw [<- hV,<- hq]
 clear hV hq
 go_wp2_with fail
 go_fit (zs_of _ hB hD (uh HH).2.2 (uh HH).1 (uh HH).2.1 hP P0 hs)
 rintro e W1 ⟨⟨u,rfl,hu⟩,B1⟩
 obtain ⟨V1,hV1⟩:∃ V,V=W1.alloc (.cells #[.int .i64 u.a,.slice u.b u.c u.d,.int .i64 u.e,.slice u.f u.g u.h] 39):=⟨_,rfl⟩
 have hx:=RX.new hu
 have kn:=zqa W1 (.cells #[.int .i64 u.a,.slice u.b u.c u.d,.int .i64 u.e,.slice u.f u.g u.h] 39)
 obtain ⟨gx,hgx⟩:∃ g,g=W1.heap.size:=⟨_,rfl⟩
 rw [<- hV1,<- hgx] at hx
 rw [<- hV1] at kn
 have HR:=qh (((uh HR).later B1).later kn)
 have HB:=qh (bk kn (bk B1 (uh HB)))
 have HU:=qh hx.q
 have x0:=hx.c0
 have x1:=hx.c1
 have x2:=hx.c2
 have x3:=hx.c3
 clear hu B1 kn hx c0 c1 d0 d1 HH
 go_upto_region 2 with fail
 rw [<- hV1,<- hgx]
 clear hV1 hgx
 obtain ⟨⟨j0,g0⟩,⟨j1,j2,j3,g1⟩,⟨j4,g2⟩,⟨j5,j6,j7,g3⟩,gf⟩:=(uh HR).cells
 have hlt:q+1+1<V1.heap.size:=World.block_lt_of_cell? V1 _ g0
 go_wp2
 obtain ⟨st0,st1,st2,st3⟩:=(uh HR).stored (.int .i64 u.a) (.slice u.b u.c u.d) (.int .i64 u.e) (.slice u.f u.g u.h)
 exact bodyPost_ret (v:=vr u) (by simp [results,Tryz.results64,go_sem,st0,st1,st2,st3]) rfl ⟨⟨_,rfl,(uh HU).stored (uh HR) _ _ _ _⟩,zqf (uh HB) (uh HG) _ _ _ _⟩
theorem eg_cap:∀ args w,(callFunc 57 args).run Tryz.prog w=.ok (.enter 57 args) w:=enters_of Tryz.func57 (by kernel_rfl) rfl
theorem take_map {α β:Type}{L:List α}{f:α -> β}{i:Nat}{x:α} (h:L[i]? = some x):(L.take (i+1)).map f=(L.take i).map f++[f x]:=by rw [tkn h,List.map_append];rfl
theorem OwnR.of_fill {α:Type}{K:Value->Prop}{k:Nat}{E:World->List Value -> α -> Prop}{t:TypeId}{w:World}{base g cap:Nat}{L:List α} (h:Fill K k E t w g cap L) (hg:base<=g) (hc:cap<=maxLen):OwnR K k E t w base (.slice (some ⟨g,0,none⟩) L.length cap) L:=by
 obtain ⟨cur,h1,h2,h3,h4,h5⟩:=h
 have hle:L.length*k<=cur.toList.length:=by
  have h9:cur.toList.length=cap*k:=(Array.length_toList).trans h2
  rw [h9]
  exact Nat.mul_le_mul_right _ h4
 refine ⟨cur.toList.take (L.length*k),⟨⟨by rw [List.length_take];omega,Or.inr ⟨g,cap,cur,rfl,hg,h1,h4,hc,h2,rfl⟩⟩,fun g' hg' o u hu => ?_⟩,fun i x hx => ?_⟩
 ·obtain rfl:g=g':=by simpa [Value.ownBlock] using hg'
  simp only [World.cell?,h1] at hu
  exact h3 u (by rw [<- Array.mem_def];exact Array.mem_of_getElem? (by simpa using hu))
 ·obtain ⟨cs,hl,hcs,he⟩:=h5 i x hx
  refine ⟨cs,hl,fun j u hu => ?_,he⟩
  have hi:=(List.getElem?_eq_some_iff.1 hx).1
  have hj:j<k:=by have:=(List.getElem?_eq_some_iff.1 hu).1;omega
  have:i*k+k<=L.length*k:=by rw [<- Nat.succ_mul];exact Nat.mul_le_mul_right _ hi
  rw [List.getElem?_take,if_pos (by omega),Array.getElem?_toList]
  exact hcs j u hu
theorem eachCap_any {K:Nat}{D:Int}{v:Value}{L:List (Int×Int×Int×Int)} (w:World) (h:Rows 10 (ArE (RsE K D)) w v L) (hl:L.length<=300) :
 Calls Tryz.prog 56 #[v,.func (.func 57) #[] #[]] w fun e w'=>(∃ u,e=.returned u/\OwnR NoWord 4 (RsE K D) 39 w' w.heap.size u (L.map fun x=>x.2.2.1))/\Below w.heap.size w w':=by
 obtain ⟨la,lc,rfl⟩:=h.shape
 obtain ⟨m,hm⟩:∃ m,m=L.length:=⟨_,rfl⟩
 rw [<- hm] at h hl ⊢
 have hmk:=zjk (P:=Tryz.prog) 32 39 _ 4 64 Tryz.underlying32 info_r .i64 .i64 m (by omega) (by omega)
 obtain ⟨g,hg⟩:∃ g,g=w.heap.size:=⟨_,rfl⟩
 obtain ⟨V,hV⟩:∃ V,V=w.alloc (.cells (madeCells #[Value.int .i64 0,.slice none 0 0,.int .i64 0,.slice none 0 0] (m*4)) 39):=⟨_,rfl⟩
 have hF:Fill NoWord 4 (RsE K D) 39 V g m ([]:List Int):=by rw [hV,hg];exact Fill.new w m zk_r (by decide)
 have hb:Below w.heap.size w V:=by rw [hV];exact zqa _ _
 have HF:=qh hF
 have HB:=qh hb
 have HR:=qh h
 have HM:=qh (And.intro hm (show w.heap.size<=g by omega))
 clear h hF hb hm
 go_enter Tryz.func56,Tryz.ntmps56
 go_upto_region 2 with fail
 rw [<- hV,<- hg]
 clear hV hg hmk
 go_wp2_with fail
 go_loopg [6,7,13] m (fun gk _ _ iv wr=>∃ i:Nat,i<=m/\gk=m - i/\iv=.int .i64 (i:Int)/\Hid (Below w.heap.size w wr)/\Hid (Fill NoWord 4 (RsE K D) 39 wr g m ((L.take i).map fun x=>x.2.2.1)))
 case atStart=>exact ⟨0,by omega,by omega,rfl,HB,HF⟩
 case round =>
  clear HB HF
  obtain ⟨i,hi,hgk,rfl,HB,HF⟩:=hrel
  by_cases hil:i<m
  ·obtain ⟨⟨fr,to',cp,co⟩,hx⟩:∃ x,L[i]? = some x:=⟨L[i]'(by have:=(uh HM).1;omega),by simp⟩
   obtain ⟨b,o,u,z,rfl,⟨c0,c1,c2,c3⟩,⟨hu,_⟩,_⟩:=(uh HR).rarc hx
   simp only at c0 c1 hu
   have c0:=ck (uh HB) c0
   have c1:=ck (uh HB) c1
   obtain ⟨d0,d1,d2,d3⟩:=c2.keep (uh HB)
   obtain ⟨e0,e1,e2,e3⟩:=c3.keep (uh HB)
   have HN:=qh (take_map (f:=fun x:Int×Int×Int×Int=>x.2.2.1) hx)
   simp only at HN
   have HLN:=qh (show ((L.take i).map fun x:Int×Int×Int×Int=>x.2.2.1).length=i by simp;have:=(uh HM).1;omega)
   have hil':(i:Int)<(m:Int):=by omega
   have him:(i:Int)+1<=1000:=by omega
   obtain ⟨V,hV⟩:∃ V,V=wr.alloc (.cells #[.int .i64 fr,.int .i64 to',.int .i64 u.a,.slice u.b u.c u.d,.int .i64 u.e,.slice u.f u.g u.h,.int .i64 z.a,.slice z.b z.c z.d,.int .i64 z.e,.slice z.f z.g z.h] 93):=⟨_,rfl⟩
   obtain ⟨q,hq⟩:∃ q,q=wr.heap.size:=⟨_,rfl⟩
   have hn:=arc_new wr fr to' u z
   have kn:=zqa wr (.cells #[.int .i64 fr,.int .i64 to',.int .i64 u.a,.slice u.b u.c u.d,.int .i64 u.e,.slice u.f u.g u.h,.int .i64 z.a,.slice z.b z.c z.d,.int .i64 z.e,.slice z.f z.g z.h] 93)
   simp only [<- hV,<- hq] at hn
   rw [<- hV] at kn
   have HB:=qh (bk kn (uh HB))
   have HF:=qh ((uh HF).later (RsE.stays K D _ nww) kn)
   have HU:=qh (hu.later (uh HB))
   clear hx hu c2 c3 kn
   go_upto_region 5 with fail
   rw [<- hV,<- hq]
   obtain ⟨n0,n1,⟨m0,m1,m2,m3⟩,⟨m4,m5,m6,m7⟩⟩:=hn
   clear hV hq c0 c1 d0 d1 d2 d3 e0 e1 e2 e3
   have eg:=eg_cap
   go_wp2_with fail
   go_fit (capOf_any fr to' u z _ _ (uh HU))
   rintro e W1 ⟨⟨rfl,hc⟩,B1⟩
   have HB:=qh (bk B1 (uh HB))
   have HF:=qh ((uh HF).later (RsE.stays K D _ nww) B1)
   have HC:=qh hc
   obtain ⟨w0,f0⟩:=(uh HF).cell (o:=i*4) (by omega)
   obtain ⟨w1,f1⟩:=(uh HF).cell (o:=i*4+1) (by omega)
   obtain ⟨w2,f2⟩:=(uh HF).cell (o:=i*4+2) (by omega)
   obtain ⟨w3,f3⟩:=(uh HF).cell (o:=i*4+3) (by omega)
   have fz:=(uh HF).free
   have flt:=(uh HF).lt
   clear B1 hc n0 n1 m0 m1 m2 m3 m4 m5 m6 m7 eg
   go_wp2
   go_roundg (m - (i+1))
   case measure=>omega
   case rel =>
    have hf:=(uh HF).put4 (u0:=.int .i64 u.a) (u1:=.slice u.b u.c u.d) (u2:=.int .i64 u.e) (u3:=.slice u.f u.g u.h) (RsE.stays K D _ nww) (by rw [uh HLN];omega) (kd_r _ _ _ _ _ _ _ _) ⟨_,_,_,_,_,_,_,_,rfl,uh HC⟩
    rw [uh HLN,<- uh HN] at hf
    exact ⟨i+1,by omega,rfl,by go_num,qh (((((uh HB).setCell (p:=⟨g,_,none⟩) (uh HM).2 _).setCell (p:=⟨g,_,none⟩) (uh HM).2 _).setCell (p:=⟨g,_,none⟩) (uh HM).2 _).setCell (p:=⟨g,_,none⟩) (uh HM).2 _),qh hf.1⟩
  ·obtain rfl:m=i:=by omega
   have HLN:=qh (show ((L.take m).map fun x:Int×Int×Int×Int=>x.2.2.1).length=m by simp;have:=(uh HM).1;omega)
   have HTK:=qh (show (L.take m).map (fun x:Int×Int×Int×Int=>x.2.2.1)=L.map fun x=>x.2.2.1 by rw [List.take_of_length_le (by have:=(uh HM).1;omega)])
   clear hil hi hgk
   go_wp2
   go_ret
   have hr:=OwnR.of_fill (uh HF) (uh HM).2 (by unfold maxLen;omega)
   rw [uh HLN,uh HTK] at hr
   exact ⟨⟨_,rfl,hr⟩,uh HB⟩
def ind (a v:Nat):Int:=if a=v then 1 else 0
def exo (A:List (Nat×Nat)) (F:List Int) (v:Nat):Int:=((A.zip F).map fun q=>q.2*(ind q.1.1 v - ind q.1.2 v)).sum
def arcN (L:List (Int×Int×Int×Int)):List (Nat×Nat):=L.map fun x=>(x.1.toNat,x.2.1.toNat)
theorem mvs_exo {L:List (Int×Int×Int×Int)}{F:List Int}{n:Nat} (hL:∀ x ∈ L,¬ badArc n x) (hlen:F.length=L.length) (v:Nat):(mvs L F (List.replicate n 0) L.length).getD v 0=exo (arcN L) F v:=by
 have key:∀ i,i<=L.length->(mvs L F (List.replicate n 0) i).getD v 0=((((arcN L).zip F).take i).map fun q=>q.2*(ind q.1.1 v - ind q.1.2 v)).sum:=by
  intro i
  induction i with
  | zero =>
   intro _
   simp only [mvs,List.getD_eq_getElem?_getD,List.getElem?_replicate,List.take_zero,List.map_nil,List.sum_nil]
   split <;> rfl
  | succ i ih =>
   intro hi
   obtain ⟨x,hx⟩:∃ x,L[i]? = some x:=⟨L[i],by simp⟩
   obtain ⟨f,hf⟩:∃ f,F[i]? = some f:=⟨F[i],by simp⟩
   have hg:=hL x (List.mem_of_getElem? hx)
   unfold badArc at hg
   rw [mvs_next hx hf,mv_at (by rw [mvs_len,List.length_replicate];omega) (by rw [mvs_len,List.length_replicate];omega),ih (by omega),sum_next (L:=(arcN L).zip F) (x:=((x.1.toNat,x.2.1.toNat),f)) (by rw [List.getElem?_zip_eq_some];exact ⟨by simp [arcN,hx],hf⟩)]
   unfold ind
   simp only
   split <;> split <;> omega
 have h:=key L.length (Nat.le_refl _)
 rw [List.take_of_length_le (by rw [List.length_zip,hlen];simp [arcN])] at h
 exact h
theorem sum_one (g:Nat->Int) (a n:Nat):((List.range n).map fun v=>if a=v then g v else 0).sum=if a<n then g a else 0:=by
 induction n with
 | zero=>simp
 | succ n ih =>
  rw [List.range_succ,List.map_append,List.sum_append,ih]
  simp only [List.map_cons,List.map_nil,List.sum_cons,List.sum_nil]
  by_cases e:a=n
  ·subst e;simp
  ·by_cases h:a<n
   ·rw [if_pos h,if_neg e,if_pos (by omega)];omega
   ·rw [if_neg h,if_neg e,if_neg (by omega)];omega
theorem sum_add {α:Type} (l:List α) (f g:α -> Int):(l.map fun x=>f x+g x).sum=(l.map f).sum+(l.map g).sum:=by
 induction l with
 | nil=>simp
 | cons x l ih=>simp only [List.map_cons,List.sum_cons,ih];omega
theorem sum_congr {α:Type}{l:List α}{f g:α -> Int} (h:∀ x ∈ l,f x=g x):(l.map f).sum=(l.map g).sum:=by
 rw [List.map_congr_left h]
theorem sum_none (n:Nat):((List.range n).map fun _=>(0:Int)).sum=0:=by
 induction n with
 | zero=>rfl
 | succ n ih=>rw [List.range_succ,List.map_append,List.sum_append,ih];rfl
theorem zjr (x:Nat×Nat) (A:List (Nat×Nat)) (f:Int) (F:List Int) (v:Nat):exo (x :: A) (f :: F) v=f*(ind x.1 v - ind x.2 v)+exo A F v:=by simp [exo]
def sd (b:Bool):Int:=if b=true then 1 else 0
theorem side_sum (n:Nat) (side:Nat->Bool):∀ (A:List (Nat×Nat)) (F:List Int),(∀ x ∈ A,x.1<n/\x.2<n)->((List.range n).map fun v=>if side v=true then exo A F v else 0).sum=((A.zip F).map fun q=>q.2*(sd (side q.1.1) - sd (side q.1.2))).sum
 | [],_,_=>by
  simp only [exo,List.zip_nil_left,List.map_nil,List.sum_nil,ite_self]
  exact sum_none n
 | _ :: _,[],_=>by
  simp only [exo,List.zip_nil_right,List.map_nil,List.sum_nil,ite_self]
  exact sum_none n
 | x :: A,f :: F,h=>by
  have ih:=side_sum n side A F fun y hy=>h y (by simp [hy])
  obtain ⟨h1,h2⟩:=h x (by simp)
  rw [List.zip_cons_cons,List.map_cons,List.sum_cons,<- ih]
  have e1:∀ v ∈ List.range n,(if side v=true then exo (x :: A) (f :: F) v else 0)=((if x.1=v then (if side v=true then f else 0) else 0)+(if x.2=v then (if side v=true then -f else 0) else 0))+(if side v=true then exo A F v else 0):=by
   intro v _
   simp only [exo,List.zip_cons_cons,List.map_cons,List.sum_cons,ind]
   split
   ·split <;> split <;> omega
   ·simp
  rw [sum_congr e1,sum_add,sum_add,sum_one (fun v=>if side v=true then f else 0) x.1 n,sum_one (fun v=>if side v=true then -f else 0) x.2 n,if_pos h1,if_pos h2]
  simp only [sd]
  congr 1
  split <;> split <;> omega
theorem cut_full {A:List (Nat×Nat)}{F U:List Int}{n s t:Nat}{side:Nat->Bool} (hA:∀ x ∈ A,x.1<n/\x.2<n) (hF:F.length=A.length) (hU:U.length=A.length) (hs:s<n) (s1:side s=true) (t0:side t=false) (hcons:∀ v,v<n->v≠s->v≠t->exo A F v=0)
 (hcl:∀ (i:Nat) (x:Nat×Nat) (f u:Int),A[i]? = some x->F[i]? = some f->U[i]? = some u->(side x.1=true->side x.2=false->f=u)/\(side x.1=false->side x.2=true->f=0)) :
 exo A F s=((A.zip U).map fun q=>if side q.1.1=true/\side q.1.2=false then q.2 else 0).sum:=by
 have h1:=side_sum n side A F hA
 have h2:((List.range n).map fun v=>if side v=true then exo A F v else 0).sum=exo A F s:=by
  have e:∀ v ∈ List.range n,(if side v=true then exo A F v else 0)=if s=v then exo A F v else 0:=by
   intro v hv
   have hv:=List.mem_range.1 hv
   by_cases es:s=v
   ·subst es;rw [if_pos s1,if_pos rfl]
   ·rw [if_neg es]
    split
    ·rename_i hsv
     exact hcons v hv (fun h=>es h.symm) (fun h=>by rw [h,t0] at hsv;cases hsv)
    ·rfl
  rw [sum_congr e,sum_one,if_pos hs]
 rw [<- h2,h1]
 have key:∀ (A:List (Nat×Nat)) (F U:List Int),F.length=A.length->U.length=A.length->(∀ (i:Nat) (x:Nat×Nat) (f u:Int),A[i]? = some x->F[i]? = some f->U[i]? = some u->(side x.1=true->side x.2=false->f=u)/\(side x.1=false->side x.2=true->f=0))->((A.zip F).map fun q=>q.2*(sd (side q.1.1) - sd (side q.1.2))).sum=((A.zip U).map fun q=>if side q.1.1=true/\side q.1.2=false then q.2 else 0).sum:=by
  intro A
  induction A with
  | nil=>intros;rfl
  | cons x A ih =>
   intro F U hF hU h
   match F,U,hF,hU with
   | f :: F,u :: U,hF,hU =>
    have h0:=h 0 x f u rfl rfl rfl
    have ih:=ih F U (by simpa using hF) (by simpa using hU) fun i y g v hy hg hv=>h (i+1) y g v (by simpa using hy) (by simpa using hg) (by simpa using hv)
    simp only [List.zip_cons_cons,List.map_cons,List.sum_cons,ih]
    congr 1
    unfold sd
    cases e1:side x.1 <;> cases e2:side x.2
    ·simp
    ·simp [h0.2 e1 e2]
    ·simp [h0.1 e1 e2]
    ·simp
 exact key A F U hF hU hcl
theorem exo_le {A:List (Nat×Nat)}:∀ {F U:List Int},(∀ (i:Nat) (f u:Int),F[i]? = some f->U[i]? = some u->0<=f/\f<=u)->F.length=A.length->U.length=A.length->∀ v,exo A F v<=U.sum:=by
 induction A with
 | nil=>intro F U _ _ hU v;rw [List.length_eq_zero_iff.1 hU];simp [exo]
 | cons x A ih =>
  intro F U h hF hU v
  match F,U,hF,hU with
  | f :: F,u :: U,hF,hU =>
   have h0:=h 0 f u rfl rfl
   have h1:=ih (fun i g w hg hw=>h (i+1) g w (by simpa using hg) (by simpa using hw)) (by simpa using hF) (by simpa using hU) v
   rw [zjr,List.sum_cons]
   generalize exo A F v=e at h1 ⊢
   unfold ind
   split <;> split <;> omega
def lnF (A:List (Nat×Nat)) (l:Nat):Nat:=if l % 2=0 then (A.getD (l / 2) (0,0)).1 else (A.getD (l / 2) (0,0)).2
def lnT (A:List (Nat×Nat)) (l:Nat):Nat:=if l % 2=0 then (A.getD (l / 2) (0,0)).2 else (A.getD (l / 2) (0,0)).1
def opp (l:Nat):Nat:=if l % 2=0 then l+1 else l - 1
theorem opp_ne (l:Nat):opp l≠l:=by unfold opp;split <;> omega
theorem opp_opp (l:Nat):opp (opp l)=l:=by unfold opp;split <;> split <;> omega
theorem opp_half (l:Nat):opp l / 2=l / 2:=by unfold opp;split <;> omega
theorem opp_lt {l m:Nat} (h:l<2*m):opp l<2*m:=by unfold opp;split <;> omega
theorem lnF_opp (A:List (Nat×Nat)) (l:Nat):lnF A (opp l)=lnT A l:=by
 unfold lnF lnT
 rw [opp_half]
 unfold opp
 split <;> split <;> first | rfl | omega
theorem lnT_opp (A:List (Nat×Nat)) (l:Nat):lnT A (opp l)=lnF A l:=by
 rw [<- lnF_opp,opp_opp]
theorem ln_lt {A:List (Nat×Nat)}{n l:Nat} (hA:∀ x ∈ A,x.1<n/\x.2<n) (h:l<2*A.length):lnF A l<n/\lnT A l<n:=by
 have hx:A[l / 2]? = some (A[l / 2]'(by omega)):=by simp
 have:=hA _ (List.mem_of_getElem? hx)
 unfold lnF lnT
 rw [List.getD_eq_getElem?_getD,hx]
 simp only [Option.getD_some]
 split <;> omega
theorem getD_ne {a:List Int}{i j:Nat} (v:Int) (h:i≠j):(a.set i v).getD j 0=a.getD j 0:=by
 rw [List.getD_eq_getElem?_getD,List.getD_eq_getElem?_getD,List.getElem?_set_ne h]
theorem getD_eq {a:List Int}{i:Nat} (v:Int) (h:i<a.length):(a.set i v).getD i 0=v:=by
 rw [List.getD_eq_getElem?_getD,List.getElem?_set_self h];rfl
def mvL (rm:List Int) (l:Nat) (d:Int):List Int:=(rm.set l (rm.getD l 0 - d)).set (opp l) (rm.getD (opp l) 0+d)
theorem mvL_len (rm:List Int) (l:Nat) (d:Int):(mvL rm l d).length=rm.length:=by simp [mvL]
theorem mvL_at {rm:List Int}{l m:Nat} (d:Int) (hr:rm.length=2*m) (h:l<2*m) (j:Nat):(mvL rm l d).getD j 0=rm.getD j 0 - (if j=l then d else 0)+(if j=opp l then d else 0):=by
 have h1:=opp_lt h
 have h2:=opp_ne l
 unfold mvL
 by_cases e:j=opp l
 ·subst e
  rw [getD_eq _ (by rw [List.length_set];omega),if_neg h2,if_pos rfl]
  omega
 ·rw [getD_ne _ (fun h=>e h.symm),if_neg e]
  by_cases e':j=l
  ·subst e'
   rw [getD_eq _ (by omega),if_pos rfl]
   omega
  ·rw [getD_ne _ (fun h=>e' h.symm),if_neg e']
   omega
def fl (m:Nat) (rm:List Int):List Int:=(List.range m).map fun i=>rm.getD (2*i+1) 0
theorem fl_len (m:Nat) (rm:List Int):(fl m rm).length=m:=by simp [fl]
theorem fl_at {m i:Nat} (rm:List Int) (h:i<m):(fl m rm)[i]? = some (rm.getD (2*i+1) 0):=by
 unfold fl
 rw [List.getElem?_map,List.getElem?_range h]
 rfl
theorem exo_set {v:Nat}:∀ (A:List (Nat×Nat)) (F:List Int) (i:Nat) (x:Nat×Nat) (f f':Int),A[i]? = some x->F[i]? = some f->exo A (F.set i f') v=exo A F v+(f' - f)*(ind x.1 v - ind x.2 v)
 | [],_,_,_,_,_,h,_=>by simp at h
 | _ :: _,[],_,_,_,_,_,h=>by simp at h
 | x :: A,g :: F,0,y,f,f',hx,hf=>by
  obtain rfl:x=y:=by simpa using hx
  obtain rfl:g=f:=by simpa using hf
  rw [List.set_cons_zero,zjr,zjr]
  grind
 | x :: A,g :: F,i+1,y,f,f',hx,hf=>by
  rw [List.set_cons_succ,zjr,zjr,exo_set A F i y f f' (by simpa using hx) (by simpa using hf)]
  grind
theorem fl_mv {rm:List Int}{l m:Nat} (d:Int) (hr:rm.length=2*m) (h:l<2*m):fl m (mvL rm l d)=(fl m rm).set (l / 2) (rm.getD (2*(l / 2)+1) 0+if l % 2=0 then d else -d):=by
 refine List.ext_getElem? fun i => ?_
 rw [List.getElem?_set,fl_len]
 rcases Nat.lt_or_ge i m with hi | hi
 ·rw [fl_at _ hi,fl_at _ hi,mvL_at d hr h]
  have e1:(2*i+1=l)↔(l / 2=i/\¬ l % 2=0):=by omega
  have e2:(2*i+1=opp l)↔(l / 2=i/\l % 2=0):=by unfold opp;split <;> omega
  simp only [e1,e2]
  by_cases e:l / 2=i
  ·subst e
   by_cases e3:l % 2=0 <;> simp [e3,hi]
   omega
  ·simp [e]
 ·rw [List.getElem?_eq_none (by rw [fl_len];exact hi),List.getElem?_eq_none (by rw [fl_len];exact hi)]
  split
  ·rename_i e;subst e;rw [if_neg (by omega)]
  ·rfl
theorem exo_mv {A:List (Nat×Nat)}{rm:List Int}{l:Nat} (d:Int) (hr:rm.length=2*A.length) (h:l<2*A.length) (v:Nat):exo A (fl A.length (mvL rm l d)) v=exo A (fl A.length rm) v+d*(ind (lnF A l) v - ind (lnT A l) v):=by
 have hx:A[l / 2]? = some (A[l / 2]'(by omega)):=by simp
 have e:A.getD (l / 2) (0,0)=A[l / 2]'(by omega):=by rw [List.getD_eq_getElem?_getD,hx];rfl
 rw [fl_mv d hr h,exo_set A _ (l / 2) _ _ _ hx (fl_at rm (by omega))]
 unfold lnF lnT
 rw [e]
 generalize rm.getD (2*(l / 2)+1) 0=r
 split <;> grind
structure Rm (U rm:List Int):Prop where
 len:rm.length=2*U.length
 ge:∀ l,0<=rm.getD l 0
 sum:∀ (i:Nat) (u:Int),U[i]? = some u->rm.getD (2*i) 0+rm.getD (2*i+1) 0=u
theorem Rm.mv {U rm:List Int}{l:Nat}{d:Int} (h:Rm U rm) (hl:l<2*U.length) (d0:0<=d) (hd:d<=rm.getD l 0):Rm U (mvL rm l d):=by
 refine ⟨by rw [mvL_len];exact h.len,fun j => ?_,fun i u hu => ?_⟩
 ·rw [mvL_at d h.len hl]
  have:=h.ge j
  by_cases e:j=l
  ·subst e;rw [if_pos rfl];split <;> omega
  ·rw [if_neg e];split <;> omega
 ·rw [mvL_at d h.len hl,mvL_at d h.len hl]
  have h1:=h.sum i u hu
  have e1:(2*i+1=opp l)↔(2*i=l):=by unfold opp;split <;> omega
  have e2:(2*i=opp l)↔(2*i+1=l):=by unfold opp;split <;> omega
  simp only [e1,e2]
  split <;> split <;> omega
def Way (A:List (Nat×Nat)):List Nat->Nat->Nat->Prop
 | [],a,b=>a=b
 | l :: w,a,b=>l<2*A.length/\lnF A l=a/\Way A w (lnT A l) b
theorem Way.snoc {A:List (Nat×Nat)}{b l:Nat}:∀ {w:List Nat}{a:Nat},Way A w a b->l<2*A.length->lnF A l=b->Way A (w++[l]) a (lnT A l)
 | [],_,h,hl,hf=>⟨hl,hf.trans h.symm,rfl⟩
 | _ :: _,_,⟨h1,h2,h3⟩,hl,hf=>⟨h1,h2,h3.snoc hl hf⟩
theorem Way.take {A:List (Nat×Nat)}{b:Nat}:∀ {w:List Nat}{a:Nat} (k:Nat),Way A w a b->∃ c,Way A (w.take k) a c/\Way A (w.drop k) c b
 | w,a,0,h=>⟨a,rfl,h⟩
 | [],a,k+1,h=>⟨a,rfl,h⟩
 | l :: w,_,k+1,⟨h1,h2,h3⟩=>by
  obtain ⟨c,h4,h5⟩:=h3.take k
  exact ⟨c,⟨h1,h2,h4⟩,h5⟩
theorem Way.at {A:List (Nat×Nat)}{b l:Nat}:∀ {w:List Nat}{a:Nat}{k:Nat},Way A w a b->w[k]? = some l->l<2*A.length/\Way A (w.take k) a (lnF A l)/\Way A (w.drop (k+1)) (lnT A l) b
 | [],_,_,_,h=>by simp at h
 | l' :: w,_,0,⟨h1,h2,h3⟩,h=>by
  obtain rfl:l'=l:=by simpa using h
  exact ⟨h1,h2.symm,h3⟩
 | l' :: w,_,k+1,⟨h1,h2,h3⟩,h=>by
  obtain ⟨g1,g2,g3⟩:=h3.at (k:=k) (by simpa using h)
  exact ⟨g1,⟨h1,h2,g2⟩,g3⟩
def mvW (rm:List Int) (way:List Nat) (d:Int):List Int:=way.foldl (fun r l=>mvL r l d) rm
theorem mvW_snoc (rm:List Int) (way:List Nat) (l:Nat) (d:Int):mvW rm (way++[l]) d=mvL (mvW rm way d) l d:=by simp [mvW]
theorem exo_way {A:List (Nat×Nat)}{b:Nat} (d:Int) (v:Nat):∀ {w:List Nat}{rm:List Int}{a:Nat},rm.length=2*A.length->Way A w a b->exo A (fl A.length (mvW rm w d)) v=exo A (fl A.length rm) v+d*(ind a v - ind b v)
 | [],rm,a,_,h=>by
  have h:a=b:=h
  subst h
  show exo A (fl A.length rm) v=_
  rw [Int.sub_self,Int.mul_zero,Int.add_zero]
 | l :: w,rm,_,hr,⟨h1,rfl,h3⟩=>by
  show exo A (fl A.length (mvW (mvL rm l d) w d)) v=_
  rw [exo_way d v (by rw [mvL_len];exact hr) h3,exo_mv d hr h1]
  grind
def Sep:List Nat->Prop
 | []=>True
 | l :: w=>(∀ x ∈ w,x≠l/\x≠opp l)/\Sep w
theorem mvW_far {m:Nat}{d:Int}{j:Nat}:∀ {w:List Nat}{rm:List Int},rm.length=2*m->(∀ l ∈ w,l<2*m)->(∀ l ∈ w,j≠l/\j≠opp l)->(mvW rm w d).getD j 0=rm.getD j 0
 | [],_,_,_,_=>rfl
 | l :: w,rm,hr,hw,hj=>by
  show (mvW (mvL rm l d) w d).getD j 0=_
  rw [mvW_far (by rw [mvL_len];exact hr) (fun x hx=>hw x (by simp [hx])) (fun x hx=>hj x (by simp [hx])),mvL_at d hr (hw l (by simp)),if_neg (hj l (by simp)).1,if_neg (hj l (by simp)).2]
  omega
theorem Rm.way {U:List Int}{d:Int} (d0:0<=d):∀ {w:List Nat}{rm:List Int},Rm U rm->(∀ l ∈ w,l<2*U.length/\d<=rm.getD l 0)->Sep w->Rm U (mvW rm w d)/\∀ l ∈ w,(mvW rm w d).getD l 0=rm.getD l 0 - d
 | [],rm,h,_,_=>⟨h,fun l hl=>by cases hl⟩
 | l :: w,rm,h,hw,⟨hs,hS⟩=>by
  obtain ⟨hl,hd⟩:=hw l (by simp)
  have h1:=h.mv hl d0 hd
  have e:∀ x ∈ w,(mvL rm l d).getD x 0=rm.getD x 0:=fun x hx=>by
   rw [mvL_at d h.len hl,if_neg (hs x hx).1,if_neg (hs x hx).2];omega
  obtain ⟨h2,h3⟩:=Rm.way d0 h1 (fun x hx=>⟨(hw x (by simp [hx])).1,by rw [e x hx];exact (hw x (by simp [hx])).2⟩) hS
  refine ⟨h2,fun x hx => ?_⟩
  show (mvW (mvL rm l d) w d).getD x 0=_
  rcases List.mem_cons.1 hx with rfl | hx
  ·rw [mvW_far h1.len (fun y hy=>(hw y (by simp [hy])).1) (fun y hy => ?_),mvL_at d h.len hl,if_pos rfl,if_neg (fun h=>opp_ne x h.symm)]
   ·omega
   ·have:=hs y hy
    exact ⟨fun h=>this.1 h.symm,fun h=>this.2 (by rw [h,opp_opp])⟩
  ·rw [h3 x hx,e x hx]
theorem Rm.fl_in {U rm:List Int} (h:Rm U rm):∀ (i:Nat) (f u:Int),(fl U.length rm)[i]? = some f->U[i]? = some u->0<=f/\f<=u:=by
 intro i f u hf hu
 have hi:=(List.getElem?_eq_some_iff.1 hu).1
 rw [fl_at _ hi] at hf
 obtain rfl:=Option.some.inj hf
 have h1:=h.sum i u hu
 have h2:=h.ge (2*i)
 have h3:=h.ge (2*i+1)
 omega
theorem Rm.le {U rm:List Int} (h:Rm U rm) (hU:∀ u ∈ U,0<=u) (l:Nat):rm.getD l 0<=U.sum:=by
 rcases Nat.lt_or_ge l rm.length with hl | hl
 ·have hi:l / 2<U.length:=by have:=h.len;omega
  have hu:U[l / 2]? = some (U[l / 2]'hi):=by simp
  have h1:=h.sum _ _ hu
  have h2:=h.ge (2*(l / 2))
  have h3:=h.ge (2*(l / 2)+1)
  have h4:U[l / 2]'hi<=U.sum:=by
   have key:∀ (U:List Int),(∀ u ∈ U,0<=u)->0<=U.sum/\∀ u ∈ U,u<=U.sum:=by
    intro U
    induction U with
    | nil=>intro _;exact ⟨by simp,fun u h=>by cases h⟩
    | cons x U ih =>
     intro h
     have h0:=h x (by simp)
     obtain ⟨i1,i2⟩:=ih fun y hy=>h y (by simp [hy])
     rw [List.sum_cons]
     refine ⟨by omega,fun u hu => ?_⟩
     rcases List.mem_cons.1 hu with rfl | hu
     ·omega
     ·have:=i2 u hu;omega
   exact (key U hU).2 _ (by simp)
  rcases (by omega:l=2*(l / 2)\/l=2*(l / 2)+1) with e | e
  ·rw [e];omega
  ·rw [e];omega
 ·rw [List.getD_eq_getElem?_getD,List.getElem?_eq_none hl]
  have:∀ (U:List Int),(∀ u ∈ U,0<=u)->0<=U.sum:=by
   intro U
   induction U with
   | nil=>simp
   | cons x U ih=>intro h;have:=h x (by simp);have:=ih fun y hy=>h y (by simp [hy]);rw [List.sum_cons];omega
  exact this U hU
def rm0 (U:List Int):List Int:=U.flatMap fun u=>[u,0]
theorem rm0_snoc (U:List Int) (u:Int):rm0 (U++[u])=rm0 U++[u,0]:=by simp [rm0]
theorem rm0_len (U:List Int):(rm0 U).length=2*U.length:=by
 induction U with
 | nil=>rfl
 | cons u U ih=>show (u :: 0 :: rm0 U).length=_;simp only [List.length_cons,ih];omega
theorem rm0_at:∀ (U:List Int) (i:Nat),(rm0 U).getD (2*i) 0=U.getD i 0/\(rm0 U).getD (2*i+1) 0=0
 | [],i=>by simp [rm0]
 | u :: U,0=>⟨rfl,rfl⟩
 | u :: U,i+1=>rm0_at U i
theorem rm0_rm {U:List Int} (h:∀ u ∈ U,0<=u):Rm U (rm0 U):=by
 refine ⟨rm0_len U,fun l => ?_,fun i u hu => ?_⟩
 ·rcases (by omega:l=2*(l / 2)\/l=2*(l / 2)+1) with e | e
  ·rw [e,(rm0_at U _).1,List.getD_eq_getElem?_getD]
   cases hx:U[l / 2]? with
   | none=>exact Int.le_refl _
   | some u=>exact h u (List.mem_of_getElem? hx)
  ·rw [e,(rm0_at U _).2];exact Int.le_refl _
 ·rw [(rm0_at U i).1,(rm0_at U i).2,List.getD_eq_getElem?_getD,hu]
  simp
theorem exo_none {A:List (Nat×Nat)}{F:List Int} (h:∀ f ∈ F,f=0) (v:Nat):exo A F v=0:=by
 induction A generalizing F with
 | nil=>rfl
 | cons x A ih =>
  cases F with
  | nil=>rfl
  | cons f F=>rw [zjr,ih (fun g hg=>h g (by simp [hg])),h f (by simp)];omega
theorem exo_rm0 (A:List (Nat×Nat)) (U:List Int) (v:Nat):exo A (fl A.length (rm0 U)) v=0:=by
 refine exo_none (fun f hf => ?_) v
 obtain ⟨i,_,rfl⟩:=List.mem_map.1 hf
 exact (rm0_at U i).2
def lvl (lv:List Int) (v:Nat):Int:=lv.getD v (-1)
theorem lvl_set {lv:List Int}{v u:Nat}{k:Int} (h:v<lv.length):lvl (lv.set v k) u=if v=u then k else lvl lv u:=by
 unfold lvl
 rw [List.getD_eq_getElem?_getD,List.getD_eq_getElem?_getD,List.getElem?_set]
 split
 ·rfl
 ·rfl
structure Lev (A:List (Nat×Nat)) (n s:Nat) (rm lv:List Int):Prop where
 len:lv.length=n
 root:lvl lv s=0
 zero:∀ v,lvl lv v=0->v=s
 back:∀ v,0<lvl lv v->∃ l,l<2*A.length/\0<rm.getD l 0/\lnT A l=v/\lvl lv (lnF A l)=lvl lv v - 1
 closed:∀ l,l<2*A.length->0<rm.getD l 0->0<=lvl lv (lnF A l)->0<=lvl lv (lnT A l)
 hi:∀ v,-1<=lvl lv v/\lvl lv v<=n
def Alw (A:List (Nat×Nat)) (lv:List Int) (l:Nat):Prop:=lvl lv (lnT A l)=lvl lv (lnF A l)+1
theorem Lev.stuck {A:List (Nat×Nat)}{n s t:Nat}{rm lv:List Int} (h:Lev A n s rm lv) {fin:Nat->Prop} (hs:fin s) (hst:s≠t) (hf:∀ l,l<2*A.length->0<rm.getD l 0->Alw A lv l->fin (lnF A l)->fin (lnT A l)/\lnT A l≠t):lvl lv t<0:=by
 have key:∀ (k:Nat) (v:Nat),lvl lv v=(k:Int)->fin v/\v≠t:=by
  intro k
  induction k with
  | zero=>intro v hv;rw [h.zero v hv];exact ⟨hs,hst⟩
  | succ k ih =>
   intro v hv
   obtain ⟨l,h1,h2,rfl,h4⟩:=h.back v (by omega)
   exact hf l h1 h2 (by unfold Alw;omega) (ih _ (by omega)).1
 rcases Int.lt_or_le (lvl lv t) 0 with h0 | h0
 ·exact h0
 ·exact absurd rfl (key (lvl lv t).toNat t (by omega)).2
theorem alw_ge {A:List (Nat×Nat)}{lv:List Int}{b:Nat}:∀ {w:List Nat}{a:Nat},Way A w a b->(∀ l ∈ w,Alw A lv l)->lvl lv b=lvl lv a+w.length/\∀ x ∈ w,lvl lv a<=lvl lv (lnF A x)
 | [],a,h,_=>by
  have h:a=b:=h
  subst h
  exact ⟨by simp,fun x hx=>by cases hx⟩
 | l :: w,_,⟨_,rfl,h3⟩,ha=>by
  obtain ⟨i1,i2⟩:=alw_ge h3 fun x hx=>ha x (by simp [hx])
  have h0:lvl lv (lnT A l)=lvl lv (lnF A l)+1:=ha l (by simp)
  refine ⟨by rw [i1,h0,List.length_cons];omega,fun x hx => ?_⟩
  rcases List.mem_cons.1 hx with rfl | hx
  ·exact Int.le_refl _
  ·have:=i2 x hx;omega
theorem alw_sep {A:List (Nat×Nat)}{lv:List Int}{b:Nat}:∀ {w:List Nat}{a:Nat},Way A w a b->(∀ l ∈ w,Alw A lv l)->Sep w
 | [],_,_,_=>trivial
 | l :: w,_,⟨_,rfl,h3⟩,ha=>by
  have h0:lvl lv (lnT A l)=lvl lv (lnF A l)+1:=ha l (by simp)
  obtain ⟨_,i2⟩:=alw_ge h3 fun x hx=>ha x (by simp [hx])
  refine ⟨fun x hx => ?_,alw_sep h3 fun x hx=>ha x (by simp [hx])⟩
  have h1:=i2 x hx
  have h2:lvl lv (lnT A x)=lvl lv (lnF A x)+1:=ha x (by simp [hx])
  refine ⟨fun e=>by rw [e] at h1;omega,fun e => ?_⟩
  rw [e,lnF_opp,lnT_opp] at h2
  omega
def negs (lv:List Int):Nat:=(lv.filter fun k=>decide (k<0)).length
theorem negs_set:∀ (lv:List Int) (v:Nat) (k a:Int),lv[v]? = some a->a<0->0<=k->negs (lv.set v k)+1=negs lv
 | [],_,_,_,h,_,_=>by simp at h
 | x :: lv,0,k,a,h,h1,h2=>by
  obtain rfl:x=a:=by simpa using h
  simp only [negs,List.set_cons_zero,List.filter_cons]
  rw [if_neg (by simp;omega),if_pos (by simp;omega),List.length_cons]
 | x :: lv,v+1,k,a,h,h1,h2=>by
  have ih:=negs_set lv v k a (by simpa using h) h1 h2
  simp only [negs,List.set_cons_succ,List.filter_cons] at ih ⊢
  split
  ·rw [List.length_cons,List.length_cons];omega
  ·exact ih
theorem negs_none (n:Nat):negs (List.replicate n (-1))=n:=by
 unfold negs
 rw [List.filter_eq_self.2 (fun a ha=>by rw [(List.mem_replicate.1 ha).2];rfl),List.length_replicate]
end Go.Proofs.YtkdobjmhammhbaaGreatDoor
