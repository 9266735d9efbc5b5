import Derived.Test.YtkdobjmhammhbaaGreatDoorMPF
namespace Go.Proofs.YtkdobjmhammhbaaGreatDoor
open Go.RowKit
theorem RBox.elsewhere {w w':World}{q r:Nat} (h:RBox w r) (he:Elsewhere q w w') (hne:r≠q):RBox w' r:=by
 obtain ⟨x1,x2,x3,x4,x5,x6,x7,x8,hb⟩:=h
 exact ⟨x1,x2,x3,x4,x5,x6,x7,x8,by rw [he r hne];exact hb⟩
theorem Rs.chg {K:Nat}{D s:Int}{e:TypeId}{w w':World}{v:Value} (h:Rs K D w v s) (hc:Chg NoWord e w w'):Rs K D w' v s:=by
 obtain ⟨p,d,h1,h2⟩:=h
 exact ⟨p,d,h1.chg hc nww,h2⟩
theorem Fill.chgO {α:Type}{k:Nat}{E:World→List Value → α → Prop}{t:TypeId}{w w':World}{g n:Nat}{L:List α} (h:Fill NoWord k E t w g n L) (he:Elsewhere g w w'):Chg NoWord t w w':=by
 obtain ⟨cur,h1,_,h3,_⟩:=h
 exact he.chg h1 h3
theorem RX.elsewhere {K:Nat}{D s:Int}{e:TypeId}{w w':World}{q r:Nat}{x:F8 Int} (h:RX K D w r x s) (he:Elsewhere q w w') (hne:r≠q) (hc:Chg NoWord e w w'):RX K D w' r x s :=
 ⟨he.cell hne h.c0,he.cell hne h.c1,he.cell hne h.c2,he.cell hne h.c3,h.box.elsewhere he hne,h.q.chg hc⟩
theorem fill_zero (K:Nat) (D:Int) (w:World) (n:Nat):Fill NoWord 4 (RsE K D) 39 (w.alloc (.cells (madeCells #[Value.int .i64 0,.slice none 0 0,.int .i64 0,.slice none 0 0] (n*4)) 39)) w.heap.size n (List.replicate n 0):=by
 have h0:=Fill.new (α := Int) (k:=4) (E:=RsE K D) (t:=39) w (z:=#[Value.int .i64 0,.slice none 0 0,.int .i64 0,.slice none 0 0]) n zk_r (by decide)
 refine h0.raw.fill (by simp) fun i x hx => ?_
 have hi:i<n:=by have:=(List.getElem?_eq_some_iff.1 hx).1;simpa using this
 obtain rfl:x=0:=by
   rw [List.getElem?_replicate,if_pos hi] at hx
   exact (Option.some.inj hx).symm
 refine ⟨[.int .i64 0,.slice none 0 0,.int .i64 0,.slice none 0 0],rfl,fun j u hu => ?_,⟨0,none,0,0,0,none,0,0,rfl,rs_nought K D _⟩⟩
 rw [zqe rfl]
 have hj:j<4:=(List.getElem?_eq_some_iff.1 hu).1
 have hm:(i*4+j) % 4=j:=by omega
 rw [show (madeCells #[Value.int .i64 0,.slice none 0 0,.int .i64 0,.slice none 0 0] (n*4))[i*4+j]? = some (#[Value.int .i64 0,.slice none 0 0,.int .i64 0,.slice none 0 0][j]!) by
   unfold madeCells
   rw [Array.getElem?_map,Array.getElem?_range,if_pos (by omega)]
   simp only [Option.map_some]
   rw [show (i*4+j) % (#[Value.int .i64 0,.slice none 0 0,.int .i64 0,.slice none 0 0]:Array Value).size=j from hm]]
 rw [← hu]
 match j,hj with
 | 0,_=>rfl
 | 1,_=>rfl
 | 2,_=>rfl
 | 3,_=>rfl
def gvL (Pt:List (List Int)) (T:List Int) (n k j:Nat):List Int:=(List.range n).map fun i=>if i<j then cmN Pt T i (k+1) else cmN Pt T i k
theorem gvL_len (Pt:List (List Int)) (T:List Int) (n k j:Nat):(gvL Pt T n k j).length=n:=by simp [gvL]
theorem gvL_at (Pt:List (List Int)) (T:List Int) {n k j i:Nat} (h:i<n):(gvL Pt T n k j)[i]? = some (if i<j then cmN Pt T i (k+1) else cmN Pt T i k):=by
 unfold gvL
 rw [List.getElem?_map,List.getElem?_range h]
 rfl
theorem gvL_zero (Pt:List (List Int)) (T:List Int) (n:Nat):gvL Pt T n 0 0=List.replicate n 0:=by
 refine List.ext_getElem? fun i => ?_
 rcases Nat.lt_or_ge i n with h | h
 · rw [gvL_at _ _ h,List.getElem?_replicate,if_pos h,if_neg (by omega)]
   simp [cmN]
 · rw [List.getElem?_eq_none (by rw [gvL_len];exact h),List.getElem?_eq_none (by simpa using h)]
theorem gvL_next (Pt:List (List Int)) (T:List Int) (n k:Nat):gvL Pt T n k n=gvL Pt T n (k+1) 0:=by
 refine List.ext_getElem? fun i => ?_
 rcases Nat.lt_or_ge i n with h | h
 · rw [gvL_at _ _ h,gvL_at _ _ h,if_pos h,if_neg (by omega)]
 · rw [List.getElem?_eq_none (by rw [gvL_len];exact h),List.getElem?_eq_none (by rw [gvL_len];exact h)]
theorem gvL_set {Pt:List (List Int)}{T:List Int}{n k j:Nat}{s:Int} (hj:j<n) (hs:s=cmN Pt T j (k+1)):(gvL Pt T n k j).set j s=gvL Pt T n k (j+1):=by
 refine List.ext_getElem? fun i => ?_
 rw [List.getElem?_set,gvL_len]
 rcases Nat.lt_or_ge i n with h | h
 · rw [gvL_at _ _ h,gvL_at _ _ h]
   by_cases e:j=i
   · subst e
     rw [if_pos rfl,if_pos hj,if_pos (by omega),hs]
   · rw [if_neg e]
     by_cases h1:i<j
     · rw [if_pos h1,if_pos (by omega)]
     · rw [if_neg h1,if_neg (by omega)]
 · rw [if_neg (by omega),List.getElem?_eq_none (by rw [gvL_len];exact h),List.getElem?_eq_none (by rw [gvL_len];exact h)]
structure GvS (w:World) (K:Nat) (D:Int) (gr gc n:Nat) (y:F8 Int) (s:Int) (t:List Int) (W:World):Prop where
 below:Below w.heap.size w W
 xr:RX K D W gr y s
 fill:Fill NoWord 4 (RsE K D) 39 W gc n t
 gw:w.heap.size≤gr∧gr<gc
section
variable {w:World}{K:Nat}{D:Int}{gr gc n:Nat}{y:F8 Int}{s:Int}{t:List Int}{W:World}
theorem GvS.keep {W':World} (h:GvS w K D gr gc n y s t W) (hb:Below W.heap.size W W'):GvS w K D gr gc n y s t W':=⟨bk hb h.below,h.xr.keep hb,h.fill.later (rse_stays K D) hb,h.gw⟩
theorem GvS.putR {z:F8 Int}{s':Int} (h:GvS w K D gr gc n y s t W) (hz:Rs K D W (vr z) s'):GvS w K D gr gc n z s' t ((((W.setCell ⟨gr,0,none⟩ (.int .i64 z.a)).setCell ⟨gr,1,none⟩ (.slice z.b z.c z.d)).setCell ⟨gr,2,none⟩ (.int .i64 z.e)).setCell ⟨gr,3,none⟩ (.slice z.f z.g z.h)) :=
 have h1:=h.gw
 have he:=else4 (q:=gr) W (.int .i64 z.a) (.slice z.b z.c z.d) (.int .i64 z.e) (.slice z.f z.g z.h)
 ⟨zqf h.below h1.1 _ _ _ _,RX.put h.xr.box hz,h.fill.elsewhere he (by omega) fun cs x hx=>rse_stays K D _ _ _ _ hx (h.xr.box.chgW he),h1⟩
theorem GvS.setC {z:F8 Int}{s':Int}{i:Nat} (h:GvS w K D gr gc n y s t W) (hi:i<t.length) (hz:Rs K D W (vr z) s'):GvS w K D gr gc n y s (t.set i s') ((((W.setCell ⟨gc,i*4,none⟩ (.int .i64 z.a)).setCell ⟨gc,i*4+1,none⟩ (.slice z.b z.c z.d)).setCell ⟨gc,i*4+2,none⟩ (.int .i64 z.e)).setCell ⟨gc,i*4+3,none⟩ (.slice z.f z.g z.h)) :=
 have h1:=h.gw
 have he:=else4o (g:=gc) W (i*4) (.int .i64 z.a) (.slice z.b z.c z.d) (.int .i64 z.e) (.slice z.f z.g z.h)
 ⟨zkn h.below (by omega) _ _ _ _,h.xr.elsewhere he (by omega) (h.fill.chgO he),h.fill.set4 (rse_stays K D) hi (kd_r _ _ _ _ _ _ _ _) ⟨_,_,_,_,_,_,_,_,rfl,hz⟩,h1⟩
end
theorem exact_div {z d q r:Int} (d0:0<d) (hdv:d∣z) (h:q*d+r=z) (r0:0≤r) (r1:r<d):q=z / d:=by
 obtain ⟨k,rfl⟩:=hdv
 rw [Int.mul_ediv_cancel_left _ (by omega)]
 have h1:d*(k - q)=r:=by rw [Int.mul_sub,Int.mul_comm d q];omega
 rcases Int.lt_trichotomy (k - q) 0 with h2 | h2 | h2
 · have:d*(k - q)<0:=Int.mul_neg_of_pos_of_neg d0 h2
   omega
 · omega
 · have:d*1≤d*(k - q):=Int.mul_le_mul_of_nonneg_left (by omega) (by omega)
   omega
set_option maxHeartbeats 8000000 in
set_option maxRecDepth 8000 in
theorem quot_any {N:Nat}{v u:Value}{z d:Int} (w:World) (hz:Zr (N+1) w v z) (hd:Zr (N+1) w u d) (hN:N≤700000) (d0:0<d) (hdv:d∣z) (hin:-pw (N+1)<z / d∧z / d<pw (N+1)) :
   Calls Tryz.prog 159 #[v,u] w fun e w'=>(∃ v,e=.returned v∧Zr (N+1) w' v (z / d))∧Below w.heap.size w w':=by
 obtain ⟨x1,a1,n1,c1,rfl⟩:=hz.shape
 obtain ⟨x2,a2,n2,c2,rfl⟩:=hd.shape
 obtain ⟨V,hV⟩:∃ V,V=((w.alloc (.cells #[.int .i64 x1,.slice a1 n1 c1] 37)).alloc (.cells #[.int .i64 x2,.slice a2 n2 c2] 37)).alloc (.cells #[.int .i64 0,.slice none 0 0] 37):=⟨_,rfl⟩
 obtain ⟨g,hg⟩:∃ g,g=w.heap.size:=⟨_,rfl⟩
 have s1:(w.alloc (.cells #[.int .i64 x1,.slice a1 n1 c1] 37)).heap.size=g+1:=by rw [hg];simp
 have s2:((w.alloc (.cells #[.int .i64 x1,.slice a1 n1 c1] 37)).alloc (.cells #[.int .i64 x2,.slice a2 n2 c2] 37)).heap.size=g+1+1:=by rw [hg];simp
 have hb:Below w.heap.size w V:=by rw [hV];exact bk (zqa _ _) (bk (zqa _ _) (zqa _ _))
 have c10:V.cell? ⟨g,0,none⟩=some (.int .i64 x1):=by rw [hV,hg];exact ck (zqa _ _) (ck (zqa _ _) (by rw [zqe rfl];rfl))
 have c11:V.cell? ⟨g,1,none⟩=some (.slice a1 n1 c1):=by rw [hV,hg];exact ck (zqa _ _) (ck (zqa _ _) (by rw [zqe rfl];rfl))
 have c20:V.cell? ⟨g+1,0,none⟩=some (.int .i64 x2):=by rw [hV,← s1];exact ck (zqa _ _) (by rw [zqe rfl];rfl)
 have c21:V.cell? ⟨g+1,1,none⟩=some (.slice a2 n2 c2):=by rw [hV,← s1];exact ck (zqa _ _) (by rw [zqe rfl];rfl)
 have hbx:Box V (g+1+1):=by rw [hV,← s2];exact zxc _
 have HZ:=qh (And.intro (hz.later hb) (hd.later hb))
 have HB:=qh hb
 have HX:=qh hbx
 clear hz hd hb hbx s1 s2
 go_enter Tryz.func159,Tryz.ntmps159
 go_upto_region 1 with fail
 rw [← hV,← hg]
 have HGW:=qh (show w.heap.size≤g by omega)
 clear hV hg
 go_wp2_with fail
 go_fit (divMod_any _ (uh HZ).1 (uh HZ).2 hN)
 rintro e W1 ⟨hc,B1⟩
 obtain ⟨vq,vr,q,r,rfl,hq,hr,h1,h2,h3⟩:=(hc.resolve_left fun h=>by omega).2
 obtain ⟨y1,b1,m1,k1,rfl⟩:=hq.shape
 obtain ⟨y2,b2,m2,k2,rfl⟩:=hr.shape
 rw [show iabs d=d by unfold iabs;split <;> omega] at h3
 have hqz:=exact_div d0 hdv h1 h2 h3
 rw [hqz] at hq
 have HQ:=qh (hq.fit hin.1 hin.2)
 have HB:=qh (bk B1 (uh HB))
 have HX:=qh ((uh HX).later B1)
 clear B1 hq hr h1 h2 h3 hc hqz c10 c11 c20 c21
 obtain ⟨V2,hV2⟩:∃ V,V=(W1.alloc (.cells #[.int .i64 y1,.slice b1 m1 k1] 37)).alloc (.cells #[.int .i64 y2,.slice b2 m2 k2] 37):=⟨_,rfl⟩
 obtain ⟨q1,hq1⟩:∃ g,g=W1.heap.size:=⟨_,rfl⟩
 have kb:Below W1.heap.size W1 V2:=by rw [hV2];exact bk (zqa _ _) (zqa _ _)
 have e0:V2.cell? ⟨q1,0,none⟩=some (.int .i64 y1):=by rw [hV2,hq1];exact ck (zqa _ _) (by rw [zqe rfl];rfl)
 have e1:V2.cell? ⟨q1,1,none⟩=some (.slice b1 m1 k1):=by rw [hV2,hq1];exact ck (zqa _ _) (by rw [zqe rfl];rfl)
 have HQ:=qh ((uh HQ).later kb)
 have HB:=qh (bk kb (uh HB))
 have HX:=qh ((uh HX).later kb)
 clear kb
 go_upto_region 2 with fail
 rw [← hV2,← hq1]
 clear hV2 hq1
 obtain ⟨⟨w0,f0⟩,⟨w1,w2,w3,f1⟩,gf⟩:=(uh HX).cells
 have hlt:g+1+1<V2.heap.size:=World.block_lt_of_cell? V2 _ f0
 go_wp2
 obtain ⟨st0,st1⟩:=(uh HX).stored (.int .i64 y1) (.slice b1 m1 k1)
 exact bodyPost_ret (v:=.agg #[.int .i64 y1,.slice b1 m1 k1]) (by simp [results,Tryz.results159,go_sem,st0,st1]) rfl ⟨⟨_,rfl,(uh HQ).stored (uh HX) _ _⟩,zqc (uh HB) (by have:=uh HGW;omega) _ _⟩
theorem zkj (K:Nat) (e:TypeId):Stays NoWord e (ZE K):=ZE.stays K e nww
theorem kd_z (x1:Int) (x2:Option Addr) (x3 x4:Nat):∀ u ∈ [Value.int .i64 x1,.slice x2 x3 x4],NoWord u:=by
 intro u hu z e
 simp at hu
 rcases hu with rfl | rfl <;> cases e
structure Z4 where
 a:Int
 b:Option Addr
 c:Nat
 d:Nat
abbrev vz (x:Z4):Value:=.agg #[.int .i64 x.a,.slice x.b x.c x.d]
theorem Zr.sh {K:Nat}{w:World}{v:Value}{z:Int} (h:Zr K w v z):∃ x:Z4,v=.agg #[.int .i64 x.a,.slice x.b x.c x.d]:=by
 obtain ⟨x1,x2,x3,x4,rfl⟩:=h.shape
 exact ⟨⟨x1,x2,x3,x4⟩,rfl⟩
theorem Zr.chgW {K:Nat}{e:TypeId}{w w':World}{v:Value}{z:Int} (h:Zr K w v z) (hc:Chg NoWord e w w'):Zr K w' v z:=h.chg hc nww
theorem Fill.z2 {K:Nat}{t:TypeId}{w:World}{g n i:Nat}{L:List Int}{s:Int} (h:Fill NoWord 2 (ZE K) t w g n L) (hx:L[i]? = some s):∃ y:Z4,w.cell? ⟨g,i*2,none⟩=some (.int .i64 y.a)∧w.cell? ⟨g,i*2+1,none⟩=some (.slice y.b y.c y.d)∧Zr K w (vz y) s:=by
 obtain ⟨cs,_,hcs,x1,x2,x3,x4,rfl,hz⟩:=h.at hx
 exact ⟨⟨x1,x2,x3,x4⟩,by simpa using hcs 0 _ rfl,hcs 1 _ rfl,hz⟩
theorem else2 {g:Nat} (w:World) (o:Nat) (u0 u1:Value):Elsewhere g w ((w.setCell ⟨g,o,none⟩ u0).setCell ⟨g,o+1,none⟩ u1):=fun b hb=>by
 rw [Below.heap_setCell _ _ _ _ hb,Below.heap_setCell _ _ _ _ hb]
theorem else1 {g:Nat} (w:World) (o:Nat) (u:Value):Elsewhere g w (w.setCell ⟨g,o,none⟩ u):=fun b hb=>by
 rw [Below.heap_setCell _ _ _ _ hb]
theorem Fill.set2 {α:Type}{K:Value→Prop}{E:World→List Value → α → Prop}{t:TypeId}{w:World}{g n i:Nat}{L:List α}{u0 u1:Value}{x:α} (h:Fill K 2 E t w g n L) (hE:Stays K t E) (hi:i<L.length) (hk:∀ u ∈ [u0,u1],K u) (he:E w [u0,u1] x) :
   Fill K 2 E t ((w.setCell ⟨g,i*2,none⟩ u0).setCell ⟨g,i*2+1,none⟩ u1) g n (L.set i x):=by
 have hl:=h.len
 obtain ⟨a0,e0⟩:=h.cell (o:=i*2) (by omega)
 obtain ⟨a1,e1⟩:=h.cell (o:=i*2+1) (by omega)
 obtain ⟨r0,c0⟩:=h.raw.store (o:=i*2) (hk u0 (by simp))
 obtain ⟨r1,c1⟩:=r0.store (o:=i*2+1) (hk u1 (by simp))
 have hc:=c0.trans c1
 refine r1.fill (by simpa using hl) fun j y hy => ?_
 rw [List.getElem?_set] at hy
 by_cases hji:i=j
 · subst hji
   rw [if_pos rfl,if_pos hi] at hy
   obtain rfl:=Option.some.inj hy
   refine ⟨_,rfl,fun k u hu => ?_,hE _ _ _ _ he hc⟩
   match k,hu with
   | 0,hu =>
     obtain rfl:u0=u:=by simpa using hu
     rw [Nat.add_zero,zqb _ _ _ _ _ _ (by omega)]
     exact zqd e0
   | 1,hu =>
     obtain rfl:u1=u:=by simpa using hu
     exact zqd (by rw [zqb _ _ _ _ _ _ (by omega)];exact e1)
 · rw [if_neg hji] at hy
   obtain ⟨cs,hcl,hcs,hex⟩:=h.at hy
   refine ⟨cs,hcl,fun k u hu => ?_,hE _ _ _ _ hex hc⟩
   have hk4:k<2:=by rw [← hcl];exact (List.getElem?_eq_some_iff.1 hu).1
   rw [zqb _ _ _ _ _ _ (by omega),zqb _ _ _ _ _ _ (by omega)]
   exact hcs k u hu
structure KnS (w:World) (K gk gm gl n:Nat) (sa:Option Addr) (sn sc:Nat) (y:Z4) (p:Int) (t:List Int) (W:World):Prop where
 below:Below w.heap.size w W
 c0:W.cell? ⟨gk,0,none⟩=some (.slice sa sn sc)
 c1:W.cell? ⟨gk,1,none⟩=some (.int .i64 y.a)
 c2:W.cell? ⟨gk,2,none⟩=some (.slice y.b y.c y.d)
 c3:W.cell? ⟨gk,3,none⟩=some (.slice (some ⟨gm,0,none⟩) n n)
 c4:W.cell? ⟨gk,4,none⟩=some (.slice (some ⟨gl,0,none⟩) n n)
 parts:Zr (K+1) W (vz y) p
 most:Fill NoWord 2 (ZE (K+1)) 37 W gm n t
 last:Raw NoWord 3 W gl n
 bx:Raw NoWord 244 W gk 5
 ne:gk≠gm∧gk≠gl∧gm≠gl
 gw:w.heap.size≤gk∧w.heap.size≤gm∧w.heap.size≤gl
theorem Raw.later {K:Value→Prop}{t:TypeId}{w w':World}{g m:Nat} (h:Raw K t w g m) (hb:Below w.heap.size w w'):Raw K t w' g m:=by
 obtain ⟨cur,h1,h2,h3⟩:=h
 exact ⟨cur,by rw [hb.block g (Array.getElem?_eq_some_iff.1 h1).1];exact h1,h2,h3⟩
theorem Raw.elsewhere {K:Value→Prop}{t:TypeId}{w w':World}{g m q:Nat} (h:Raw K t w g m) (he:Elsewhere q w w') (hne:g≠q):Raw K t w' g m:=by
 obtain ⟨cur,h1,h2,h3⟩:=h
 exact ⟨cur,by rw [he g hne];exact h1,h2,h3⟩
theorem Raw.cell {K:Value→Prop}{t:TypeId}{w:World}{g m o:Nat} (h:Raw K t w g m) (ho:o<m):(∃ u,w.cell? ⟨g,o,none⟩=some u)∧w.frozen? ⟨g,o,none⟩=false∧g<w.heap.size:=by
 obtain ⟨cur,h1,h2,h3⟩:=h
 refine ⟨⟨cur[o]'(by omega),by simp [World.cell?,h1,h2,ho]⟩,by simp [World.frozen?,h1],(Array.getElem?_eq_some_iff.1 h1).1⟩
section
variable {w:World}{K gk gm gl n:Nat}{sa:Option Addr}{sn sc:Nat}{y:Z4}{p:Int}{t:List Int}{W:World}
theorem KnS.keep {W':World} (h:KnS w K gk gm gl n sa sn sc y p t W) (hb:Below W.heap.size W W'):KnS w K gk gm gl n sa sn sc y p t W' :=
 ⟨bk hb h.below,ck hb h.c0,ck hb h.c1,ck hb h.c2,ck hb h.c3,ck hb h.c4,h.parts.later hb,h.most.later (zkj _ _) hb,h.last.later hb,h.bx.later hb,h.ne,h.gw⟩
theorem KnS.beside {W':World}{q:Nat}{e:TypeId} (h:KnS w K gk gm gl n sa sn sc y p t W) (he:Elsewhere q W W') (hc:Chg NoWord e W W') (hb:Below w.heap.size w W') (h1:gk≠q) (h2:gm≠q) (h3:gl≠q):KnS w K gk gm gl n sa sn sc y p t W' :=
 ⟨hb,he.cell h1 h.c0,he.cell h1 h.c1,he.cell h1 h.c2,he.cell h1 h.c3,he.cell h1 h.c4,h.parts.chgW hc,h.most.elsewhere he h2 fun _ _ hx=>zkj _ _ _ _ _ _ hx hc,h.last.elsewhere he h3,h.bx.elsewhere he h1,h.ne,h.gw⟩
theorem KnS.setM {i:Nat}{s:Int}{x:Z4} (h:KnS w K gk gm gl n sa sn sc y p t W) (hi:i<t.length) (hx:Zr (K+1) W (vz x) s):KnS w K gk gm gl n sa sn sc y p (t.set i s) ((W.setCell ⟨gm,i*2,none⟩ (.int .i64 x.a)).setCell ⟨gm,i*2+1,none⟩ (.slice x.b x.c x.d)) :=
 have he:=else2 (g:=gm) W (i*2) (.int .i64 x.a) (.slice x.b x.c x.d)
 have hc:=h.most.chgO he
 ⟨(h.below.setCell (p:=⟨gm,i*2,none⟩) h.gw.2.1 _).setCell (p:=⟨gm,i*2+1,none⟩) h.gw.2.1 _,he.cell h.ne.1 h.c0,he.cell h.ne.1 h.c1,he.cell h.ne.1 h.c2,he.cell h.ne.1 h.c3,he.cell h.ne.1 h.c4,h.parts.chgW hc,h.most.set2 (zkj _ _) hi (kd_z _ _ _ _) ⟨_,_,_,_,rfl,hx⟩,h.last.elsewhere he h.ne.2.2.symm,h.bx.elsewhere he h.ne.1,h.ne,h.gw⟩
theorem KnS.setL {i:Nat}{s:Int} (h:KnS w K gk gm gl n sa sn sc y p t W):KnS w K gk gm gl n sa sn sc y p t (W.setCell ⟨gl,i,none⟩ (.int .i64 s)) :=
 have he:=else1 (g:=gl) W i (.int .i64 s)
 have hst:=h.last.store (o:=i) (v:=.int .i64 s) (fun z e=>by cases e)
 have hc:=hst.2
 ⟨h.below.setCell (p:=⟨gl,i,none⟩) h.gw.2.2 _,he.cell h.ne.2.1 h.c0,he.cell h.ne.2.1 h.c1,he.cell h.ne.2.1 h.c2,he.cell h.ne.2.1 h.c3,he.cell h.ne.2.1 h.c4,h.parts.chgW hc,h.most.elsewhere he h.ne.2.2 fun cs x hx=>zkj _ _ _ _ _ _ hx hc,hst.1,h.bx.elsewhere he h.ne.2.1,h.ne,h.gw⟩
theorem KnS.setP {p':Int}{x:Z4} (h:KnS w K gk gm gl n sa sn sc y p t W) (hx:Zr (K+1) W (vz x) p'):KnS w K gk gm gl n sa sn sc x p' t ((W.setCell ⟨gk,1,none⟩ (.int .i64 x.a)).setCell ⟨gk,2,none⟩ (.slice x.b x.c x.d)):=by
 have he:=else2 (g:=gk) W 1 (.int .i64 x.a) (.slice x.b x.c x.d)
 obtain ⟨r1,k1⟩:=h.bx.store (o:=1) (v:=.int .i64 x.a) (fun z e=>by cases e)
 obtain ⟨r2,k2⟩:=r1.store (o:=2) (v:=.slice x.b x.c x.d) (fun z e=>by cases e)
 have hc:=k1.trans k2
 refine ⟨(h.below.setCell (p:=⟨gk,1,none⟩) h.gw.1 _).setCell (p:=⟨gk,2,none⟩) h.gw.1 _,?_,?_,?_,?_,?_,hx.chgW hc,h.most.elsewhere he h.ne.1.symm fun cs x hx=>zkj _ _ _ _ _ _ hx hc,h.last.elsewhere he h.ne.2.1.symm,r2,h.ne,h.gw⟩
 · rw [zqb _ _ _ _ _ _ (by omega),zqb _ _ _ _ _ _ (by omega)];exact h.c0
 · rw [zqb _ _ _ _ _ _ (by omega)];exact zqd h.c1
 · exact zqd (by rw [zqb _ _ _ _ _ _ (by omega)];exact h.c2)
 · rw [zqb _ _ _ _ _ _ (by omega),zqb _ _ _ _ _ _ (by omega)];exact h.c3
 · rw [zqb _ _ _ _ _ _ (by omega),zqb _ _ _ _ _ _ (by omega)];exact h.c4
end
def knL (z:List ((Int×Int)×Int)) (n k:Nat):List Int:=(List.range n).map fun i=>if i<k then bz z i else 0
theorem knL_len (z:List ((Int×Int)×Int)) (n k:Nat):(knL z n k).length=n:=by simp [knL]
theorem knL_at (z:List ((Int×Int)×Int)) {n k i:Nat} (h:i<n):(knL z n k)[i]? = some (if i<k then bz z i else 0):=by
 unfold knL
 rw [List.getElem?_map,List.getElem?_range h]
 rfl
theorem knL_set {z:List ((Int×Int)×Int)}{n k:Nat} (h:k<n):(knL z n k).set k (bz z k)=knL z n (k+1):=by
 refine List.ext_getElem? fun i => ?_
 rw [List.getElem?_set,knL_len]
 rcases Nat.lt_or_ge i n with hi | hi
 · rw [knL_at _ hi,knL_at _ hi]
   by_cases e:k=i
   · subst e
     rw [if_pos rfl,if_pos h,if_pos (by omega)]
   · rw [if_neg e]
     by_cases h1:i<k
     · rw [if_pos h1,if_pos (by omega)]
     · rw [if_neg h1,if_neg (by omega)]
 · rw [if_neg (by omega),List.getElem?_eq_none (by rw [knL_len];exact hi),List.getElem?_eq_none (by rw [knL_len];exact hi)]
structure KnT (w:World) (K gk gm gl gc n nc:Nat) (sa:Option Addr) (sn sc:Nat) (y:Z4) (p:Int) (C t:List Int) (W:World):Prop where
 s:KnS w K gk gm gl n sa sn sc y p t W
 c:Fill NoWord 2 (ZE (K+1)) 37 W gc nc C
 ne:gc≠gm∧gc≠gl∧gc≠gk
section
variable {w:World}{K gk gm gl gc n nc:Nat}{sa:Option Addr}{sn sc:Nat}{y:Z4}{p:Int}{C t:List Int}{W:World}
theorem KnT.keep {W':World} (h:KnT w K gk gm gl gc n nc sa sn sc y p C t W) (hb:Below W.heap.size W W'):KnT w K gk gm gl gc n nc sa sn sc y p C t W':=⟨h.s.keep hb,h.c.later (zkj _ _) hb,h.ne⟩
theorem KnT.setM {i:Nat}{s:Int}{x:Z4} (h:KnT w K gk gm gl gc n nc sa sn sc y p C t W) (hi:i<t.length) (hx:Zr (K+1) W (vz x) s):KnT w K gk gm gl gc n nc sa sn sc y p C (t.set i s) ((W.setCell ⟨gm,i*2,none⟩ (.int .i64 x.a)).setCell ⟨gm,i*2+1,none⟩ (.slice x.b x.c x.d)) :=
 have he:=else2 (g:=gm) W (i*2) (.int .i64 x.a) (.slice x.b x.c x.d)
 ⟨h.s.setM hi hx,h.c.elsewhere he h.ne.1 fun _ _ hx=>zkj _ _ _ _ _ _ hx (h.s.most.chgO he),h.ne⟩
theorem KnT.setL {i:Nat}{s:Int} (h:KnT w K gk gm gl gc n nc sa sn sc y p C t W):KnT w K gk gm gl gc n nc sa sn sc y p C t (W.setCell ⟨gl,i,none⟩ (.int .i64 s)) :=
 have he:=else1 (g:=gl) W i (.int .i64 s)
 have hst:=h.s.last.store (o:=i) (v:=.int .i64 s) (fun z e=>by cases e)
 ⟨h.s.setL,h.c.elsewhere he h.ne.2.1 fun cs x hx=>zkj _ _ _ _ _ _ hx hst.2,h.ne⟩
end
theorem zs_add {K N:Nat}{T s s':Int}{v v':Value} (w:World) (hB:Big K N T) (h:Zr (K+1) w v s) (h':Zr (K+1) w v' s') (hin:-pw (K+1)<s+s'∧s+s'<pw (K+1)) :
   Calls Tryz.prog 111 #[v,v'] w fun e w'=>(∃ v,e=.returned v∧Zr (K+1) w' v (s+s'))∧Below w.heap.size w w' :=
 (add_any (N:=K) w h h' (by have:=hB.k;omega)).mono fun _ _ ⟨⟨v,he,hz⟩,hb⟩=>⟨⟨v,he,hz.fit hin.1 hin.2⟩,hb⟩
theorem zs_cmp {K N:Nat}{T s s':Int}{v v':Value} (w:World) (hB:Big K N T) (h:Zr (K+1) w v s) (h':Zr (K+1) w v' s') :
   Calls Tryz.prog 79 #[v,v'] w fun e w'=>e=.returned (.int .i64 (sgn (s - s')))∧Below w.heap.size w w':=cmp_any (N:=K) w h h' (by have:=hB.k;omega)
set_option maxHeartbeats 16000000 in
set_option maxRecDepth 8000 in
theorem find_any {K N gp gm gl gc n nc long cc:Nat}{r T B:Int}{sa:Option Addr}{sc:Nat}{y:Z4}{p:Int}{L:List (Int×Int)}{C:List Int} (w W0:World) (hBg:Big K N T) (h:KnT w K gp gm gl gc n nc sa L.length sc y p C (knL (L.zip C) n long) W0) (hs:Rows 2 SzE w (.slice sa L.length sc) L) (hL:∀ y ∈ L,okS r y) (hl:L.length≤12) (hlen:C.length=L.length) (hlo:1≤long) (hln:long<n) (hn:n≤201) (hB:0≤B) (hC:∀ s ∈ C,0≤s∧s≤B) (hT:1000*B<T) :
   Calls Tryz.prog 161 #[.pointer (some ⟨gp,0,none⟩),.int .i64 (long:Int),.slice (some ⟨gc,0,none⟩) L.length cc] W0 fun e w'=>e=.returned (.tuple #[])∧KnT w K gp gm gl gc n nc sa L.length sc y p C (knL (L.zip C) n (long+1)) w':=by
 have hz:Lng (L.zip C):=lng_zip C hL
 have hbd:∀ k,k≤200→0≤bz (L.zip C) k∧bz (L.zip C) k≤200*B:=fun k hk=>⟨bz_nonneg _ _,by
   have h1:=bz_ins hz hB (fun q hq=>(hC q.2 (List.of_mem_zip hq).2).2) k
   have h2:(k:Int)*B≤200*B:=Int.mul_le_mul_of_nonneg_right (by omega) hB
   omega⟩
 have HBD:=qh (And.intro hbd (And.intro hC (And.intro hB hT)))
 have HZ:=qh hz
 have HG:=qh hBg
 have HR:=qh hs
 have HL:=qh hL
 obtain ⟨m,hm⟩:∃ m,m=L.length:=⟨_,rfl⟩
 rw [← hm] at HR hl hlen h ⊢
 have HM:=qh (And.intro hm hlen)
 obtain ⟨lo1,hlo1⟩:∃ k,long=k+1:=⟨long - 1,by omega⟩
 have hat:=knL_at (L.zip C) (n:=n) (k:=long) (i:=lo1) (by omega)
 rw [if_pos (by omega)] at hat
 obtain ⟨x0,⟨m0,m1,hx0⟩⟩:=h.s.most.z2 hat
 have h2:=(h.setM (i:=long) (x:=x0) (s:=bz (L.zip C) lo1) (by rw [knL_len];omega) hx0).setL (i:=long) (s := -1)
 obtain ⟨u0,e0⟩:=h.s.most.cell (o:=(long)*2) (by omega)
 obtain ⟨u1,e1⟩:=h.s.most.cell (o:=(long)*2+1) (by omega)
 have f0:=h.s.most.free ((long)*2)
 have f1:=h.s.most.free ((long)*2+1)
 have hlt:=h.s.most.lt
 obtain ⟨⟨u2,e2⟩,f2,hlt2⟩:=h.s.last.cell (o:=long) (by omega)
 have c2:=h.s.c3
 have c3:=h.s.c4
 have hne:=h.s.ne
 have HS:=qh h2
 have hl0:(0:Int)≤(lo1:Int):=by omega
 have hl1:(lo1:Int)<(n:Int):=by omega
 have hl2:(long:Int)<(n:Int):=by omega
 have ew:wrap64 ((long:Int) - 1)=(lo1:Int):=by unfold wrap64;omega
 have HLO:=qh hlo1
 have m0':W0.cell? ⟨gm,(long - 1)*2,none⟩=some (.int .i64 x0.a):=by rw [show long - 1=lo1 by omega];exact m0
 have m1':W0.cell? ⟨gm,(long - 1)*2+1,none⟩=some (.slice x0.b x0.c x0.d):=by rw [show long - 1=lo1 by omega];exact m1
 clear hs hL hBg hz hbd hC hB hT hm hlen h hat hx0 h2 hlo1
 go_enter Tryz.func161,Tryz.ntmps161
 go_upto_region 0 with fail
 go_region
 obtain ⟨V,hV⟩:∃ V,V=((((W0.setCell ⟨gm,(long)*2,none⟩ (.int .i64 x0.a)).setCell ⟨gm,(long)*2+1,none⟩ (.slice x0.b x0.c x0.d)).setCell ⟨gl,long,none⟩ (.int .i64 (-1))).drew):=⟨_,rfl⟩
 have HS:=qh (show KnT w K gp gm gl gc n nc sa m sc y p C ((knL (L.zip C) n (long)).set (long) (fb (bz (L.zip C)) (long) ((L.zip C).take 0) (bz (L.zip C) lo1))) V by rw [hV];exact (uh HS).keep (Below.refl _ _).drew)
 rw [← hV]
 clear hV e0 e1 f0 f1 hlt e2 f2 hlt2 c2 c3 m0 m1 m0' m1' hne
 have c0:=(uh HS).s.c0
 go_wp2_with fail
 clear c0
 go_loopg [34] m (fun gk iv wr=>∃ (i:Nat),i≤m∧gk=m - i∧iv=.int .i64 (i:Int)∧Hid (KnT w K gp gm gl gc n nc sa m sc y p C ((knL (L.zip C) n (long)).set (long) (fb (bz (L.zip C)) (long) ((L.zip C).take i) (bz (L.zip C) lo1))) wr))
 case atStart=>exact ⟨0,by omega,by omega,rfl,HS⟩
 case round =>
   clear HS
   obtain ⟨i,hi,hgk,rfl,HS⟩:=hrel
   by_cases him:i<m
   · obtain ⟨⟨lo,wa⟩,hx⟩:∃ x,L[i]? = some x:=⟨L[i]'(by have:=uh HM;omega),by simp⟩
     obtain ⟨s,hs⟩:∃ x,C[i]? = some x:=⟨C[i]'(by have:=uh HM;omega),by simp⟩
     have hok:=uh HL _ (List.mem_of_getElem? hx)
     obtain ⟨q1,q2⟩:1≤lo∧lo≤r:=hok.2
     obtain ⟨k,rfl⟩:∃ k:Nat,lo=(k:Int):=⟨lo.toNat,by omega⟩
     obtain ⟨b,o,rfl,c0,c1,_⟩:=(uh HR).size2 hx
     simp only at c0 c1
     have c0:=ck (uh HS).s.below c0
     have c1:=ck (uh HS).s.below c1
     obtain ⟨V1,hV1⟩:∃ V,V=wr.alloc (.cells #[.int .i64 (k:Int),.int .i64 wa] 76):=⟨_,rfl⟩
     obtain ⟨q,hq⟩:∃ q,q=wr.heap.size:=⟨_,rfl⟩
     have hn':=size_new wr (k:Int) wa
     have kn:=zqa wr (.cells #[.int .i64 (k:Int),.int .i64 wa] 76)
     simp only [← hV1,← hq] at hn'
     rw [← hV1] at kn
     have HX:=qh (zip_take hx hs)
     have HSB:=qh (And.intro ((uh HBD).2.1 s (List.mem_of_getElem? hs)) q1)
     have HCS:=qh hs
     obtain ⟨cu,hcu⟩:∃ c,c=fb (bz (L.zip C)) (long) ((L.zip C).take i) (bz (L.zip C) lo1):=⟨_,rfl⟩
     rw [← hcu] at HS
     have HCU:=qh hcu
     have HS:=qh ((uh HS).keep kn)
     have him':(i:Int)<(m:Int):=by omega
     have hi60:(i:Int)+1≤1000:=by omega
     obtain ⟨s0,_⟩:=hn'
     clear hx hs hok hcu kn
     go_upto_region 4 with fail
     rw [← hV1,← hq]
     clear hV1 hq c0 c1
     by_cases hkn:(long:Int)<(k:Int)
     · have HN:=qh (show fb (bz (L.zip C)) (long) ((L.zip C).take (i+1)) (bz (L.zip C) lo1)=cu by rw [uh HX,fb_snoc,if_neg (by simp only;omega),← uh HCU])
       go_wp2
       go_roundg (m - (i+1))
       case measure=>omega
       case rel=>exact ⟨i+1,by omega,rfl,by go_num,qh (by rw [uh HN];exact uh HS)⟩
     obtain ⟨j,hj⟩:∃ j,j=long - k:=⟨_,rfl⟩
     have hje:(long:Int) - (k:Int)=(j:Int):=by omega
     have hjn:j<long:=by have:=(uh HSB).2;omega
     have htj:((knL (L.zip C) n (long)).set (long) cu)[j]? = some (bz (L.zip C) j):=by rw [List.getElem?_set,if_neg (by omega),knL_at _ (by omega),if_pos hjn]
     have htn:((knL (L.zip C) n (long)).set (long) cu)[long]? = some cu:=by rw [List.getElem?_set,if_pos rfl,if_pos (by rw [knL_len];omega)]
     obtain ⟨yj,j0,j1,hyj⟩:=(uh HS).s.most.z2 htj
     obtain ⟨yn,n0,n1,hyn⟩:=(uh HS).s.most.z2 htn
     obtain ⟨yc,d0,d1,hyc⟩:=(uh HS).c.z2 (uh HCS)
     have hbj:=(uh HBD).1 j (by omega)
     have HIN:=qh (show -pw (K+1)<bz (L.zip C) j+s∧bz (L.zip C) j+s<pw (K+1) by
       have h1:=(uh HSB).1
       have h2:=(uh HBD).2.2
       have h3:=(uh HG).r
       omega)
     have HN:=qh (show fb (bz (L.zip C)) (long) ((L.zip C).take (i+1)) (bz (L.zip C) lo1)=max cu (bz (L.zip C) j+s) by rw [uh HX,fb_snoc,if_pos (by simp only;omega),← uh HCU];simp only [Int.toNat_natCast];rw [← hj])
     have HY:=qh (And.intro hyj (And.intro hyn hyc))
     have HYN:=qh (And.intro n0 n1)
     have ew1:wrap64 ((long:Int) - (k:Int))=(j:Int):=by rw [hje];unfold wrap64;omega
     have ew2:IntKind.i64.wrap ((long:Int) - (k:Int))=(j:Int):=by rw [wrapI64];exact ew1
     have hj0:(0:Int)≤(j:Int):=by omega
     have hj1:(j:Int)<(n:Int):=by omega
     have HJ:=qh hj
     have him3:(i:Int)<(cc:Int)∨True:=Or.inr trivial
     have HS00:=qh (show V1.cell? ⟨gp,3,none⟩=_∧V1.cell? ⟨q,0,none⟩=_∧V1.cell? ⟨gm,j*2,none⟩=_∧V1.cell? ⟨gm,j*2+1,none⟩=_∧V1.cell? ⟨gc,i*2,none⟩=_∧V1.cell? ⟨gc,i*2+1,none⟩=_ from ⟨(uh HS).s.c3,s0,j0,j1,d0,d1⟩)
     clear htj htn hyj hyn hyc hbj hje hj j0 j1 n0 n1 d0 d1 him3
     go_upto_region 5 with fail
     clear hkn s0
     go_cut [8] (fun tv wx=>∃ (g8:Nat) (z8:Z4),tv=.pointer (some ⟨g8,0,none⟩)∧Hid (wx.cell? ⟨g8,0,none⟩=some (.int .i64 z8.a)∧wx.cell? ⟨g8,1,none⟩=some (.slice z8.b z8.c z8.d)∧Zr (K+1) wx (vz z8) (bz (L.zip C) j+s))∧Hid (Below V1.heap.size V1 wx))
     case first =>
       go_region_held3 (fun w'=>w'.cell? ⟨gp,3,none⟩=some (.slice (some ⟨gm,0,none⟩) n n)∧w'.cell? ⟨q,0,none⟩=some (.int .i64 (k:Int))∧w'.cell? ⟨gm,j*2,none⟩=some (.int .i64 yj.a)∧w'.cell? ⟨gm,j*2+1,none⟩=some (.slice yj.b yj.c yj.d)∧w'.cell? ⟨gc,i*2,none⟩=some (.int .i64 yc.a)∧w'.cell? ⟨gc,i*2+1,none⟩=some (.slice yc.b yc.c yc.d))
         (first | with_reducible exact ck6 (Below.refl _ _).drew (uh HS00) | with_reducible exact ck6 (zqa _ _).drew (uh HS00) | with_reducible exact ck6 (uh BW) (uh HS00) | with_reducible exact ck6 (bk (zqa _ _) (uh BW)) (uh HS00) | with_reducible exact ck6 (zqc (uh BW) (by omega) _ _) (uh HS00))
         (first
         | (go_at_call 111;(first | go_fit (zs_add _ (uh HG) ((uh HY).1.later (Below.refl _ _).drew) ((uh HY).2.2.later (Below.refl _ _).drew) (uh HIN)) | go_fit (zs_add _ (uh HG) ((uh HY).1.later (zqa _ _).drew) ((uh HY).2.2.later (zqa _ _).drew) (uh HIN)));rintro e9 Y1 ⟨⟨vm,rfl,hM⟩,hb⟩;obtain ⟨z,rfl⟩:=hM.sh;(first | have BW:=qh (bk hb (Below.refl V1.heap.size V1).drew) | (have BW:=qh (bk hb (zqa V1 (.cells #[.int .i64 0,.slice none 0 0] 37)).drew);have hbx:=(show Box (V1.alloc (.cells #[.int .i64 0,.slice none 0 0] 37)).drew V1.heap.size from zxc V1).later hb;obtain ⟨⟨w0,e0⟩,⟨w1,w2,w3,e1⟩,gf⟩:=hbx.cells;have hxlt:=World.block_lt_of_cell? Y1 _ e0));clear hb))
       all_goals
         have hsz:=(uh BW).size
         go_wp2
         go_meet
         first
           | exact ⟨_,z,rfl,qh ⟨by rw [zqe rfl];rfl,by rw [zqe rfl];rfl,hM.later (zqa _ _)⟩,qh (bk (zqa _ _) (uh BW))⟩
           | exact ⟨_,z,rfl,qh ⟨(hbx.stored _ _).1,(hbx.stored _ _).2,hM.stored hbx _ _⟩,qh (zqc (uh BW) (Nat.le_refl _) _ _)⟩
     case rest =>
       obtain ⟨g8,z8,rfl,H8,HBW⟩:=hcut
       obtain ⟨Z,rfl⟩:∃ X,X=wc:=⟨_,rfl⟩
       have HS:=qh ((uh HS).keep (uh HBW))
       have HQC:=qh (fun (y':Abv Z)=>zs_cmp y'.val (uh HG) ((uh H8).2.2.later y'.property) ((uh HY).2.1.later (bk y'.property (uh HBW))))
       obtain ⟨sg,hsg⟩:∃ x,x=sgn (bz (L.zip C) j+s - cu):=⟨_,rfl⟩
       rw [← hsg] at HQC
       have hgt:=@sgn_gt (bz (L.zip C) j+s - cu)
       rw [← hsg] at hgt
       have HGT:=qh hgt
       have ne:=Abv.some Z
       have t0:∀ y':Abv Z,y'.val.cell? ⟨g8,0,none⟩=_:=fun y'=>ck y'.property (uh H8).1
       have t1:∀ y':Abv Z,y'.val.cell? ⟨g8,1,none⟩=_:=fun y'=>ck y'.property (uh H8).2.1
       have t2:∀ y':Abv Z,y'.val.cell? ⟨gp,3,none⟩=_:=fun y'=>ck y'.property (uh HS).s.c3
       have n0:∀ y':Abv Z,y'.val.cell? ⟨gm,long*2,none⟩=_:=fun y'=>ck (bk y'.property (uh HBW)) (uh HYN).1
       have n1:∀ y':Abv Z,y'.val.cell? ⟨gm,long*2+1,none⟩=_:=fun y'=>ck (bk y'.property (uh HBW)) (uh HYN).2
       clear hsg hgt HS00 ew1 ew2 hj0 hj1
       go_upto_region 6 with fail
       refine zxb (by kernel_rfl) (by kernel_rfl) ?_
       repeat (go_big_quiet_step (exact Calls.abv (uh HQC _)))
       refine wpQuiet_nil ?_
       rintro Z1 ⟨⟨Z2,B1⟩,rfl⟩
       have HS:=qh ((uh HS).keep B1)
       have H8:=qh (show Z1.cell? ⟨g8,0,none⟩=_∧Z1.cell? ⟨g8,1,none⟩=_∧Zr (K+1) Z1 (vz z8) (bz (L.zip C) j+s) from ⟨ck B1 (uh H8).1,ck B1 (uh H8).2.1,(uh H8).2.2.later B1⟩)
       clear t0 t1 t2 n0 n1 ne HQC HBW B1
       by_cases hs0:0<sg
       · have HM2:=qh (show (knL (L.zip C) n long).set long (fb (bz (L.zip C)) long ((L.zip C).take (i+1)) (bz (L.zip C) lo1))=((knL (L.zip C) n long).set long cu).set long (bz (L.zip C) j+s) by
           have h1:=(uh HGT).1 hs0
           rw [uh HN,Int.max_eq_right (by omega),List.set_set])
         obtain ⟨u0,e0⟩:=(uh HS).s.most.cell (o:=long*2) (by omega)
         obtain ⟨u1,e1⟩:=(uh HS).s.most.cell (o:=long*2+1) (by omega)
         have f0:=(uh HS).s.most.free (long*2)
         have f1:=(uh HS).s.most.free (long*2+1)
         have hlt:=(uh HS).s.most.lt
         obtain ⟨⟨u2,e2⟩,f2,hlt2⟩:=(uh HS).s.last.cell (o:=long) (by omega)
         have c2:=(uh HS).s.c3
         have c3:=(uh HS).s.c4
         have hne:=(uh HS).s.ne
         have t0:=(uh H8).1
         have t1:=(uh H8).2.1
         have hp:=((uh HS).setM (i:=long) (x:=z8) (s:=bz (L.zip C) j+s) (by simp [knL_len];omega) (uh H8).2.2).setL (i:=long) (s:=(i:Int))
         rw [← uh HM2] at hp
         have HP:=qh hp
         clear hp
         go_upto_region 7 with fail
         go_region
         clear e0 e1 e2 f0 f1 f2 hlt hlt2 c2 c3 t0 t1 hne
         go_wp2
         go_roundg (m - (i+1))
         case measure=>omega
         case rel=>exact ⟨i+1,by omega,rfl,by go_num,qh ((uh HP).keep (Below.refl _ _).drew)⟩
       · have HM2:=qh (show fb (bz (L.zip C)) long ((L.zip C).take (i+1)) (bz (L.zip C) lo1)=cu by
           have h1:¬ 0<bz (L.zip C) j+s - cu:=fun h=>hs0 ((uh HGT).2 h)
           rw [uh HN,Int.max_eq_left (by omega)])
         go_wp2
         go_roundg (m - (i+1))
         case measure=>omega
         case rel=>exact ⟨i+1,by omega,rfl,by go_num,qh (by rw [uh HM2];exact uh HS)⟩
   · obtain rfl:m=i:=by omega
     clear him hi hgk
     have HF:=qh (show KnT w K gp gm gl gc n nc sa m sc y p C (knL (L.zip C) n (long+1)) wr by
       have h1:=uh HS
       rw [List.take_of_length_le (by rw [List.length_zip];have:=uh HM;omega)] at h1
       have e:fb (bz (L.zip C)) long (L.zip C) (bz (L.zip C) lo1)=bz (L.zip C) long:=by
         have h2:=bz_next (uh HZ) lo1
         rw [← uh HLO] at h2
         exact h2
       rw [e,knL_set (by omega)] at h1
       exact h1)
     clear HS
     go_wp2
     exact bodyPost_end (results_none rfl _ _ _) rfl ⟨rfl,uh HF⟩
set_option maxHeartbeats 8000000 in
set_option maxRecDepth 8000 in
theorem above_any {K N gp gm gl n:Nat}{T:Int}{sa:Option Addr}{sn sc:Nat}{y:Z4}{p s:Int}{t:List Int} (w W:World) (hBg:Big K N T) (h:KnS w K gp gm gl (n+1) sa sn sc y p t W) (ht:t[n]? = some s) (hn:n≤200) :
   Calls Tryz.prog 101 #[.pointer (some ⟨gp,0,none⟩)] W fun e w'=>e=.returned (.bool (decide (p<s)))∧Below W.heap.size W w':=by
 obtain ⟨x,m0,m1,hx⟩:=h.most.z2 ht
 have HX:=qh hx
 have HS:=qh h
 have HG:=qh hBg
 have hn1:((n+1:Nat):Int) - 1=(n:Int):=by omega
 have ew1:wrap64 (((n+1:Nat):Int) - 1)=(n:Int):=by rw [hn1];unfold wrap64;omega
 have ew2:IntKind.i64.wrap (((n+1:Nat):Int) - 1)=(n:Int):=by rw [wrapI64];exact ew1
 have hl0:(0:Int)≤(n:Int):=by omega
 have hl1:(n:Int)<((n+1:Nat):Int):=by omega
 obtain ⟨q,hq⟩:∃ q,q=n+1:=⟨_,rfl⟩
 rw [← hq] at ew1 ew2 hl1 HS
 have HQ:=qh hq
 have ne:=Abv.some W
 have c1:∀ y':Abv W,y'.val.cell? ⟨gp,1,none⟩=_:=fun y'=>ck y'.property (uh HS).c1
 have c2:∀ y':Abv W,y'.val.cell? ⟨gp,2,none⟩=_:=fun y'=>ck y'.property (uh HS).c2
 have c3:∀ y':Abv W,y'.val.cell? ⟨gp,3,none⟩=_:=fun y'=>ck y'.property (uh HS).c3
 have n0:∀ y':Abv W,y'.val.cell? ⟨gm,n*2,none⟩=_:=fun y'=>ck y'.property m0
 have n1:∀ y':Abv W,y'.val.cell? ⟨gm,n*2+1,none⟩=_:=fun y'=>ck y'.property m1
 obtain ⟨sg,hsg⟩:∃ z,z=sgn (s - p):=⟨_,rfl⟩
 have HQC:=qh (fun (y':Abv W)=>zs_cmp y'.val (uh HG) ((uh HX).later y'.property) ((uh HS).parts.later y'.property))
 have hgt:=@sgn_gt (s - p)
 rw [← hsg] at HQC hgt
 have HGT:=qh (show (0<sg)↔p<s from hgt.trans (by omega))
 clear h hx hBg hn1 hq m0 m1 hsg hgt
 go_enter Tryz.func101,Tryz.ntmps101
 go_upto_region 1 with fail
 refine zxb (by kernel_rfl) (by kernel_rfl) ?_
 repeat (go_big_quiet_step (exact Calls.abv (uh HQC _)))
 refine wpQuiet_nil ?_
 rintro Z1 ⟨⟨Z2,B1⟩,rfl⟩
 have HB:=qh B1
 clear c1 c2 c3 n0 n1 HQC ne B1
 go_wp2
 go_ret
 refine ⟨?_,uh HB⟩
 show Ending.returned (.bool (decide (0<sg)))=_
 congr 2
 exact decide_eq_decide.2 (uh HGT)
end Go.Proofs.YtkdobjmhammhbaaGreatDoor
