import Derived.Test.YtkdobjmhammhbaaGreatDoorMPI
import Derived.Test.YtkdobjmhammhbaaGreatDoorMCJ
namespace Go.Proofs.YtkdobjmhammhbaaGreatDoor
open Go.RowKit
def leastP (D:Int) (r:Nat) (L:List (Int×Int)) (W:List Int) (c:Int):Prop:=wsum L W=c∧bz (L.zip W) r≤D
theorem zip_scale (L:List (Int×Int)) (C:List Int) (g:Int):(L.zip C).map (fun q=>(q.1,g*q.2))=L.zip (C.map fun c=>g*c):=by
 induction L generalizing C with
 | nil=>rfl
 | cons x l ih =>
   cases C with
   | nil=>rfl
   | cons c C=>simp [ih]
theorem above_same {r:Nat}{D P g:Int}{L:List (Int×Int)}{C:List Int} (hL:∀ y ∈ L,okS (r:Int) y) (hg:0<g) (hD:D=P*g):P<bz (L.zip C) r↔D<bz (L.zip (C.map fun c=>g*c)) r:=by
 rw [← zip_scale,bz_scale (lng_zip C hL) hg,hD,Int.mul_comm P g]
 exact ⟨fun h=>Int.mul_lt_mul_of_pos_left h hg,fun h=>Int.lt_of_mul_lt_mul_left h (Int.le_of_lt hg)⟩
set_option maxHeartbeats 16000000 in
set_option maxRecDepth 8000 in
theorem least_any {K N r pg:Nat}{T' D B c:Int}{v:Value}{L:List (Int×Int)}{T W:List Int}{pa ta wa:Option Addr}{pn pc tn tc wn wc:Nat}{x:F8 Int} (w:World) (hBg:Big K N T') (hD:Dn T' D) (hT64:Tab64 w) (h:Rows 2 SzE w v L) (hp:CutR w pg pa pn pc ta tn tc wa wn wc x) (hw:Rows 4 (RsE K D) w (.slice wa wn wc) W) (hc:Rs K D w (vr x) c) (hr:1≤r∧r≤200) (hl:L.length≤12) (hL:∀ y ∈ L,okS (r:Int) y) (hlen:W.length=L.length) (hW0:∀ s ∈ W,0≤s) (hb:CtB D B T' T W c) :
   Calls Tryz.prog 51 #[.int .i64 (r:Int),v,.pointer (some ⟨pg,0,none⟩)] w fun e w'=>YesP e (leastP D r L W c)∧Below w.heap.size w w':=by
 obtain ⟨sa,sc,rfl⟩:=h.shape
 obtain rfl:=hw.len
 obtain ⟨m,hm⟩:∃ n,n=L.length:=⟨_,rfl⟩
 rw [hlen,← hm] at hp hw
 rw [← hm] at h hl ⊢
 obtain ⟨gr,hgr⟩:∃ g,g=w.heap.size:=⟨_,rfl⟩
 obtain ⟨V,hV⟩:∃ V,V=w.alloc (.cells #[.int .i64 0,.slice none 0 0,.int .i64 0,.slice none 0 0] 39):=⟨_,rfl⟩
 have hB0:Below w.heap.size w V:=by rw [hV];exact zqa _ _
 have hX0:RX K D V gr ⟨0,none,0,0,0,none,0,0⟩ 0:=by rw [hV,hgr];exact RX.new (x:=⟨0,none,0,0,0,none,0,0⟩) (rs_nought K D w)
 have HB:=qh hB0
 have HX:=qh hX0
 have HG:=qh (And.intro hBg (And.intro hD hT64))
 have HR:=qh h
 have HCU:=qh hp
 have HW:=qh hw
 have HC:=qh hc
 have HL:=qh hL
 have HBD:=qh hb
 have HN:=qh (And.intro hm (show W.length=m by omega))
 have HW0:=qh hW0
 have HGW:=qh (show w.heap.size≤gr by omega)
 clear h hp hw hc hL hb hBg hD hT64 hlen hm hB0 hX0 hW0
 go_enter Tryz.func51,Tryz.ntmps51
 go_upto_region 3 with fail
 rw [← hV,← hgr]
 clear hV hgr
 go_loopg [12] m (fun gk iv wr=>∃ (i:Nat) (y:F8 Int),i≤m∧gk=m - i∧iv=.int .i64 (i:Int)∧Hid (Below w.heap.size w wr)∧Hid (RX K D wr gr y (wsN L W i)))
 case atStart=>exact ⟨0,_,by omega,by omega,rfl,HB,qh (by simpa [wsN] using uh HX)⟩
 case round =>
   clear HB HX
   obtain ⟨i,y,hi,hgk,rfl,HB,HX⟩:=hrel
   by_cases him:i<m
   · obtain ⟨⟨lo,want⟩,hx⟩:∃ x,L[i]? = some x:=⟨L[i]'(by have:=(uh HN).1;omega),by simp⟩
     obtain ⟨wo,hs⟩:∃ x,W[i]? = some x:=⟨W[i]'(by have:=(uh HN).2;omega),by simp⟩
     have hok:=uh HL _ (List.mem_of_getElem? hx)
     have hwa:0≤want∧want≤100000000:=hok.1
     obtain ⟨b,o,rfl,c0,c1,_⟩:=(uh HR).size2 hx
     obtain ⟨wb,wo',u,rfl,d,hu⟩:=(uh HW).rnum hs
     simp only at c0 c1
     have c0:=ck (uh HB) c0
     have c1:=ck (uh HB) c1
     have HNX:=qh (show wsN L W (i+1)=wsN L W i+wo*want from wsN_next hx hs)
     have HI1:=qh (show Ins T' (wo*want) by
       have h1:=mul_in ((uh HBD).w wo (List.mem_of_getElem? hs)) hwa (by have:=(uh HBD).d;omega)
       have:=(uh HBD).b
       have:=(uh HBD).d
       unfold Ins
       omega)
     have HI2:=qh (show Ins T' (wsN L W i+wo*want) by
       have h1:=ws_in (by have:=(uh HBD).d;omega) (uh HBD).w (uh HL) (by have:=(uh HN).1;omega) (i+1)
       rw [uh HNX] at h1
       have:=(uh HBD).b
       have:=(uh HBD).d
       unfold Ins
       omega)
     obtain ⟨V1,hV1⟩:∃ V,V=wr.alloc (.cells #[.int .i64 lo,.int .i64 want] 76):=⟨_,rfl⟩
     obtain ⟨q,hq⟩:∃ q,q=wr.heap.size:=⟨_,rfl⟩
     have hn:=size_new wr lo want
     have kn:=zqa wr (.cells #[.int .i64 lo,.int .i64 want] 76)
     simp only [← hV1,← hq] at hn
     rw [← hV1] at kn
     have HB:=qh (bk kn (uh HB))
     have HX:=qh ((uh HX).keep kn)
     have HU:=qh (hu.later (uh HB))
     obtain ⟨d0,d1,d2,d3⟩:=d.keep (uh HB)
     have p2:=ck (uh HB) (uh HCU).c2
     have x0:=(uh HX).c0
     have x1:=(uh HX).c1
     have x2:=(uh HX).c2
     have x3:=(uh HX).c3
     have s1:=hn.2
     have HWA:=qh hwa
     have him':(i:Int)<(m:Int):=by omega
     have hi60:(i:Int)+1≤1000:=by omega
     clear hx hs hok d hu kn hn hwa
     go_upto_region 5 with fail
     rw [← hV1,← hq]
     clear hV1 hq c0 c1
     go_region_with (first
       | (go_at_call 99;go_fit (rs_int 1 want _ (uh HG).1 (by have:=uh HWA;omega) (by have:=uh HWA;omega));rintro e7 Y0 ⟨⟨vi,rfl,hI⟩,hb⟩;obtain ⟨zi,rfl⟩:=hI.sh;have BW:=qh (bk hb (Below.refl V1.heap.size V1).drew);have p2:=ck (uh BW) p2;have d0:=ck (uh BW) d0;have d1:=ck (uh BW) d1;have d2:=ck (uh BW) d2;have d3:=ck (uh BW) d3;have x0:=ck (uh BW) x0;have x1:=ck (uh BW) x1;have x2:=ck (uh BW) x2;have x3:=ck (uh BW) x3;clear hb)
       | (go_at_call 76;go_fit (rs_times _ (uh HG).1 (uh HG).2.1 ((uh HU).later (uh BW)) hI (uh HI1) ((uh HG).2.2.later (bk (uh BW) (uh HB))));rintro e8 Y1 ⟨⟨vm,rfl,hM⟩,hb⟩;obtain ⟨zm,rfl⟩:=hM.sh;have BW:=qh (bk hb (uh BW));have x0:=ck hb x0;have x1:=ck hb x1;have x2:=ck hb x2;have x3:=ck hb x3;clear hb hI)
       | (go_at_call 70;go_fit (rs_add _ (uh HG).1 (uh HG).2.1 ((uh HX).q.later (uh BW)) hM (uh HI2) ((uh HG).2.2.later (bk (uh BW) (uh HB))));rintro e9 Y2 ⟨⟨va,rfl,hA⟩,hb⟩;obtain ⟨za,rfl⟩:=hA.sh;have BW:=qh (bk hb (uh BW));have HX:=qh ((uh HX).keep (uh BW));obtain ⟨⟨j0,h0⟩,⟨j1,j2,j3,h1⟩,⟨j4,h2⟩,⟨j5,j6,j7,h3⟩,gf⟩:=(uh HX).box.cells;have hxlt:=(uh HX).box.lt;clear hb hM x0 x1 x2 x3))
     all_goals
       go_wp2
       go_roundg (m - (i+1))
       case measure=>omega
       case rel=>exact ⟨i+1,za,by omega,rfl,by go_num,qh (zqf (bk (uh BW) (uh HB)) (uh HGW) _ _ _ _),qh (by rw [uh HNX];exact RX.put (uh HX).box hA)⟩
   · obtain rfl:m=i:=by omega
     clear him hi hgk
     rw [wsN_all (by have:=(uh HN).1;omega)] at HX
     have r4:=(uh HCU).c3.keep (uh HB)
     have p2:=ck (uh HB) (uh HCU).c2
     obtain ⟨sg,hsg⟩:∃ s,s=sgn (wsum L W - c):=⟨_,rfl⟩
     have hnil:=@sgn_nil (wsum L W - c)
     rw [← hsg] at hnil
     have HSG:=qh hsg.symm
     by_cases hg:sg=0
     rotate_left
     · have FIN:=qh (show ¬ leastP D r L W c from fun h=>hg (hnil.2 (by have:=h.1;omega)))
       have hd:(sg == 0)=false:=by simpa using hg
       have ne:=Abv.some wr
       have s0:∀ y':Abv wr,y'.val.cell? ⟨gr,0,none⟩=_:=fun y'=>ck y'.property (uh HX).c0
       have s1:∀ y':Abv wr,y'.val.cell? ⟨gr,1,none⟩=_:=fun y'=>ck y'.property (uh HX).c1
       have s2:∀ y':Abv wr,y'.val.cell? ⟨gr,2,none⟩=_:=fun y'=>ck y'.property (uh HX).c2
       have s3:∀ y':Abv wr,y'.val.cell? ⟨gr,3,none⟩=_:=fun y'=>ck y'.property (uh HX).c3
       have t0:∀ y':Abv wr,y'.val.cell? ⟨pg,3,none⟩=_:=fun y'=>ck y'.property r4.1
       have t1:∀ y':Abv wr,y'.val.cell? ⟨pg,3+1,none⟩=_:=fun y'=>ck y'.property r4.2.1
       have t2:∀ y':Abv wr,y'.val.cell? ⟨pg,3+2,none⟩=_:=fun y'=>ck y'.property r4.2.2.1
       have t3:∀ y':Abv wr,y'.val.cell? ⟨pg,3+3,none⟩=_:=fun y'=>ck y'.property r4.2.2.2
       have HQC:=qh (fun (y':Abv wr)=>rs_cmp y'.val (uh HG).1 (uh HG).2.1.1 ((uh HX).q.later y'.property) ((uh HC).later (bk y'.property (uh HB))))
       rw [uh HSG] at HQC
       clear hnil hsg r4 hg p2
       go_upto_region 7 with fail
       refine zxb (by kernel_rfl) (by kernel_rfl) ?_
       repeat (go_big_quiet_step (exact Calls.abv (uh HQC _)))
       refine wpQuiet_nil ?_
       rintro W9 ⟨⟨Z9,B9⟩,rfl⟩
       have HB:=qh (bk B9 (uh HB))
       clear s0 s1 s2 s3 t0 t1 t2 t3 HQC ne B9
       go_wp2
       go_ret
       exact ⟨YesP.no (uh FIN),uh HB⟩
     have HEQ:=qh (show wsum L W=c by have:=hnil.1 hg;omega)
     have hs0:sgn (wsum L W - c)=0:=by rw [← hsg];exact hg
     have HS0:=qh hs0
     have HS00:=qh (show wr.cell? ⟨gr,0,none⟩=_∧wr.cell? ⟨gr,1,none⟩=_∧wr.cell? ⟨gr,2,none⟩=_∧wr.cell? ⟨gr,3,none⟩=_∧wr.cell? ⟨pg,3,none⟩=_∧wr.cell? ⟨pg,3+1,none⟩=_∧wr.cell? ⟨pg,3+2,none⟩=_∧wr.cell? ⟨pg,3+3,none⟩=_∧wr.cell? ⟨pg,2,none⟩=_ from ⟨(uh HX).c0,(uh HX).c1,(uh HX).c2,(uh HX).c3,r4.1,r4.2.1,r4.2.2.1,r4.2.2.2,p2⟩)
     have HKN:=qh (fun (Y:World) (hb:Below wr.heap.size wr Y)=>knap_any (B:=B) Y (uh HG).1 (uh HG).2.1.1 (uh HBD).d.2 ((uh HG).2.2.later (bk hb (uh HB))) (show Rows 2 SzE Y (.slice sa L.length sc) L by have h1:=(uh HR).later (SzE.stays NoWord 0) (bk hb (uh HB));rw [(uh HN).1] at h1;exact h1) ((uh HW).later (RsE.stays K D 0 nww) (bk hb (uh HB))) hr (uh HL) (by have:=uh HN;omega) (by have:=uh HN;omega) (fun s hs=>⟨uh HW0 s hs,((uh HBD).w s hs).2⟩) (by have:=(uh HBD).b;have:=(uh HBD).d;omega))
     rw [← (uh HN).1] at HKN
     clear hnil hsg hs0 r4 hg p2 HSG
     go_upto_region 7 with fail
     first
       | go_region_held (fun w'=>w'.cell? ⟨gr,0,none⟩=some (.int .i64 y.a)∧w'.cell? ⟨gr,1,none⟩=some (.slice y.b y.c y.d)∧w'.cell? ⟨gr,2,none⟩=some (.int .i64 y.e)∧w'.cell? ⟨gr,3,none⟩=some (.slice y.f y.g y.h)∧w'.cell? ⟨pg,3,none⟩=some (.int .i64 x.a)∧w'.cell? ⟨pg,3+1,none⟩=some (.slice x.b x.c x.d)∧w'.cell? ⟨pg,3+2,none⟩=some (.int .i64 x.e)∧w'.cell? ⟨pg,3+3,none⟩=some (.slice x.f x.g x.h)∧w'.cell? ⟨pg,2,none⟩=some (.slice wa m wc))
           (first | with_reducible exact ck9 (Below.refl _ _).drew (uh HS00) | with_reducible exact ck9 (uh BW) (uh HS00))
           (first
           | (go_at_call 34;go_fit (rs_cmp _ (uh HG).1 (uh HG).2.1.1 ((uh HX).q.later (Below.refl _ _).drew) ((uh HC).later (uh HB).drew));rintro e7 Y0 ⟨rfl,hb⟩;rw [uh HS0];have BW:=qh (bk hb (Below.refl wr.heap.size wr).drew);clear hb)
           | (go_at_call 100;go_fit (uh HKN _ (uh BW));rintro e8 Y1 ⟨gp,gm,gl,y',P,g,C,rfl,hK,hP,hg,hDg,hWC⟩;have BW:=qh (bk hK.below (uh BW));have HKS:=qh hK;have HPG:=qh (And.intro hP (And.intro hg (And.intro hDg hWC)));clear hK hP hg hDg hWC)
           | (go_at_call 101;go_fit (above_any _ _ (uh HG).1 (uh HKS) (knL_at _ (Nat.lt_succ_self r)) hr.2);rintro e9 Y2 ⟨rfl,hb⟩;have BW:=qh (bk hb (uh BW));clear hb))
     all_goals
       have FIN:=qh (show (!decide (P<bz (L.zip C) r))=true↔leastP D r L W c by
         simp only [Bool.not_eq_true',decide_eq_false_iff_not]
         rw [above_same (uh HL) (uh HPG).2.1 (uh HPG).2.2.1,← (uh HPG).2.2.2]
         exact ⟨fun h=>⟨uh HEQ,Int.not_lt.1 h⟩,fun h=>Int.not_lt.2 h.2⟩)
       go_wp2
       go_ret
       exact ⟨YesP.of (uh FIN),bk (uh BW) (uh HB)⟩
set_option maxHeartbeats 16000000 in
set_option maxRecDepth 8000 in
theorem pcheck_any {A:Nat→Addr}{K N pg:Nat}{T' D B c r:Int}{v:Value}{L:List (Int×Int)}{Pt:List (List Int)}{T W:List Int}{pa ta wa:Option Addr}{pn pc tn tc wn wc:Nat}{x:F8 Int} (w:World) (hSe:Sents w A) (hBg:Big K N T') (hD:Dn T' D) (hT64:Tab64 w) (h:Rows 2 SzE w v L) (hp:CutR w pg pa pn pc ta tn tc wa wn wc x) (hpt:Rows 1 (LE 1 JE) w (.slice pa pn pc) Pt) (ht:Rows 4 (RsE K D) w (.slice ta tn tc) T) (hw:Rows 4 (RsE K D) w (.slice wa wn wc) W) (hc:Rs K D w (vr x) c) (h40:T.length≤40) (hb:CtB D B T' T W c) :
   Calls Tryz.prog 20 #[.int .i64 r,v,.pointer (some ⟨pg,0,none⟩)] w fun e w'=>(∃ b:Bool,e=.returned (.tuple #[.bool b,errV A (stockV r L)])∧(stockV r L≠0→b=false)∧(stockV r L=0→(b=true↔cutP D r.toNat L Pt T W c)))∧Below w.heap.size w w':=by
 obtain ⟨sa,sc,rfl⟩:=h.shape
 have HSe:=qh hSe
 have HG:=qh (And.intro hBg (And.intro hD hT64))
 have HR:=qh h
 have HPL:=qh hp
 have HQ:=qh (fun (W1:World) (hb:Below w.heap.size w W1)=>And.intro (h.later (SzE.stays NoWord 0) hb) (And.intro (hp.keep hb) (And.intro (hpt.later (LE.stays (JE.stays IsSl 0) JE.other) hb) (And.intro (ht.later (RsE.stays K D 0 nww) hb) (And.intro (hw.later (RsE.stays K D 0 nww) hb) (And.intro (hc.later hb) (hT64.later hb)))))))
 have HBD:=qh hb
 have HLT:=qh h40
 clear hSe hBg hD hT64 h hp hpt ht hw hc hb h40
 go_enter Tryz.func20,Tryz.ntmps20
 go_wp2_with fail
 go_fit (vsizes_any _ (uh HSe) (uh HR))
 rintro e W0 ⟨rfl,B0⟩
 have HBB:=qh B0
 clear B0
 rcases stock_codes r L with ⟨h0,hr1,hr2,hl,hL⟩ | e2 | e4
 rotate_left
 · have HN0:=qh (show stockV r L≠0 by omega)
   have HE:=qh e2
   rw [e2,show errV A 2=.iface 324 (.pointer (some (A 1))) from rfl]
   clear e2
   go_wp2
   exact bodyPost_ret (v:=.tuple #[.bool false,.iface 324 (.pointer (some (A 1)))]) (by simp [results,Tryz.results20,go_sem]) rfl ⟨⟨false,by rw [uh HE];rfl,fun _=>rfl,fun h=>absurd h (uh HN0)⟩,uh HBB⟩
 · have HN0:=qh (show stockV r L≠0 by omega)
   have HE:=qh e4
   rw [e4,show errV A 4=.iface 324 (.pointer (some (A 3))) from rfl]
   clear e4
   go_wp2
   exact bodyPost_ret (v:=.tuple #[.bool false,.iface 324 (.pointer (some (A 3)))]) (by simp [results,Tryz.results20,go_sem]) rfl ⟨⟨false,by rw [uh HE];rfl,fun _=>rfl,fun h=>absurd h (uh HN0)⟩,uh HBB⟩
 obtain ⟨m,rfl⟩:∃ m:Nat,r=(m:Int):=⟨r.toNat,by omega⟩
 have HE0:=qh h0
 rw [h0,show errV A 0=.nilIface from rfl]
 simp only []
 have HRR:=qh (And.intro (And.intro hr1 hr2) hl)
 have HL:=qh hL
 clear h0 hr1 hr2 hl hL
 go_wp2_with fail
 go_fit (fits_any _ (uh HG).2.1.1 (uh HQ _ (uh HBB)).1 (uh HQ _ (uh HBB)).2.1 (uh HQ _ (uh HBB)).2.2.1 (uh HQ _ (uh HBB)).2.2.2.1 (uh HQ _ (uh HBB)).2.2.2.2.1 (uh HRR).1 (uh HRR).2 (uh HL))
 rintro e W1 ⟨⟨b1,rfl,h1⟩,B1⟩
 have HBB:=qh (bk B1 (uh HBB))
 clear B1
 rcases b1 with _ | _
 · have HFIN:=qh (show ¬ cutP D m L Pt T W c from fun h=>by have:=h1.2 h.1;cases this)
   clear h1
   go_wp2
   exact bodyPost_ret (v:=.tuple #[.bool false,.nilIface]) (by simp [results,Tryz.results20,go_sem]) rfl ⟨⟨false,by rw [uh HE0];rfl,fun h=>absurd (uh HE0) h,fun _=>iff_of_false (by simp) (uh HFIN)⟩,uh HBB⟩
 have HF:=qh (h1.1 rfl)
 clear h1
 go_wp2_with fail
 go_fit (gives_any (B:=B) _ (uh HG).1 (uh HG).2.1 (uh HQ _ (uh HBB)).2.2.2.2.2.2 (uh HQ _ (uh HBB)).1 (uh HQ _ (uh HBB)).2.1 (uh HQ _ (uh HBB)).2.2.1 (uh HQ _ (uh HBB)).2.2.2.1 (uh HQ _ (uh HBB)).2.2.2.2.2.1 (uh HRR).1.2 (uh HRR).2 (uh HL) (uh HLT) (uh HF).1.1 (uh HF).2.1 (uh HBD))
 rintro e W2 ⟨⟨b2,rfl,h2⟩,B2⟩
 have HBB:=qh (bk B2 (uh HBB))
 clear B2
 rcases b2 with _ | _
 · have HFIN:=qh (show ¬ cutP D m L Pt T W c from fun h=>by have:=h2.2 h.2.1;cases this)
   clear h2
   go_wp2
   exact bodyPost_ret (v:=.tuple #[.bool false,.nilIface]) (by simp [results,Tryz.results20,go_sem]) rfl ⟨⟨false,by rw [uh HE0];rfl,fun h=>absurd (uh HE0) h,fun _=>iff_of_false (by simp) (uh HFIN)⟩,uh HBB⟩
 have HG2:=qh (h2.1 rfl)
 clear h2
 go_wp2_with fail
 go_fit (least_any (B:=B) (T:=T) _ (uh HG).1 (uh HG).2.1 (uh HQ _ (uh HBB)).2.2.2.2.2.2 (uh HQ _ (uh HBB)).1 (uh HQ _ (uh HBB)).2.1 (uh HQ _ (uh HBB)).2.2.2.2.1 (uh HQ _ (uh HBB)).2.2.2.2.2.1 (by have:=(uh HRR).1;omega) (uh HRR).2 (uh HL) (uh HF).1.2 (uh HF).2.2.2 (uh HBD))
 rintro e W3 ⟨⟨b3,rfl,h3⟩,B3⟩
 have HBB:=qh (bk B3 (uh HBB))
 have HFIN:=qh (show b3=true↔cutP D m L Pt T W c from ⟨fun h=>⟨uh HF,uh HG2,h3.1 h⟩,fun h=>h3.2 h.2.2⟩)
 clear B3 h3
 go_wp2
 exact bodyPost_ret (v:=.tuple #[.bool b3,.nilIface]) (by simp [results,Tryz.results20,go_sem]) rfl ⟨⟨b3,by rw [uh HE0];rfl,fun h=>absurd (uh HE0) h,fun _=>uh HFIN⟩,uh HBB⟩
end Go.Proofs.YtkdobjmhammhbaaGreatDoor
