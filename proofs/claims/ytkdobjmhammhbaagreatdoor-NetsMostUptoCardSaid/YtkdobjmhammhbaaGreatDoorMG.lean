import Derived.Test.YtkdobjmhammhbaaGreatDoorMF
namespace Go.Proofs.YtkdobjmhammhbaaGreatDoor
set_option maxHeartbeats 2000000
open Go.RowKit
theorem add_over {N:Nat} (x y:Int) (a1 a2:Option Addr) (n1 c1 n2 c2:Nat) (z o:Int) (w:World) (hz:Zr (N+1) w (.agg #[.int .i64 x,.slice a1 n1 c1]) z) (ho:Zr (N+1) w (.agg #[.int .i64 y,.slice a2 n2 c2]) o) (hbn:(a1.isNone && a2.isNone)=true) (ht:(decide (x<=wrap64 (x+y)) == decide (0<=y))=false) (hlim:N<=800000) :
 Calls Tryz.prog 111 #[.agg #[.int .i64 x,.slice a1 n1 c1],.agg #[.int .i64 y,.slice a2 n2 c2]] w fun e w'=>(∃ v,e=.returned v/\Zr (N+2) w' v (z+o))/\Below w.heap.size w w':=by
 have HZ:=qh hz
 have HO:=qh ho
 have HBN:=qh hbn
 have tok1:True:=trivial
 have HSX:Hid (sgn x=sgn z):=by
  obtain ⟨x',a',n',c',hvv,hsg,_⟩:=hz.sgn
  obtain ⟨rfl,_⟩:x=x'/\_:=by simpa using hvv
  exact hsg
 have HSY:Hid (sgn y=sgn o):=by
  obtain ⟨x',a',n',c',hvv,hsg,_⟩:=ho.sgn
  obtain ⟨rfl,_⟩:y=x'/\_:=by simpa using hvv
  exact hsg
 clear hz ho hbn
 go_enter Tryz.func111,Tryz.ntmps111
 go_wp2_with fail
 go_fit (zxb x y a1 a2 n1 c1 n2 c2 _)
 rintro e W1 ⟨rfl,hb0⟩
 rw [uh HBN]
 have hst:=hstart w (.cells #[.int .i64 x,.slice a1 n1 c1] 37) (.cells #[.int .i64 y,.slice a2 n2 c2] 37)
 have hS1:Below w.heap.size w W1/\Box W1 (w.heap.size+2)/\W1.cell? ⟨w.heap.size,0,none⟩=some (.int .i64 x)/\W1.cell? ⟨w.heap.size,1,none⟩=some (.slice a1 n1 c1)/\W1.cell? ⟨w.heap.size+1,0,none⟩=some (.int .i64 y)/\W1.cell? ⟨w.heap.size+1,1,none⟩=some (.slice a2 n2 c2) :=
  keep21 hb0 ⟨hst.1,hst.2,by simp [go_sem],by simp [go_sem],by simp [go_sem],by simp [go_sem]⟩
 clear hb0 hst
 obtain ⟨hbW,hbox,hc0,hc1,hc2,hc3⟩:=hS1
 go_wp2_with fail
 go_region_held3 (fun w'=>Below w.heap.size w w'/\Box w' (w.heap.size+2)/\w'.cell? ⟨w.heap.size,0,none⟩=some (.int .i64 x)/\w'.cell? ⟨w.heap.size,1,none⟩=some (.slice a1 n1 c1)/\w'.cell? ⟨w.heap.size+1,0,none⟩=some (.int .i64 y)/\w'.cell? ⟨w.heap.size+1,1,none⟩=some (.slice a2 n2 c2))
  (first | exact ⟨hbW.drew,hbox,hc0,hc1,hc2,hc3⟩ | exact keep21 (by assumption) (by assumption))
  (first | (go_at_call 143;have _t:=tok1;go_fit (zxw (z:=z) (N:=N) _ ((uh HZ).later (And.left (by assumption))));rintro e w2 ⟨sv1,rfl,hsv1,hb2⟩;clear tok1) | (go_at_call 143;go_fit (zxw (z:=o) (N:=N) _ ((uh HO).later (And.left (by assumption))));rintro e w3 ⟨sv2,rfl,hsv2,hb3⟩))
 have hS3:Below w.heap.size w w3/\Box w3 (w.heap.size+2)/\w3.cell? ⟨w.heap.size,0,none⟩=some (.int .i64 x)/\w3.cell? ⟨w.heap.size,1,none⟩=some (.slice a1 n1 c1)/\w3.cell? ⟨w.heap.size+1,0,none⟩=some (.int .i64 y)/\w3.cell? ⟨w.heap.size+1,1,none⟩=some (.slice a2 n2 c2):=by assumption
 have hsv1':=hsv1.later hb3
 clear hbW hbox hc0 hc1 hc2 hc3 hsv1
 obtain ⟨hbW,hbox,hc0,hc1,hc2,hc3⟩:=hS3
 by_cases hss:sgn x=sgn y
 ·have hss':(sgn x == sgn y)=true:=by simpa using hss
  have HC:=qh (add_cond (z:=z) (o:=o) (uh HSX) (uh HSY) hss)
  have HE:=qh (add_same (z:=z) (o:=o) (uh HSX) (uh HSY) hss)
  clear hss
  go_wp2_with fail
  go_region_held3 (fun w'=>Below w.heap.size w w'/\Box w' (w.heap.size+2)/\w'.cell? ⟨w.heap.size,0,none⟩=some (.int .i64 x)/\w'.cell? ⟨w.heap.size,1,none⟩=some (.slice a1 n1 c1)/\w'.cell? ⟨w.heap.size+1,0,none⟩=some (.int .i64 y)/\w'.cell? ⟨w.heap.size+1,1,none⟩=some (.slice a2 n2 c2)/\Sz (N+1) w' sv1 (iabs z)/\Sz (N+1) w' sv2 (iabs o))
   (first | exact ⟨hbW.drew,hbox,hc0,hc1,hc2,hc3,hsv1',hsv2⟩ | exact keep21s (by assumption) (by assumption))
   (first | (go_at_call 118;go_fit (zqn _ _ _);rintro e w4 ⟨rfl,hb4⟩))
  have hS4:Below w.heap.size w w4/\Box w4 (w.heap.size+2)/\w4.cell? ⟨w.heap.size,0,none⟩=some (.int .i64 x)/\w4.cell? ⟨w.heap.size,1,none⟩=some (.slice a1 n1 c1)/\w4.cell? ⟨w.heap.size+1,0,none⟩=some (.int .i64 y)/\w4.cell? ⟨w.heap.size+1,1,none⟩=some (.slice a2 n2 c2)/\Sz (N+1) w4 sv1 (iabs z)/\Sz (N+1) w4 sv2 (iabs o):=by assumption
  clear hbW hbox hc0 hc1 hc2 hc3 hsv1' hsv2
  obtain ⟨hbW,hbox,hc0,hc1,hc2,hc3,hsv1,hsv2⟩:=hS4
  go_wp2_with fail
  go_fit (zqn _ _ _)
  rintro e w5 ⟨rfl,hb5⟩
  go_wp2_with fail
  go_fit (sum_any _ (hsv1.later hb5) (hsv2.later hb5) (by omega))
  rintro e w6 ⟨sv,rfl,hsv,hb6⟩
  go_wp2_with fail
  go_fit (zxg _ _ (Or.inl hsv) (uh HC))
  rintro e w7 ⟨⟨v7,rfl,hZ7⟩,hb7⟩
  obtain ⟨near7,a7,n7,c7,hv7⟩:=hZ7.shape
  subst hv7
  have hbx:Box w7 (w.heap.size+2):=((hbox.later hb5).later hb6).later hb7
  obtain ⟨⟨x0,g0⟩,⟨a0,n0,c0,g1⟩,gf⟩:=hbx.cells
  have hbl:Below w.heap.size w w7:=bk hb7 (bk hb6 (bk hb5 hbW))
  go_wp2
  obtain ⟨st0,st1⟩:=hbx.stored (.int .i64 near7) (.slice a7 n7 c7)
  exact bodyPost_ret (v:=.agg #[.int .i64 near7,.slice a7 n7 c7]) (by simp [results,Tryz.results111,go_sem,st0,st1]) rfl ⟨⟨_,rfl,((hZ7.mono (by omega)).stored hbx _ _).eq (uh HE)⟩,zqc hbl (by omega) _ _⟩
 ·have hss':(sgn x == sgn y)=false:=by simpa using hss
  obtain ⟨sg,hsg⟩:∃ sg,sgn (iabs z - iabs o)=sg:=⟨_,rfl⟩
  have HSG:=qh hsg
  by_cases hge:iabs o<=iabs z
  ·have hsg0:0<=sg:=by
    rw [<- hsg]
    by_cases e:iabs z=iabs o
    ·rw [zxi (by omega)];decide
    ·rw [zqq (by omega)];decide
   have HC:=qh (add_condB (z:=z) (o:=o) (uh HSX) (uh HSY) hss hge)
   have HE:=qh (add_diffB (z:=z) (o:=o) (uh HSX) (uh HSY) hss hge)
   have HG:=qh hge
   clear hss hsg hge
   go_wp2_with fail
   go_region_held3 (fun w'=>Below w.heap.size w w'/\Box w' (w.heap.size+2)/\w'.cell? ⟨w.heap.size,0,none⟩=some (.int .i64 x)/\w'.cell? ⟨w.heap.size,1,none⟩=some (.slice a1 n1 c1)/\w'.cell? ⟨w.heap.size+1,0,none⟩=some (.int .i64 y)/\w'.cell? ⟨w.heap.size+1,1,none⟩=some (.slice a2 n2 c2)/\Sz (N+1) w' sv1 (iabs z)/\Sz (N+1) w' sv2 (iabs o))
    (first | exact ⟨hbW.drew,hbox,hc0,hc1,hc2,hc3,hsv1',hsv2⟩ | exact keep21s (by assumption) (by assumption))
    (first | (go_at_call 118;go_fit (zqn _ _ _);rintro e w4 ⟨rfl,hb4⟩))
   have hS4:Below w.heap.size w w4/\Box w4 (w.heap.size+2)/\w4.cell? ⟨w.heap.size,0,none⟩=some (.int .i64 x)/\w4.cell? ⟨w.heap.size,1,none⟩=some (.slice a1 n1 c1)/\w4.cell? ⟨w.heap.size+1,0,none⟩=some (.int .i64 y)/\w4.cell? ⟨w.heap.size+1,1,none⟩=some (.slice a2 n2 c2)/\Sz (N+1) w4 sv1 (iabs z)/\Sz (N+1) w4 sv2 (iabs o):=by assumption
   clear hbW hbox hc0 hc1 hc2 hc3 hsv1' hsv2
   obtain ⟨hbW,hbox,hc0,hc1,hc2,hc3,hsv1,hsv2⟩:=hS4
   go_wp2_with fail
   go_fit (compare_sz _ hsv1 hsv2 (by omega) (by omega))
   rintro e w8 ⟨rfl,hb8⟩
   rw [uh HSG]
   have hbW:=bk hb8 hbW
   have hbox:=hbox.later hb8
   have hc0:=ck hb8 hc0
   have hc1:=ck hb8 hc1
   have hc2:=ck hb8 hc2
   have hc3:=ck hb8 hc3
   have hsv1:=hsv1.later hb8
   have hsv2:=hsv2.later hb8
   go_wp2_with fail
   go_fit (zqn _ _ _)
   rintro e w5 ⟨rfl,hb5⟩
   go_wp2_with fail
   go_fit (zkx _ (hsv1.later hb5) (hsv2.later hb5) (uh HG) (by omega))
   rintro e w6 ⟨sv,rfl,hsv,hb6⟩
   go_wp2_with fail
   go_fit (zxg _ _ (Or.inl hsv) (uh HC))
   rintro e w7 ⟨⟨v7,rfl,hZ7⟩,hb7⟩
   obtain ⟨near7,a7,n7,c7,hv7⟩:=hZ7.shape
   subst hv7
   have hbx:Box w7 (w.heap.size+2):=((hbox.later hb5).later hb6).later hb7
   obtain ⟨⟨x0,g0⟩,⟨a0,n0,c0,g1⟩,gf⟩:=hbx.cells
   have hbl:Below w.heap.size w w7:=bk hb7 (bk hb6 (bk hb5 hbW))
   go_wp2
   obtain ⟨st0,st1⟩:=hbx.stored (.int .i64 near7) (.slice a7 n7 c7)
   exact bodyPost_ret (v:=.agg #[.int .i64 near7,.slice a7 n7 c7]) (by simp [results,Tryz.results111,go_sem,st0,st1]) rfl ⟨⟨_,rfl,((hZ7.mono (by omega)).stored hbx _ _).eq (uh HE)⟩,zqc hbl (by omega) _ _⟩
  ·have hsg0:sg<0:=by rw [<- hsg,zqp (by omega)];decide
   have hge':iabs z<=iabs o:=by omega
   have HC:=qh (add_condC (z:=z) (o:=o) (uh HSX) (uh HSY) hss hge')
   have HE:=qh (add_diffC (z:=z) (o:=o) (uh HSX) (uh HSY) hss hge')
   have HG:=qh hge'
   clear hss hsg hge hge'
   go_wp2_with fail
   go_region_held3 (fun w'=>Below w.heap.size w w'/\Box w' (w.heap.size+2)/\w'.cell? ⟨w.heap.size,0,none⟩=some (.int .i64 x)/\w'.cell? ⟨w.heap.size,1,none⟩=some (.slice a1 n1 c1)/\w'.cell? ⟨w.heap.size+1,0,none⟩=some (.int .i64 y)/\w'.cell? ⟨w.heap.size+1,1,none⟩=some (.slice a2 n2 c2)/\Sz (N+1) w' sv1 (iabs z)/\Sz (N+1) w' sv2 (iabs o))
    (first | exact ⟨hbW.drew,hbox,hc0,hc1,hc2,hc3,hsv1',hsv2⟩ | exact keep21s (by assumption) (by assumption))
    (first | (go_at_call 118;go_fit (zqn _ _ _);rintro e w4 ⟨rfl,hb4⟩))
   have hS4:Below w.heap.size w w4/\Box w4 (w.heap.size+2)/\w4.cell? ⟨w.heap.size,0,none⟩=some (.int .i64 x)/\w4.cell? ⟨w.heap.size,1,none⟩=some (.slice a1 n1 c1)/\w4.cell? ⟨w.heap.size+1,0,none⟩=some (.int .i64 y)/\w4.cell? ⟨w.heap.size+1,1,none⟩=some (.slice a2 n2 c2)/\Sz (N+1) w4 sv1 (iabs z)/\Sz (N+1) w4 sv2 (iabs o):=by assumption
   clear hbW hbox hc0 hc1 hc2 hc3 hsv1' hsv2
   obtain ⟨hbW,hbox,hc0,hc1,hc2,hc3,hsv1,hsv2⟩:=hS4
   go_wp2_with fail
   go_fit (compare_sz _ hsv1 hsv2 (by omega) (by omega))
   rintro e w8 ⟨rfl,hb8⟩
   rw [uh HSG]
   have hbW:=bk hb8 hbW
   have hbox:=hbox.later hb8
   have hc0:=ck hb8 hc0
   have hc1:=ck hb8 hc1
   have hc2:=ck hb8 hc2
   have hc3:=ck hb8 hc3
   have hsv1:=hsv1.later hb8
   have hsv2:=hsv2.later hb8
   go_wp2_with fail
   go_fit (zqn _ _ _)
   rintro e w5 ⟨rfl,hb5⟩
   go_wp2_with fail
   go_fit (zkx _ (hsv2.later hb5) (hsv1.later hb5) (uh HG) (by omega))
   rintro e w6 ⟨sv,rfl,hsv,hb6⟩
   go_wp2_with fail
   go_fit (zxg _ _ (Or.inl hsv) (uh HC))
   rintro e w7 ⟨⟨v7,rfl,hZ7⟩,hb7⟩
   obtain ⟨near7,a7,n7,c7,hv7⟩:=hZ7.shape
   subst hv7
   have hbx:Box w7 (w.heap.size+2):=((hbox.later hb5).later hb6).later hb7
   obtain ⟨⟨x0,g0⟩,⟨a0,n0,c0,g1⟩,gf⟩:=hbx.cells
   have hbl:Below w.heap.size w w7:=bk hb7 (bk hb6 (bk hb5 hbW))
   go_wp2
   obtain ⟨st0,st1⟩:=hbx.stored (.int .i64 near7) (.slice a7 n7 c7)
   exact bodyPost_ret (v:=.agg #[.int .i64 near7,.slice a7 n7 c7]) (by simp [results,Tryz.results111,go_sem,st0,st1]) rfl ⟨⟨_,rfl,((hZ7.mono (by omega)).stored hbx _ _).eq (uh HE)⟩,zqc hbl (by omega) _ _⟩
theorem add_fast (x y t:Int) (w:World) (ht:(decide (x<=t) == decide (0<=y))=true) (hw:wrap64 (x+y)=t) :
 Calls Tryz.prog 111 #[.agg #[.int .i64 x,.slice none 0 0],.agg #[.int .i64 y,.slice none 0 0]] w fun e w'=>e=.returned (.agg #[.int .i64 t,.slice none 0 0])/\Below w.heap.size w w':=by
 go_enter Tryz.func111,Tryz.ntmps111
 go_wp2_with fail
 go_fit (zxb x y none none 0 0 0 0 _)
 rintro e W1 ⟨rfl,hb0⟩
 have hst:=hstart w (.cells #[.int .i64 x,.slice none 0 0] 37) (.cells #[.int .i64 y,.slice none 0 0] 37)
 have hS1:Below w.heap.size w W1/\Box W1 (w.heap.size+2)/\W1.cell? ⟨w.heap.size,0,none⟩=some (.int .i64 x)/\W1.cell? ⟨w.heap.size,1,none⟩=some (.slice none 0 0)/\W1.cell? ⟨w.heap.size+1,0,none⟩=some (.int .i64 y)/\W1.cell? ⟨w.heap.size+1,1,none⟩=some (.slice none 0 0) :=
  keep21 hb0 ⟨hst.1,hst.2,by simp [go_sem],by simp [go_sem],by simp [go_sem],by simp [go_sem]⟩
 clear hb0 hst
 obtain ⟨hbW,hbox,hc0,hc1,hc2,hc3⟩:=hS1
 simp only [Option.isNone_none,Bool.and_self]
 go_wp2_with fail
 go_fit (of_any t _)
 rintro e w7 ⟨rfl,hb7⟩
 have hbx:Box w7 (w.heap.size+2):=hbox.later hb7
 obtain ⟨⟨x0,g0⟩,⟨a0,n0,c0,g1⟩,gf⟩:=hbx.cells
 go_wp2
 obtain ⟨st0,st1⟩:=hbx.stored (.int .i64 t) (.slice none 0 0)
 exact bodyPost_ret (v:=.agg #[.int .i64 t,.slice none 0 0]) (by simp [results,Tryz.results111,go_sem,st0,st1]) rfl ⟨rfl,zqc (bk hb7 hbW) (by omega) _ _⟩
theorem add_any {N:Nat}{v u:Value}{z o:Int} (w:World) (hz:Zr (N+1) w v z) (ho:Zr (N+1) w u o) (hlim:N<=800000) :
 Calls Tryz.prog 111 #[v,u] w fun e w'=>(∃ v,e=.returned v/\Zr (N+2) w' v (z+o))/\Below w.heap.size w w':=by
 obtain ⟨x,a1,n1,c1,rfl,h1,h2,h3⟩:=hz.sgn
 obtain ⟨y,a2,n2,c2,rfl,k1,k2,k3⟩:=ho.sgn
 cases hbn:(a1.isNone && a2.isNone)
 ·exact add_slow x y a1 a2 n1 c1 n2 c2 z o w hz ho hbn hlim
 ·have hb:=hbn
  simp at hbn
  obtain ⟨rfl,rfl,rfl,b0,b1⟩:=h2 hbn.1
  obtain ⟨rfl,rfl,rfl,d0,d1⟩:=k2 hbn.2
  obtain ⟨rfl,rfl⟩:=hbn
  cases ht:(decide (x<=wrap64 (x+y)) == decide (0<=y))
  ·exact add_over x y none none 0 0 0 0 x y w hz ho hb ht hlim
  ·have hw:wrap64 (x+y)=x+y:=by
    simp at ht
    unfold wrap64 at ht ⊢
    omega
   rw [hw] at ht
   refine (add_fast x y (x+y) w ht hw).mono ?_
   rintro e w' ⟨rfl,hb'⟩
   refine ⟨⟨_,rfl,Zr.near _ ?_ ?_⟩,hb'⟩
   ·unfold wrap64 at hw;omega
   ·unfold wrap64 at hw;omega
theorem store21 {w wp:World}{r s q:Nat}{x y x' y':Value}{u:Int}{a:Option Addr}{n c:Nat} (h:Below w.heap.size w wp/\Box wp q/\wp.cell? ⟨r,0,none⟩=some x/\wp.cell? ⟨r,1,none⟩=some y/\wp.cell? ⟨s,0,none⟩=some x'/\wp.cell? ⟨s,1,none⟩=some y') (hq:w.heap.size<=q) (hr:r≠q) (hs:s≠q) :
 Below w.heap.size w ((wp.setCell ⟨q,0,none⟩ (.int .i64 u)).setCell ⟨q,1,none⟩ (.slice a n c))/\Box ((wp.setCell ⟨q,0,none⟩ (.int .i64 u)).setCell ⟨q,1,none⟩ (.slice a n c)) q /\
 ((wp.setCell ⟨q,0,none⟩ (.int .i64 u)).setCell ⟨q,1,none⟩ (.slice a n c)).cell? ⟨r,0,none⟩=some x/\((wp.setCell ⟨q,0,none⟩ (.int .i64 u)).setCell ⟨q,1,none⟩ (.slice a n c)).cell? ⟨r,1,none⟩=some y /\
 ((wp.setCell ⟨q,0,none⟩ (.int .i64 u)).setCell ⟨q,1,none⟩ (.slice a n c)).cell? ⟨s,0,none⟩=some x'/\((wp.setCell ⟨q,0,none⟩ (.int .i64 u)).setCell ⟨q,1,none⟩ (.slice a n c)).cell? ⟨s,1,none⟩=some y':=by
 obtain ⟨h1,h2,h3,h4,h5,h6⟩:=h
 refine ⟨zqc h1 hq _ _,h2.stored' _ _ _ _,?_,?_,?_,?_⟩
 ·rw [zqb _ _ _ _ _ _ (by omega),zqb _ _ _ _ _ _ (by omega)];exact h3
 ·rw [zqb _ _ _ _ _ _ (by omega),zqb _ _ _ _ _ _ (by omega)];exact h4
 ·rw [zqb _ _ _ _ _ _ (by omega),zqb _ _ _ _ _ _ (by omega)];exact h5
 ·rw [zqb _ _ _ _ _ _ (by omega),zqb _ _ _ _ _ _ (by omega)];exact h6
theorem sub_core {N:Nat} (x y:Int) (a1 a2:Option Addr) (n1 c1 n2 c2:Nat) (z o:Int) (w:World) (hz:Zr (N+1) w (.agg #[.int .i64 x,.slice a1 n1 c1]) z) (ho:Zr (N+1) w (.agg #[.int .i64 y,.slice a2 n2 c2]) o) (hlim:N<=800000) :
 Calls Tryz.prog 195 #[.agg #[.int .i64 x,.slice a1 n1 c1],.agg #[.int .i64 y,.slice a2 n2 c2]] w fun e w'=>(∃ v,e=.returned v/\Zr (N+2) w' v (z - o))/\Below w.heap.size w w':=by
 have HZ:=qh hz
 have HO:=qh ho
 clear hz ho
 go_enter Tryz.func195,Tryz.ntmps195
 go_wp2_with fail
 obtain ⟨W1,hW1⟩:∃ W1,W1=((w.alloc (.cells #[.int .i64 x,.slice a1 n1 c1] 37)).alloc (.cells #[.int .i64 y,.slice a2 n2 c2] 37)).alloc (.cells #[.int .i64 0,.slice none 0 0] 37):=⟨_,rfl⟩
 have hst:=hstart w (.cells #[.int .i64 x,.slice a1 n1 c1] 37) (.cells #[.int .i64 y,.slice a2 n2 c2] 37)
 have hS1:Below w.heap.size w W1/\Box W1 (w.heap.size+2)/\W1.cell? ⟨w.heap.size,0,none⟩=some (.int .i64 x)/\W1.cell? ⟨w.heap.size,1,none⟩=some (.slice a1 n1 c1)/\W1.cell? ⟨w.heap.size+1,0,none⟩=some (.int .i64 y)/\W1.cell? ⟨w.heap.size+1,1,none⟩=some (.slice a2 n2 c2):=by
  rw [hW1];exact ⟨hst.1,hst.2,by simp [go_sem],by simp [go_sem],by simp [go_sem],by simp [go_sem]⟩
 rw [<- hW1]
 clear hW1 hst
 obtain ⟨hbW,hbox,hc0,hc1,hc2,hc3⟩:=hS1
 go_region_held3 (fun w'=>Below w.heap.size w w'/\Box w' (w.heap.size+2)/\w'.cell? ⟨w.heap.size,0,none⟩=some (.int .i64 x)/\w'.cell? ⟨w.heap.size,1,none⟩=some (.slice a1 n1 c1)/\w'.cell? ⟨w.heap.size+1,0,none⟩=some (.int .i64 y)/\w'.cell? ⟨w.heap.size+1,1,none⟩=some (.slice a2 n2 c2))
  (first | exact ⟨hbW.drew,hbox,hc0,hc1,hc2,hc3⟩ | exact keep21 (by assumption) (by assumption) | exact store21 (by assumption) (by omega) (by omega) (by omega))
  (first | (go_at_call 134;go_fit (neg_any (z:=o) (N:=N) _ ((uh HO).later (And.left (by assumption))));rintro e w2 ⟨⟨nv,rfl,hnv⟩,hb2⟩) | (go_at_call 111;go_fit (add_any (z:=z) (o := -o) (N:=N) _ ((uh HZ).later (And.left (by assumption))) hnv hlim);rintro e w3 ⟨⟨v3,rfl,hZ3⟩,hb3⟩;obtain ⟨near3,a3,n3,c3,hv3⟩:=hZ3.shape;subst hv3;obtain ⟨x0,a0,n0,c0,g0,g1,gf⟩:=boxOf hb3 (by assumption)))
 go_wp2
 have hbx:Box w3 (w.heap.size+2):=(Box.later (w:=W1.drew) hbox hb2).later hb3
 have hbl:Below w.heap.size w w3:=bk hb3 (bk hb2 hbW.drew)
 obtain ⟨st0,st1⟩:=hbx.stored (.int .i64 near3) (.slice a3 n3 c3)
 exact bodyPost_ret (v:=.agg #[.int .i64 near3,.slice a3 n3 c3]) (by simp [results,Tryz.results195,go_sem,st0,st1]) rfl ⟨⟨_,rfl,(hZ3.stored hbx _ _).eq (by omega)⟩,zqc hbl (by omega) _ _⟩
theorem sub_any {N:Nat}{v u:Value}{z o:Int} (w:World) (hz:Zr (N+1) w v z) (ho:Zr (N+1) w u o) (hlim:N<=800000) :
 Calls Tryz.prog 195 #[v,u] w fun e w'=>(∃ v,e=.returned v/\Zr (N+2) w' v (z - o))/\Below w.heap.size w w':=by
 obtain ⟨x,a1,n1,c1,rfl⟩:=hz.shape
 obtain ⟨y,a2,n2,c2,rfl⟩:=ho.shape
 exact sub_core x y a1 a2 n1 c1 n2 c2 z o w hz ho hlim
theorem keep2 {w wp w1:World}{r s:Nat}{x y x' y':Value} (hb:Below wp.heap.size wp w1) (h:Below w.heap.size w wp/\wp.cell? ⟨r,0,none⟩=some x/\wp.cell? ⟨r,1,none⟩=some y/\wp.cell? ⟨s,0,none⟩=some x'/\wp.cell? ⟨s,1,none⟩=some y') :
 Below w.heap.size w w1/\w1.cell? ⟨r,0,none⟩=some x/\w1.cell? ⟨r,1,none⟩=some y/\w1.cell? ⟨s,0,none⟩=some x'/\w1.cell? ⟨s,1,none⟩=some y' :=
 ⟨bk hb h.1,ck hb h.2.1,ck hb h.2.2.1,ck hb h.2.2.2.1,ck hb h.2.2.2.2⟩
theorem cmp_diff {x y z o:Int} (hx:sgn x=sgn z) (hy:sgn y=sgn o) (h:¬ sgn x=sgn y):sgn (sgn x - sgn y)=sgn (z - o):=by
 rw [hx,hy] at h ⊢
 rcases zqo z with ⟨a,b,c⟩ | ⟨a,b,c⟩ | ⟨a,b,c⟩ <;> rcases zqo o with ⟨a',b',c'⟩ | ⟨a',b',c'⟩ | ⟨a',b',c'⟩ <;> rw [b,b'] at h ⊢ <;> first | omega | (rw [zqp (by omega),zqp (by omega)]) | (rw [zqq (by omega),zqq (by omega)])
theorem cmp_same {x y z o:Int} (hx:sgn x=sgn z) (hy:sgn y=sgn o) (h:sgn x=sgn y):sgn x*sgn (iabs z - iabs o)=sgn (z - o):=by
 rw [hx,hy] at h
 rw [hx]
 rcases zqo z with ⟨a,b,c⟩ | ⟨a,b,c⟩ | ⟨a,b,c⟩ <;> rcases zqo o with ⟨a',b',c'⟩ | ⟨a',b',c'⟩ | ⟨a',b',c'⟩ <;> rw [b,b'] at h <;> try omega
 ·rw [b,c,c']
  rcases zqo (z - o) with ⟨e,f,_⟩ | ⟨e,f,_⟩ | ⟨e,f,_⟩
  ·rw [f,zqq (by omega)];omega
  ·rw [f,zxi (by omega)];omega
  ·rw [f,zqp (by omega)];omega
 ·rw [b,a,a'];simp;rfl
 ·rw [b,c,c'];omega
theorem cmp_near (x y:Int) (w:World) :
 Calls Tryz.prog 79 #[.agg #[.int .i64 x,.slice none 0 0],.agg #[.int .i64 y,.slice none 0 0]] w fun e w'=>e=.returned (.int .i64 (sgn (x - y)))/\Below w.heap.size w w':=by
 go_enter Tryz.func79,Tryz.ntmps79
 go_wp2_with fail
 go_fit (zxb x y none none 0 0 0 0 _)
 rintro e W1 ⟨rfl,hb0⟩
 have hS1:Below w.heap.size w W1/\W1.cell? ⟨w.heap.size,0,none⟩=some (.int .i64 x)/\W1.cell? ⟨w.heap.size,1,none⟩=some (.slice none 0 0)/\W1.cell? ⟨w.heap.size+1,0,none⟩=some (.int .i64 y)/\W1.cell? ⟨w.heap.size+1,1,none⟩=some (.slice none 0 0) :=
  keep2 hb0 ⟨((Below.refl _ _).alloc (Nat.le_refl _) _).alloc (by simp) _,by simp [go_sem],by simp [go_sem],by simp [go_sem],by simp [go_sem]⟩
 clear hb0
 obtain ⟨hbW,hc0,hc1,hc2,hc3⟩:=hS1
 simp only [Option.isNone_none,Bool.and_self]
 go_wp2_with fail
 go_fit (cmp_i64 x y _)
 rintro e w7 ⟨rfl,rfl⟩
 go_wp2
 go_ret
 exact ⟨rfl,hbW⟩
theorem cmp_far {N:Nat} (x y:Int) (a1 a2:Option Addr) (n1 c1 n2 c2:Nat) (z o:Int) (w:World) (hz:Zr (N+1) w (.agg #[.int .i64 x,.slice a1 n1 c1]) z) (ho:Zr (N+1) w (.agg #[.int .i64 y,.slice a2 n2 c2]) o) (hbn:(a1.isNone && a2.isNone)=false) (hlim:N<=800000) :
 Calls Tryz.prog 79 #[.agg #[.int .i64 x,.slice a1 n1 c1],.agg #[.int .i64 y,.slice a2 n2 c2]] w fun e w'=>e=.returned (.int .i64 (sgn (z - o)))/\Below w.heap.size w w':=by
 have HZ:=qh hz
 have HO:=qh ho
 have HBN:=qh hbn
 have tok1:True:=trivial
 have HSX:Hid (sgn x=sgn z):=by
  obtain ⟨x',a',n',c',hvv,hsg,_⟩:=hz.sgn
  obtain ⟨rfl,_⟩:x=x'/\_:=by simpa using hvv
  exact hsg
 have HSY:Hid (sgn y=sgn o):=by
  obtain ⟨x',a',n',c',hvv,hsg,_⟩:=ho.sgn
  obtain ⟨rfl,_⟩:y=x'/\_:=by simpa using hvv
  exact hsg
 clear hz ho hbn
 go_enter Tryz.func79,Tryz.ntmps79
 go_wp2_with fail
 go_fit (zxb x y a1 a2 n1 c1 n2 c2 _)
 rintro e W1 ⟨rfl,hb0⟩
 rw [uh HBN]
 have hS1:Below w.heap.size w W1/\W1.cell? ⟨w.heap.size,0,none⟩=some (.int .i64 x)/\W1.cell? ⟨w.heap.size,1,none⟩=some (.slice a1 n1 c1)/\W1.cell? ⟨w.heap.size+1,0,none⟩=some (.int .i64 y)/\W1.cell? ⟨w.heap.size+1,1,none⟩=some (.slice a2 n2 c2) :=
  keep2 hb0 ⟨((Below.refl _ _).alloc (Nat.le_refl _) _).alloc (by simp) _,by simp [go_sem],by simp [go_sem],by simp [go_sem],by simp [go_sem]⟩
 clear hb0
 obtain ⟨hbW,hc0,hc1,hc2,hc3⟩:=hS1
 by_cases hss:sgn x=sgn y
 ·have hss':(sgn x != sgn y)=false:=by simpa using hss
  have HE:=qh (cmp_same (z:=z) (o:=o) (uh HSX) (uh HSY) hss)
  clear hss
  obtain ⟨sg,hsg⟩:∃ sg,sgn (iabs z - iabs o)=sg:=⟨_,rfl⟩
  have HSG:=qh hsg
  have hm:sgn x*sg=sgn (z - o):=by rw [<- hsg];exact uh HE
  obtain ⟨m,hmm⟩:∃ m,sgn (z - o)=m:=⟨_,rfl⟩
  have hmb:-1<=m/\m<=1:=by rw [<- hmm];rcases zjn (z - o) with h | h | ⟨h,_⟩ <;> omega
  have hw1:IntKind.i64.wrap (sgn x*sg)=m:=by rw [hm,hmm,IntKind.wrap_i64];omega
  have hw2:wrap64 (sgn x*sg)=m:=by rw [hm,hmm];unfold wrap64;omega
  have HMM:=qh hmm
  clear hsg hm hmm hmb
  go_wp2_with fail
  go_region_held3 (fun w'=>Below w.heap.size w w'/\w'.cell? ⟨w.heap.size,0,none⟩=some (.int .i64 x)/\w'.cell? ⟨w.heap.size,1,none⟩=some (.slice a1 n1 c1)/\w'.cell? ⟨w.heap.size+1,0,none⟩=some (.int .i64 y)/\w'.cell? ⟨w.heap.size+1,1,none⟩=some (.slice a2 n2 c2))
   (first | exact ⟨hbW.drew,hc0,hc1,hc2,hc3⟩ | exact keep2 (by assumption) (by assumption))
   (first | (go_at_call 118;go_fit (zqn _ _ _);rintro e w4 ⟨rfl,hb4⟩))
  have hS4:Below w.heap.size w w4/\w4.cell? ⟨w.heap.size,0,none⟩=some (.int .i64 x)/\w4.cell? ⟨w.heap.size,1,none⟩=some (.slice a1 n1 c1)/\w4.cell? ⟨w.heap.size+1,0,none⟩=some (.int .i64 y)/\w4.cell? ⟨w.heap.size+1,1,none⟩=some (.slice a2 n2 c2):=by assumption
  clear hbW hc0 hc1 hc2 hc3
  obtain ⟨hbW,hc0,hc1,hc2,hc3⟩:=hS4
  go_wp2_with fail
  go_region_held3 (fun w'=>Below w.heap.size w w'/\w'.cell? ⟨w.heap.size,0,none⟩=some (.int .i64 x)/\w'.cell? ⟨w.heap.size,1,none⟩=some (.slice a1 n1 c1)/\w'.cell? ⟨w.heap.size+1,0,none⟩=some (.int .i64 y)/\w'.cell? ⟨w.heap.size+1,1,none⟩=some (.slice a2 n2 c2))
   (first | exact ⟨hbW.drew,hc0,hc1,hc2,hc3⟩ | exact keep2 (by assumption) (by assumption) | assumption)
   (first | (go_at_call 118;go_fit (zqn _ _ _);rintro e w5 ⟨rfl,hb5⟩) | (go_at_call 143;have _t:=tok1;go_fit (zxw (z:=z) (N:=N) _ ((uh HZ).later (And.left (by assumption))));rintro e w2 ⟨sv1,rfl,hsv1,hb2⟩;clear tok1) | (go_at_call 143;go_fit (zxw (z:=o) (N:=N) _ ((uh HO).later (And.left (by assumption))));rintro e w3 ⟨sv2,rfl,hsv2,hb3⟩) | (go_at_call 142;go_fit (compare_sz _ (hsv1.later hb3) hsv2 (by omega) (by omega));rw [uh HSG];rintro e w6 ⟨rfl,hb6⟩))
  go_wp2
  go_ret
  exact ⟨zxd (uh HMM).symm,And.left (by assumption)⟩
 ·have hss':(sgn x != sgn y)=true:=by simpa using hss
  have HE:=qh (cmp_diff (z:=z) (o:=o) (uh HSX) (uh HSY) hss)
  clear hss
  go_wp2_with fail
  go_region_held3 (fun w'=>Below w.heap.size w w'/\w'.cell? ⟨w.heap.size,0,none⟩=some (.int .i64 x)/\w'.cell? ⟨w.heap.size,1,none⟩=some (.slice a1 n1 c1)/\w'.cell? ⟨w.heap.size+1,0,none⟩=some (.int .i64 y)/\w'.cell? ⟨w.heap.size+1,1,none⟩=some (.slice a2 n2 c2))
   (first | exact ⟨hbW.drew,hc0,hc1,hc2,hc3⟩ | exact keep2 (by assumption) (by assumption))
   (first | (go_at_call 118;go_fit (zqn _ _ _);rintro e w4 ⟨rfl,hb4⟩))
  have hS4:Below w.heap.size w w4/\w4.cell? ⟨w.heap.size,0,none⟩=some (.int .i64 x)/\w4.cell? ⟨w.heap.size,1,none⟩=some (.slice a1 n1 c1)/\w4.cell? ⟨w.heap.size+1,0,none⟩=some (.int .i64 y)/\w4.cell? ⟨w.heap.size+1,1,none⟩=some (.slice a2 n2 c2):=by assumption
  clear hbW hc0 hc1 hc2 hc3
  obtain ⟨hbW,hc0,hc1,hc2,hc3⟩:=hS4
  go_wp2_with fail
  go_region_held3 (fun w'=>Below w.heap.size w w'/\w'.cell? ⟨w.heap.size,0,none⟩=some (.int .i64 x)/\w'.cell? ⟨w.heap.size,1,none⟩=some (.slice a1 n1 c1)/\w'.cell? ⟨w.heap.size+1,0,none⟩=some (.int .i64 y)/\w'.cell? ⟨w.heap.size+1,1,none⟩=some (.slice a2 n2 c2))
   (first | exact ⟨hbW.drew,hc0,hc1,hc2,hc3⟩ | exact keep2 (by assumption) (by assumption) | assumption)
   (first | (go_at_call 118;go_fit (zqn _ _ _);rintro e w5 ⟨rfl,hb5⟩) | (go_at_call 77;go_fit (cmp_int _ _ _);rintro e w6 ⟨rfl,rfl⟩))
  go_wp2
  go_ret
  exact ⟨zxd (uh HE),And.left (by assumption)⟩
theorem cmp_any {N:Nat}{v u:Value}{z o:Int} (w:World) (hz:Zr (N+1) w v z) (ho:Zr (N+1) w u o) (hlim:N<=800000) :
 Calls Tryz.prog 79 #[v,u] w fun e w'=>e=.returned (.int .i64 (sgn (z - o)))/\Below w.heap.size w w':=by
 obtain ⟨x,a1,n1,c1,rfl,h1,h2,h3⟩:=hz.sgn
 obtain ⟨y,a2,n2,c2,rfl,k1,k2,k3⟩:=ho.sgn
 cases hbn:(a1.isNone && a2.isNone)
 ·exact cmp_far x y a1 a2 n1 c1 n2 c2 z o w hz ho hbn hlim
 ·simp at hbn
  obtain ⟨rfl,rfl,rfl,b0,b1⟩:=h2 hbn.1
  obtain ⟨rfl,rfl,rfl,d0,d1⟩:=k2 hbn.2
  obtain ⟨rfl,rfl⟩:=hbn
  exact cmp_near x y w
theorem mul_sgn {x y z o:Int} (hx:sgn x=sgn z) (hy:sgn y=sgn o):sgn x*sgn y*(iabs z*iabs o)=z*o/\(sgn x*sgn y=1\/sgn x*sgn y = -1\/(sgn x*sgn y=0/\iabs z*iabs o=0)):=by
 rw [hx,hy]
 rcases zqo z with ⟨a,b,c⟩ | ⟨a,b,c⟩ | ⟨a,b,c⟩ <;> rcases zqo o with ⟨a',b',c'⟩ | ⟨a',b',c'⟩ | ⟨a',b',c'⟩ <;> rw [b,b',c,c'] <;> first | (subst a;simp;done) | (subst a';simp;done) | exact ⟨by grind,by simp⟩
theorem iabs_w64 {x:Int} (h0:-9223372036854775808<=x) (h1:x<=9223372036854775807):W64 (iabs x):=by unfold iabs W64;split <;> omega
theorem zqe {X:World}{n:Nat} (h:X.heap.size=n) (c:Array Value) (t:TypeId) (k:Nat):(X.alloc (.cells c t)).cell? ⟨n,k,none⟩=c[k]? := by
 subst h
 simp only [World.cell?,heap_alloc_new]
 rfl
theorem zr_two {w:World}{b:Nat}{s lo hi:Int} (hs:s=1\/s = -1) (l0:0<=lo) (l1:lo<18446744073709551616) (h0:0<hi) (h1:hi<18446744073709551616) (hc:w.cell? ⟨b,0,none⟩=some (.int .u64 lo)) (hc':w.cell? ⟨b,1,none⟩=some (.int .u64 hi)) :
 Zr 2 w (.agg #[.int .i64 s,.slice (some ⟨b,0,none⟩) 2 2]) (s*(lo+18446744073709551616*hi)):=by
 refine Or.inr ⟨s,b,0,2,[lo,hi],rfl,hs,Ws.mk ⟨l0,l1⟩ (Ws.mk ⟨by omega,h1⟩ Ws.nil),Or.inr ?_,by simp,by simp [val],by simp,by simp,by decide,?_,?_⟩
 ·simp [nth];omega
 ·intro k hk
  simp at hk
  match k,hk with
  | 0,_=>simpa [nth] using hc
  | 1,_=>simpa [nth] using hc'
 ·rcases hs with rfl | rfl
  ·right;omega
  ·left;omega
theorem mul_core {N:Nat} (x y:Int) (a1 a2:Option Addr) (n1 c1 n2 c2:Nat) (z o:Int) (w:World) (hz:Zr (N+1) w (.agg #[.int .i64 x,.slice a1 n1 c1]) z) (ho:Zr (N+1) w (.agg #[.int .i64 y,.slice a2 n2 c2]) o) (hlim:N<=400000) :
 Calls Tryz.prog 132 #[.agg #[.int .i64 x,.slice a1 n1 c1],.agg #[.int .i64 y,.slice a2 n2 c2]] w fun e w'=>(∃ v,e=.returned v/\Zr (N+1+(N+1)) w' v (z*o))/\Below w.heap.size w w':=by
 have HZ:=qh hz
 have HO:=qh ho
 have tok1:True:=trivial
 have HSX:Hid (sgn x=sgn z):=by
  obtain ⟨x',a',n',c',hvv,hsg,_⟩:=hz.sgn
  obtain ⟨rfl,_⟩:x=x'/\_:=by simpa using hvv
  exact hsg
 have HSY:Hid (sgn y=sgn o):=by
  obtain ⟨x',a',n',c',hvv,hsg,_⟩:=ho.sgn
  obtain ⟨rfl,_⟩:y=x'/\_:=by simpa using hvv
  exact hsg
 have HNX:Hid (a1=none->x=z /\ -9223372036854775808<=z/\z<=9223372036854775807):=by
  obtain ⟨x',a',n',c',hvv,_,h,_⟩:=hz.sgn
  obtain ⟨rfl,rfl,_⟩:x=x'/\a1=a'/\_:=by simpa using hvv
  exact fun e=>⟨(h e).1,(h e).2.2.2⟩
 have HNY:Hid (a2=none->y=o /\ -9223372036854775808<=o/\o<=9223372036854775807):=by
  obtain ⟨x',a',n',c',hvv,_,h,_⟩:=ho.sgn
  obtain ⟨rfl,rfl,_⟩:y=x'/\a2=a'/\_:=by simpa using hvv
  exact fun e=>⟨(h e).1,(h e).2.2.2⟩
 obtain ⟨m1,m2⟩:=mul_sgn (uh HSX) (uh HSY)
 obtain ⟨sg,hsg⟩:∃ sg,sgn x*sgn y=sg:=⟨_,rfl⟩
 rw [hsg] at m1 m2
 have sg0:-1<=sg/\sg<=1:=by omega
 have hw1:IntKind.i64.wrap (sgn x*sgn y)=sg:=by rw [hsg,IntKind.wrap_i64];omega
 have hw2:wrap64 (sgn x*sgn y)=sg:=by rw [hsg];unfold wrap64;omega
 have HM1:=qh m1
 have HM2:=qh m2
 obtain ⟨sgl,sgh⟩:=sg0
 clear hz ho hsg m1 m2
 go_enter Tryz.func132,Tryz.ntmps132
 go_wp2_with fail
 obtain ⟨W1,hW1⟩:∃ W1,W1=((w.alloc (.cells #[.int .i64 x,.slice a1 n1 c1] 37)).alloc (.cells #[.int .i64 y,.slice a2 n2 c2] 37)).alloc (.cells #[.int .i64 0,.slice none 0 0] 37):=⟨_,rfl⟩
 have hst:=hstart w (.cells #[.int .i64 x,.slice a1 n1 c1] 37) (.cells #[.int .i64 y,.slice a2 n2 c2] 37)
 have hS1:Below w.heap.size w W1/\Box W1 (w.heap.size+2)/\W1.cell? ⟨w.heap.size,0,none⟩=some (.int .i64 x)/\W1.cell? ⟨w.heap.size,1,none⟩=some (.slice a1 n1 c1)/\W1.cell? ⟨w.heap.size+1,0,none⟩=some (.int .i64 y)/\W1.cell? ⟨w.heap.size+1,1,none⟩=some (.slice a2 n2 c2):=by
  rw [hW1];exact ⟨hst.1,hst.2,by simp [go_sem],by simp [go_sem],by simp [go_sem],by simp [go_sem]⟩
 rw [<- hW1]
 clear hW1 hst
 obtain ⟨hbW,hbox,hc0,hc1,hc2,hc3⟩:=hS1
 go_region_held3 (fun w'=>Below w.heap.size w w'/\Box w' (w.heap.size+2)/\w'.cell? ⟨w.heap.size,0,none⟩=some (.int .i64 x)/\w'.cell? ⟨w.heap.size,1,none⟩=some (.slice a1 n1 c1)/\w'.cell? ⟨w.heap.size+1,0,none⟩=some (.int .i64 y)/\w'.cell? ⟨w.heap.size+1,1,none⟩=some (.slice a2 n2 c2))
  (first | exact ⟨hbW.drew,hbox,hc0,hc1,hc2,hc3⟩ | exact keep21 (by assumption) (by assumption))
  (first | (go_at_call 118;go_fit (zqn _ _ _);rintro e w4 ⟨rfl,hb4⟩))
 have hS4:Below w.heap.size w w4/\Box w4 (w.heap.size+2)/\w4.cell? ⟨w.heap.size,0,none⟩=some (.int .i64 x)/\w4.cell? ⟨w.heap.size,1,none⟩=some (.slice a1 n1 c1)/\w4.cell? ⟨w.heap.size+1,0,none⟩=some (.int .i64 y)/\w4.cell? ⟨w.heap.size+1,1,none⟩=some (.slice a2 n2 c2):=by assumption
 clear hbW hbox hc0 hc1 hc2 hc3
 obtain ⟨hbW,hbox,hc0,hc1,hc2,hc3⟩:=hS4
 go_wp2_with fail
 go_fit (zxb x y a1 a2 n1 c1 n2 c2 _)
 rintro e W5 ⟨rfl,hb0⟩
 obtain ⟨hbW,hbox,hc0,hc1,hc2,hc3⟩:=keep21 hb0 ⟨hbW,hbox,hc0,hc1,hc2,hc3⟩
 cases hbn:(a1.isNone && a2.isNone)
 ·go_wp2_with fail
  go_region_held3 (fun w'=>Below w.heap.size w w'/\Box w' (w.heap.size+2)/\w'.cell? ⟨w.heap.size,0,none⟩=some (.int .i64 x)/\w'.cell? ⟨w.heap.size,1,none⟩=some (.slice a1 n1 c1)/\w'.cell? ⟨w.heap.size+1,0,none⟩=some (.int .i64 y)/\w'.cell? ⟨w.heap.size+1,1,none⟩=some (.slice a2 n2 c2))
   (first | exact ⟨hbW.drew,hbox,hc0,hc1,hc2,hc3⟩ | exact keep21 (by assumption) (by assumption) | exact store21 (by assumption) (by omega) (by omega) (by omega))
   (first | (go_at_call 143;have _t:=tok1;go_fit (zxw (z:=z) (N:=N) _ ((uh HZ).later (And.left (by assumption))));rintro e w2 ⟨sv1,rfl,hsv1,hb2⟩;clear tok1) | (go_at_call 143;go_fit (zxw (z:=o) (N:=N) _ ((uh HO).later (And.left (by assumption))));rintro e w3 ⟨sv2,rfl,hsv2,hb3⟩) | (go_at_call 181;go_fit (product_any _ (hsv1.later hb3) hsv2 (by omega));rintro e w6 ⟨sv6,rfl,hsv6,hb6⟩) | (go_at_call 164;go_fit (zxg sg _ (Or.inl hsv6) (uh HM2));rintro e w7 ⟨⟨v7,rfl,hZ7⟩,hb7⟩;obtain ⟨near7,a7,n7,c7,hv7⟩:=hZ7.shape;subst hv7;obtain ⟨x0,a0,n0,c0,g0,g1,gf⟩:=boxOf hb7 (by assumption)))
  go_wp2
  have hbx:Box w7 (w.heap.size+2):=(((Box.later (w:=W5.drew) hbox hb2).later hb3).later hb6).later hb7
  have hbl:Below w.heap.size w w7:=bk hb7 (bk hb6 (bk hb3 (bk hb2 hbW.drew)))
  obtain ⟨st0,st1⟩:=hbx.stored (.int .i64 near7) (.slice a7 n7 c7)
  exact bodyPost_ret (v:=.agg #[.int .i64 near7,.slice a7 n7 c7]) (by simp [results,Tryz.results132,go_sem,st0,st1]) rfl ⟨⟨_,rfl,(hZ7.stored hbx _ _).eq (uh HM1)⟩,zqc hbl (by omega) _ _⟩
 ·simp at hbn
  obtain ⟨xz,z0,z1⟩:=uh HNX hbn.1
  obtain ⟨yo,o0,o1⟩:=uh HNY hbn.2
  subst xz yo
  clear hbn
  go_wp2_with fail
  go_region_held3 (fun w'=>Below w.heap.size w w'/\Box w' (w.heap.size+2)/\w'.cell? ⟨w.heap.size,0,none⟩=some (.int .i64 x)/\w'.cell? ⟨w.heap.size,1,none⟩=some (.slice a1 n1 c1)/\w'.cell? ⟨w.heap.size+1,0,none⟩=some (.int .i64 y)/\w'.cell? ⟨w.heap.size+1,1,none⟩=some (.slice a2 n2 c2))
   (first | exact ⟨hbW.drew,hbox,hc0,hc1,hc2,hc3⟩ | exact keep21 (by assumption) (by assumption) | assumption)
   (first | (go_at_call 183;have _t:=tok1;go_fit (sizeOf_any x z0 z1 _);rintro e w2 ⟨rfl,rfl⟩;clear tok1) | (go_at_call 183;go_fit (sizeOf_any y o0 o1 _);rintro e w3 ⟨rfl,rfl⟩) | (go_at_call 182;go_fit (mul64 _ _ (iabs_w64 z0 z1) (iabs_w64 o0 o1) _);rintro e w6 ⟨hi,lo,rfl,lo0,lo1,hi0,hi1,HMU,rfl⟩))
  have hbW:=hbW.drew
  have hbox:Box W5.drew (w.heap.size+2):=hbox
  by_cases hh:hi=0
  ·subst hh
   have hlo:lo=iabs x*iabs y:=by have:=uh HMU;omega
   have HLO:=qh hlo
   clear hlo
   go_wp2_with fail
   go_fit (zkj sg lo _ (by rw [uh HLO];exact uh HM2) lo0 lo1)
   rintro e w7 ⟨⟨v7,rfl,hZ7⟩,hb7⟩
   obtain ⟨near7,a7,n7,c7,hv7⟩:=hZ7.shape
   subst hv7
   have hbx:Box w7 (w.heap.size+2):=hbox.later hb7
   obtain ⟨⟨x0,g0⟩,⟨a0,n0,c0,g1⟩,gf⟩:=hbx.cells
   go_wp2
   obtain ⟨st0,st1⟩:=hbx.stored (.int .i64 near7) (.slice a7 n7 c7)
   exact bodyPost_ret (v:=.agg #[.int .i64 near7,.slice a7 n7 c7]) (by simp [results,Tryz.results132,go_sem,st0,st1]) rfl ⟨⟨_,rfl,((hZ7.mono (by omega)).stored hbx _ _).eq (by rw [uh HLO];exact uh HM1)⟩,zqc (bk hb7 hbW) (by omega) _ _⟩
  ·have hh':(hi == 0)=false:=by simpa using hh
   have hs:sg=1\/sg = -1:=by
    rcases uh HM2 with h | h | ⟨h,h'⟩
    ·exact Or.inl h
    ·exact Or.inr h
    ·have:=uh HMU;omega
   have HHS:=qh hs
   have HH:=qh hh
   clear hs hh
   obtain ⟨⟨x0,g0⟩,⟨a0,n0,c0,g1⟩,gf⟩:=hbox.cells
   have hqs:w.heap.size+2<W5.heap.size:=World.block_lt_of_cell? W5.drew _ g0
   have f0:∀ o,(W5.alloc o).cell? ⟨w.heap.size+1+1,0,none⟩=some (.int .i64 x0):=fun o=>(World.cell?_of_block (w:=W5) (a:=⟨w.heap.size+1+1,0,none⟩) (Below.heap_alloc W5 o _ hqs)).trans g0
   have f1:∀ o v,((W5.setCell ⟨w.heap.size+1+1,0,none⟩ v).alloc o).cell? ⟨w.heap.size+1+1,1,none⟩=some (.slice a0 n0 c0):=fun o v=>by
    rw [World.cell?_of_block (w:=W5.setCell ⟨w.heap.size+1+1,0,none⟩ v) (a:=⟨w.heap.size+1+1,1,none⟩) (Below.heap_alloc _ o _ (by simp [World.setCell];exact hqs)),zqb _ _ _ _ _ _ (by omega)];exact g1
   have f2:∀ o k,(W5.alloc o).frozen? ⟨w.heap.size+1+1,k,none⟩=false:=fun o k=>(World.frozen?_of_block (w:=W5) (a:=⟨w.heap.size+1+1,k,none⟩) (Below.heap_alloc W5 o _ hqs)).trans (gf k)
   have f3:∀ o v k,((W5.setCell ⟨w.heap.size+1+1,0,none⟩ v).alloc o).frozen? ⟨w.heap.size+1+1,k,none⟩=false:=fun o v k=>by
    rw [World.frozen?_of_block (w:=W5.setCell ⟨w.heap.size+1+1,0,none⟩ v) (a:=⟨w.heap.size+1+1,k,none⟩) (Below.heap_alloc _ o _ (by simp [World.setCell];exact hqs))]
    exact (zkz (w:=W5) (g:=w.heap.size+1+1) (by obtain ⟨x',a',n',c',h⟩:=hbox;exact ⟨_,_,h⟩) _ _).frozen k
   go_wp2
   obtain ⟨st0,st1⟩:=Box.stored (w:=W5) hbox (.int .i64 sg) (.slice (some ⟨W5.heap.size,0,none⟩) 2 2)
   have hq2:w.heap.size+2<((W5.setCell ⟨w.heap.size+2,0,none⟩ (.int .i64 sg)).setCell ⟨w.heap.size+2,1,none⟩ (.slice (some ⟨W5.heap.size,0,none⟩) 2 2)).heap.size:=by simpa [World.setCell] using hqs
   have sz2:((W5.setCell ⟨w.heap.size+2,0,none⟩ (.int .i64 sg)).setCell ⟨w.heap.size+2,1,none⟩ (.slice (some ⟨W5.heap.size,0,none⟩) 2 2)).heap.size=W5.heap.size:=by simp [World.setCell]
   have u0:∀ o,(((W5.setCell ⟨w.heap.size+2,0,none⟩ (.int .i64 sg)).setCell ⟨w.heap.size+2,1,none⟩ (.slice (some ⟨W5.heap.size,0,none⟩) 2 2)).alloc o).cell? ⟨w.heap.size+2,0,none⟩=some (.int .i64 sg):=fun o=>(World.cell?_of_block (a:=⟨w.heap.size+2,0,none⟩) (Below.heap_alloc _ o _ hq2)).trans st0
   have u1:∀ o,(((W5.setCell ⟨w.heap.size+2,0,none⟩ (.int .i64 sg)).setCell ⟨w.heap.size+2,1,none⟩ (.slice (some ⟨W5.heap.size,0,none⟩) 2 2)).alloc o).cell? ⟨w.heap.size+2,1,none⟩=some (.slice (some ⟨W5.heap.size,0,none⟩) 2 2):=fun o=>(World.cell?_of_block (a:=⟨w.heap.size+2,1,none⟩) (Below.heap_alloc _ o _ hq2)).trans st1
   have hn0:∀ k v,#[Value.int IntKind.u64 lo,Value.int IntKind.u64 hi][k]? = some v->(((W5.setCell ⟨w.heap.size+2,0,none⟩ (.int .i64 sg)).setCell ⟨w.heap.size+2,1,none⟩ (.slice (some ⟨W5.heap.size,0,none⟩) 2 2)).alloc (.cells #[.int .u64 lo,.int .u64 hi] 200)).cell? ⟨W5.heap.size,k,none⟩=some v:=by
    intro k v hkv
    rw [zqe sz2]
    exact hkv
   refine bodyPost_ret (v:=.agg #[.int .i64 sg,.slice (some ⟨W5.heap.size,0,none⟩) 2 2]) (by simp [results,Tryz.results132,go_sem,u0,u1]) rfl ⟨⟨_,rfl,((zr_two (hi:=hi) (uh HHS) lo0 lo1 ?_ ?_ ?_ ?_).mono ?_).eq ?_⟩,?_⟩
   ·have:=uh HH;omega
   ·omega
   ·exact hn0 0 _ rfl
   ·exact hn0 1 _ rfl
   ·omega
   ·rw [uh HMU];exact uh HM1
   ·exact ((zqc (w:=W5) ⟨hbW.os,hbW.tape,hbW.output,hbW.size,hbW.block⟩ (by omega) _ _).alloc (by rw [sz2];omega) _).drew
theorem mul_any {N:Nat}{v u:Value}{z o:Int} (w:World) (hz:Zr (N+1) w v z) (ho:Zr (N+1) w u o) (hlim:N<=400000) :
 Calls Tryz.prog 132 #[v,u] w fun e w'=>(∃ v,e=.returned v/\Zr (N+1+(N+1)) w' v (z*o))/\Below w.heap.size w w':=by
 obtain ⟨x,a1,n1,c1,rfl⟩:=hz.shape
 obtain ⟨y,a2,n2,c2,rfl⟩:=ho.shape
 exact mul_core x y a1 a2 n1 c1 n2 c2 z o w hz ho hlim
end Go.Proofs.YtkdobjmhammhbaaGreatDoor
