import Derived.Test.YtkdobjmhammhbaaGreatDoorMGA
namespace Go.Proofs.YtkdobjmhammhbaaGreatDoor
set_option maxHeartbeats 2000000
set_option maxRecDepth 8000
open Go.RowKit
theorem len_fit {l:List Int}{n:Nat} (h:Ws l) (t:Trim l) (hv:val l<pw n):l.length<=n:=by
 by_cases e:l=[]
 ·subst e;simp
 ·by_cases g:l.length<=n
  ·exact g
  ·have h1:=val_ge h t e
   have h2:=pw_mono (show n<=l.length - 1 by omega)
   omega
theorem Sz.fit {N M:Nat}{w:World}{v:Value}{z:Int} (h:Sz N w v z) (hz:z<pw M):Sz M w v z:=by
 obtain ⟨g,off,cap,l,h1,h2,h3,h4,h5,h6,h7,h8⟩:=h
 exact ⟨g,off,cap,l,h1,h2,h3,h4,len_fit h2 h3 (by rw [h4];exact hz),h6,h7,h8⟩
theorem Zr.fit {N M:Nat}{w:World}{v:Value}{z:Int} (h:Zr N w v z) (hz:-pw M<z) (hz':z<pw M):Zr M w v z:=by
 rcases h with h | ⟨s,b,off,cap,l,h1,h2,h3,h4,h5,h6,h7,h8,h9,h10,h11⟩
 ·exact Or.inl h
 ·refine Or.inr ⟨s,b,off,cap,l,h1,h2,h3,h4,h5,h6,len_fit h3 h4 ?_,h8,h9,h10,h11⟩
  rcases h2 with rfl | rfl <;> omega
theorem bits_or_zero {x:Int} (hx:W64 x):bits .or .u64 x 0=x/\bits .or .u64 0 x=x:=by
 obtain ⟨n,rfl⟩:=Int.eq_ofNat_of_zero_le hx.1
 have hn:n<18446744073709551616:=by have:=hx.2;omega
 have h1:=bits_or_u64_nat n 0 hn (by omega)
 have h2:=bits_or_u64_nat 0 n (by omega) hn
 simp only [Nat.or_zero,Nat.zero_or,Int.ofNat_zero] at h1 h2
 exact ⟨h1,h2⟩
theorem commonWord_full (x y:Int) (w:World) (hx:W64 x) (hy:W64 y) (hT:Tab64 w) :
 Calls Tryz.prog 185 #[.int .u64 x,.int .u64 y] w fun e w'=>e=.returned (.int .u64 (Int.gcd x y))/\∃ n,w'=w.drewN n:=by
 by_cases h0:x=0
 ·subst h0
  have he:=(bits_or_zero hy).2
  have hg:(Int.gcd 0 y:Int)=y:=by rw [Int.zero_gcd];exact Int.natAbs_of_nonneg hy.1
  rw [hg]
  go_enter Tryz.func185,Tryz.ntmps185
  go_wp2
  go_ret
  exact ⟨rfl,0,rfl⟩
 ·by_cases h1:y=0
  ·subst h1
   have he:=(bits_or_zero hx).1
   have hx0:(x == 0)=false:=by simpa using h0
   have hg:(Int.gcd x 0:Int)=x:=by rw [Int.gcd_zero];exact Int.natAbs_of_nonneg hx.1
   rw [hg]
   clear hg h0
   go_enter Tryz.func185,Tryz.ntmps185
   go_wp2
   go_ret
   exact ⟨rfl,0,rfl⟩
  ·exact commonWord_any x y w hx hy (by have:=hx.1;omega) (by have:=hy.1;omega) hT
structure CmK (w:World) (G N:Nat) (ga oa ca gb ob cb:Nat) (A B:List Int) (wr:World):Prop where
 ra:Row wr ga oa A
 rb:Row wr gb ob B
 wa:Ws A
 wb:Ws B
 ta:Trim A
 tb:Trim B
 na:A.length<=N
 nb:B.length<=A.length
 ca1:A.length<=ca
 cb1:B.length<=cb
 ca2:ca<=9223372036854775807
 cb2:cb<=9223372036854775807
 gcd:Int.gcd (val A) (val B)=G
 below:Below w.heap.size w wr
theorem igcd_mod {x y q r:Int} (e:q*y+r=x):Int.gcd y r=Int.gcd x y:=by
 rw [<- e,Int.gcd_comm (q*y+r),Int.gcd_mul_right_add_right]
theorem CmK.sza {w:World}{G N ga oa ca gb ob cb:Nat}{A B:List Int}{wr:World} (h:CmK w G N ga oa ca gb ob cb A B wr):Sz N wr (.slice (some ⟨ga,oa,none⟩) A.length ca) (val A):=⟨ga,oa,ca,A,rfl,h.wa,h.ta,rfl,h.na,h.ca1,h.ca2,h.ra⟩
theorem CmK.szb {w:World}{G N ga oa ca gb ob cb:Nat}{A B:List Int}{wr:World} (h:CmK w G N ga oa ca gb ob cb A B wr):Sz N wr (.slice (some ⟨gb,ob,none⟩) B.length cb) (val B):=⟨gb,ob,cb,B,rfl,h.wb,h.tb,rfl,Nat.le_trans h.nb h.na,h.cb1,h.cb2,h.rb⟩
theorem CmK.pos {w:World}{G N ga oa ca gb ob cb:Nat}{A B:List Int}{wr:World} (h:CmK w G N ga oa ca gb ob cb A B wr) (hB:0<B.length):0<val A/\0<val B:=by
 have hb:B≠[]:=List.length_pos_iff.1 hB
 have ha:A≠[]:=List.length_pos_iff.1 (by have:=h.nb;omega)
 have h1:=val_ge h.wa h.ta ha
 have h2:=val_ge h.wb h.tb hb
 have h3:=zkm (A.length - 1)
 have h4:=zkm (B.length - 1)
 omega
theorem CmK.step {w:World}{G N ga oa ca gb ob cb M:Nat}{A B:List Int}{wr w1:World}{v:Value}{q r:Int} (h:CmK w G N ga oa ca gb ob cb A B wr) (hs:Sz M w1 v r) (e:q*val B+r=val A) (r1:r<val B) (hb:Below wr.heap.size wr w1) :
 ∃ gr or cr R,v=.slice (some ⟨gr,or,none⟩) R.length cr/\val R=r/\CmK w G N gb ob cb gr or cr B R w1:=by
 obtain ⟨g,off,cap,R,rfl,h2,h3,h4,h5,h6,h7,h8⟩:=hs
 refine ⟨g,off,cap,R,rfl,h4,h.rb.later hb,h8,h.wb,h2,h.tb,h3,Nat.le_trans h.nb h.na,len_fit h2 h3 (by rw [h4];have:=val_lt h.wb;omega),h.cb1,h6,h.cb2,h7,?_,bk hb h.below⟩
 rw [h4,igcd_mod e];exact h.gcd
theorem common_core (N ga oa ca gb ob cb G:Nat) (A B:List Int) (w:World) (hk0:CmK w G N ga oa ca gb ob cb A B w) (hN:N<=300000) (hT:Tab64 w) (va vb:Value) (hsw:(va=.slice (some ⟨ga,oa,none⟩) A.length ca/\vb=.slice (some ⟨gb,ob,none⟩) B.length cb)\/(B.length<A.length/\vb=.slice (some ⟨ga,oa,none⟩) A.length ca/\va=.slice (some ⟨gb,ob,none⟩) B.length cb)) :
 Calls Tryz.prog 186 #[va,vb] w fun e w'=>∃ v,e=.returned v/\Sz (2*N+1) w' v G/\Below w.heap.size w w':=by
 have hlt:=hT.lt
 have hnb:=hk0.nb
 go_enter Tryz.func186,Tryz.ntmps186
 rcases hsw with ⟨rfl,rfl⟩ | ⟨hl,rfl,rfl⟩
 ·have hnl:¬ (A.length:Int)<B.length:=by omega
  go_wp2_with fail
  go_loopg [0,1] (val B).toNat (fun k va vb wr=>∃ (xa xo xc ya yo yc:Nat) (X Y:List Int),va=.slice (some ⟨xa,xo,none⟩) X.length xc/\vb=.slice (some ⟨ya,yo,none⟩) Y.length yc/\k=(val Y).toNat/\CmK w G N xa xo xc ya yo yc X Y wr)
  case atStart=>exact ⟨_,_,_,_,_,_,_,_,rfl,rfl,rfl,hk0⟩
  case round =>
   obtain ⟨xa,xo,xc,ya,yo,yc,X,Y,rfl,rfl,hgk,hk⟩:=hrel
   clear hk0
   have hXN:=hk.na
   have hYN:=hk.nb
   by_cases hY:(0:Int)<Y.length
   ·obtain ⟨px,py⟩:=hk.pos (by omega)
    by_cases hlen:(Y.length:Int)<X.length
    ·go_wp2_with fail
     refine (divide_any (N:=N) (M:=N) _ hk.sza hk.szb py (by omega) (by omega)).mono ?_
     rintro e w5 ⟨v1,v2,q,r,rfl,-,s2,e2,r0,r1,b5⟩
     obtain ⟨gr,or,cr,R,rfl,hvR,R5⟩:=hk.step s2 e2 r1 b5
     have HLT:Hid ((val R).toNat<gk):=by show _<_;rw [hgk];omega
     clear hk s2 e2 r0 r1 b5 hgk hvR
     go_wp2
     go_roundg ((val R).toNat)
     case measure=>exact uh HLT
     case rel=>exact ⟨_,_,_,_,_,_,_,_,rfl,rfl,rfl,R5⟩
    ·have hXne:X≠[]:=List.length_pos_iff.1 (by omega)
     have hYne:Y≠[]:=List.length_pos_iff.1 (by omega)
     go_wp2_with fail
     refine (clone_any xa xo xc X _ hk.ra hXne hk.ca1 hk.ca2 (by omega)).mono ?_
     rintro e w5 ⟨⟨g5,c5,rfl,hg5,r5,f5,lc5,mc5⟩,b5⟩
     go_wp2_with fail
     refine (clone_any ya yo yc Y _ (hk.rb.later b5) hYne hk.cb1 hk.cb2 (by omega)).mono ?_
     rintro e w6 ⟨⟨g6,c6,rfl,hg6,r6,f6,lc6,mc6⟩,b6⟩
     have hl5:=f5.lt
     have hne56:g5≠g6:=by omega
     have hb6:Below w.heap.size w w6:=bk b6 (bk b5 hk.below)
     have hs5:=hk.below.size
     have hs6:=b5.size
     have hlim:=halves_loop w.heap.size w N g5 0 c5 g6 0 c6 X Y w6 (r5.later b6) r6 (by obtain ⟨cur,e,h⟩:=f5;exact ⟨cur,e,by rw [b6.block g5 hl5];exact h⟩) f6 hne56 (by omega) (by omega) hk.wa hk.wb hk.na (Nat.le_trans hk.nb hk.na) hN lc5 lc6 (by unfold maxLen at mc5;omega) (by unfold maxLen at mc6;omega) px py (hT.later hb6) hlt hb6
     rw [hk.gcd] at hlim
     clear hk r5 f5 r6 f6 b5 b6 hb6 mc5 mc6
     go_wp2_with fail
     refine hlim.mono ?_
     rintro e w7 ⟨v7,rfl,s7,b7⟩
     clear hlim
     go_wp2
     go_ret
     exact ⟨_,rfl,s7,b7⟩
   ·obtain rfl:Y=[]:=List.eq_nil_of_length_eq_zero (by omega)
    have hG:val X=(G:Int):=by
     rw [<- hk.gcd,show val ([]:List Int)=0 from rfl,Int.gcd_zero];exact (Int.natAbs_of_nonneg (zqg hk.wa)).symm
    have hs:=hk.sza
    have hbl:=hk.below
    rw [hG] at hs
    clear hk hG hgk
    go_wp2
    go_ret
    exact ⟨_,rfl,hs.mono (by omega),hbl⟩
 ·go_wp2_with fail
  go_loopg [0,1] (val B).toNat (fun k va vb wr=>∃ (xa xo xc ya yo yc:Nat) (X Y:List Int),va=.slice (some ⟨xa,xo,none⟩) X.length xc/\vb=.slice (some ⟨ya,yo,none⟩) Y.length yc/\k=(val Y).toNat/\CmK w G N xa xo xc ya yo yc X Y wr)
  case atStart=>exact ⟨_,_,_,_,_,_,_,_,rfl,rfl,rfl,hk0⟩
  case round =>
   obtain ⟨xa,xo,xc,ya,yo,yc,X,Y,rfl,rfl,hgk,hk⟩:=hrel
   clear hk0
   have hXN:=hk.na
   have hYN:=hk.nb
   by_cases hY:(0:Int)<Y.length
   ·obtain ⟨px,py⟩:=hk.pos (by omega)
    by_cases hlen:(Y.length:Int)<X.length
    ·go_wp2_with fail
     refine (divide_any (N:=N) (M:=N) _ hk.sza hk.szb py (by omega) (by omega)).mono ?_
     rintro e w5 ⟨v1,v2,q,r,rfl,-,s2,e2,r0,r1,b5⟩
     obtain ⟨gr,or,cr,R,rfl,hvR,R5⟩:=hk.step s2 e2 r1 b5
     have HLT:Hid ((val R).toNat<gk):=by show _<_;rw [hgk];omega
     clear hk s2 e2 r0 r1 b5 hgk hvR
     go_wp2
     go_roundg ((val R).toNat)
     case measure=>exact uh HLT
     case rel=>exact ⟨_,_,_,_,_,_,_,_,rfl,rfl,rfl,R5⟩
    ·have hXne:X≠[]:=List.length_pos_iff.1 (by omega)
     have hYne:Y≠[]:=List.length_pos_iff.1 (by omega)
     go_wp2_with fail
     refine (clone_any xa xo xc X _ hk.ra hXne hk.ca1 hk.ca2 (by omega)).mono ?_
     rintro e w5 ⟨⟨g5,c5,rfl,hg5,r5,f5,lc5,mc5⟩,b5⟩
     go_wp2_with fail
     refine (clone_any ya yo yc Y _ (hk.rb.later b5) hYne hk.cb1 hk.cb2 (by omega)).mono ?_
     rintro e w6 ⟨⟨g6,c6,rfl,hg6,r6,f6,lc6,mc6⟩,b6⟩
     have hl5:=f5.lt
     have hne56:g5≠g6:=by omega
     have hb6:Below w.heap.size w w6:=bk b6 (bk b5 hk.below)
     have hs5:=hk.below.size
     have hs6:=b5.size
     have hlim:=halves_loop w.heap.size w N g5 0 c5 g6 0 c6 X Y w6 (r5.later b6) r6 (by obtain ⟨cur,e,h⟩:=f5;exact ⟨cur,e,by rw [b6.block g5 hl5];exact h⟩) f6 hne56 (by omega) (by omega) hk.wa hk.wb hk.na (Nat.le_trans hk.nb hk.na) hN lc5 lc6 (by unfold maxLen at mc5;omega) (by unfold maxLen at mc6;omega) px py (hT.later hb6) hlt hb6
     rw [hk.gcd] at hlim
     clear hk r5 f5 r6 f6 b5 b6 hb6 mc5 mc6
     go_wp2_with fail
     refine hlim.mono ?_
     rintro e w7 ⟨v7,rfl,s7,b7⟩
     clear hlim
     go_wp2
     go_ret
     exact ⟨_,rfl,s7,b7⟩
   ·obtain rfl:Y=[]:=List.eq_nil_of_length_eq_zero (by omega)
    have hG:val X=(G:Int):=by
     rw [<- hk.gcd,show val ([]:List Int)=0 from rfl,Int.gcd_zero];exact (Int.natAbs_of_nonneg (zqg hk.wa)).symm
    have hs:=hk.sza
    have hbl:=hk.below
    rw [hG] at hs
    clear hk hG hgk
    go_wp2
    go_ret
    exact ⟨_,rfl,hs.mono (by omega),hbl⟩
theorem common_any {N:Nat}{va vb:Value}{x y:Int} (w:World) (hva:Sz N w va x) (hvb:Sz N w vb y) (hN:N<=300000) (hT:Tab64 w) :
 Calls Tryz.prog 186 #[va,vb] w fun e w'=>∃ v,e=.returned v/\Sz (2*N+1) w' v (Int.gcd x y)/\Below w.heap.size w w':=by
 obtain ⟨ga,oa,ca,A,rfl,a2,a3,rfl,a5,a6,a7,a8⟩:=hva
 obtain ⟨gb,ob,cb,B,rfl,b2,b3,rfl,b5,b6,b7,b8⟩:=hvb
 by_cases hl:B.length<=A.length
 ·exact common_core N ga oa ca gb ob cb _ A B w ⟨a8,b8,a2,b2,a3,b3,a5,hl,a6,b6,a7,b7,rfl,Below.refl _ _⟩ hN hT _ _ (Or.inl ⟨rfl,rfl⟩)
 ·exact common_core N gb ob cb ga oa ca _ B A w ⟨b8,a8,b2,a2,b3,a3,b5,by omega,b6,a6,b7,a7,by rw [Int.gcd_comm],Below.refl _ _⟩ hN hT _ _ (Or.inr ⟨by omega,rfl,rfl⟩)
theorem igcd_iabs (z o:Int):Int.gcd (iabs z) (iabs o)=Int.gcd z o:=by
 have h:∀ x,(iabs x).natAbs=x.natAbs:=by intro x;unfold iabs;split <;> omega
 rw [Int.gcd_eq_natAbs_gcd_natAbs,Int.gcd_eq_natAbs_gcd_natAbs,h,h]
theorem gcd_core {N:Nat} (x y:Int) (a1 a2:Option Addr) (n1 c1 n2 c2:Nat) (z o:Int) (w:World) (hz:Zr (N+1) w (.agg #[.int .i64 x,.slice a1 n1 c1]) z) (ho:Zr (N+1) w (.agg #[.int .i64 y,.slice a2 n2 c2]) o) (hlim:N<=200000) (hT:Tab64 w) :
 Calls Tryz.prog 135 #[.agg #[.int .i64 x,.slice a1 n1 c1],.agg #[.int .i64 y,.slice a2 n2 c2]] w fun e w'=>(∃ v,e=.returned v/\Zr (2*(N+1)+1) w' v (Int.gcd z o))/\Below w.heap.size w w':=by
 have HZ:=qh hz
 have HO:=qh ho
 have tok1:True:=trivial
 have HNX:Hid (a1=none->x=z /\ -9223372036854775808<=z/\z<=9223372036854775807):=by
  obtain ⟨x',a',n',c',hvv,_,h,_⟩:=hz.sgn
  obtain ⟨rfl,rfl,_⟩:x=x'/\a1=a'/\_:=by simpa using hvv
  exact fun e=>⟨(h e).1,(h e).2.2.2⟩
 have HNY:Hid (a2=none->y=o /\ -9223372036854775808<=o/\o<=9223372036854775807):=by
  obtain ⟨x',a',n',c',hvv,_,h,_⟩:=ho.sgn
  obtain ⟨rfl,rfl,_⟩:y=x'/\a2=a'/\_:=by simpa using hvv
  exact fun e=>⟨(h e).1,(h e).2.2.2⟩
 clear hz ho
 go_enter Tryz.func135,Tryz.ntmps135
 go_wp2_with fail
 obtain ⟨W1,hW1⟩:∃ W1,W1=((w.alloc (.cells #[.int .i64 x,.slice a1 n1 c1] 37)).alloc (.cells #[.int .i64 y,.slice a2 n2 c2] 37)).alloc (.cells #[.int .i64 0,.slice none 0 0] 37):=⟨_,rfl⟩
 have hst:=hstart w (.cells #[.int .i64 x,.slice a1 n1 c1] 37) (.cells #[.int .i64 y,.slice a2 n2 c2] 37)
 have hS1:Below w.heap.size w W1/\Box W1 (w.heap.size+2)/\W1.cell? ⟨w.heap.size,0,none⟩=some (.int .i64 x)/\W1.cell? ⟨w.heap.size,1,none⟩=some (.slice a1 n1 c1)/\W1.cell? ⟨w.heap.size+1,0,none⟩=some (.int .i64 y)/\W1.cell? ⟨w.heap.size+1,1,none⟩=some (.slice a2 n2 c2):=by
  rw [hW1];exact ⟨hst.1,hst.2,by simp [go_sem],by simp [go_sem],by simp [go_sem],by simp [go_sem]⟩
 rw [<- hW1]
 clear hW1 hst
 obtain ⟨hbW,hbox,hc0,hc1,hc2,hc3⟩:=hS1
 go_fit (zxb x y a1 a2 n1 c1 n2 c2 _)
 rintro e W5 ⟨rfl,hb0⟩
 obtain ⟨hbW,hbox,hc0,hc1,hc2,hc3⟩:=keep21 hb0 ⟨hbW,hbox,hc0,hc1,hc2,hc3⟩
 clear hb0
 cases hbn:(a1.isNone && a2.isNone)
 ·go_wp2_with fail
  go_region_held3 (fun w'=>Below w.heap.size w w'/\Box w' (w.heap.size+2)/\w'.cell? ⟨w.heap.size,0,none⟩=some (.int .i64 x)/\w'.cell? ⟨w.heap.size,1,none⟩=some (.slice a1 n1 c1)/\w'.cell? ⟨w.heap.size+1,0,none⟩=some (.int .i64 y)/\w'.cell? ⟨w.heap.size+1,1,none⟩=some (.slice a2 n2 c2))
   (first | exact ⟨hbW.drew,hbox,hc0,hc1,hc2,hc3⟩ | exact keep21 (by assumption) (by assumption) | exact store21 (by assumption) (by omega) (by omega) (by omega))
   (first | (go_at_call 143;have _t:=tok1;go_fit (zxw (z:=z) (N:=N) _ ((uh HZ).later (And.left (by assumption))));rintro e w2 ⟨sv1,rfl,hsv1,hb2⟩;clear tok1) | (go_at_call 143;go_fit (zxw (z:=o) (N:=N) _ ((uh HO).later (And.left (by assumption))));rintro e w3 ⟨sv2,rfl,hsv2,hb3⟩) | (go_at_call 186;go_fit (common_any (N:=N+1) _ (hsv1.later hb3) hsv2 (by omega) (hT.later (And.left (by assumption))));rintro e w6 ⟨sv6,rfl,hsv6,hb6⟩) | (go_at_call 164;go_fit (zxg 1 _ (Or.inl hsv6) (Or.inl rfl));rintro e w7 ⟨⟨v7,rfl,hZ7⟩,hb7⟩;obtain ⟨near7,a7,n7,c7,hv7⟩:=hZ7.shape;subst hv7;obtain ⟨x0,a0,n0,c0,g0,g1,gf⟩:=boxOf hb7 (by assumption)))
  go_wp2
  have hbx:Box w7 (w.heap.size+2):=(((Box.later (w:=W5.drew) hbox hb2).later hb3).later hb6).later hb7
  have hbl:Below w.heap.size w w7:=bk hb7 (bk hb6 (bk hb3 (bk hb2 hbW.drew)))
  obtain ⟨st0,st1⟩:=hbx.stored (.int .i64 near7) (.slice a7 n7 c7)
  exact bodyPost_ret (v:=.agg #[.int .i64 near7,.slice a7 n7 c7]) (by simp [results,Tryz.results135,go_sem,st0,st1]) rfl ⟨⟨_,rfl,(hZ7.stored hbx _ _).eq (by rw [igcd_iabs];omega)⟩,zqc hbl (by omega) _ _⟩
 ·simp at hbn
  obtain ⟨xz,z0,z1⟩:=uh HNX hbn.1
  obtain ⟨yo,o0,o1⟩:=uh HNY hbn.2
  subst xz yo
  clear hbn
  have hg1:(Int.gcd (iabs x) (iabs y):Int)<18446744073709551616:=by
   by_cases h0:iabs x=0
   ·rw [h0,Int.zero_gcd,Int.natAbs_of_nonneg (iabs_w64 o0 o1).1];exact (iabs_w64 o0 o1).2
   ·have h1:=(iabs_w64 z0 z1)
    have:=igcd_le (b:=iabs y) (show 0<iabs x by have:=h1.1;omega)
    have:=h1.2
    omega
  have hg0:0<=(Int.gcd (iabs x) (iabs y):Int):=by omega
  go_wp2_with fail
  go_region_held3 (fun w'=>Below w.heap.size w w'/\Box w' (w.heap.size+2)/\w'.cell? ⟨w.heap.size,0,none⟩=some (.int .i64 x)/\w'.cell? ⟨w.heap.size,1,none⟩=some (.slice a1 n1 c1)/\w'.cell? ⟨w.heap.size+1,0,none⟩=some (.int .i64 y)/\w'.cell? ⟨w.heap.size+1,1,none⟩=some (.slice a2 n2 c2))
   (first | exact ⟨hbW.drew,hbox,hc0,hc1,hc2,hc3⟩ | exact keep21 (by assumption) (by assumption) | exact ⟨zqj hbW _,hbox,hc0,hc1,hc2,hc3⟩ | exact store21 (by assumption) (by omega) (by omega) (by omega) | assumption)
   (first | (go_at_call 183;have _t:=tok1;go_fit (sizeOf_any x z0 z1 _);rintro e w2 ⟨rfl,rfl⟩;clear tok1) | (go_at_call 183;go_fit (sizeOf_any y o0 o1 _);rintro e w3 ⟨rfl,rfl⟩) | (go_at_call 185;go_fit (commonWord_full _ _ _ (iabs_w64 z0 z1) (iabs_w64 o0 o1) (hT.later (And.left (by assumption))));rintro e w6 ⟨rfl,q6,rfl⟩) | (go_at_call 184;go_fit (zkj 1 _ _ (Or.inl rfl) hg0 hg1);rintro e w7 ⟨⟨v7,rfl,hZ7⟩,hb7⟩;obtain ⟨near7,a7,n7,c7,hv7⟩:=hZ7.shape;subst hv7;obtain ⟨x0,a0,n0,c0,g0,g1,gf⟩:=boxOf hb7 (by assumption)))
  go_wp2
  have hbx:Box w7 (w.heap.size+2):=Box.later (w:=W5.drewN (1+q6)) hbox hb7
  have hbl:Below w.heap.size w w7:=bk hb7 (zqj hbW _)
  obtain ⟨st0,st1⟩:=hbx.stored (.int .i64 near7) (.slice a7 n7 c7)
  exact bodyPost_ret (v:=.agg #[.int .i64 near7,.slice a7 n7 c7]) (by simp [results,Tryz.results135,go_sem,st0,st1]) rfl ⟨⟨_,rfl,((hZ7.mono (by omega)).stored hbx _ _).eq (by rw [igcd_iabs];omega)⟩,zqc hbl (by omega) _ _⟩
theorem gcd_any {N:Nat}{v u:Value}{z o:Int} (w:World) (hz:Zr (N+1) w v z) (ho:Zr (N+1) w u o) (hlim:N<=200000) (hT:Tab64 w) :
 Calls Tryz.prog 135 #[v,u] w fun e w'=>(∃ v,e=.returned v/\Zr (2*(N+1)+1) w' v (Int.gcd z o))/\Below w.heap.size w w':=by
 obtain ⟨x,a1,n1,c1,rfl⟩:=hz.shape
 obtain ⟨y,a2,n2,c2,rfl⟩:=ho.shape
 exact gcd_core x y a1 a2 n1 c1 n2 c2 z o w hz ho hlim hT
end Go.Proofs.YtkdobjmhammhbaaGreatDoor
