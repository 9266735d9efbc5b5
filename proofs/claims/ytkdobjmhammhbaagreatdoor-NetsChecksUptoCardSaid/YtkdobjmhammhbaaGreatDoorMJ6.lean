import Derived.Test.YtkdobjmhammhbaaGreatDoorMEA
import Derived.Test.YtkdobjmhammhbaaGreatDoorMJ3
namespace Go.Proofs.YtkdobjmhammhbaaGreatDoor
open Go.RowKit
theorem coded3 (A:Nat→Addr) (w:World) (k:Nat) (hk:k<10) (hS:Sents w A) :
   Calls Tryz.prog 18 #[.iface 324 (.pointer (some (A k))),.int .i64 ((k:Int)+1)] w fun e w'=>e=.returned (.bool true)∧Below w.heap.size w w':=by
 go_enter Tryz.func18,Tryz.ntmps18
 go_wp2_with fail
 go_fit (code_any A _ k hk hS)
 rintro e w1 ⟨rfl,hb1⟩
 go_wp2
 go_ret
 exact ⟨rfl,hb1⟩
def errV (A:Nat→Addr) (e:Int):Value:=if e=2 then .iface 324 (.pointer (some (A 1))) else if e=4 then .iface 324 (.pointer (some (A 3))) else .nilIface
theorem isNode_any (a n:Int) (w:World):Calls Tryz.prog 55 #[.int .i64 a,.int .i64 n] w fun e w'=>e=.returned (.bool (decide (0≤a∧a<n)))∧w'=w:=by
 go_enter Tryz.func55,Tryz.ntmps55
 by_cases h:0≤a
 · by_cases h2:a<n
   · rw [decide_eq_true (show 0≤a∧a<n by omega)]
     go_wp2
     go_ret
     exact ⟨rfl,rfl⟩
   · rw [decide_eq_false (show ¬ (0≤a∧a<n) by omega)]
     go_wp2
     go_ret
     exact ⟨rfl,rfl⟩
 · rw [decide_eq_false (show ¬ (0≤a∧a<n) by omega)]
   go_wp2
   go_ret
   exact ⟨rfl,rfl⟩
theorem arc_new (w:World) (f t:Int) (y z:F8 Int):let w1:=w.alloc (.cells #[.int .i64 f,.int .i64 t,.int .i64 y.a,.slice y.b y.c y.d,.int .i64 y.e,.slice y.f y.g y.h,.int .i64 z.a,.slice z.b z.c z.d,.int .i64 z.e,.slice z.f z.g z.h] 93)
   w1.cell? ⟨w.heap.size,0,none⟩=some (.int .i64 f)∧w1.cell? ⟨w.heap.size,1,none⟩=some (.int .i64 t)∧R4 w1 w.heap.size 2 y∧R4 w1 w.heap.size 6 z:=by
 intro w1
 have h:∀ k u,(#[Value.int .i64 f,.int .i64 t,.int .i64 y.a,.slice y.b y.c y.d,.int .i64 y.e,.slice y.f y.g y.h,.int .i64 z.a,.slice z.b z.c z.d,.int .i64 z.e,.slice z.f z.g z.h])[k]? = some u→w1.cell? ⟨w.heap.size,k,none⟩=some u:=fun k u hu=>by show (World.alloc _ _).cell? _=_;rw [nc rfl];exact hu
 exact ⟨h 0 _ rfl,h 1 _ rfl,⟨h 2 _ rfl,h 3 _ rfl,h 4 _ rfl,h 5 _ rfl⟩,⟨h 6 _ rfl,h 7 _ rfl,h 8 _ rfl,h 9 _ rfl⟩⟩
set_option maxHeartbeats 8000000 in
set_option maxRecDepth 8000 in
theorem nvalid_any {A:Nat→Addr}{K:Nat}{D n:Int}{v:Value}{L:List (Int×Int×Int×Int)} (w:World) (hS:Sents w A) (D0:0<D) (h:Rows 10 (ArE (RsE K D)) w v L) :
   Calls Tryz.prog 54 #[.int .i64 n,v] w fun e w'=>e=.returned (errV A (netV n L))∧Below w.heap.size w w':=by
 obtain ⟨sa,sc,rfl⟩:=h.shape
 have hsm:=h.small
 unfold maxLen at hsm
 have HR:=qh h
 have HD:=qh D0
 have HS:=qh hS
 have e2:=hS.h1
 have e4:=hS.h3
 clear h D0 hS
 go_enter Tryz.func54,Tryz.ntmps54
 by_cases h1:n<1
 · go_wp2
   go_ret
   exact ⟨by rw [zjg (Or.inl h1)];rfl,Below.refl _ _⟩
 by_cases h2:60<n
 · go_wp2
   go_ret
   exact ⟨by rw [zjg (Or.inr (Or.inl h2))];rfl,Below.refl _ _⟩
 by_cases h3:(300:Int)<(L.length:Int)
 · go_wp2
   go_ret
   exact ⟨by rw [zjg (Or.inr (Or.inr (by omega)))];rfl,Below.refl _ _⟩
 have HN:=qh (show ¬ (n<1∨60<n∨300<L.length) by omega)
 clear e2 e4
 go_wp2_with fail
 go_loopg [21] L.length (fun gk iv wr=>∃ i:Nat,i≤L.length∧gk=L.length - i∧iv=.int .i64 (i:Int)∧Hid (∀ y ∈ L.take i,¬ badArc n y)∧Hid (Below w.heap.size w wr))
 case atStart=>exact ⟨0,by omega,by omega,rfl,qh (by simp),qh (Below.refl _ _)⟩
 case round =>
   obtain ⟨i,hi,hgk,rfl,HA,HB⟩:=hrel
   by_cases hil:i<L.length
   · obtain ⟨⟨fr,to',cp,co⟩,hx⟩:∃ x,L[i]? = some x:=⟨L[i],by simp [hil]⟩
     obtain ⟨b,o,y,z,rfl,⟨c0,c1,c2,c3⟩,⟨hy,_⟩,_⟩:=(uh HR).rarc hx
     simp only at c0 c1 hy
     have c0:=ck (uh HB) c0
     have c1:=ck (uh HB) c1
     obtain ⟨d0,d1,d2,d3⟩:=c2.keep (uh HB)
     obtain ⟨f0,f1,f2,f3⟩:=c3.keep (uh HB)
     have HY:=qh (hy.later (uh HB))
     have HX:=qh hx
     have hil':(i:Int)<(L.length:Int):=by omega
     have him:(i:Int)+1≤1000:=by omega
     obtain ⟨V,hV⟩:∃ V,V=wr.alloc (.cells #[.int .i64 fr,.int .i64 to',.int .i64 y.a,.slice y.b y.c y.d,.int .i64 y.e,.slice y.f y.g y.h,.int .i64 z.a,.slice z.b z.c z.d,.int .i64 z.e,.slice z.f z.g z.h] 93):=⟨_,rfl⟩
     obtain ⟨q,hq⟩:∃ q,q=wr.heap.size:=⟨_,rfl⟩
     have hn:=arc_new wr fr to' y z
     have kn:=zqa wr (.cells #[.int .i64 fr,.int .i64 to',.int .i64 y.a,.slice y.b y.c y.d,.int .i64 y.e,.slice y.f y.g y.h,.int .i64 z.a,.slice z.b z.c z.d,.int .i64 z.e,.slice z.f z.g z.h] 93)
     simp only [← hV,← hq] at hn
     rw [← hV] at kn
     have BB:=qh (bk kn (uh HB))
     have HY:=qh ((uh HY).later kn)
     clear hx hy c2 c3 kn
     go_upto_region 6 with fail
     rw [← hV,← hq]
     obtain ⟨m0,m1,⟨m2,m3,m4,m5⟩,_⟩:=hn
     clear hV hq c0 c1 d0 d1 d2 d3 f0 f1 f2 f3
     have HM:=qh (List.mem_of_getElem? (uh HX))
     have e4:=((uh HS).later (uh BB)).h3
     by_cases g1:0≤fr∧fr<n
     rotate_left
     · have FIN:=qh (netV_bad (n:=n) (uh HN) (uh HM) (by unfold badArc;simp only;omega))
       go_wp2_with fail
       go_fit (isNode_any _ _ _)
       rintro e W1 ⟨rfl,rfl⟩
       rw [decide_eq_false g1]
       go_wp2
       go_ret
       exact ⟨by rw [uh FIN];rfl,uh BB⟩
     by_cases g2:0≤to'∧to'<n
     rotate_left
     · have FIN:=qh (netV_bad (n:=n) (uh HN) (uh HM) (by unfold badArc;simp only;omega))
       go_wp2_with fail
       go_fit (isNode_any _ _ _)
       rintro e W1 ⟨rfl,rfl⟩
       rw [decide_eq_true g1]
       go_wp2_with fail
       go_fit (isNode_any _ _ _)
       rintro e W1 ⟨rfl,rfl⟩
       rw [decide_eq_false g2]
       go_wp2
       go_ret
       exact ⟨by rw [uh FIN];rfl,uh BB⟩
     go_wp2_with fail
     go_fit (isNode_any _ _ _)
     rintro e W1 ⟨rfl,rfl⟩
     rw [decide_eq_true g1]
     go_wp2_with fail
     go_fit (isNode_any _ _ _)
     rintro e W1 ⟨rfl,rfl⟩
     rw [decide_eq_true g2]
     go_wp2_with fail
     go_fit (rs_sign _ (uh HD) (uh HY))
     rintro e W1 ⟨rfl,B1⟩
     have BB:=qh (bk B1 (uh BB))
     have e4:=((uh HS).later (uh BB)).h3
     clear m0 m1 m2 m3 m4 m5 B1
     obtain ⟨sg,hsg⟩:∃ s,s=sgn cp:=⟨_,rfl⟩
     have hs:=@sgn_lt cp
     rw [← hsg] at hs ⊢
     by_cases g3:sg<0
     · have FIN:=qh (netV_bad (n:=n) (uh HN) (uh HM) (by unfold badArc;simp only;omega))
       clear hs hsg
       go_wp2
       go_ret
       exact ⟨by rw [uh FIN];rfl,uh BB⟩
     · have HG:=qh (show ¬ badArc n (fr,to',cp,co) by unfold badArc;simp only;omega)
       clear hs hsg
       go_wp2
       go_roundg (L.length - (i+1))
       case measure=>omega
       case rel=>exact ⟨i+1,by omega,rfl,by go_num,qh (all_take (uh HA) (uh HX) (uh HG)),BB⟩
   · obtain rfl:i=L.length:=by omega
     clear hil hi hgk
     go_wp2
     go_ret
     refine ⟨?_,uh HB⟩
     have:=uh HA
     rw [List.take_length] at this
     rw [netV_good (uh HN) this]
     rfl
def suitV (n:Int) (L:List (Int×Int×Int×Int)) (S:List Int):Int:=if netV n L=0 then (if (S.length:Int)=n then 0 else 4) else netV n L
theorem netV_codes (n:Int) (L:List (Int×Int×Int×Int)):netV n L=0∨netV n L=2∨netV n L=4:=by
 unfold netV
 split
 · exact Or.inr (Or.inl rfl)
 · split
   · exact Or.inr (Or.inr rfl)
   · exact Or.inl rfl
theorem suits_any {A:Nat→Addr}{K:Nat}{D n:Int}{v sv:Value}{L:List (Int×Int×Int×Int)}{S:List Int} (w:World) (hS:Sents w A) (D0:0<D) (h:Rows 10 (ArE (RsE K D)) w v L) (hs:Rows 4 (RsE K D) w sv S) :
   Calls Tryz.prog 30 #[.int .i64 n,v,sv] w fun e w'=>e=.returned (errV A (suitV n L S))∧Below w.heap.size w w':=by
 obtain ⟨sa,sc,rfl⟩:=hs.shape
 have HS:=qh hS
 have HR:=qh h
 have hsm:=hs.small
 unfold maxLen at hsm
 have HD:=qh D0
 clear hS h D0 hs
 go_enter Tryz.func30,Tryz.ntmps30
 go_wp2_with fail
 go_fit (nvalid_any _ (uh HS) (uh HD) (uh HR))
 rintro e W1 ⟨rfl,B1⟩
 have BB:=qh B1
 have e4:=((uh HS).later B1).h3
 clear B1
 rcases netV_codes n L with h0 | h0 | h0
 · rw [h0,show errV A 0=.nilIface from rfl]
   by_cases hn:(S.length:Int)=n
   · have hd:((S.length:Int) != n)=false:=by simp [hn]
     have HF:=qh (show suitV n L S=0 by unfold suitV;rw [if_pos h0,if_pos hn])
     go_wp2
     go_ret
     exact ⟨by rw [uh HF];rfl,uh BB⟩
   · have hd:((S.length:Int) != n)=true:=by simp [hn]
     have HF:=qh (show suitV n L S=4 by unfold suitV;rw [if_pos h0,if_neg hn])
     go_wp2
     go_ret
     exact ⟨by rw [uh HF];rfl,uh BB⟩
 · rw [h0,show errV A 2=.iface 324 (.pointer (some (A 1))) from rfl]
   have HF:=qh (show suitV n L S=2 by unfold suitV;rw [h0,if_neg (by decide)])
   go_wp2
   go_ret
   exact ⟨by rw [uh HF];rfl,uh BB⟩
 · rw [h0,show errV A 4=.iface 324 (.pointer (some (A 3))) from rfl]
   have HF:=qh (show suitV n L S=4 by unfold suitV;rw [h0,if_neg (by decide)])
   go_wp2
   go_ret
   exact ⟨by rw [uh HF];rfl,uh BB⟩
theorem sum_bd {α:Type}{f:α → Int}{B:Int}{L:List α}{k:Nat} (h:∀ x ∈ L,-B≤f x∧f x≤B) (hB:0≤B) (hk:L.length≤k) (i:Nat):-(k*B)≤((L.take i).map f).sum∧((L.take i).map f).sum≤k*B:=by
 have h1:=sum_ins hB (L.take i) (fun x hx=>h x (List.mem_of_mem_take hx))
 have h2:((L.take i).length:Int)*B≤(k:Int)*B:=Int.mul_le_mul_of_nonneg_right (by rw [List.length_take];omega) hB
 omega
set_option maxHeartbeats 16000000 in
set_option maxRecDepth 8000 in
theorem tooMuch_any {K N n:Nat}{T D B:Int}{v kv sv:Value}{L:List (Int×Int×Int×Int)}{S:List Int}{side:List Bool} (w:World) (hBg:Big K N T) (hD:Dn T D) (hT64:Tab64 w) (h:Rows 10 (ArE (RsE K D)) w v L) (hk:Rows 4 (RsE K D) w kv S) (hs:Rows 1 BE w sv side) (hS:S.length=n) (hsn:side.length=n) (hn:∀ x ∈ L,¬ badArc n x) (hl:L.length≤300) (h60:n≤60) (hc:∀ x ∈ L,-B≤x.2.2.1∧x.2.2.1≤B) (hK:∀ s ∈ S,-B≤s∧s≤B) (hB:0≤B) (hT:1000*B<T) :
   Calls Tryz.prog 31 #[v,kv,sv] w fun e w'=>YesP e (thru side L<hsum side S)∧Below w.heap.size w w':=by
 obtain ⟨la,lc,rfl⟩:=h.shape
 obtain ⟨ka,kc,rfl⟩:=hk.shape
 obtain ⟨sa,sc,rfl⟩:=hs.shape
 rw [hS] at hk ⊢
 rw [hsn] at hs ⊢
 have hb1:∀ i,-(60*B)≤(((side.zip S).take i).map fun p=>if p.1=true then p.2 else 0).sum∧(((side.zip S).take i).map fun p=>if p.1=true then p.2 else 0).sum≤60*B:=sum_bd (k:=60) (fun p hp=>by have:=hK p.2 (List.of_mem_zip hp).2;split <;> omega) hB (by rw [List.length_zip];omega)
 have hb2:∀ i,-(300*B)≤((L.take i).map fun x=>if flagAt side x.1=true∧flagAt side x.2.1=false then x.2.2.1 else 0).sum∧((L.take i).map fun x=>if flagAt side x.1=true∧flagAt side x.2.1=false then x.2.2.1 else 0).sum≤300*B:=sum_bd (k:=300) (fun x hx=>by have:=hc x hx;split <;> omega) hB hl
 have hsm:(((side.zip S).take n).map fun p=>if p.1=true then p.2 else 0).sum=hsum side S:=by rw [List.take_of_length_le (by rw [List.length_zip];omega)];rfl
 have HI:=qh (show (∀ i,Ins T (((side.zip S).take i).map fun p=>if p.1=true then p.2 else 0).sum)∧∀ i,Ins T (hsum side S - ((L.take i).map fun x=>if flagAt side x.1=true∧flagAt side x.2.1=false then x.2.2.1 else 0).sum) from ⟨fun i=>by have:=hb1 i;unfold Ins;omega,fun i=>by have:=hb1 n;rw [hsm] at this;have:=hb2 i;unfold Ins;omega⟩)
 have HSM:=qh hsm
 have HG:=qh (And.intro hBg (And.intro hD hT64))
 have HR:=qh h
 have HK:=qh hk
 have HS:=qh hs
 have HNB:=qh hn
 obtain ⟨m,hm⟩:∃ m,m=L.length:=⟨_,rfl⟩
 rw [← hm] at HR hl ⊢
 have HM:=qh (And.intro hm (And.intro hS hsn))
 clear h hk hs hn hc hK hBg hD hT64 hT hb1 hb2 hsm hm hS hsn
 have kn:=zqa w (.cells #[.int .i64 0,.slice none 0 0,.int .i64 0,.slice none 0 0] 39)
 have hx0:=RX.new (x:=⟨0,none,0,0,0,none,0,0⟩) (rs_nought K D w)
 obtain ⟨g,hg⟩:∃ g,g=w.heap.size:=⟨_,rfl⟩
 obtain ⟨W0,hW0⟩:∃ W,W=w.alloc (.cells #[.int .i64 0,.slice none 0 0,.int .i64 0,.slice none 0 0] 39):=⟨_,rfl⟩
 have HX0:Hid (RX K D W0 g ⟨0,none,0,0,0,none,0,0⟩ 0):=qh (by rw [hW0,hg];exact hx0)
 rw [← hW0] at kn
 have HB0:=qh kn
 have HGW:=qh (show w.heap.size≤g by omega)
 go_enter Tryz.func31,Tryz.ntmps31
 go_upto_region 3 with fail
 rw [← hW0,← hg]
 clear hW0 hg kn hx0
 go_loopg [14] n (fun gk iv wr=>∃ (i:Nat) (y:F8 Int),i≤n∧gk=n - i∧iv=.int .i64 (i:Int)∧Hid (Below w.heap.size w wr)∧Hid (RX K D wr g y (((side.zip S).take i).map fun p=>if p.1=true then p.2 else 0).sum))
 case atStart=>exact ⟨0,_,by omega,by omega,rfl,HB0,qh (by simpa using uh HX0)⟩
 case round =>
   clear HX0 HB0
   obtain ⟨i,y,hi,hgk,rfl,HB,HX⟩:=hrel
   by_cases hil:i<n
   · obtain ⟨b,hb⟩:∃ b,side[i]? = some b:=⟨side[i]'(by have:=uh HM;omega),by simp⟩
     obtain ⟨s,hs⟩:∃ s,S[i]? = some s:=⟨S[i]'(by have:=uh HM;omega),by simp⟩
     obtain ⟨sb,so,rfl,f0⟩:=(uh HS).flag hb
     obtain ⟨kb,ko,u,rfl,d,hu⟩:=(uh HK).rnum hs
     have f0:=ck (uh HB) f0
     obtain ⟨d0,d1,d2,d3⟩:=d.keep (uh HB)
     have HU:=qh (hu.later (uh HB))
     have HN:=qh (sum_next (f:=fun p:Bool×Int=>if p.1=true then p.2 else 0) (zip_at hb hs))
     simp only at HN
     have kn:=zqa wr (.cells #[.int .i64 u.a,.slice u.b u.c u.d,.int .i64 u.e,.slice u.f u.g u.h] 39)
     have hnx:=RX.new (uh HU)
     obtain ⟨q,hq⟩:∃ q,q=wr.heap.size:=⟨_,rfl⟩
     obtain ⟨V,hV⟩:∃ V,V=wr.alloc (.cells #[.int .i64 u.a,.slice u.b u.c u.d,.int .i64 u.e,.slice u.f u.g u.h] 39):=⟨_,rfl⟩
     rw [← hV] at kn hnx
     rw [← hq] at hnx
     have HBV:=qh (bk kn (uh HB))
     have HXV:=qh ((uh HX).keep kn)
     have HUV:=qh hnx
     have f0:=ck kn f0
     have hil':(i:Int)<(n:Int):=by omega
     have him:(i:Int)+1≤1000:=by omega
     clear hb hs d hu kn hnx
     go_upto_region 5 with fail
     rw [← hV,← hq]
     clear hV hq HB HX HU
     rcases b with _ | _
     · go_wp2
       go_roundg (n - (i+1))
       case measure=>omega
       case rel=>exact ⟨i+1,y,by omega,rfl,by go_num,HBV,qh (by rw [uh HN];simpa using uh HXV)⟩
     simp only [if_true] at HN
     have x0:=(uh HXV).c0
     have x1:=(uh HXV).c1
     have x2:=(uh HXV).c2
     have x3:=(uh HXV).c3
     have y0:=(uh HUV).c0
     have y1:=(uh HUV).c1
     have y2:=(uh HUV).c2
     have y3:=(uh HUV).c3
     go_wp2_with fail
     go_fit (rs_add _ (uh HG).1 (uh HG).2.1 (uh HXV).q (uh HUV).q (by rw [← uh HN];exact (uh HI).1 _) ((uh HG).2.2.later (uh HBV)))
     rintro e W2 ⟨⟨v2,rfl,hv2⟩,B2⟩
     obtain ⟨z2,rfl⟩:=hv2.sh
     have HBV:=qh (bk B2 (uh HBV))
     have HXV:=qh ((uh HXV).keep B2)
     obtain ⟨⟨j0,h0⟩,⟨j1,j2,j3,h1⟩,⟨j4,h2⟩,⟨j5,j6,j7,h3⟩,gf⟩:=(uh HXV).box.cells
     have hlt:=(uh HXV).box.lt
     clear x0 x1 x2 x3 y0 y1 y2 y3 B2 f0 d0 d1 d2 d3
     go_wp2
     go_roundg (n - (i+1))
     case measure=>omega
     case rel=>exact ⟨i+1,z2,by omega,rfl,by go_num,qh (zqd (uh HBV) (uh HGW) _ _ _ _),qh (by rw [uh HN];exact RX.put (uh HXV).box hv2)⟩
   · obtain rfl:n=i:=by omega
     clear hil hi hgk
     rw [uh HSM] at HX
     go_upto_region 9 with fail
     go_loopg [29] m (fun gk iv w2=>∃ (i:Nat) (y:F8 Int),i≤m∧gk=m - i∧iv=.int .i64 (i:Int)∧Hid (Below w.heap.size w w2)∧Hid (RX K D w2 g y (hsum side S - ((L.take i).map fun x=>if flagAt side x.1=true∧flagAt side x.2.1=false then x.2.2.1 else 0).sum)))
     case atStart=>exact ⟨0,y,by omega,by omega,rfl,HB,qh (by simpa using uh HX)⟩
     case round =>
       clear HX HB
       obtain ⟨i,y,hi,hgk,rfl,HB,HX⟩:=hrel
       by_cases hil:i<m
       · obtain ⟨⟨fr,to',cp,co⟩,hx⟩:∃ x,L[i]? = some x:=⟨L[i]'(by have:=uh HM;omega),by simp⟩
         have hg:=uh HNB _ (List.mem_of_getElem? hx)
         obtain ⟨q1,q2,q3,q4,q5⟩:0≤fr∧fr<n∧0≤to'∧to'<n∧0≤cp:=by unfold badArc at hg;simp only at hg;omega
         obtain ⟨f,rfl⟩:∃ f:Nat,fr=(f:Int):=⟨fr.toNat,by omega⟩
         obtain ⟨t,rfl⟩:∃ f:Nat,to'=(f:Int):=⟨to'.toNat,by omega⟩
         obtain ⟨b1,hb1⟩:∃ b,side[f]? = some b:=⟨side[f]'(by have:=uh HM;omega),by simp⟩
         obtain ⟨b2,hb2⟩:∃ b,side[t]? = some b:=⟨side[t]'(by have:=uh HM;omega),by simp⟩
         obtain ⟨b,o,u,z,rfl,⟨c0,c1,c2,c3⟩,⟨hu,_⟩,_⟩:=(uh HR).rarc hx
         obtain ⟨tb,tq,rfl,f0⟩:=(uh HS).flag hb1
         obtain ⟨tb',tq',e,f1⟩:=(uh HS).flag hb2
         obtain ⟨rfl,rfl⟩:tb=tb'∧tq=tq':=by simpa using e
         simp only at c0 c1 hu
         have c0:=ck (uh HB) c0
         have c1:=ck (uh HB) c1
         obtain ⟨d0,d1,d2,d3⟩:=c2.keep (uh HB)
         obtain ⟨e0,e1,e2,e3⟩:=c3.keep (uh HB)
         have hF:flagAt side ((f:Int))=b1:=by simp [flagAt,List.getD,hb1]
         have hF2:flagAt side ((t:Int))=b2:=by simp [flagAt,List.getD,hb2]
         have HN:=qh (sum_next (f:=fun x:Int×Int×Int×Int=>if flagAt side x.1=true∧flagAt side x.2.1=false then x.2.2.1 else 0) hx)
         simp only [hF,hF2] at HN
         have hil':(i:Int)<(m:Int):=by omega
         have him:(i:Int)+1≤1000:=by omega
         obtain ⟨V,hV⟩:∃ V,V=wr.alloc (.cells #[.int .i64 (f:Int),.int .i64 (t:Int),.int .i64 u.a,.slice u.b u.c u.d,.int .i64 u.e,.slice u.f u.g u.h,.int .i64 z.a,.slice z.b z.c z.d,.int .i64 z.e,.slice z.f z.g z.h] 93):=⟨_,rfl⟩
         obtain ⟨q,hq⟩:∃ q,q=wr.heap.size:=⟨_,rfl⟩
         have hn:=arc_new wr f t u z
         have kn:=zqa wr (.cells #[.int .i64 (f:Int),.int .i64 (t:Int),.int .i64 u.a,.slice u.b u.c u.d,.int .i64 u.e,.slice u.f u.g u.h,.int .i64 z.a,.slice z.b z.c z.d,.int .i64 z.e,.slice z.f z.g z.h] 93)
         simp only [← hV,← hq] at hn
         rw [← hV] at kn
         have f0:=ck kn (ck (uh HB) f0)
         have f1:=ck kn (ck (uh HB) f1)
         have HU:=qh ((hu.later (uh HB)).later kn)
         have HBV:=qh (bk kn (uh HB))
         have HXV:=qh ((uh HX).keep kn)
         clear hx hg hb1 hb2 e hF hF2 hu c2 c3 kn
         go_upto_region 11 with fail
         rw [← hV,← hq]
         obtain ⟨m0,m1,⟨m2,m3,m4,m5⟩,_⟩:=hn
         clear hV hq c0 c1 d0 d1 d2 d3 e0 e1 e2 e3 HB HX
         rcases b1 with _ | _
         · go_wp2
           go_roundg (m - (i+1))
           case measure=>omega
           case rel=>exact ⟨i+1,y,by omega,rfl,by go_num,HBV,qh (by rw [uh HN];simpa using uh HXV)⟩
         rcases b2 with _ | _
         rotate_left
         · go_wp2
           go_roundg (m - (i+1))
           case measure=>omega
           case rel=>exact ⟨i+1,y,by omega,rfl,by go_num,HBV,qh (by rw [uh HN];simpa using uh HXV)⟩
         simp only [and_self,if_true] at HN
         have x0:=(uh HXV).c0
         have x1:=(uh HXV).c1
         have x2:=(uh HXV).c2
         have x3:=(uh HXV).c3
         have HE:=qh (show hsum side S - ((L.take (i+1)).map fun x=>if flagAt side x.1=true∧flagAt side x.2.1=false then x.2.2.1 else 0).sum=hsum side S - ((L.take i).map fun x=>if flagAt side x.1=true∧flagAt side x.2.1=false then x.2.2.1 else 0).sum - cp by rw [uh HN];omega)
         go_wp2_with fail
         go_fit (rs_sub _ (uh HG).1 (uh HG).2.1 (uh HXV).q (uh HU) (by rw [← uh HE];exact (uh HI).2 _) ((uh HG).2.2.later (uh HBV)))
         rintro e W2 ⟨⟨v2,rfl,hv2⟩,B2⟩
         obtain ⟨z2,rfl⟩:=hv2.sh
         have HBV:=qh (bk B2 (uh HBV))
         have HXV:=qh ((uh HXV).keep B2)
         obtain ⟨⟨j0,h0⟩,⟨j1,j2,j3,h1⟩,⟨j4,h2⟩,⟨j5,j6,j7,h3⟩,gf⟩:=(uh HXV).box.cells
         have hlt:=(uh HXV).box.lt
         clear x0 x1 x2 x3 m0 m1 m2 m3 m4 m5 B2 f0 f1
         go_wp2
         go_roundg (m - (i+1))
         case measure=>omega
         case rel=>exact ⟨i+1,z2,by omega,rfl,by go_num,qh (zqd (uh HBV) (uh HGW) _ _ _ _),qh (by rw [uh HE];exact RX.put (uh HXV).box hv2)⟩
       · obtain rfl:m=i:=by omega
         clear hil hi hgk
         have hth:((L.take m).map fun x=>if flagAt side x.1=true∧flagAt side x.2.1=false then x.2.2.1 else 0).sum=thru side L:=by rw [(uh HM).1,List.take_length];rfl
         rw [hth] at HX
         have x0:=(uh HX).c0
         have x1:=(uh HX).c1
         have x2:=(uh HX).c2
         have x3:=(uh HX).c3
         clear hth
         go_wp2_with fail
         go_fit (rs_sign _ (uh HG).2.1.1 (uh HX).q)
         rintro e W3 ⟨rfl,B3⟩
         have HB:=qh (bk B3 (uh HB))
         obtain ⟨sg,hsg⟩:∃ s,s=sgn (hsum side S - thru side L):=⟨_,rfl⟩
         rw [← hsg]
         have HSG:=qh hsg
         clear hsg B3 x0 x1 x2 x3
         go_wp2
         go_ret
         refine ⟨YesP.of ?_,uh HB⟩
         have h1:=@sgn_gt (hsum side S - thru side L)
         rw [← uh HSG] at h1
         simp only [decide_eq_true_eq]
         rw [h1]
         omega
set_option maxHeartbeats 16000000 in
set_option maxRecDepth 8000 in
theorem bill_any {K N:Nat}{T D B:Int}{v fv:Value}{L:List (Int×Int×Int×Int)}{S F P:List Int} (w:World) (hBg:Big K N T) (hDD:Dn T (D*D)) (hT64:Tab64 w) (h:Rows 10 (ArE (RsE K D)) w v L) (hf:Rows 4 (RsE K D) w fv F) (hlen:F.length=L.length) (hl:L.length≤300) (hb:ShB T B L S F P) :
   Calls Tryz.prog 33 #[v,fv] w fun e w'=>(∃ v,e=.returned v∧Rs K (D*D) w' v (billOf L F))∧Below w.heap.size w w':=by
 obtain ⟨la,lc,rfl⟩:=h.shape
 obtain ⟨fa,fc,rfl⟩:=hf.shape
 rw [hlen] at hf ⊢
 have HI:=qh (hb.sum hl)
 have HBD:=qh hb
 have HG:=qh (And.intro hBg (And.intro hDD hT64))
 have HR:=qh h
 have HF:=qh hf
 obtain ⟨m,hm⟩:∃ m,m=L.length:=⟨_,rfl⟩
 rw [← hm] at HR HF hl ⊢
 have HM:=qh (And.intro hm hlen)
 clear h hf hBg hDD hT64 hm hlen hb
 have k1:=zqa w (.cells #[.int .i64 0,.slice none 0 0,.int .i64 0,.slice none 0 0] 39)
 have k2:=zqa (w.alloc (.cells #[.int .i64 0,.slice none 0 0,.int .i64 0,.slice none 0 0] 39)) (.cells #[.int .i64 0,.slice none 0 0,.int .i64 0,.slice none 0 0] 39)
 have r1:=(zjb w 0 none 0 0 0 none 0 0).later k2
 have r2:=RX.new (x:=⟨0,none,0,0,0,none,0,0⟩) (rs_nought K (D*D) (w.alloc (.cells #[.int .i64 0,.slice none 0 0,.int .i64 0,.slice none 0 0] 39)))
 rw [show (w.alloc (.cells #[.int .i64 0,.slice none 0 0,.int .i64 0,.slice none 0 0] 39)).heap.size=w.heap.size+1 by simp] at r2
 obtain ⟨g,hg⟩:∃ g,g=w.heap.size:=⟨_,rfl⟩
 obtain ⟨W0,hW0⟩:∃ W,W=(w.alloc (.cells #[.int .i64 0,.slice none 0 0,.int .i64 0,.slice none 0 0] 39)).alloc (.cells #[.int .i64 0,.slice none 0 0,.int .i64 0,.slice none 0 0] 39):=⟨_,rfl⟩
 have HX0:Hid (RX K (D*D) W0 (g+1) ⟨0,none,0,0,0,none,0,0⟩ 0):=qh (by rw [hW0,hg];exact r2)
 have HQ0:Hid (RBox W0 g):=qh (by rw [hW0,hg];exact r1)
 have HB0:=qh (bk k2 k1)
 rw [← hW0] at HB0
 have HGW:=qh (show w.heap.size≤g by omega)
 go_enter Tryz.func33,Tryz.ntmps33
 go_upto_region 3 with fail
 rw [← hW0,← hg]
 clear hW0 hg k1 k2 r1 r2
 go_loopg [10] m (fun gk iv wr=>∃ (i:Nat) (y:F8 Int),i≤m∧gk=m - i∧iv=.int .i64 (i:Int)∧Hid (Below w.heap.size w wr)∧Hid (RBox wr g)∧Hid (RX K (D*D) wr (g+1) y (((L.zip F).take i).map fun p=>p.1.2.2.2*p.2).sum))
 case atStart=>exact ⟨0,_,by omega,by omega,rfl,HB0,HQ0,qh (by simpa using uh HX0)⟩
 case round =>
   clear HX0 HB0 HQ0
   obtain ⟨i,y,hi,hgk,rfl,HB,HQ,HX⟩:=hrel
   by_cases hil:i<m
   · obtain ⟨⟨fr,to',cp,co⟩,hx⟩:∃ x,L[i]? = some x:=⟨L[i]'(by have:=uh HM;omega),by simp⟩
     obtain ⟨f,hf⟩:∃ x,F[i]? = some x:=⟨F[i]'(by have:=uh HM;omega),by simp⟩
     obtain ⟨b,o,u,z,rfl,⟨c0,c1,c2,c3⟩,⟨_,hz⟩,_⟩:=(uh HR).rarc hx
     obtain ⟨fb,fo,u3,rfl,d,hfq⟩:=(uh HF).rnum hf
     simp only at c0 c1 hz
     have c0:=ck (uh HB) c0
     have c1:=ck (uh HB) c1
     obtain ⟨d0,d1,d2,d3⟩:=c2.keep (uh HB)
     obtain ⟨e0,e1,e2,e3⟩:=c3.keep (uh HB)
     have HN:=qh (sum_next (f:=fun p:(Int×Int×Int×Int)×Int=>p.1.2.2.2*p.2) (zip_at hx hf))
     simp only at HN
     have hpr:=(uh HBD).prod (List.mem_of_getElem? hx) (List.mem_of_getElem? hf)
     simp only at hpr
     have HI1:=qh (show Ins T (co*f) by have:=(uh HBD).u;have:=Int.mul_nonneg (uh HBD).b (uh HBD).b;unfold Ins;omega)
     have hil':(i:Int)<(m:Int):=by omega
     have him:(i:Int)+1≤1000:=by omega
     obtain ⟨V,hV⟩:∃ V,V=wr.alloc (.cells #[.int .i64 fr,.int .i64 to',.int .i64 u.a,.slice u.b u.c u.d,.int .i64 u.e,.slice u.f u.g u.h,.int .i64 z.a,.slice z.b z.c z.d,.int .i64 z.e,.slice z.f z.g z.h] 93):=⟨_,rfl⟩
     obtain ⟨q,hq⟩:∃ q,q=wr.heap.size:=⟨_,rfl⟩
     have hn:=arc_new wr fr to' u z
     have kn:=zqa wr (.cells #[.int .i64 fr,.int .i64 to',.int .i64 u.a,.slice u.b u.c u.d,.int .i64 u.e,.slice u.f u.g u.h,.int .i64 z.a,.slice z.b z.c z.d,.int .i64 z.e,.slice z.f z.g z.h] 93)
     simp only [← hV,← hq] at hn
     rw [← hV] at kn
     have HBV:=qh (bk kn (uh HB))
     have HQV:=qh ((uh HQ).later kn)
     have HXV:=qh ((uh HX).keep kn)
     have HZ:=qh (And.intro (hz.later (uh HBV)) (hfq.later (uh HBV)))
     obtain ⟨k0,k1,k2,k3⟩:=d.keep (uh HBV)
     clear hx hf hz hfq c2 c3 kn d hpr
     go_upto_region 5 with fail
     rw [← hV,← hq]
     obtain ⟨_,_,_,⟨m0,m1,m2,m3⟩⟩:=hn
     clear hV hq c0 c1 d0 d1 d2 d3 e0 e1 e2 e3 HB HX HQ
     have x0:=(uh HXV).c0
     have x1:=(uh HXV).c1
     have x2:=(uh HXV).c2
     have x3:=(uh HXV).c3
     go_region_with (first
       | (go_at_call 76;go_fit (rs_mul _ (uh HG).1 (uh HG).2.1 ((uh HZ).1.later (Below.refl _ _).drew) ((uh HZ).2.later (Below.refl _ _).drew) (uh HI1) ((uh HG).2.2.later (uh HBV).drew));rintro e W1 ⟨⟨v1,rfl,hv1⟩,B1⟩;obtain ⟨z1,rfl⟩:=hv1.sh;have HBV:=qh (bk B1 (uh HBV).drew);have HQV:=qh (((uh HQV).later (Below.refl _ _).drew).later B1);have HXV:=qh (((uh HXV).keep (Below.refl _ _).drew).keep B1);have x0:=(uh HXV).c0;have x1:=(uh HXV).c1;have x2:=(uh HXV).c2;have x3:=(uh HXV).c3;clear B1)
       | (go_at_call 70;go_fit (rs_add _ (uh HG).1 (uh HG).2.1 (uh HXV).q hv1 (by rw [← uh HN];exact uh HI _) ((uh HG).2.2.later (uh HBV)));rintro e W2 ⟨⟨v2,rfl,hv2⟩,B2⟩;obtain ⟨z2,rfl⟩:=hv2.sh;have HBV:=qh (bk B2 (uh HBV));have HQV:=qh ((uh HQV).later B2);have HXV:=qh ((uh HXV).keep B2);obtain ⟨⟨j0,h0⟩,⟨j1,j2,j3,h1⟩,⟨j4,h2⟩,⟨j5,j6,j7,h3⟩,gf⟩:=(uh HXV).box.cells;have hlt:=(uh HXV).box.lt;clear B2))
     all_goals
       go_wp2
       go_roundg (m - (i+1))
       case measure=>omega
       case rel=>exact ⟨i+1,z2,by omega,rfl,by go_num,qh (zqd (uh HBV) (by have:=uh HGW;omega) _ _ _ _),qh ((uh HQV).aside4 (by omega) _ _ _ _),qh (by rw [uh HN];exact RX.put (uh HXV).box hv2)⟩
   · obtain rfl:m=i:=by omega
     clear hil hi hgk
     have he:(((L.zip F).take m).map fun p=>p.1.2.2.2*p.2).sum=billOf L F:=by rw [List.take_of_length_le (by rw [List.length_zip];have:=uh HM;omega)];rfl
     rw [he] at HX
     have x0:=(uh HX).c0
     have x1:=(uh HX).c1
     have x2:=(uh HX).c2
     have x3:=(uh HX).c3
     obtain ⟨⟨j0,h0⟩,⟨j1,j2,j3,h1⟩,⟨j4,h2⟩,⟨j5,j6,j7,h3⟩,gf⟩:=(uh HQ).cells
     have hlt:=(uh HQ).lt
     clear he
     go_wp2
     obtain ⟨st0,st1,st2,st3⟩:=(uh HQ).stored (.int .i64 y.a) (.slice y.b y.c y.d) (.int .i64 y.e) (.slice y.f y.g y.h)
     exact bodyPost_ret (v:=.agg #[.int .i64 y.a,.slice y.b y.c y.d,.int .i64 y.e,.slice y.f y.g y.h]) (by simp [results,Tryz.results33,go_sem,st0,st1,st2,st3]) rfl ⟨⟨_,rfl,(uh HX).q.stored (uh HQ) _ _ _ _⟩,zqd (uh HB) (uh HGW) _ _ _ _⟩
end Go.Proofs.YtkdobjmhammhbaaGreatDoor
