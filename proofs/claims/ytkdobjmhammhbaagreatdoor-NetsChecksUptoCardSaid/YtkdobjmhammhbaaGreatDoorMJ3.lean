import Derived.Test.YtkdobjmhammhbaaGreatDoorMK3
import Derived.Test.YtkdobjmhammhbaaGreatDoorMJ2
namespace Go.Proofs.YtkdobjmhammhbaaGreatDoor
open Go.RowKit
def hsum (side:List Bool) (S:List Int):Int:=((side.zip S).map fun p=>if p.1=true then p.2 else 0).sum
theorem zip_at {α β:Type}{a:List α}{b:List β}{i:Nat}{x:α}{y:β} (hx:a[i]? = some x) (hy:b[i]? = some y):(a.zip b)[i]? = some (x,y):=by
 rw [List.getElem?_zip_eq_some]
 exact ⟨hx,hy⟩
set_option maxHeartbeats 8000000 in
set_option maxRecDepth 8000 in
theorem rship_none {K N n:Nat}{T D B:Int}{v kv:Value}{L:List (Int×Int×Int×Int)}{S:List Int}{side:List Bool}{fa pa sa:Option Addr}{fn fc pn pc sn sc:Nat}{x:F8 Bool} (w:World) (hBg:Big K N T) (hD:Dn T D) (h:Rows 10 (ArE (QsE N D)) w v L) (hk:Rows 4 (QsE N D) w kv S) (hS:S.length=n) (hs:Rows 1 BE w (.slice sa sn sc) side) (hn:∀ x ∈ L,¬ badArc n x) (hl:L.length≤300) (h60:n≤60) (hc:∀ x ∈ L,-B≤x.2.2.1∧x.2.2.1≤B) (hK:∀ s ∈ S,-B≤s∧s≤B) (hB:0≤B) (hT:1000*B<T) :
   Calls Tryz.prog 19 #[.int .i64 (n:Int),v,kv,.agg #[.bool true,.slice fa fn fc,.slice pa pn pc,.slice sa sn sc,.bool x.a,.slice x.b x.c x.d,.bool x.e,.slice x.f x.g x.h]] w fun e w'=>YesP e (side.length=n∧thru side L<hsum side S)∧Below w.heap.size w w':=by
 obtain ⟨la,lc,rfl⟩:=h.shape
 obtain ⟨ka,kc,rfl⟩:=hk.shape
 rw [hS] at hk ⊢
 obtain rfl:=hs.len
 have hsm:=hs.small
 unfold maxLen at hsm
 have hins:∀ i,Ins T (((side.zip S).take i).map fun p=>if p.1=true then p.2 else 0).sum:=fun i=>sum_take i (B:=B) (fun p hp=>by have:=hK p.2 (List.of_mem_zip hp).2;split <;> omega) hB (by have h1:((side.zip S).length:Int)*B≤60*B:=Int.mul_le_mul_of_nonneg_right (by rw [List.length_zip];omega) hB;omega)
 have HI:=qh hins
 have HT:=qh (show (L.length:Int)*B<T by have h1:(L.length:Int)*B≤300*B:=Int.mul_le_mul_of_nonneg_right (by omega) hB;omega)
 have HC:=qh (And.intro hc hB)
 have HG:=qh (And.intro hBg hD)
 have HR:=qh h
 have HK:=qh hk
 have HS:=qh hs
 have HNB:=qh hn
 clear h hk hs hn hc hK hBg hD hT hins
 have kn:=zqa w (.cells #[.bool true,.slice fa fn fc,.slice pa pn pc,.slice sa side.length sc,.bool x.a,.slice x.b x.c x.d,.bool x.e,.slice x.f x.g x.h] 70)
 have b0:(w.alloc (.cells #[.bool true,.slice fa fn fc,.slice pa pn pc,.slice sa side.length sc,.bool x.a,.slice x.b x.c x.d,.bool x.e,.slice x.f x.g x.h] 70)).cell? ⟨w.heap.size,0,none⟩=some (.bool true):=by rw [nc rfl];rfl
 have b3:(w.alloc (.cells #[.bool true,.slice fa fn fc,.slice pa pn pc,.slice sa side.length sc,.bool x.a,.slice x.b x.c x.d,.bool x.e,.slice x.f x.g x.h] 70)).cell? ⟨w.heap.size,3,none⟩=some (.slice sa side.length sc):=by rw [nc rfl];rfl
 obtain ⟨W0,hW0⟩:∃ W0,W0=w.alloc (.cells #[.bool true,.slice fa fn fc,.slice pa pn pc,.slice sa side.length sc,.bool x.a,.slice x.b x.c x.d,.bool x.e,.slice x.f x.g x.h] 70):=⟨_,rfl⟩
 obtain ⟨g,hg⟩:∃ g,g=w.heap.size:=⟨_,rfl⟩
 rw [← hW0] at kn b0 b3
 rw [← hg] at b0 b3
 go_enter Tryz.func19,Tryz.ntmps19
 go_upto_region 1 with fail
 rw [← hW0,← hg]
 have HB:=qh kn
 have HB3:=qh b3
 clear hW0 hg kn
 obtain ⟨m,hm⟩:∃ m,m=side.length:=⟨_,rfl⟩
 rw [← hm] at HS HB3 hsm b3 ⊢
 by_cases hmn:m=n
 rotate_left
 · have hd:((m:Int) != (n:Int))=true:=by simp;omega
   go_wp2
   go_ret
   exact ⟨YesP.no fun h=>hmn (by omega),uh HB⟩
 subst hmn
 have hd:((m:Int) != (m:Int))=false:=by simp
 have HM:=qh (And.intro hm hS)
 clear hm hS
 go_wp2_with fail
 go_fit (qs_zero (D:=D) _ (uh HG).1)
 rintro e W1 ⟨⟨v0,rfl,hv0⟩,B1⟩
 obtain ⟨x0,rfl⟩:=hv0.sh
 have HX0:=qh (QX.new hv0)
 have kn:=zqa W1 (.cells #[.bool x0.a,.slice x0.b x0.c x0.d,.bool x0.e,.slice x0.f x0.g x0.h] 59)
 have hsz:=(bk B1 (uh HB)).size
 have HB0:=qh (bk kn (bk B1 (uh HB)))
 have HP0:=qh (ck kn (ck B1 (uh HB3)))
 have hg2n:g<W1.heap.size:=by have:=World.block_lt_of_cell? _ _ (ck B1 (uh HB3));simpa using this
 obtain ⟨g2,hg2⟩:∃ g,g=W1.heap.size:=⟨_,rfl⟩
 obtain ⟨V,hV⟩:∃ V,V=W1.alloc (.cells #[.bool x0.a,.slice x0.b x0.c x0.d,.bool x0.e,.slice x0.f x0.g x0.h] 59):=⟨_,rfl⟩
 rw [← hV] at HX0 HB0 HP0
 rw [← hg2] at HX0 hsz hg2n
 have HG2:=qh (And.intro hsz hg2n)
 clear hsz hg2n B1 kn hv0 HB HB3 b0 b3
 go_upto_region 6 with fail
 rw [← hV,← hg2]
 clear hV hg2
 go_loopg [10] m (fun gk iv wr=>∃ (i:Nat) (y:F8 Bool),i≤m∧gk=m - i∧iv=.int .i64 (i:Int)∧Hid (Below w.heap.size w wr)∧Hid (wr.cell? ⟨g,3,none⟩=some (.slice sa m sc))∧Hid (QX N D wr g2 y (((side.zip S).take i).map fun p=>if p.1=true then p.2 else 0).sum))
 case atStart=>exact ⟨0,x0,by omega,by omega,rfl,HB0,HP0,qh (by simpa using uh HX0)⟩
 case round =>
   clear HX0 HB0 HP0
   obtain ⟨i,y,hi,hgk,rfl,HB,HP,HX⟩:=hrel
   by_cases hil:i<m
   · obtain ⟨b,hb⟩:∃ b,side[i]? = some b:=⟨side[i]'(by have:=uh HM;omega),by simp⟩
     obtain ⟨s,hs⟩:∃ s,S[i]? = some s:=⟨S[i]'(by have:=uh HM;omega),by simp⟩
     obtain ⟨sb,so,rfl,f0⟩:=(uh HS).flag hb
     obtain ⟨kb,ko,u,rfl,d,hu⟩:=(uh HK).qnum hs
     have f0:=ck (uh HB) f0
     have HD4:=qh (d.keep (uh HB))
     have HU:=qh (hu.later (uh HB))
     have HN:=qh (sum_next (f:=fun p:Bool×Int=>if p.1=true then p.2 else 0) (zip_at hb hs))
     simp only at HN
     have p3:=uh HP
     have hil':(i:Int)<(m:Int):=by omega
     have him:(i:Int)+1≤1000:=by omega
     clear hb hs d hu
     rcases b with _ | _
     · go_wp2
       go_roundg (m - (i+1))
       case measure=>omega
       case rel=>exact ⟨i+1,y,by omega,rfl,by go_num,HB,HP,qh (by rw [uh HN];simpa using uh HX)⟩
     simp only [if_true] at HN
     go_upto_region 9 with fail
     obtain ⟨k0,k1,k2,k3⟩:=uh HD4
     have x0:=(uh HX).c0
     have x1:=(uh HX).c1
     have x2:=(uh HX).c2
     have x3:=(uh HX).c3
     clear f0 p3
     go_region_with (first
       | (go_at_call 40;go_fit (qs_add _ (uh HG).1 (uh HG).2 ((uh HX).q.later (Below.refl _ _).drew) ((uh HU).later (Below.refl _ _).drew) (by rw [← uh HN];exact uh HI _));rintro e W2 ⟨⟨v2,rfl,hv2⟩,B2⟩;obtain ⟨z2,rfl⟩:=hv2.sh;have HB:=qh (bk B2 (uh HB).drew);have HP:=qh (ck B2 (ck (Below.refl _ _).drew (uh HP)));have HX:=qh (((uh HX).keep (Below.refl _ _).drew).keep B2);obtain ⟨⟨j0,h0⟩,⟨j1,j2,j3,h1⟩,⟨j4,h2⟩,⟨j5,j6,j7,h3⟩,gf⟩:=(uh HX).box.cells;have hlt:=(uh HX).box.lt;clear x0 x1 x2 x3 k0 k1 k2 k3))
     all_goals
       go_wp2
       go_roundg (m - (i+1))
       case measure=>omega
       case rel=>exact ⟨i+1,z2,by omega,rfl,by go_num,qh (zqd (uh HB) (uh HG2).1 _ _ _ _),qh (zqy (o:=0) (uh HP) (Nat.ne_of_lt (uh HG2).2) _ _ _ _),qh (by rw [uh HN];exact QX.put (uh HX).box hv2)⟩
   · obtain rfl:m=i:=by omega
     clear hil hi hgk
     have hsum_is:(((side.zip S).take m).map fun p=>if p.1=true then p.2 else 0).sum=hsum side S:=by rw [List.take_of_length_le (by rw [List.length_zip];have:=uh HM;omega)];rfl
     rw [hsum_is] at HX
     go_upto_region 10 with fail
     have x0:=(uh HX).c0
     have x1:=(uh HX).c1
     have x2:=(uh HX).c2
     have x3:=(uh HX).c3
     have p3:=uh HP
     have HRR:=qh (And.intro ((uh HR).later (ArE.stays (QsE.stays N D NoWord (e:=0) (by decide))) (uh HB)) ((uh HS).later (BE.stays NoWord 0) (uh HB)))
     have HNB':Hid (∀ x ∈ L,¬ badArc side.length x):=qh (by rw [← (uh HM).1];exact uh HNB)
     have HMS:=qh (uh HM).1
     have HS0:=qh (ck5 (Below.refl wr.heap.size wr).drew ⟨p3,x0,x1,x2,x3⟩)
     clear p3 x0 x1 x2 x3
     go_region_held3 (fun w'=>w'.cell? ⟨g,3,none⟩=some (.slice sa m sc)∧w'.cell? ⟨g2,0,none⟩=some (.bool y.a)∧w'.cell? ⟨g2,1,none⟩=some (.slice y.b y.c y.d)∧w'.cell? ⟨g2,2,none⟩=some (.bool y.e)∧w'.cell? ⟨g2,3,none⟩=some (.slice y.f y.g y.h))
       (first | with_reducible exact uh HS0 | with_reducible exact uh HS1 | with_reducible exact uh HS2)
       (first
       | (go_at_call 42;go_fit (rthru_any (B:=B) (side:=side) _ (uh HG).1 (uh HG).2 ((uh HRR).1.later (ArE.stays (QsE.stays N D NoWord (e:=0) (by decide))) (Below.refl _ _).drew) ((uh HRR).2.later (BE.stays NoWord 0) (Below.refl _ _).drew) (uh HNB') hl (uh HC).1 (uh HC).2 (uh HT));rintro e W2 ⟨⟨v2,rfl,hv2⟩,B2⟩;have HB:=qh (bk B2 (uh HB).drew);have HX:=qh (((uh HX).keep (Below.refl _ _).drew).keep B2);have HS1:=qh (ck5 B2 (uh HS0));clear B2)
       | (go_at_call 41;go_fit (qs_cmp _ (uh HG).1 (uh HG).2.1 (uh HX).q hv2);rintro e W3 ⟨rfl,B3⟩;have HB:=qh (bk B3 (uh HB));have HS2:=qh (ck5 B3 (uh HS1));clear B3))
     all_goals
       obtain ⟨sg,hsg⟩:∃ s,s=sgn (hsum side S - thru side L):=⟨_,rfl⟩
       rw [← hsg]
       go_wp2
       go_ret
       refine ⟨YesP.of ?_,uh HB⟩
       have:=@sgn_gt (hsum side S - thru side L)
       rw [← hsg] at this
       have:=(uh HM).1
       simp only [decide_eq_true_eq]
       constructor
       · intro h;exact ⟨by omega,by omega⟩
       · intro h;omega
theorem sgn_nil {x:Int}:sgn x=0↔x=0:=by rcases zql x with ⟨h,e,_⟩ | ⟨h,e,_⟩ | ⟨h,e,_⟩ <;> omega
set_option maxHeartbeats 8000000 in
set_option maxRecDepth 8000 in
theorem rsamerow_any {K N:Nat}{T D:Int}{v v':Value}{a a':List Int} (w:World) (hBg:Big K N T) (D0:0<D) (h:Rows 4 (QsE N D) w v a) (h':Rows 4 (QsE N D) w v' a') (hl:a.length≤1000) :
   Calls Tryz.prog 45 #[v,v'] w fun e w'=>YesP e (a=a')∧Below w.heap.size w w':=by
 obtain ⟨sa,sc,rfl⟩:=h.shape
 obtain ⟨ta,tc,rfl⟩:=h'.shape
 have hsm:=h'.small
 unfold maxLen at hsm
 have HG:=qh (And.intro hBg D0)
 have HR:=qh h
 have HR':=qh h'
 clear h h' hBg D0
 obtain ⟨m,hm⟩:∃ m,m=a.length:=⟨_,rfl⟩
 obtain ⟨n,hn⟩:∃ m,m=a'.length:=⟨_,rfl⟩
 rw [← hm] at HR hl ⊢
 rw [← hn] at HR' hsm ⊢
 have HM:=qh (And.intro hm hn)
 clear hm hn
 go_enter Tryz.func45,Tryz.ntmps45
 by_cases hmn:m=n
 rotate_left
 · have hd:((m:Int) != (n:Int))=true:=by simp;omega
   go_wp2
   go_ret
   exact ⟨YesP.no fun h=>hmn (by have:=uh HM;rw [this.1,this.2,h]),Below.refl _ _⟩
 subst hmn
 have hd:((m:Int) != (m:Int))=false:=by simp
 go_wp2_with fail
 go_loopg [5] m (fun gk iv wr=>∃ i:Nat,i≤m∧gk=m - i∧iv=.int .i64 (i:Int)∧Hid (∀ j,j<i→a[j]? = a'[j]?)∧Hid (Below w.heap.size w wr))
 case atStart=>exact ⟨0,by omega,by omega,rfl,qh (fun j h=>by omega),qh (Below.refl _ _)⟩
 case round =>
   obtain ⟨i,hi,hgk,rfl,HA,HB⟩:=hrel
   by_cases hil:i<m
   · obtain ⟨s,hs⟩:∃ x,a[i]? = some x:=⟨a[i]'(by have:=uh HM;omega),by simp⟩
     obtain ⟨t,ht⟩:∃ x,a'[i]? = some x:=⟨a'[i]'(by have:=uh HM;omega),by simp⟩
     obtain ⟨b,o,y,rfl,c,hy⟩:=(uh HR).qnum hs
     obtain ⟨b',o',u,rfl,d,hu⟩:=(uh HR').qnum ht
     obtain ⟨c0,c1,c2,c3⟩:=c.keep (uh HB)
     obtain ⟨d0,d1,d2,d3⟩:=d.keep (uh HB)
     have HY:=qh (And.intro (hy.later (uh HB)) (hu.later (uh HB)))
     have HX:=qh (And.intro hs ht)
     have hil':(i:Int)<(m:Int):=by omega
     have him:(i:Int)+1≤1001:=by omega
     clear hs ht hy hu c d
     go_upto_region 6 with fail
     go_region_with (first
       | (go_at_call 41;go_fit (qs_cmp _ (uh HG).1 (uh HG).2 ((uh HY).1.later (Below.refl _ _).drew) ((uh HY).2.later (Below.refl _ _).drew));rintro e W2 ⟨rfl,B2⟩;have HB:=qh (bk B2 (uh HB).drew);clear B2 d0 d1 d2 d3 c0 c1 c2 c3))
     all_goals
       obtain ⟨sc',hsc⟩:∃ s',s'=sgn (s - t):=⟨_,rfl⟩
       rw [← hsc]
       by_cases q:s=t
       · obtain rfl:sc'=0:=by rw [hsc,sgn_nil];omega
         have HQ:=qh (show ∀ j,j<i+1→a[j]? = a'[j]? from fun j hj=>by
           rcases Nat.lt_or_ge j i with h1 | h1
           · exact uh HA j h1
           · obtain rfl:j=i:=by omega
             rw [(uh HX).1,(uh HX).2,q])
         clear hsc q
         go_wp2
         go_roundg (m - (i+1))
         case measure=>omega
         case rel=>exact ⟨i+1,by omega,rfl,by go_num,HQ,HB⟩
       · have hne:(sc' != 0)=true:=by
           have h1:sc'≠0:=fun h=>q (by rw [hsc,sgn_nil] at h;omega)
           simpa using h1
         clear hsc
         go_wp2
         go_ret
         exact ⟨YesP.no fun h=>q (by have h1:=(uh HX).1;rw [h,(uh HX).2] at h1;exact (Option.some.inj h1).symm),uh HB⟩
   · obtain rfl:i=m:=by omega
     clear hil hi hgk
     go_wp2
     go_ret
     refine ⟨YesP.yes (List.ext_getElem? fun j => ?_),uh HB⟩
     rcases Nat.lt_or_ge j i with h1 | h1
     · exact uh HA j h1
     · have:=uh HM
       rw [List.getElem?_eq_none (by omega),List.getElem?_eq_none (by omega)]
def mv (x:Int×Int×Int×Int) (f:Int) (a:List Int):List Int:=(a.set x.1.toNat (a.getD x.1.toNat 0+f)).set x.2.1.toNat ((a.set x.1.toNat (a.getD x.1.toNat 0+f)).getD x.2.1.toNat 0 - f)
def mvs (L:List (Int×Int×Int×Int)) (F:List Int) (a:List Int):Nat→List Int
 | 0=>a
 | i+1=>match L[i]?,F[i]? with
   | some x,some f=>mv x f (mvs L F a i)
   | _,_=>mvs L F a i
theorem mvs_next {L:List (Int×Int×Int×Int)}{F a:List Int}{i:Nat}{x:Int×Int×Int×Int}{f:Int} (hx:L[i]? = some x) (hf:F[i]? = some f):mvs L F a (i+1)=mv x f (mvs L F a i):=by simp [mvs,hx,hf]
theorem mv_len (x:Int×Int×Int×Int) (f:Int) (a:List Int):(mv x f a).length=a.length:=by simp [mv]
theorem zkh (L:List (Int×Int×Int×Int)) (F a:List Int) (i:Nat):(mvs L F a i).length=a.length:=by
 induction i with
 | zero=>rfl
 | succ i ih =>
   rw [mvs]
   split
   · rw [mv_len,ih]
   · exact ih
theorem getD_set' (a:List Int) (i j:Nat) (v:Int) (hi:i<a.length):(a.set i v).getD j 0=if i=j then v else a.getD j 0:=by
 rw [List.getD_eq_getElem?_getD,List.getD_eq_getElem?_getD,List.getElem?_set]
 split
 · rename_i h;subst h;simp
 · rfl
theorem mv_at {x:Int×Int×Int×Int}{f:Int}{a:List Int} (h1:x.1.toNat<a.length) (h2:x.2.1.toNat<a.length) (j:Nat):(mv x f a).getD j 0=a.getD j 0+(if x.1.toNat=j then f else 0) - (if x.2.1.toNat=j then f else 0):=by
 unfold mv
 rw [getD_set' _ _ _ _ (by simpa using h2),getD_set' _ _ _ _ h1,getD_set' _ _ _ _ h1]
 by_cases e1:x.1.toNat=j <;> by_cases e2:x.2.1.toNat=j
 · rw [if_pos e2,if_pos (by omega),if_pos e1,if_pos e2,e1]
 · rw [if_neg e2,if_pos e1,if_pos e1,if_neg e2,e1];omega
 · rw [if_pos e2,if_neg (by omega),if_neg e1,if_pos e2,e2];omega
 · rw [if_neg e2,if_neg e1,if_neg e1,if_neg e2];omega
theorem mvs_opp {L:List (Int×Int×Int×Int)}{F a b c:List Int}{n:Nat} (hL:∀ x ∈ L,¬ badArc n x) (ha:a.length=n) (hb:b.length=n) (hc:∀ j,b.getD j 0=c.getD j 0 - a.getD j 0) (i:Nat) (j:Nat):(mvs L (F.map fun f => -f) b i).getD j 0=c.getD j 0 - (mvs L F a i).getD j 0:=by
 induction i with
 | zero=>exact hc j
 | succ i ih =>
   cases hx:L[i]? with
   | none=>simp only [mvs,hx];exact ih
   | some x =>
     cases hf:F[i]? with
     | none=>simp only [mvs,hx,hf,List.getElem?_map,Option.map_none];exact ih
     | some f =>
       have hg:=hL x (List.mem_of_getElem? hx)
       unfold badArc at hg
       rw [mvs_next hx hf,mvs_next (F:=F.map fun f => -f) (f := -f) hx (by simp [hf]),mv_at (by rw [zkh];omega) (by rw [zkh];omega),mv_at (by rw [zkh];omega) (by rw [zkh];omega),ih]
       split <;> split <;> omega
theorem mvs_ins {L:List (Int×Int×Int×Int)}{F a:List Int}{B:Int}{n:Nat} (hL:∀ x ∈ L,¬ badArc n x) (ha:a.length=n) (hB:0≤B) (h0:∀ j,-B≤a.getD j 0∧a.getD j 0≤B) (hF:∀ f ∈ F,-B≤f∧f≤B) (i:Nat):∀ j,-((2*i+1)*B)≤(mvs L F a i).getD j 0∧(mvs L F a i).getD j 0≤(2*i+1)*B:=by
 induction i with
 | zero=>intro j;have:=h0 j;simpa [mvs] using this
 | succ i ih =>
   intro j
   have h1:=ih j
   have e:(2*((i+1:Nat):Int)+1)*B=(2*(i:Int)+1)*B+2*B:=by
     rw [Int.natCast_add];grind
   rw [e]
   cases hx:L[i]? with
   | none=>simp only [mvs,hx];omega
   | some x =>
     cases hf:F[i]? with
     | none=>simp only [mvs,hx,hf];omega
     | some f =>
       have hg:=hL x (List.mem_of_getElem? hx)
       have:=hF f (List.mem_of_getElem? hf)
       unfold badArc at hg
       rw [mvs_next hx hf,mv_at (by rw [zkh];omega) (by rw [zkh];omega)]
       split <;> split <;> omega
theorem mv_bound {B:Int}{i:Nat} (hB:0≤B) (hi:i≤300):(2*(i:Int)+1)*B≤601*B:=Int.mul_le_mul_of_nonneg_right (by omega) hB
def Raw (K:Value→Prop) (t:TypeId) (w:World) (g m:Nat):Prop:=∃ cur,w.heap[g]? = some (.cells cur t (0,0))∧cur.size=m∧∀ u ∈ cur.toList,K u
theorem Raw.store {K:Value→Prop}{t:TypeId}{w:World}{g m o:Nat}{v:Value} (h:Raw K t w g m) (hv:K v):Raw K t (w.setCell ⟨g,o,none⟩ v) g m∧Chg K t w (w.setCell ⟨g,o,none⟩ v):=by
 obtain ⟨cur,h1,h2,h3⟩:=h
 refine ⟨⟨_,setCell_block h1 v,by simp [h2],fun u hu => ?_⟩,setCell_chg (o:=o) h1 h3 v⟩
 obtain ⟨i,hi⟩:=List.getElem?_of_mem hu
 rw [Array.getElem?_toList,Array.getElem?_setIfInBounds] at hi
 split at hi
 · split at hi
   · obtain rfl:v=u:=by simpa using hi
     exact hv
   · cases hi
 · exact h3 u (by rw [← Array.mem_def];exact Array.mem_of_getElem? hi)
theorem Fill.raw {α:Type}{K:Value→Prop}{k:Nat}{E:World→List Value → α → Prop}{t:TypeId}{w:World}{g n:Nat}{L:List α} (h:Fill K k E t w g n L):Raw K t w g (n*k):=by
 obtain ⟨cur,h1,h2,h3,_⟩:=h
 exact ⟨cur,h1,h2,h3⟩
theorem Fill.at {α:Type}{K:Value→Prop}{k:Nat}{E:World→List Value → α → Prop}{t:TypeId}{w:World}{g n i:Nat}{L:List α}{x:α} (h:Fill K k E t w g n L) (hx:L[i]? = some x):∃ cs,cs.length=k∧(∀ j u,cs[j]? = some u→w.cell? ⟨g,i*k+j,none⟩=some u)∧E w cs x:=by
 obtain ⟨cur,h1,h2,h3,h4,h5⟩:=h
 obtain ⟨cs,hl,hcs,he⟩:=h5 i x hx
 exact ⟨cs,hl,fun j u hu=>zjh h1 (hcs j u hu),he⟩
theorem Raw.fill {α:Type}{K:Value→Prop}{k:Nat}{E:World→List Value → α → Prop}{t:TypeId}{w:World}{g n:Nat}{L:List α} (h:Raw K t w g (n*k)) (hn:L.length≤n) (hx:∀ i x,L[i]? = some x→∃ cs,cs.length=k∧(∀ j u,cs[j]? = some u→w.cell? ⟨g,i*k+j,none⟩=some u)∧E w cs x):Fill K k E t w g n L:=by
 obtain ⟨cur,h1,h2,h3⟩:=h
 refine ⟨cur,h1,h2,h3,hn,fun i x hi => ?_⟩
 obtain ⟨cs,hl,hcs,he⟩:=hx i x hi
 exact ⟨cs,hl,fun j u hu=>by simpa [World.cell?,h1] using hcs j u hu,he⟩
theorem Fill.len {α:Type}{K:Value→Prop}{k:Nat}{E:World→List Value → α → Prop}{t:TypeId}{w:World}{g n:Nat}{L:List α} (h:Fill K k E t w g n L):L.length≤n:=by
 obtain ⟨cur,h1,h2,h3,h4,_⟩:=h
 exact h4
theorem Fill.set4 {α:Type}{K:Value→Prop}{E:World→List Value → α → Prop}{t:TypeId}{w:World}{g n i:Nat}{L:List α}{u0 u1 u2 u3:Value}{x:α} (h:Fill K 4 E t w g n L) (hE:Stays K t E) (hi:i<L.length) (hk:∀ u ∈ [u0,u1,u2,u3],K u) (he:E w [u0,u1,u2,u3] x) :
   Fill K 4 E t ((((w.setCell ⟨g,i*4,none⟩ u0).setCell ⟨g,i*4+1,none⟩ u1).setCell ⟨g,i*4+2,none⟩ u2).setCell ⟨g,i*4+3,none⟩ u3) g n (L.set i x):=by
 have hl:=h.len
 obtain ⟨a0,e0⟩:=h.cell (o:=i*4) (by omega)
 obtain ⟨a1,e1⟩:=h.cell (o:=i*4+1) (by omega)
 obtain ⟨a2,e2⟩:=h.cell (o:=i*4+2) (by omega)
 obtain ⟨a3,e3⟩:=h.cell (o:=i*4+3) (by omega)
 obtain ⟨r0,c0⟩:=h.raw.store (o:=i*4) (hk u0 (by simp))
 obtain ⟨r1,c1⟩:=r0.store (o:=i*4+1) (hk u1 (by simp))
 obtain ⟨r2,c2⟩:=r1.store (o:=i*4+2) (hk u2 (by simp))
 obtain ⟨r3,c3⟩:=r2.store (o:=i*4+3) (hk u3 (by simp))
 have hc:=((c0.trans c1).trans c2).trans c3
 refine r3.fill (by simpa using hl) fun j y hy => ?_
 rw [List.getElem?_set] at hy
 by_cases hji:i=j
 · subst hji
   rw [if_pos rfl,if_pos hi] at hy
   obtain rfl:=Option.some.inj hy
   refine ⟨_,rfl,fun k u hu => ?_,hE _ _ _ _ he hc⟩
   match k,hu with
   | 0,hu =>
     obtain rfl:u0=u:=by simpa using hu
     rw [Nat.add_zero,zqb _ _ _ _ _ _ (by omega),zqb _ _ _ _ _ _ (by omega),zqb _ _ _ _ _ _ (by omega)]
     exact zqe e0
   | 1,hu =>
     obtain rfl:u1=u:=by simpa using hu
     rw [zqb _ _ _ _ _ _ (by omega),zqb _ _ _ _ _ _ (by omega)]
     exact zqe (by rw [zqb _ _ _ _ _ _ (by omega)];exact e1)
   | 2,hu =>
     obtain rfl:u2=u:=by simpa using hu
     rw [zqb _ _ _ _ _ _ (by omega)]
     exact zqe (by rw [zqb _ _ _ _ _ _ (by omega),zqb _ _ _ _ _ _ (by omega)];exact e2)
   | 3,hu =>
     obtain rfl:u3=u:=by simpa using hu
     exact zqe (by rw [zqb _ _ _ _ _ _ (by omega),zqb _ _ _ _ _ _ (by omega),zqb _ _ _ _ _ _ (by omega)];exact e3)
 · rw [if_neg hji] at hy
   obtain ⟨cs,hcl,hcs,hex⟩:=h.at hy
   refine ⟨cs,hcl,fun k u hu => ?_,hE _ _ _ _ hex hc⟩
   have hk4:k<4:=by rw [← hcl];exact (List.getElem?_eq_some_iff.1 hu).1
   rw [zqb _ _ _ _ _ _ (by omega),zqb _ _ _ _ _ _ (by omega),zqb _ _ _ _ _ _ (by omega),zqb _ _ _ _ _ _ (by omega)]
   exact hcs k u hu
theorem Fill.q4 {N:Nat}{D:Int}{K:Value→Prop}{t:TypeId}{w:World}{g n i:Nat}{L:List Int}{s:Int} (h:Fill K 4 (QsE N D) t w g n L) (hx:L[i]? = some s):∃ y,Q4 w g (i*4) y∧Qs N D w (vq y) s:=by
 obtain ⟨cs,_,hcs,h1⟩:=h.at hx
 obtain ⟨y,rfl,hy⟩:=h1.sh
 exact ⟨y,⟨by simpa using hcs 0 _ rfl,hcs 1 _ rfl,hcs 2 _ rfl,hcs 3 _ rfl⟩,hy⟩
theorem zkq (N:Nat) (D:Int):Stays NoInt 59 (QsE N D):=QsE.stays N D NoInt (by decide)
theorem zke {a:List Int}{i:Nat}{s:Int} (h:a[i]? = some s):a.getD i 0=s:=by rw [List.getD_eq_getElem?_getD,h];rfl
set_option maxHeartbeats 16000000 in
set_option maxRecDepth 8000 in
theorem rleft_any {K N n:Nat}{T D B:Int}{v fv:Value}{L:List (Int×Int×Int×Int)}{F:List Int} (w:World) (hBg:Big K N T) (hD:Dn T D) (h:Rows 10 (ArE (QsE N D)) w v L) (hf:Rows 4 (QsE N D) w fv F) (hlen:F.length=L.length) (hn:∀ x ∈ L,¬ badArc n x) (hl:L.length≤300) (h60:n≤60) (hF:∀ f ∈ F,-B≤f∧f≤B) (hB:0≤B) (hT:1000*B<T) :
   Calls Tryz.prog 44 #[.int .i64 (n:Int),v,fv] w fun e w'=>(∃ v,e=.returned v∧Rows 4 (QsE N D) w' v (mvs L F (List.replicate n 0) L.length))∧Below w.heap.size w w':=by
 obtain ⟨sa,sc,rfl⟩:=h.shape
 obtain ⟨ta,tc,rfl⟩:=hf.shape
 have hbd:∀ i,i≤300→∀ j,-(601*B)≤(mvs L F (List.replicate n 0) i).getD j 0∧(mvs L F (List.replicate n 0) i).getD j 0≤601*B:=fun i hi j=>by
   have h1:=mvs_ins (i:=i) (a:=List.replicate n 0) hn (by simp) hB (fun j=>by rw [List.getD_eq_getElem?_getD,List.getElem?_replicate];split <;> simp <;> omega) hF j
   have:=mv_bound hB hi
   omega
 have HBD:=qh (And.intro hbd hF)
 have HT:=qh (And.intro hB hT)
 have HG:=qh (And.intro hBg hD)
 have HR:=qh h
 have HF:=qh hf
 have HNB:=qh hn
 clear h hf hn hBg hD hT hbd hF hB
 obtain ⟨m,hm⟩:∃ m,m=L.length:=⟨_,rfl⟩
 rw [← hm] at HR hl hlen ⊢
 rw [hlen] at HF ⊢
 have HM:=qh (And.intro hm hlen)
 clear hm hlen
 have hmk:=run_make_k (P:=Tryz.prog) 52 59 _ 4 64 Tryz.underlying52 info_q .i64 .i64 n (by omega) (by omega)
 go_enter Tryz.func44,Tryz.ntmps44
 obtain ⟨g,hg⟩:∃ g,g=w.heap.size:=⟨_,rfl⟩
 have hgw:w.heap.size≤g:=by omega
 have HGW:=qh hgw
 have hf0:Fill NoInt 4 (QsE N D) 59 (w.alloc (.cells (madeCells (Value.agg #[.bool false,.slice none 0 0,.bool false,.slice none 0 0]).cells (n*4)) 59)) w.heap.size n []:=Fill.new _ _ zk_q (by decide)
 have HF0:=qh hf0
 have HB0:=qh (zqa w (.cells (madeCells (Value.agg #[.bool false,.slice none 0 0,.bool false,.slice none 0 0]).cells (n*4)) 59))
 rw [← hg] at HF0
 clear hf0 hgw
 go_upto_region 3 with fail
 rw [← hg]
 clear hg hmk
 go_loopg [8] n (fun gk iv wr=>∃ i:Nat,i≤n∧gk=n - i∧iv=.int .i64 (i:Int)∧Hid (Below w.heap.size w wr)∧Hid (Fill NoInt 4 (QsE N D) 59 wr g n (List.replicate i 0)))
 case atStart=>exact ⟨0,by omega,by omega,rfl,HB0,HF0⟩
 case round =>
   clear HB0 HF0
   obtain ⟨i,hi,hgk,rfl,HB,HV⟩:=hrel
   by_cases hil:i<n
   · have hil':(i:Int)<(n:Int):=by omega
     have him:(i:Int)+1≤1000:=by omega
     go_wp2_with fail
     go_fit (qs_zero (D:=D) _ (uh HG).1)
     rintro e W1 ⟨⟨v0,rfl,hv0⟩,B1⟩
     obtain ⟨x0,rfl⟩:=hv0.sh
     have HV:=qh ((uh HV).later (zkq N D) B1)
     have HB:=qh (bk B1 (uh HB))
     obtain ⟨u0,h0⟩:=(uh HV).cell (o:=i*4) (by omega)
     obtain ⟨u1,h1⟩:=(uh HV).cell (o:=i*4+1) (by omega)
     obtain ⟨u2,h2⟩:=(uh HV).cell (o:=i*4+2) (by omega)
     obtain ⟨u3,h3⟩:=(uh HV).cell (o:=i*4+3) (by omega)
     have f0:=(uh HV).free (i*4)
     have f1:=(uh HV).free (i*4+1)
     have f2:=(uh HV).free (i*4+2)
     have f3:=(uh HV).free (i*4+3)
     have hlt:=(uh HV).lt
     clear B1
     go_wp2
     go_roundg (n - (i+1))
     case measure=>omega
     case rel =>
       have hp:=(uh HV).put4 (u0:=.bool x0.a) (u1:=.slice x0.b x0.c x0.d) (u2:=.bool x0.e) (u3:=.slice x0.f x0.g x0.h) (x:=(0:Int)) (zkq N D) (by simpa using hil) (kd_q _ _ _ _ _ _ _ _) ⟨_,_,_,_,_,_,_,_,rfl,hv0⟩
       rw [List.length_replicate] at hp
       exact ⟨i+1,by omega,rfl,by go_num,qh (below_put4 (uh HB) (uh HGW) _ _ _ _),qh (by rw [List.replicate_succ'];exact hp.1)⟩
   · obtain rfl:n=i:=by omega
     clear hil hi hgk
     go_upto_region 7 with fail
     go_loopg [9] m (fun gk iv w2=>∃ i:Nat,i≤m∧gk=m - i∧iv=.int .i64 (i:Int)∧Hid (Below w.heap.size w w2)∧Hid (Fill NoInt 4 (QsE N D) 59 w2 g n (mvs L F (List.replicate n 0) i)))
     case atStart=>exact ⟨0,by omega,by omega,rfl,HB,HV⟩
     case round =>
       clear HB HV
       obtain ⟨i,hi,hgk,rfl,HB,HV⟩:=hrel
       by_cases hil:i<m
       · obtain ⟨⟨fr,to',cp,co⟩,hx⟩:∃ x,L[i]? = some x:=⟨L[i]'(by have:=uh HM;omega),by simp⟩
         obtain ⟨f,hf⟩:∃ x,F[i]? = some x:=⟨F[i]'(by have:=uh HM;omega),by simp⟩
         have hg:=uh HNB _ (List.mem_of_getElem? hx)
         obtain ⟨q1,q2,q3,q4,q5⟩:0≤fr∧fr<n∧0≤to'∧to'<n∧0≤cp:=by unfold badArc at hg;simp only at hg;omega
         obtain ⟨k,rfl⟩:∃ f:Nat,fr=(f:Int):=⟨fr.toNat,by omega⟩
         obtain ⟨t,rfl⟩:∃ f:Nat,to'=(f:Int):=⟨to'.toNat,by omega⟩
         obtain ⟨b,o,_,_,rfl,⟨c0,c1,_⟩,_⟩:=(uh HR).qarc hx
         obtain ⟨b',o',u,rfl,d,hu⟩:=(uh HF).qnum hf
         simp only at c0 c1
         have HC:=qh (And.intro c0 (And.intro c1 (And.intro d hu)))
         have HX:=qh (And.intro hx hf)
         obtain ⟨a,ha⟩:∃ a,a=mvs L F (List.replicate n 0) i:=⟨_,rfl⟩
         have hal:a.length=n:=by rw [ha,zkh,List.length_replicate]
         have hab:=(uh HBD).1 i (by omega)
         rw [← ha] at HV hab
         have hfb:=(uh HBD).2 f (List.mem_of_getElem? hf)
         have HA:=qh (And.intro ha (And.intro hal (And.intro hab hfb)))
         obtain ⟨s,hs⟩:∃ s,a[k]? = some s:=⟨a[k]'(by omega),by simp⟩
         have hsb:=hab k
         rw [zke hs] at hsb
         have HI1:=qh (show Ins T (s+f) by have:=uh HT;unfold Ins;omega)
         obtain ⟨y,hy4,hyq⟩:=(uh HV).q4 hs
         have HY:=qh hyq
         have HS:=qh hs
         clear hx hf hg c0 c1 d hu ha hal hab hfb hs hsb hyq
         have c0:=ck (uh HB) (uh HC).1
         obtain ⟨d0,d1,d2,d3⟩:=(uh HC).2.2.1.keep (uh HB)
         obtain ⟨y0,y1,y2,y3⟩:=hy4
         have hil':(i:Int)<(m:Int):=by omega
         have him:(i:Int)+1≤1000:=by omega
         go_upto_region 9 with fail
         go_cut [] (fun wx=>Hid (Below w.heap.size w wx)∧Hid (Fill NoInt 4 (QsE N D) 59 wx g n (a.set k (s+f))))
         case first =>
           go_region_with (first
             | (go_at_call 40;go_fit (qs_add _ (uh HG).1 (uh HG).2 ((uh HY).later (Below.refl _ _).drew) (((uh HC).2.2.2.later (uh HB)).later (Below.refl _ _).drew) (uh HI1));rintro e W1 ⟨⟨v1,rfl,hv1⟩,B1⟩;obtain ⟨z1,rfl⟩:=hv1.sh;have HB:=qh (bk B1 (uh HB).drew);have HV:=qh (((uh HV).later (zkq N D) (Below.refl _ _).drew).later (zkq N D) B1);have c0:=ck (uh HB) (uh HC).1;obtain ⟨u0,h0⟩:=(uh HV).cell (o:=k*4) (by omega);obtain ⟨u1,h1⟩:=(uh HV).cell (o:=k*4+1) (by omega);obtain ⟨u2,h2⟩:=(uh HV).cell (o:=k*4+2) (by omega);obtain ⟨u3,h3⟩:=(uh HV).cell (o:=k*4+3) (by omega);have f0:=(uh HV).free (k*4);have f1:=(uh HV).free (k*4+1);have f2:=(uh HV).free (k*4+2);have f3:=(uh HV).free (k*4+3);have hlt:=(uh HV).lt;clear B1 d0 d1 d2 d3 y0 y1 y2 y3))
           all_goals
             go_wp2
             go_meet
             exact ⟨qh (below_put4 (uh HB) (uh HGW) _ _ _ _),qh ((uh HV).set4 (zkq N D) (by have:=uh HA;omega) (kd_q _ _ _ _ _ _ _ _) ⟨_,_,_,_,_,_,_,_,rfl,hv1⟩)⟩
         case rest =>
           obtain ⟨HB,HV⟩:=hcut
           obtain ⟨Z,rfl⟩:∃ X,X=wc:=⟨_,rfl⟩
           clear HY c0 d0 d1 d2 d3 y0 y1 y2 y3
           obtain ⟨a2,ha2⟩:∃ a2,a2=a.set k (s+f):=⟨_,rfl⟩
           rw [← ha2] at HV
           have hal2:a2.length=n:=by rw [ha2,List.length_set];exact (uh HA).2.1
           obtain ⟨s2,hs2⟩:∃ s,a2[t]? = some s:=⟨a2[t]'(by omega),by simp⟩
           have hsb2:-(602*B)≤s2∧s2≤602*B:=by
             have h1:=getD_set' a k t (s+f) (by have:=uh HA;omega)
             rw [← ha2,zke hs2] at h1
             have h2:=(uh HA).2.2.1 t
             have h3:=(uh HA).2.2.1 k
             have h4:=(uh HA).2.2.2
             rw [zke (uh HS)] at h3
             have:=uh HT
             rw [h1]
             split <;> omega
           have HI10:=qh (show Ins T (s2 - f) by have:=uh HT;have:=(uh HA).2.2.2;unfold Ins;omega)
           obtain ⟨y',hy4,hyq⟩:=(uh HV).q4 hs2
           have HY:=qh hyq
           have HA2:=qh (And.intro ha2 (And.intro hal2 hs2))
           clear ha2 hal2 hs2 hsb2 hyq
           have c0:=ck (uh HB) (uh HC).2.1
           obtain ⟨d0,d1,d2,d3⟩:=(uh HC).2.2.1.keep (uh HB)
           obtain ⟨y0,y1,y2,y3⟩:=hy4
           go_upto_region 10 with fail
           have HNX:=qh (show a2.set t (s2 - f)=mvs L F (List.replicate n 0) (i+1) by
             rw [mvs_next (uh HX).1 (uh HX).2,← (uh HA).1,mv]
             simp only [Int.toNat_natCast]
             rw [zke (uh HS),← (uh HA2).1,zke (uh HA2).2.2])
           go_region_with (first
             | (go_at_call 47;go_fit (qs_sub _ (uh HG).1 (uh HG).2 ((uh HY).later (Below.refl _ _).drew) (((uh HC).2.2.2.later (uh HB)).later (Below.refl _ _).drew) (uh HI10));rintro e W1 ⟨⟨v1,rfl,hv1⟩,B1⟩;obtain ⟨z1,rfl⟩:=hv1.sh;have HB:=qh (bk B1 (uh HB).drew);have HV:=qh (((uh HV).later (zkq N D) (Below.refl _ _).drew).later (zkq N D) B1);have c0:=ck (uh HB) (uh HC).2.1;obtain ⟨u0,h0⟩:=(uh HV).cell (o:=t*4) (by omega);obtain ⟨u1,h1⟩:=(uh HV).cell (o:=t*4+1) (by omega);obtain ⟨u2,h2⟩:=(uh HV).cell (o:=t*4+2) (by omega);obtain ⟨u3,h3⟩:=(uh HV).cell (o:=t*4+3) (by omega);have f0:=(uh HV).free (t*4);have f1:=(uh HV).free (t*4+1);have f2:=(uh HV).free (t*4+2);have f3:=(uh HV).free (t*4+3);have hlt:=(uh HV).lt;clear B1 d0 d1 d2 d3 y0 y1 y2 y3))
           all_goals
             go_wp2
             go_roundg (m - (i+1))
             case measure=>omega
             case rel=>exact ⟨i+1,by omega,rfl,by go_num,qh (below_put4 (uh HB) (uh HGW) _ _ _ _),qh (by rw [← uh HNX];exact (uh HV).set4 (zkq N D) (by have:=uh HA2;omega) (kd_q _ _ _ _ _ _ _ _) ⟨_,_,_,_,_,_,_,_,rfl,hv1⟩)⟩
       · obtain rfl:m=i:=by omega
         clear hil hi hgk
         go_wp2
         go_ret
         exact ⟨⟨_,rfl,by have:=(uh HV).rows (by rw [zkh,List.length_replicate]) (by unfold maxLen;omega);exact this⟩,uh HB⟩
def redc (P:List Int) (x:Int×Int×Int×Int):Int:=x.2.2.2+P.getD x.1.toNat 0 - P.getD x.2.1.toNat 0
def bestP (P:List Int) (x:Int×Int×Int×Int) (f:Int):Prop:=¬ (redc P x<0∧f<x.2.2.1)∧¬ (0<redc P x∧0<f)
def billOf (L:List (Int×Int×Int×Int)) (F:List Int):Int:=((L.zip F).map fun p=>p.1.2.2.2*p.2).sum
def shipOk (D:Int) (n:Nat) (L:List (Int×Int×Int×Int)) (S F P:List Int) (c:Int):Prop:=wiP L F∧P.length=n∧mvs L F (List.replicate n 0) L.length=S∧(∀ (i:Nat) (x:Int×Int×Int×Int) (f:Int),L[i]? = some x→F[i]? = some f→bestP P x f)∧billOf L F=c*D
structure Sh (w:World) (N:Nat) (D:Int) (g gc:Nat) (fa:Option Addr) (fn fc:Nat) (pa:Option Addr) (pn pc:Nat) (x y:F8 Bool) (s:Int) (wr:World):Prop where
 below:Below w.heap.size w wr
 p1:wr.cell? ⟨g,1,none⟩=some (.slice fa fn fc)
 p2:wr.cell? ⟨g,2,none⟩=some (.slice pa pn pc)
 c:Q4 wr g 4 x
 acc:QX N (D*D) wr gc y s
 ne:g<gc
 gw:w.heap.size≤g
theorem Sh.keep {w:World}{N:Nat}{D:Int}{g gc:Nat}{fa:Option Addr}{fn fc:Nat}{pa:Option Addr}{pn pc:Nat}{x y:F8 Bool}{s:Int}{w1 w2:World} (h:Sh w N D g gc fa fn fc pa pn pc x y s w1) (hb:Below w1.heap.size w1 w2):Sh w N D g gc fa fn fc pa pn pc x y s w2:=⟨bk hb h.below,ck hb h.p1,ck hb h.p2,h.c.keep hb,h.acc.keep hb,h.ne,h.gw⟩
theorem QX.beside {N:Nat}{D s:Int}{w:World}{q r:Nat}{x:F8 Bool} (h:QX N D w r x s) (hq:QBox w q) (hne:r≠q) (u0 u1 u2 u3:Value):QX N D ((((w.setCell ⟨q,0,none⟩ u0).setCell ⟨q,1,none⟩ u1).setCell ⟨q,2,none⟩ u2).setCell ⟨q,3,none⟩ u3) r x s :=
 ⟨zqy (o:=0) h.c0 hne _ _ _ _,zqy (o:=0) h.c1 hne _ _ _ _,zqy (o:=0) h.c2 hne _ _ _ _,zqy (o:=0) h.c3 hne _ _ _ _,h.box.aside hne _ _ _ _,h.q.stored hq _ _ _ _⟩
theorem Q4.put {w:World}{b o g p:Nat}{x:F8 Bool} (h:Q4 w b o x) (hne:b≠g) (u0 u1 u2 u3:Value):Q4 ((((w.setCell ⟨g,p,none⟩ u0).setCell ⟨g,p+1,none⟩ u1).setCell ⟨g,p+2,none⟩ u2).setCell ⟨g,p+3,none⟩ u3) b o x:=⟨zqy h.1 hne _ _ _ _,zqy h.2.1 hne _ _ _ _,zqy h.2.2.1 hne _ _ _ _,zqy h.2.2.2 hne _ _ _ _⟩
theorem Sh.beside {w:World}{N:Nat}{D:Int}{g gc q:Nat}{fa:Option Addr}{fn fc:Nat}{pa:Option Addr}{pn pc:Nat}{x y:F8 Bool}{s:Int}{w1:World} (h:Sh w N D g gc fa fn fc pa pn pc x y s w1) (hq:QBox w1 q) (hgt:gc<q) (u0 u1 u2 u3:Value):Sh w N D g gc fa fn fc pa pn pc x y s ((((w1.setCell ⟨q,0,none⟩ u0).setCell ⟨q,1,none⟩ u1).setCell ⟨q,2,none⟩ u2).setCell ⟨q,3,none⟩ u3):=by
 have h1:=h.ne
 have h2:=h.gw
 exact ⟨zqd h.below (by omega) _ _ _ _,zqy (o:=0) h.p1 (by omega) _ _ _ _,zqy (o:=0) h.p2 (by omega) _ _ _ _,h.c.put (p:=0) (by omega) _ _ _ _,h.acc.beside hq (by omega) _ _ _ _,h1,h2⟩
theorem Sh.put {w:World}{N:Nat}{D:Int}{g gc:Nat}{fa:Option Addr}{fn fc:Nat}{pa:Option Addr}{pn pc:Nat}{x y z:F8 Bool}{s t:Int}{w1:World} (h:Sh w N D g gc fa fn fc pa pn pc x y s w1) (hz:Qs N (D*D) w1 (vq z) t):Sh w N D g gc fa fn fc pa pn pc x z t ((((w1.setCell ⟨gc,0,none⟩ (.bool z.a)).setCell ⟨gc,1,none⟩ (.slice z.b z.c z.d)).setCell ⟨gc,2,none⟩ (.bool z.e)).setCell ⟨gc,3,none⟩ (.slice z.f z.g z.h)):=by
 have h1:=h.ne
 have h2:=h.gw
 exact ⟨zqd h.below (by omega) _ _ _ _,zqy (o:=0) h.p1 (by omega) _ _ _ _,zqy (o:=0) h.p2 (by omega) _ _ _ _,h.c.put (p:=0) (by omega) _ _ _ _,QX.put h.acc.box hz,h1,h2⟩
structure ShB (T B:Int) (L:List (Int×Int×Int×Int)) (S F P:List Int):Prop where
 l:∀ x ∈ L,(-B≤x.2.2.1∧x.2.2.1≤B) ∧ -B≤x.2.2.2∧x.2.2.2≤B
 s:∀ f ∈ S,-B≤f∧f≤B
 f:∀ f ∈ F,-B≤f∧f≤B
 p:∀ f ∈ P,-B≤f∧f≤B
 b:0≤B
 t:1000*B<T
 u:1000*(B*B)<T
theorem ShB.prod {T B:Int}{L:List (Int×Int×Int×Int)}{S F P:List Int} (h:ShB T B L S F P) {x:Int×Int×Int×Int}{f:Int} (hx:x ∈ L) (hf:f ∈ F):-(B*B)≤x.2.2.2*f∧x.2.2.2*f≤B*B:=mul_abs (h.l x hx).2 (h.f f hf) h.b h.b
theorem ShB.sum {T B:Int}{L:List (Int×Int×Int×Int)}{S F P:List Int} (h:ShB T B L S F P) (hl:L.length≤300) (i:Nat):Ins T (((L.zip F).take i).map fun p=>p.1.2.2.2*p.2).sum :=
 sum_take i (B:=B*B) (fun p hp=>h.prod (List.of_mem_zip hp).1 (List.of_mem_zip hp).2) (Int.mul_nonneg h.b h.b) (by
   have:=h.u
   have h2:((L.zip F).length:Int)*(B*B)≤300*(B*B):=Int.mul_le_mul_of_nonneg_right (by rw [List.length_zip];omega) (Int.mul_nonneg h.b h.b)
   have:=Int.mul_nonneg h.b h.b
   omega)
end Go.Proofs.YtkdobjmhammhbaaGreatDoor
