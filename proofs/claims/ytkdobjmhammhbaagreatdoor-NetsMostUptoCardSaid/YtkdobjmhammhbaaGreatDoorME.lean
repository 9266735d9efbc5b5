import Derived.Test.YtkdobjmhammhbaaGreatDoorMD
namespace Go.Proofs.YtkdobjmhammhbaaGreatDoor
set_option maxHeartbeats 4000000
open Go.RowKit
theorem val_take_le {l:List Int} (h:Ws l) (k:Nat):val (l.take k)<=val l:=by
 by_cases hk:k<=l.length
 ·have e:=zxm l k hk
  have:=Int.mul_nonneg (Int.le_of_lt (zkm k)) (zqg (h.drop k))
  omega
 ·rw [List.take_of_length_le (by omega)];omega
theorem val_drop_zero {l:List Int}{m:Nat} (h:Ws l) (hm:m<=l.length) (hv:val l<pw m):val (l.drop m)=0:=by
 have e:=zxm l m hm
 have h1:=zqg (h.take m)
 have h2:=zqg (h.drop m)
 by_cases g:val (l.drop m)=0
 ·exact g
 ·have:pw m*1<=pw m*val (l.drop m):=Int.mul_le_mul_of_nonneg_left (by omega) (Int.le_of_lt (zkm m))
  omega
theorem len_of_val {l:List Int}{n:Nat} (h:Ws l) (t:Trim l) (h1:pw (n - 1)<=val l) (h2:val l<pw n) (hn:1<=n):l.length=n:=by
 have hne:l≠[]:=by
  intro e;subst e
  have:=zkm (n - 1)
  simp [val] at h1;omega
 have a:=val_ge h t hne
 have b:=val_lt h
 have lp:0<l.length:=List.length_pos_iff.2 hne
 by_cases g1:l.length<n
 ·have:=pw_mono (show l.length<=n - 1 by omega);omega
 ·by_cases g2:n<l.length
  ·have:=pw_mono (show n<=l.length - 1 by omega);omega
  ·omega
theorem norm {b:List Int}{s nb:Nat} (hb:Ws b) (hl:b.length=nb) (h1:1<=nb) (hlo:9223372036854775808<=nth b (nb - 1)*2 ^ s) (hup:nth b (nb - 1)*2 ^ s<18446744073709551616) (hs:s<=63) :
 9223372036854775808*pw (nb - 1)<=val b*2 ^ s/\val b*2 ^ s<pw nb:=by
 have eB:=zqh b (nb - 1) (by omega)
 rw [show nb - 1+1=nb by omega,List.take_of_length_le (by omega)] at eB
 have l0:=zqg (hb.take (nb - 1))
 have l1:=val_lt (hb.take (nb - 1))
 rw [List.length_take,Nat.min_eq_left (by omega)] at l1
 have pp:=zkm (nb - 1)
 have p0:=zxu s
 have r0:=zxu (64 - s)
 have e:=two_split s (by omega)
 have pn:pw nb=18446744073709551616*pw (nb - 1):=by rw [<- zkg,show nb - 1+1=nb by omega]
 have t0:=(hb.get (nb - 1)).1
 generalize nth b (nb - 1)=t at *
 generalize val (b.take (nb - 1))=v at *
 have ht:t+1<=2 ^ (64 - s):=by
  by_cases g:t+1<=2 ^ (64 - s)
  ·exact g
  ·have:2 ^ (64 - s)*2 ^ s<=t*2 ^ s:=Int.mul_le_mul_of_nonneg_right (by omega) (by omega)
   rw [Int.mul_comm (2 ^ (64 - s)),e] at this
   omega
 rw [eB]
 constructor
 ·have h1:0<=v*2 ^ s:=Int.mul_nonneg l0 (by omega)
  have h2:9223372036854775808*pw (nb - 1)<=t*2 ^ s*pw (nb - 1):=Int.mul_le_mul_of_nonneg_right hlo (by omega)
  have h3:(v+pw (nb - 1)*t)*2 ^ s=v*2 ^ s+t*2 ^ s*pw (nb - 1):=by grind
  omega
 ·have h1:(v+pw (nb - 1)*t)+1<=pw (nb - 1)*(t+1):=by rw [Int.mul_add];omega
  have h2:(v+pw (nb - 1)*t+1)*2 ^ s<=pw (nb - 1)*(t+1)*2 ^ s:=Int.mul_le_mul_of_nonneg_right h1 (by omega)
  have h3:(t+1)*2 ^ s<=2 ^ (64 - s)*2 ^ s:=Int.mul_le_mul_of_nonneg_right ht (by omega)
  rw [Int.mul_comm (2 ^ (64 - s)),e] at h3
  have h4:pw (nb - 1)*((t+1)*2 ^ s)<=pw (nb - 1)*18446744073709551616:=Int.mul_le_mul_of_nonneg_left h3 (by omega)
  have h5:pw (nb - 1)*(t+1)*2 ^ s=pw (nb - 1)*((t+1)*2 ^ s):=by grind
  rw [Int.add_mul (v+pw (nb - 1)*t)] at h2
  omega
structure Long (gr gp P:Nat) (R0 b:List Int) (w:World) (k:Nat) (wr:World) (R ds:List Int):Prop where
 lenR:R.length=R0.length
 lenD:ds.length+k=P
 wsR:Ws R
 wsD:Ws ds
 eq:val R0=val R+pw k*(val ds*val b)
 low:val (R.drop k)<val b
 rowR:Row wr gr 0 R
 rowD:Row wr gp 0 (List.replicate k 0++ds)
 freeR:Free wr gr
 freeD:Free wr gp
 below:Below gr w wr
theorem Row.below {w w':World}{b off B:Nat}{l:List Int} (h:Row w b off l) (hb:Below B w w') (hB:b<B):Row w' b off l:=by
 intro k hk
 rw [hb.cell (p:=⟨b,off+k,none⟩) hB];exact h k hk
theorem Free.edit {g lo n f:Nat}{w w':World} (h:Free w f) (hne:f≠g) (ed:Edit g lo n w w'):Free w' f:=by
 obtain ⟨cur,e,h1⟩:=h
 exact ⟨cur,e,by rw [ed.other f (Array.getElem?_eq_some_iff.1 h1).1 hne];exact h1⟩
theorem Long.window {gr gp P nb k:Nat}{R0 b R ds:List Int}{w wr:World} (h:Long gr gp P R0 b w (k+1) wr R ds) (hb:val b<pw nb) (hl:R0.length=P+nb) :
 ((R.drop k).take (nb+1)).length=nb+1/\val (((R.drop k).take (nb+1)).drop 1)<val b/\val (R.drop (k+(nb+1)))=0/\val (R.drop k)=val ((R.drop k).take (nb+1)):=by
 have l1:=h.lenR
 have l2:=h.lenD
 have lw:((R.drop k).take (nb+1)).length=nb+1:=by simp;omega
 have e1:((R.drop k).take (nb+1)).drop 1=(R.drop (k+1)).take nb:=by
  rw [List.drop_take,List.drop_drop];simp
 have h0:=h.low
 have z:val ((R.drop (k+1)).drop nb)=0:=val_drop_zero (h.wsR.drop _) (by simp;omega) (by omega)
 rw [List.drop_drop,show k+1+nb=k+(nb+1) by omega] at z
 refine ⟨lw,?_,z,?_⟩
 ·rw [e1];have:=val_take_le (h.wsR.drop (k+1)) nb;omega
 ·rw [zxm (R.drop k) (nb+1) (by simp;omega),List.drop_drop,z];simp
theorem long_step {gr gp P nb k:Nat}{R0 b R ds out:List Int}{d:Int}{w wr w3:World} (h:Long gr gp P R0 b w (k+1) wr R ds) (hb:val b<pw nb) (hl:R0.length=P+nb) (hg:gr<gp) (hd:W64 d) (lo:out.length=nb+1) (wo:Ws out)
 (eo:val out=val ((R.drop k).take (nb+1)) - val b*d) (ho:val out<val b) (ro:Row w3 gr k out) (ed:Edit gr k (nb+1) wr w3) (hs:gr<=wr.heap.size) :
 Long gr gp P R0 b w k (w3.setCell ⟨gp,k,none⟩ (.int .u64 d)) (R.take k++out++R.drop (k+(nb+1))) (d :: ds):=by
 obtain ⟨lw,hw1,hz,hw2⟩:=h.window hb hl
 have l1:=h.lenR
 have l2:=h.lenD
 have lt:(R.take k).length=k:=by simp;omega
 have hcp:w3.cell? ⟨gp,k,none⟩=some (.int .u64 0):=by
  have:=(h.rowD.edit ed (by omega)) k (by simp;omega)
  rw [Nat.zero_add,zqt (by simp)] at this
  rw [this];simp [nth]
 refine ⟨by simp;omega,by simp;omega,((h.wsR.take k).append wo).append (h.wsR.drop _),Ws.mk hd h.wsD,?_,?_,?_,?_,zkz (ed.free h.freeR) _ _,zkz (h.freeD.edit (by omega) ed) _ _,(h.below.trans (ed.below (Nat.le_refl _) hs)).setCell (by show gr<=gp;omega) _⟩
 ·have e1:=h.eq
  have e2:=zxm R k (by omega)
  rw [zkc,zkc,hz,lt,val,zkg] at *
  rw [e1,e2,hw2,eo]
  grind
 ·rw [List.append_assoc,List.drop_append_of_le_length (by omega),List.drop_of_length_le (by omega),List.nil_append,zkc,hz]
  simpa using ho
 ·intro j hj
  simp at hj
  rw [zqb _ _ _ _ _ _ (by omega),Nat.zero_add]
  by_cases j1:j<k
  ·rw [ed.cell j (by omega)]
   have:=h.rowR j (by omega)
   rw [Nat.zero_add] at this
   rw [this,zqt (by simp;omega),zqt (by omega),nth_take j1]
  by_cases j2:j<k+(nb+1)
  ·have:=ro (j - k) (by omega)
   rw [show k+(j - k)=j by omega] at this
   rw [this,zqt (by simp;omega),zxj (by omega),lt]
  ·rw [ed.cell j (by omega)]
   have:=h.rowR j (by omega)
   rw [Nat.zero_add] at this
   rw [this,zxj (by simp;omega),nth_drop]
   congr 2
   simp [lo];congr 1;omega
 ·have r1:=(h.rowD.edit ed (by omega)).set (k:=k) (by simp;omega) d
  rw [Nat.zero_add,List.replicate_succ',List.append_assoc,List.set_append_right k _ (by simp)] at r1
  simpa using r1
theorem long_end {b a out R ds:List Int}{s:Nat}{V:Int} (hV:V=val b*2 ^ s) (hR0:val a*2 ^ s=val R+val ds*V) (ho:val out*2 ^ s+nth R 0 % 2 ^ s=val R) (hlow:val R<V) (hRn:0<=val R) :
 val out=val a - val ds*val b/\val out<val b/\0<=val out:=by
 have p0:=zxu s
 have m0:=Int.emod_nonneg (nth R 0) (show (2:Int) ^ s≠0 by omega)
 have m1:=Int.emod_lt_of_pos (nth R 0) p0
 generalize (2:Int) ^ s=p at *
 generalize nth R 0 % p=r at *
 have e:p*(val a - val ds*val b - val out)=r:=by subst hV;grind
 have e0:val a - val ds*val b - val out=0:=by
  by_cases g:val a - val ds*val b - val out=0
  ·exact g
  ·by_cases g':1<=val a - val ds*val b - val out
   ·have:p*1<=p*(val a - val ds*val b - val out):=Int.mul_le_mul_of_nonneg_left g' (by omega)
    omega
   ·have:p*(val a - val ds*val b - val out)<=p*(-1):=Int.mul_le_mul_of_nonneg_left (by omega) (by omega)
    omega
 rw [e0] at e
 refine ⟨by omega,?_,?_⟩
 ·by_cases g:val out<val b
  ·exact g
  ·have:val b*p<=val out*p:=Int.mul_le_mul_of_nonneg_right (by omega) (by omega)
   omega
 ·by_cases g:0<=val out
  ·exact g
  ·have:val out*p<=(-1)*p:=Int.mul_le_mul_of_nonneg_right (by omega) (by omega)
   omega
theorem divideLong_any (ga oa ca gb ob cb na nb:Nat) (a b:List Int) (w:World) (hra:Row w ga oa a) (hrb:Row w gb ob b) (ha:Ws a) (hb:Ws b) (tb:nth b (nb - 1)≠0) (hna:a.length=na) (hnb:b.length=nb) (h1:1<=nb) (hle:nb<=na) (hlim:na<=900000) :
 Calls Tryz.prog 232 #[.slice (some ⟨ga,oa,none⟩) na ca,.slice (some ⟨gb,ob,none⟩) nb cb] w fun e w'=>∃ v1 v2 q r,e=.returned (.tuple #[v1,v2])/\Sz (na+1) w' v1 q/\Sz (na+1) w' v2 r/\q*val b+r=val a/\0<=r/\r<val b/\Below w.heap.size w w':=by
 have hct:=hrb (nb - 1) (by omega)
 obtain ⟨t0,t1⟩:=hb.get (nb - 1)
 obtain ⟨s,hs,hs63,hlo,hup⟩:=lead (hb.get (nb - 1)) (by omega)
 obtain ⟨nlo,nup⟩:=norm hb hnb h1 hlo hup hs63
 have HNA:=qh hna
 have HNB:=qh hnb
 have HS:=qh hs
 have HNL:=qh nlo
 have HNU:=qh nup
 clear hna hnb hs nlo nup hlo hup
 go_enter Tryz.func232,Tryz.ntmps232
 go_wp2_with fail
 refine (Tryz.bits_LeadingZeros64 _ _ t0 (by omega)).mono ?_
 rintro e w ⟨rfl,rfl⟩
 rw [uh HS]
 go_wp2_with fail
 refine (shiftUp_any gb ob cb nb s b _ (by exact hrb) hb (uh HNB) hs63 (by omega)).mono ?_
 rintro e w2 ⟨g1,b1,rfl,hg1,lb1,wb1,eb1,_,rb1,fb1,bl1⟩
 go_wp2_with fail
 refine (zje g1 0 (nb+1) (nb+1) b1 _ (by exact rb1) wb1 lb1 (Nat.le_refl _) (by omega)).mono ?_
 rintro e w3 ⟨v3,rfl,⟨gy,oy,cy,y,rfl,wy,ty,ey,ny,ly,lcy,ry⟩,rfl⟩
 have hV:val y=val b*2 ^ s:=ey.trans eb1
 have hpp:=zkm (nb - 1)
 have hy2:pw (nb - 1)<=val y:=by rw [hV];have:=uh HNL;omega
 have hy3:val y<pw nb:=by rw [hV];exact uh HNU
 have hly:y.length=nb:=len_of_val wy ty hy2 hy3 h1
 have hytop:0<nth y (nb - 1):=by
  have t:=(wy.get (nb - 1)).1
  rcases ty with ty | ty
  ·subst ty;simp at hly;omega
  ·rw [hly] at ty;omega
 rw [hly]
 have hgy:gy<w2.heap.size:=ry.lt (by intro e;subst e;simp at hly;omega)
 have HV:=qh hV
 have HLY:=qh hly
 clear hV hly ey eb1 lb1 hpp
 go_wp2_with fail
 refine (shiftUp_any ga oa ca na s a _ (by exact hra.later bl1) ha (uh HNA) hs63 (by omega)).mono ?_
 rintro e w4 ⟨gr,R0,rfl,hgr,lr0,wr0,er0,tr0,rr0,fr0,bl2⟩
 have ry4:Row w4 gy oy y:=ry.later bl2
 have hsz:=bl2.size
 obtain ⟨P,hP⟩:∃ P:Nat,P+nb=na+1:=⟨na+1 - nb,by omega⟩
 have hPi:(na:Int)+1 - (nb:Int)=(P:Int):=by omega
 have HLR:=qh lr0
 have HER:=qh er0
 clear lr0 er0
 have HTR:=qh tr0
 clear tr0
 have hPle:P<=900001:=by omega
 have hrlt:gr<w4.heap.size:=fr0.lt
 go_wp2_with (first | (at_make;refine zqw rfl _ _ rfl P (by omega) rfl rfl ?_;intro gp w5 hmade))
 have hgp:gr<gp:=by have:=hmade.at_;omega
 have hgp2:w4.heap.size<=gp:=by have:=hmade.at_;omega
 have hgy2:gy<gr:=by omega
 have hlow0:val (R0.drop P)<val y:=by
  have e1:=uh HLR
  have l:(R0.drop P).length=nb:=by simp;omega
  have e2:=zqh (R0.drop P) (nb - 1) (by omega)
  rw [show nb - 1+1=nb by omega,List.take_of_length_le (by omega),nth_drop,show P+(nb - 1)=na by omega] at e2
  have l1:=val_lt ((wr0.drop P).take (nb - 1))
  rw [List.length_take,Nat.min_eq_left (by omega)] at l1
  have t2:=uh HTR
  have t3:=two_le s hs63
  have t4:=zkm (nb - 1)
  have t5:pw (nb - 1)*(nth R0 na+1)<=pw (nb - 1)*9223372036854775808:=Int.mul_le_mul_of_nonneg_left (by omega) (by omega)
  rw [Int.mul_add] at t5
  have t6:=uh HNL
  rw [uh HV]
  omega
 have HL0:=qh hlow0
 clear hlow0
 go_loopw [34] (fun v wr=>∃ (k j:Nat) (R ds:List Int),j+k=P/\v=.int .i64 j/\Long gr gp P R0 y w5 k wr R ds) (fun v _=>P - (intOf v).toNat)
 case atStart =>
  have e1:=uh HLR
  refine ⟨P,0,R0,[],by omega,rfl,⟨rfl,by simp,wr0,Ws.nil,by simp [val],uh HL0,rr0.later hmade.below,by simpa using hmade.row,?_,hmade.free,Below.refl _ _⟩⟩
  obtain ⟨cur,e,hh⟩:=fr0
  exact ⟨cur,e,by rw [hmade.below.block gr hrlt];exact hh⟩
 case round =>
  obtain ⟨k',j,R,ds,hjk,rfl,hR⟩:=hrel
  have hszr:=hR.below.size
  have hs5:gp<w5.heap.size:=hmade.free.lt
  by_cases hlt:j<P
  ·obtain ⟨k,rfl⟩:∃ k,k'=k+1:=⟨k' - 1,by omega⟩
   have hk:(P:Int) - 1 - (j:Int)=(k:Int):=by omega
   have hR0l:R0.length=P+nb:=by have:=uh HLR;omega
   obtain ⟨lw,hw1,hz,hw2⟩:=hR.window hy3 hR0l
   have hwin:Row wr gr k ((R.drop k).take (nb+1)):=by
    have:=(hR.rowR.drop k).take (nb+1)
    rwa [Nat.zero_add] at this
   have hry:Row wr gy oy y:=(ry4.later hmade.below).below hR.below (by omega)
   have hcp:wr.cell? ⟨gp,k,none⟩=some (.int .u64 0):=by
    have:=hR.rowD k (by simp;omega)
    rw [Nat.zero_add,zqt (by simp)] at this
    rw [this];simp [nth]
   have HW:=qh (And.intro lw (And.intro hw1 (And.intro hz hw2)))
   clear lw hw1 hz hw2
   have HR0:=qh hR0l
   clear hR0l
   have HJK:=qh hjk
   clear hjk
   have j1:k+j+1=P:=by have:=uh HJK;omega
   have J1:=qh j1
   clear j1
   have z1:¬ na+1=k:=by have:=uh J1;omega
   have z2:k+nb+1<=na+1:=by have:=uh J1;omega
   have z3:k<P:=by have:=uh J1;omega
   go_wp2_with fail
   rw [show k+nb+1 - k=nb+1 by omega]
   refine (nextDigit_any gr k (na+1 - k) gy oy cy nb _ y _ (by exact hwin) (by exact hry) (by exact hR.freeR) (fun _=>by omega) ((hR.wsR.drop k).take _) wy (uh HW).1 (uh HLY) h1 (by omega) (by omega) hytop (uh HW).2.1).mono ?_
   rintro e w6 ⟨d,out,rfl,hd,lo,wo,eo,ho,ro,ed⟩
   have hcp6:w6.cell? ⟨gp,k,none⟩=some (.int .u64 0):=edit_cell ed hcp (by omega)
   have hfp6:w6.frozen? ⟨gp,k,none⟩=false:=(hR.freeD.edit (by omega) ed).frozen _
   have HO:=qh (And.intro lo (And.intro eo ho))
   clear lo eo ho
   go_wp2
   go_roundw
   case rel =>
    obtain ⟨lo,eo,ho⟩:=uh HO
    refine ⟨k,j+1,_,_,by have:=uh J1;omega,by go_num,long_step hR hy3 (uh HR0) (by omega) hd lo wo eo ho ro ed (by omega)⟩
   case measure=>simp [intOf];omega
  ·obtain rfl:k'=0:=by omega
   have hR0l:R0.length=P+nb:=by have:=uh HLR;omega
   have hRl:R.length=na+1:=by have:=hR.lenR;omega
   have hDl:ds.length=P:=by have:=hR.lenD;omega
   have HRL:=qh hRl
   have HDL:=qh hDl
   clear hR0l hRl hDl
   go_wp2_with fail
   refine (shiftDown_any gr 0 (na+1) (na+1) s R _ (by exact hR.rowR) (by exact hR.freeR) hR.wsR (uh HRL) hs63 (by omega)).mono ?_
   rintro e w6 ⟨out,rfl,lo,wo,eo,ro,ed⟩
   have HO:=qh (And.intro lo eo)
   clear lo eo
   have rd6:Row w6 gp 0 ds:=by
    have:=hR.rowD.edit ed (by omega)
    simpa using this
   go_wp2_with fail
   refine (zje gp 0 P P ds _ (by exact rd6) hR.wsD (uh HDL) (Nat.le_refl _) (by omega)).mono ?_
   rintro e w7 ⟨v1,rfl,hsz1,rfl⟩
   go_wp2_with fail
   refine (zje gr 0 (na+1) (na+1) out _ (by exact ro) wo (uh HO).1 (Nat.le_refl _) (by omega)).mono ?_
   rintro e w8 ⟨v2,rfl,hsz2,rfl⟩
   go_wp2
   go_ret2
   have e1:=hR.eq
   have e2:=hR.low
   simp only [pw,List.drop_zero,Int.one_mul] at e1 e2
   rw [uh HER] at e1
   obtain ⟨f1,f2,f3⟩:=long_end (uh HV) e1 (uh HO).2 e2 (zqg hR.wsR)
   refine ⟨_,_,_,_,rfl,hsz1.mono (by omega),hsz2,by rw [f1];omega,f3,f2,?_⟩
   have bA:Below w.heap.size w w4:=bl1.trans (bl2.mono bl1.size)
   have bB:Below w.heap.size w w5:=bA.trans (hmade.below.mono bA.size)
   have b1s:=bl1.size
   exact (bB.trans (hR.below.mono (by omega))).trans (ed.below (by omega) (by have:=bB.size;omega))
def Szn (N:Nat) (w:World) (v:Value) (z:Int):Prop:=Sz N w v z\/(v=.slice none 0 0/\z=0)
theorem zqj {B:Nat}{a w:World} (h:Below B a w) (n:Nat):Below B a (w.drewN n):=⟨h.os,h.tape,h.output,h.size,h.block⟩
theorem compare_nm (ba oa ca bb ob cb n m:Nat) (a b:List Int) (w:World) (hra:Row w ba oa a) (hrb:Row w bb ob b) (ha:Ws a) (hb:Ws b) (ta:Trim a) (tb:Trim b) (hn:a.length=n) (hm:b.length=m) (hla:n<=1000000) (hlb:m<=1000000) :
 Calls Tryz.prog 142 #[.slice (some ⟨ba,oa,none⟩) n ca,.slice (some ⟨bb,ob,none⟩) m cb] w fun e w'=>e=.returned (.int .i64 (sgn (val a - val b)))/\∃ n,w'=w.drewN n:=by
 subst hn hm
 exact compare_any ba oa ca bb ob cb a b w hra hrb ha hb ta tb hla hlb
theorem divide_less (ga oa ca gb ob cb n m:Nat) (a b:List Int) (w:World) (hra:Row w ga oa a) (hrb:Row w gb ob b) (ha:Ws a) (hb:Ws b) (ta:Trim a) (tb:Trim b) (hn:a.length=n) (hm:b.length=m) (hla:n<=900000) (hlb:m<=900000) (hlt:val a<val b) :
 Calls Tryz.prog 217 #[.slice (some ⟨ga,oa,none⟩) n ca,.slice (some ⟨gb,ob,none⟩) m cb] w fun e w'=>e=.returned (.tuple #[.slice none 0 0,.slice (some ⟨ga,oa,none⟩) n ca])/\∃ k,w'=w.drewN k:=by
 have HC:=qh (zqp (x:=val a - val b) (by omega))
 have HN:=qh hn
 have HM:=qh hm
 clear hn hm
 go_enter Tryz.func217,Tryz.ntmps217
 go_wp2_with fail
 refine (compare_nm ga oa ca gb ob cb n m a b _ hra hrb ha hb ta tb (uh HN) (uh HM) (by omega) (by omega)).mono ?_
 rintro e w1 ⟨rfl,m,rfl⟩
 rw [uh HC]
 go_wp2
 go_ret2
 exact ⟨rfl,m,rfl⟩
theorem divide_one (ga oa ca gb ob cb n:Nat) (a b:List Int) (y:Int) (w:World) (hra:Row w ga oa a) (hrb:Row w gb ob b) (ha:Ws a) (hb:Ws b) (ta:Trim a) (tb:Trim b) (hn:a.length=n) (hm:b=[y]) (hla:n<=900000) (hlt:val b<=val a) (hy:0<y) :
 Calls Tryz.prog 217 #[.slice (some ⟨ga,oa,none⟩) n ca,.slice (some ⟨gb,ob,none⟩) 1 cb] w fun e w'=>∃ v1 v2 q r,e=.returned (.tuple #[v1,v2])/\Sz (n+1) w' v1 q/\Sz (n+1) w' v2 r/\q*y+r=val a/\0<=r/\r<y/\Below w.heap.size w w':=by
 have hsg:0<=sgn (val a - val b)/\sgn (val a - val b)<=1:=by
  by_cases e:val a=val b
  ·rw [zxi (by omega)];decide
  ·rw [zqq (by omega)];decide
 obtain ⟨sg,hsg1⟩:∃ sg,sgn (val a - val b)=sg:=⟨_,rfl⟩
 rw [hsg1] at hsg
 obtain ⟨sg0,sg1⟩:=hsg
 have HSG:=qh hsg1
 have hcb:w.cell? ⟨gb,ob,none⟩=some (.int .u64 y):=by have:=hrb 0 (by rw [hm];simp);rw [hm] at this;exact this
 have hyw:W64 y:=hb y (by rw [hm];simp)
 have hbl:b.length=1:=by rw [hm];rfl
 have hgb:gb<w.heap.size:=hrb.lt (by rw [hm];simp)
 have HN:=qh hn
 have HBL:=qh hbl
 clear hsg1 hn hbl hm hlt
 go_enter Tryz.func217,Tryz.ntmps217
 go_wp2_with fail
 refine (compare_nm ga oa ca gb ob cb n 1 a b _ hra hrb ha hb ta tb (uh HN) (uh HBL) (by omega) (by omega)).mono ?_
 rintro e w1 ⟨rfl,m,rfl⟩
 rw [uh HSG]
 have hra1:Row (w.drewN m) ga oa a:=hra
 go_wp2_with (first | (at_make;refine zqw rfl _ _ rfl n (by omega) rfl rfl ?_;intro g w1 hmade) | (refine zkd rfl (.tmp 18) (.tmp 19) rfl g 0 n n ga oa n ca (List.replicate n 0) a rfl rfl (by simp) (uh HN) (Nat.le_refl _) hmade.row (hra1.later hmade.below) hmade.free ?_;intro w2 hrow hedit;have hcb2:w2.cell? ⟨gb,ob,none⟩=some (.int .u64 y):=edit_cell hedit ((hmade.below.cell (p:=⟨gb,ob,none⟩) hgb).trans hcb) (by have:=hmade.at_;simp at this;omega)))
 have hrow':Row w2 g 0 a:=by
  have:=hrow
  rwa [List.drop_eq_nil_of_le (by simp),List.append_nil] at this
 have hgs:w.heap.size=g:=by have:=hmade.at_;simpa using this.symm
 have hbw:Below w.heap.size w w2:=by
  have h1:Below w.heap.size w w1:=⟨hmade.below.os,hmade.below.tape,hmade.below.output,hmade.below.size,hmade.below.block⟩
  exact h1.trans (hedit.below (by omega) (by have:=h1.size;omega))
 have HGS:=qh hgs
 clear hgs
 refine (divideWord_any g 0 n n a y _ (by exact hrow') (by exact hedit.free hmade.free) ha hyw hy (uh HN) (by omega)).mono ?_
 rintro e w3 ⟨r,out,rfl,r0,r1,lo,wo,eo,ro,ed⟩
 have HO:=qh (And.intro lo eo)
 clear lo eo
 go_wp2_with fail
 refine (zje g 0 n n out _ (by exact ro) wo (uh HO).1 (Nat.le_refl _) (by omega)).mono ?_
 rintro e w4 ⟨v1,rfl,hsz1,rfl⟩
 go_wp2_with fail
 have hnew:Row (w3.alloc (.cells #[.int .u64 r] 200)) w3.heap.size 0 [r]:=by
  intro k hk
  simp at hk;subst hk
  simp [nth]
 refine (zje w3.heap.size 0 1 1 [r] _ (by exact hnew) (Ws.mk ⟨r0,by have:=hyw.2;omega⟩ Ws.nil) rfl (Nat.le_refl _) (by omega)).mono ?_
 rintro e w5 ⟨v2,rfl,hsz2,rfl⟩
 go_wp2
 go_ret2
 have bb:Below w.heap.size w w3:=hbw.trans (ed.below (by have:=uh HGS;omega) hbw.size)
 refine ⟨_,_,_,r,rfl,(hsz1.mono (by omega)).later ((Below.refl _ _).alloc (Nat.le_refl _) _),(hsz2.mono (by omega)).eq (by simp [val]),(uh HO).2.symm,r0,r1,bb.alloc bb.size _⟩
theorem divide_long (ga oa ca gb ob cb n m:Nat) (a b:List Int) (w:World) (hra:Row w ga oa a) (hrb:Row w gb ob b) (ha:Ws a) (hb:Ws b) (ta:Trim a) (tb:Trim b) (hn:a.length=n) (hm:b.length=m) (hm2:2<=m) (hmn:m<=n) (hla:n<=900000) (hlt:val b<=val a) :
 Calls Tryz.prog 217 #[.slice (some ⟨ga,oa,none⟩) n ca,.slice (some ⟨gb,ob,none⟩) m cb] w fun e w'=>∃ v1 v2 q r,e=.returned (.tuple #[v1,v2])/\Sz (n+1) w' v1 q/\Sz (n+1) w' v2 r/\q*val b+r=val a/\0<=r/\r<val b/\Below w.heap.size w w':=by
 have hsg:0<=sgn (val a - val b)/\sgn (val a - val b)<=1:=by
  by_cases e:val a=val b
  ·rw [zxi (by omega)];decide
  ·rw [zqq (by omega)];decide
 obtain ⟨sg,hsg1⟩:∃ sg,sgn (val a - val b)=sg:=⟨_,rfl⟩
 rw [hsg1] at hsg
 obtain ⟨sg0,sg1⟩:=hsg
 have HSG:=qh hsg1
 have htop:nth b (m - 1)≠0:=by
  rcases tb with tb | tb
  ·subst tb;simp at hm;omega
  ·rwa [hm] at tb
 have HN:=qh hn
 have HM:=qh hm
 have hm1:((m:Int) == 1)=false:=by simp;omega
 clear hsg1 hn hm hlt
 go_enter Tryz.func217,Tryz.ntmps217
 go_wp2_with fail
 refine (compare_nm ga oa ca gb ob cb n m a b _ hra hrb ha hb ta tb (uh HN) (uh HM) (by omega) (by omega)).mono ?_
 rintro e w1 ⟨rfl,k,rfl⟩
 rw [uh HSG]
 go_wp2_with fail
 refine (divideLong_any ga oa ca gb ob cb n m a b _ (by exact hra) (by exact hrb) ha hb htop (uh HN) (uh HM) (by omega) hmn hla).mono ?_
 rintro e w2 ⟨v1,v2,q,r,rfl,s1,s2,e1,r0,r1,bl⟩
 have HE:=qh e1
 clear e1
 go_wp2
 go_ret2
 exact ⟨_,_,q,r,rfl,s1,s2,uh HE,r0,r1,⟨bl.os,bl.tape,bl.output,bl.size,bl.block⟩⟩
theorem divide_any {N M:Nat}{va vb:Value}{x y:Int} (w:World) (hva:Sz N w va x) (hvb:Sz M w vb y) (hy:0<y) (hlim:N<=900000) (hlim2:M<=900000) :
 Calls Tryz.prog 217 #[va,vb] w fun e w'=>∃ v1 v2 q r,e=.returned (.tuple #[v1,v2])/\Szn (N+1) w' v1 q/\Sz (N+1) w' v2 r/\q*y+r=x/\0<=r/\r<y/\Below w.heap.size w w':=by
 have hva0:=hva
 obtain ⟨ga,oa,ca,a,rfl,ha,ta,rfl,na,la,lca,hra⟩:=hva
 obtain ⟨gb,ob,cb,b,rfl,hb,tb,rfl,nb,lb,lcb,hrb⟩:=hvb
 have hx0:=zqg ha
 by_cases hlt:val a<val b
 ·refine (divide_less ga oa ca gb ob cb _ _ a b w hra hrb ha hb ta tb rfl rfl (by omega) (by omega) hlt).mono ?_
  rintro e w1 ⟨rfl,m,rfl⟩
  exact ⟨_,_,0,val a,rfl,Or.inr ⟨rfl,rfl⟩,(hva0.mono (by omega)).later (zqj (Below.refl _ _) m),by omega,by omega,hlt,zqj (Below.refl _ _) m⟩
 ·have hlen:b.length<=a.length:=by
   by_cases g:b.length<=a.length
   ·exact g
   ·have:=zqv ha hb tb (by omega);omega
  have hbn:b≠[]:=by intro e;subst e;simp [val] at hy
  have hb1:1<=b.length:=List.length_pos_iff.2 hbn
  by_cases hone:b.length=1
  ·obtain ⟨y0,hyb⟩:∃ y0,b=[y0]:=List.length_eq_one_iff.1 hone
   have hy0:val b=y0:=by rw [hyb];simp [val]
   rw [hone]
   refine (divide_one ga oa ca gb ob cb _ a b y0 w hra hrb ha hb ta tb rfl hyb (by omega) (by omega) (by omega)).mono ?_
   rintro e w1 ⟨v1,v2,q,r,rfl,s1,s2,e1,r0,r1,bl⟩
   exact ⟨v1,v2,q,r,rfl,Or.inl (s1.mono (by omega)),s2.mono (by omega),by rw [hy0];exact e1,r0,by omega,bl⟩
  ·refine (divide_long ga oa ca gb ob cb _ _ a b w hra hrb ha hb ta tb rfl rfl (by omega) hlen (by omega) (by omega)).mono ?_
   rintro e w1 ⟨v1,v2,q,r,rfl,s1,s2,e1,r0,r1,bl⟩
   exact ⟨v1,v2,q,r,rfl,Or.inl (s1.mono (by omega)),s2.mono (by omega),e1,r0,r1,bl⟩
theorem Zr.shape {N:Nat}{w:World}{v:Value}{z:Int} (h:Zr N w v z):∃ near a n cap,v=.agg #[.int .i64 near,.slice a n cap]:=by
 rcases h with ⟨rfl,_⟩ | ⟨s,b,off,cap,l,rfl,_⟩
 ·exact ⟨_,_,_,_,rfl⟩
 ·exact ⟨_,_,_,_,rfl⟩
def Box (w:World) (r:Nat):Prop:=∃ x a n c,w.heap[r]? = some (.cells #[.int .i64 x,.slice a n c] 37 (0,0))
theorem Box.cells {w:World}{r:Nat} (h:Box w r):(∃ x,w.cell? ⟨r,0,none⟩=some (.int .i64 x))/\(∃ a n c,w.cell? ⟨r,1,none⟩=some (.slice a n c))/\(∀ o,w.frozen? ⟨r,o,none⟩=false):=by
 obtain ⟨x,a,n,c,h⟩:=h
 exact ⟨⟨x,by simp [World.cell?,h]⟩,⟨a,n,c,by simp [World.cell?,h]⟩,fun o=>by simp [World.frozen?,h]⟩
theorem Row.notBox {w:World}{b off r:Nat}{l:List Int} (hr:Row w b off l) (hl:l≠[]) (h:Box w r):b≠r:=by
 intro e
 subst e
 obtain ⟨x,a,n,c,h⟩:=h
 have:=hr 0 (List.length_pos_iff.2 hl)
 simp only [World.cell?,h] at this
 match off,this with
 | 0,this=>simp at this
 | 1,this=>simp at this
 | k+2,this=>simp at this
theorem Zr.stored {N:Nat}{w:World}{v:Value}{z:Int}{r:Nat} (h:Zr N w v z) (hb:Box w r) (u u':Value):Zr N ((w.setCell ⟨r,0,none⟩ u).setCell ⟨r,1,none⟩ u') v z:=by
 rcases h with h | ⟨s,b,off,cap,l,h1,h2,h3,h4,h5,h6,h7,h8,h9,h10,h11⟩
 ·exact Or.inl h
 ·have hne:=h10.notBox h5 hb
  refine Or.inr ⟨s,b,off,cap,l,h1,h2,h3,h4,h5,h6,h7,h8,h9,fun k hk => ?_,h11⟩
  rw [zqb _ _ _ _ _ _ (by omega),zqb _ _ _ _ _ _ (by omega)]
  exact h10 k hk
theorem Box.stored {w:World}{r:Nat} (h:Box w r) (u u':Value):((w.setCell ⟨r,0,none⟩ u).setCell ⟨r,1,none⟩ u').cell? ⟨r,0,none⟩=some u/\((w.setCell ⟨r,0,none⟩ u).setCell ⟨r,1,none⟩ u').cell? ⟨r,1,none⟩=some u':=by
 obtain ⟨⟨x,h0⟩,⟨a,n,c,h1⟩,_⟩:=h.cells
 constructor
 ·rw [zqb _ _ _ _ _ _ (by omega)];exact zqd h0
 ·exact zqd (u:=.slice a n c) (by rw [zqb _ _ _ _ _ _ (by omega)];exact h1)
theorem zqc {B:Nat}{a w:World}{r:Nat} (h:Below B a w) (hr:B<=r) (u u':Value):Below B a ((w.setCell ⟨r,0,none⟩ u).setCell ⟨r,1,none⟩ u'):=(h.setCell (p:=⟨r,0,none⟩) hr u).setCell (p:=⟨r,1,none⟩) hr u'
theorem zqy (w:World):Box (w.alloc (.cells #[.int .i64 0,.slice none 0 0] 37)) w.heap.size:=⟨_,_,_,_,heap_alloc_new w _⟩
theorem Box.later {w w':World}{r:Nat} (h:Box w r) (hb:Below w.heap.size w w'):Box w' r:=by
 obtain ⟨x,a,n,c,h⟩:=h
 exact ⟨x,a,n,c,by rw [hb.block r (Array.getElem?_eq_some_iff.1 h).1];exact h⟩
theorem pw1:pw 1=18446744073709551616:=by simp [pw]
theorem signed_core (s:Int) (g o cap n:Nat) (l:List Int) (w:World) (hr:Row w g o l) (hl:Ws l) (hn:l.length=n) (hcap:n<=cap) (hlim:cap<=9223372036854775807) (hs:s=1\/s = -1\/(s=0/\val l=0)) :
 Calls Tryz.prog 164 #[.int .i64 s,.slice (some ⟨g,o,none⟩) n cap] w fun e w'=>(∃ v,e=.returned v/\Zr n w' v (s*val l))/\Below w.heap.size w w':=by
 have HS:=qh hs
 have HN:=qh hn
 clear hs hn
 go_enter Tryz.func164,Tryz.ntmps164
 go_wp2_with fail
 have hr1:Row (w.alloc (.cells #[.int .i64 0,.slice none 0 0] 37)) g o l:=hr.later ((Below.refl _ _).alloc (Nat.le_refl _) _)
 refine (zje g o cap n l _ (by exact hr1) hl (uh HN) hcap hlim).mono ?_
 rintro e w1 ⟨v,rfl,⟨g2,o2,c2,l2,rfl,wl2,tl2,el2,nl2,ll2,lc2,hr2⟩,rfl⟩
 have HE:=qh el2
 clear el2
 obtain ⟨k,hk⟩:∃ k,l2.length=k:=⟨_,rfl⟩
 rw [hk]
 rw [hk] at nl2 ll2
 have HK:=qh hk
 clear hk
 by_cases k0:k=0
 ·subst k0
  go_wp2
  refine bodyPost_ret (v:=.agg #[.int .i64 0,.slice none 0 0]) (by simp [results,Tryz.results164,go_sem]) rfl ⟨⟨_,rfl,(Zr.near n (by decide) (by decide)).eq ?_⟩,(Below.refl _ _).alloc (Nat.le_refl _) _⟩
  have:l2=[]:=List.eq_nil_of_length_eq_zero (uh HK)
  rw [<- uh HE,this];simp [val]
 ·by_cases k1:k=1
  ·subst k1
   obtain ⟨x,hx⟩:∃ x,l2=[x]:=List.length_eq_one_iff.1 (uh HK)
   subst hx
   have hx0:val l=x:=by rw [<- uh HE];simp [val]
   have hcx:(w.alloc (.cells #[.int .i64 0,.slice none 0 0] 37)).cell? ⟨g2,o2,none⟩=some (.int .u64 x):=hr2 0 (by simp)
   have hxw:=wl2 x (by simp)
   have HX:=qh hx0
   clear hx0
   go_wp2_with fail
   refine (zkj s x _ (by
    rcases uh HS with h | h | ⟨h,h'⟩
    ·exact Or.inl h
    ·exact Or.inr (Or.inl h)
    ·exact Or.inr (Or.inr ⟨h,by rw [<- uh HX];exact h'⟩)) hxw.1 hxw.2).mono ?_
   rintro e w2 ⟨⟨v,rfl,hZ⟩,hb⟩
   have hbox:Box w2 w.heap.size:=(zqy w).later hb
   obtain ⟨near,a,n',c',rfl⟩:=hZ.shape
   obtain ⟨⟨x0,hb0⟩,⟨a1,n1,c1,hb1⟩,hbf⟩:=hbox.cells
   have hz:w.heap.size<w2.heap.size:=by have:=hb.size;simp at this;omega
   go_wp2
   obtain ⟨st0,st1⟩:=hbox.stored (.int .i64 near) (.slice a n' c')
   have bw:Below w.heap.size w w2:=((Below.refl _ _).alloc (Nat.le_refl _) _).trans (hb.mono (by simp))
   exact bodyPost_ret (v:=.agg #[.int .i64 near,.slice a n' c']) (by simp [results,Tryz.results164,go_sem,st0,st1]) rfl ⟨⟨_,rfl,((hZ.mono (by omega)).stored hbox _ _).eq (by rw [uh HX])⟩,zqc bw (Nat.le_refl _) _ _⟩
  ·have hk2:2<=k:=by omega
   have ne0:((k:Int) == 0)=false:=by simp;omega
   have ne1:((k:Int) == 1)=false:=by simp;omega
   have hne:l2≠[]:=by intro e;have:=uh HK;subst e;simp at this;omega
   have hbig:18446744073709551616<=val l:=by
    rw [<- uh HE]
    have h1:=val_ge wl2 tl2 hne
    have h2:=pw_mono (show 1<=l2.length - 1 by have:=uh HK;omega)
    rw [pw1] at h2
    omega
   have HB:=qh hbig
   clear hbig
   have hbox:=zqy w
   have hg2:g2<w.heap.size:=by
    have h1:=hr2.lt hne
    have h2:=hr2.notBox hne hbox
    simp at h1
    omega
   have hr0:Row w g2 o2 l2:=by
    intro j hj
    have:=hr2 j hj
    rwa [World.cell?_of_block (w:=w) (a:=⟨g2,o2+j,none⟩) (Below.heap_alloc w _ g2 hg2)] at this
   go_wp2
   refine bodyPost_ret (v:=.agg #[.int .i64 s,.slice (some ⟨g2,o2,none⟩) k c2]) (by simp [results,Tryz.results164,go_sem]) rfl ⟨⟨_,rfl,Or.inr ⟨s,g2,o2,c2,l2,?_,?_,wl2,tl2,hne,?_,?_,?_,lc2,hr0.later ((Below.refl _ _).alloc (Nat.le_refl _) _),?_⟩⟩,(Below.refl _ _).alloc (Nat.le_refl _) _⟩
   ·rw [uh HK]
   ·have:=uh HB
    rcases uh HS with h | h | ⟨h,h'⟩
    ·exact Or.inl h
    ·exact Or.inr h
    ·omega
   ·rw [uh HE]
   ·rw [uh HK];exact nl2
   ·rw [uh HK];exact ll2
   ·have:=uh HB
    rcases uh HS with h | h | ⟨h,h'⟩
    ·right;rw [h];omega
    ·left;rw [h];omega
    ·omega
theorem signed_nil (s:Int) (w:World) :
 Calls Tryz.prog 164 #[.int .i64 s,.slice none 0 0] w fun e w'=>(∃ v,e=.returned v/\Zr 0 w' v 0)/\Below w.heap.size w w':=by
 go_enter Tryz.func164,Tryz.ntmps164
 go_wp2_with fail
 refine (trim_nil _).mono ?_
 rintro e w1 ⟨rfl,rfl⟩
 go_wp2
 exact bodyPost_ret (v:=.agg #[.int .i64 0,.slice none 0 0]) (by simp [results,Tryz.results164,go_sem]) rfl ⟨⟨_,rfl,Zr.near 0 (by decide) (by decide)⟩,(Below.refl _ _).alloc (Nat.le_refl _) _⟩
theorem zxg {N:Nat}{v:Value}{z:Int} (s:Int) (w:World) (hv:Szn N w v z) (hs:s=1\/s = -1\/(s=0/\z=0)) :
 Calls Tryz.prog 164 #[.int .i64 s,v] w fun e w'=>(∃ v,e=.returned v/\Zr N w' v (s*z))/\Below w.heap.size w w':=by
 rcases hv with ⟨g,o,c,l,rfl,wl,tl,rfl,nl,ll,lc,hr⟩ | ⟨rfl,rfl⟩
 ·refine (signed_core s g o c _ l w hr wl rfl ll lc hs).mono ?_
  rintro e w' ⟨⟨v,rfl,h⟩,hb⟩
  exact ⟨⟨v,rfl,h.mono nl⟩,hb⟩
 ·refine (signed_nil s w).mono ?_
  rintro e w' ⟨⟨v,rfl,h⟩,hb⟩
  exact ⟨⟨v,rfl,(h.mono (Nat.zero_le _)).eq (by simp)⟩,hb⟩
end Go.Proofs.YtkdobjmhammhbaaGreatDoor
