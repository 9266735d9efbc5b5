import Derived.Test.YtkdobjmhammhbaaGreatDoorMRA
import Derived.Laws.AppendOwnNone
namespace Go.Proofs.YtkdobjmhammhbaaGreatDoor
set_option maxHeartbeats 2000000
set_option maxRecDepth 8000
open Go.RowKit
theorem GB.other {w:World}{r q:Nat}{T:TypeId} (h:GB w r T) (hne:r≠q) (u u':Value):GB ((w.setCell ⟨q,0,none⟩ u).setCell ⟨q,1,none⟩ u') r T:=by
 obtain ⟨x,y,h⟩:=h
 exact ⟨x,y,by rw [Below.heap_setCell _ _ _ _ hne,Below.heap_setCell _ _ _ _ hne];exact h⟩
theorem four_stores {W:World}{p q:Nat}{T U:TypeId} (h0:GB W p T) (h1:GB W q U) (hne:p≠q) (x y u v:Value) :
 let wf:=(((W.setCell ⟨p,0,none⟩ x).setCell ⟨p,1,none⟩ y).setCell ⟨q,0,none⟩ u).setCell ⟨q,1,none⟩ v
 wf.cell? ⟨p,0,none⟩=some x/\wf.cell? ⟨p,1,none⟩=some y/\wf.cell? ⟨q,0,none⟩=some u/\wf.cell? ⟨q,1,none⟩=some v:=by
 intro wf
 obtain ⟨⟨a0,c0⟩,⟨a1,c1⟩,_⟩:=h0.cells
 obtain ⟨⟨b0,d0⟩,⟨b1,d1⟩,_⟩:=h1.cells
 refine ⟨?_,?_,?_,?_⟩
 ·show (World.setCell _ _ _).cell? _=_
  rw [zqb _ _ _ _ _ _ (by omega),zqb _ _ _ _ _ _ (by omega),zqb _ _ _ _ _ _ (by omega)]
  exact zqd c0
 ·show (World.setCell _ _ _).cell? _=_
  rw [zqb _ _ _ _ _ _ (by omega),zqb _ _ _ _ _ _ (by omega)]
  exact zqd (u:=a1) (by rw [zqb _ _ _ _ _ _ (by omega)];exact c1)
 ·show (World.setCell _ _ _).cell? _=_
  rw [zqb _ _ _ _ _ _ (by omega)]
  exact zqd (u:=b0) (by rw [zqb _ _ _ _ _ _ (by omega),zqb _ _ _ _ _ _ (by omega)];exact d0)
 ·show (World.setCell _ _ _).cell? _=_
  exact zqd (u:=b1) (by rw [zqb _ _ _ _ _ _ (by omega),zqb _ _ _ _ _ _ (by omega),zqb _ _ _ _ _ _ (by omega)];exact d1)
theorem Sl.shape {w:World}{sl:Value}{D:List Int} (h:Sl w sl D):∃ a n c,sl=.slice a n c:=by
 rcases h with ⟨rfl,_⟩ | ⟨b,cap,rfl,_⟩ <;> exact ⟨_,_,_,rfl⟩
theorem sign_false {neg:Bool}{D:List Int}{z:Int} (hP:P4 D) (hT:Trim D) (hn:D=[]->neg=false) (hz:z=if neg then - v4 D else v4 D) (h0:0<=z):v4 D=z:=by
 cases neg
 ·simpa using hz.symm
 ·exfalso
  by_cases h:D=[]
  ·exact absurd (hn h) (by decide)
  ·have:=v4_pos hP hT h
   simp at hz
   omega
theorem Nr.congr {N:Nat}{w:World}{v:Value}{z y:Int} (h:Nr N w v z) (e:z=y):Nr N w v y:=e ▸ h
theorem v4_lt {l:List Int} (h:P4 l):v4 l<10000 ^ l.length:=by
 induction l with
 | nil=>simp [v4]
 | cons d l ih =>
  have h1:=h d (List.mem_cons_self ..)
  have h2:=ih (fun x hx=>h x (List.mem_cons_of_mem _ hx))
  simp only [v4,List.length_cons,Int.pow_succ];omega
theorem v4_ge {l:List Int} (h:P4 l) (t:Trim l) (hl:l≠[]):10000 ^ (l.length - 1)<=v4 l:=by
 have e:l=l.take (l.length - 1)++[nth l (l.length - 1)]:=by
  have hp:0<l.length:=List.length_pos_iff.2 hl
  have:=List.take_append_getElem (l:=l) (i:=l.length - 1) (by omega)
  rw [show l.length - 1+1=l.length by omega,List.take_length] at this
  unfold nth
  rw [List.getElem?_eq_getElem (by omega)]
  exact this.symm
 have hn:=h.nth (l.length - 1)
 have ht:=t.resolve_left hl
 have hq:P4 (l.take (l.length - 1)):=fun d hd=>h d (List.mem_of_mem_take hd)
 have hv:v4 l=v4 (l.take (l.length - 1))+10000 ^ (l.length - 1)*nth l (l.length - 1):=by
  conv=>lhs;rw [e,zjb]
  rw [List.length_take,Nat.min_eq_left (by omega)]
  simp [v4]
 have h1:=zqr hq
 have h2:(0:Int)<10000 ^ (l.length - 1):=Int.pow_pos (by decide)
 have h3:(10000:Int) ^ (l.length - 1)*1<=10000 ^ (l.length - 1)*nth l (l.length - 1):=Int.mul_le_mul_of_nonneg_left (by omega) (by omega)
 omega
theorem p4_mono {a b:Nat} (h:a<=b):(10000:Int) ^ a<=10000 ^ b:=by
 have:(10000:Nat) ^ a<=10000 ^ b:=Nat.pow_le_pow_right (by decide) h
 have e1:((10000 ^ a:Nat):Int)=(10000:Int) ^ a:=by simp
 have e2:((10000 ^ b:Nat):Int)=(10000:Int) ^ b:=by simp
 rw [<- e1,<- e2];omega
theorem v4_shorter {a b:List Int} (ha:P4 a) (hb:P4 b) (tb:Trim b) (h:a.length<b.length):v4 a<v4 b:=by
 have h1:=v4_lt ha
 have h2:=v4_ge hb tb (fun e=>by rw [e] at h;simp at h)
 have h3:=p4_mono (show a.length<=b.length - 1 by omega)
 omega
theorem sgn_lin {p x y d:Int} (x0:0<=x) (x1:x<p) (y0:0<=y) (y1:y<p) (hd:d≠0):sgn (x - y+p*d)=sgn d:=by
 rcases Int.lt_or_gt_of_ne hd with h | h
 ·have:p*d<=p*(-1):=Int.mul_le_mul_of_nonneg_left (by omega) (by omega)
  rw [zqp h,zqp (by omega)]
 ·have:p*1<=p*d:=Int.mul_le_mul_of_nonneg_left (by omega) (by omega)
  rw [zqq h,zqq (by omega)]
theorem size_done {a b:List Int} (ha:P4 a) (hb:P4 b) {k:Nat} (hl:a.length=b.length) (hk:k<a.length) (he:a.drop (k+1)=b.drop (k+1)) (hne:nth a k≠nth b k):sgn (nth a k - nth b k)=sgn (v4 a - v4 b):=by
 have e1:v4 a=v4 (a.take k)+10000 ^ k*(nth a k+10000*v4 (a.drop (k+1))):=by
  conv=>lhs;rw [<- List.take_append_drop k a,zjb]
  rw [List.length_take,Nat.min_eq_left (by omega),v4_drop hk]
 have e2:v4 b=v4 (b.take k)+10000 ^ k*(nth b k+10000*v4 (b.drop (k+1))):=by
  conv=>lhs;rw [<- List.take_append_drop k b,zjb]
  rw [List.length_take,Nat.min_eq_left (by omega),v4_drop (by omega)]
 have ht1:P4 (a.take k):=fun d hd=>ha d (List.mem_of_mem_take hd)
 have ht2:P4 (b.take k):=fun d hd=>hb d (List.mem_of_mem_take hd)
 have b1:=v4_lt ht1
 have b2:=v4_lt ht2
 rw [List.length_take,Nat.min_eq_left (by omega)] at b1 b2
 have e:v4 a - v4 b=v4 (a.take k) - v4 (b.take k)+10000 ^ k*(nth a k - nth b k):=by
  rw [e1,e2,he,Int.mul_add,Int.mul_add,Int.mul_sub];omega
 rw [e,sgn_lin (zqr ht1) b1 (zqr ht2) b2 (by omega)]
theorem size_same (ba ca bb cb n:Nat) (a b:List Int) (w:World) (hra:RowI w ba a) (hrb:RowI w bb b) (ha:P4 a) (hb:P4 b) (hla:a.length=n) (hlb:b.length=n) (hn:n<=1000000) :
 Calls Tryz.prog 156 #[.slice (some ⟨ba,0,none⟩) n ca,.slice (some ⟨bb,0,none⟩) n cb] w fun e w'=>e=.returned (.int .i64 (sgn (v4 a - v4 b)))/\Below w.heap.size w w':=by
 have HA:=qh ha
 have HB:=qh hb
 clear ha hb
 go_enter Tryz.func156,Tryz.ntmps156
 go_wp2_with fail
 go_loopw [5] (fun v wr=>∃ k:Nat,k<=n/\v=.int .i64 ((k:Int) - 1)/\Hid (a.drop k=b.drop k)/\∃ q,wr=w.drewN q) (fun v _=>(intOf v+1).toNat)
 case atStart=>exact ⟨n,Nat.le_refl _,rfl,by show _=_;rw [List.drop_eq_nil_of_le (by omega),List.drop_eq_nil_of_le (by omega)],0,rfl⟩
 case round =>
  obtain ⟨k,hk,rfl,HE,q,rfl⟩:=hrel
  by_cases hk0:k=0
  ·subst hk0
   have hab:v4 a - v4 b=0:=by
    have:=uh HE
    simp only [List.drop_zero] at this
    rw [this];omega
   have HAB:=qh hab
   clear hab
   go_wp2
   go_ret
   exact ⟨by rw [uh HAB];rfl,zqj (Below.refl _ _) _⟩
  ·have hca:=hra (k - 1) (by omega)
   have hcb:=hrb (k - 1) (by omega)
   have hki:(0:Int)<=(k:Int) - 1:=by omega
   have hkt:((k:Int) - 1).toNat=k - 1:=by omega
   have hkn:k - 1<n:=by omega
   obtain ⟨x,hx⟩:∃ x,nth a (k - 1)=x:=⟨_,rfl⟩
   obtain ⟨y,hy⟩:∃ y,nth b (k - 1)=y:=⟨_,rfl⟩
   rw [hx] at hca
   rw [hy] at hcb
   have HX:=qh hx
   have HY:=qh hy
   clear hx hy
   have HE':Hid (a.drop (k - 1+1)=b.drop (k - 1+1)):=by rw [show k - 1+1=k by omega];exact HE
   by_cases hlt:x<y
   ·have HS:Hid (sgn (v4 a - v4 b) = -1):=by
     show _=_
     rw [<- size_done (uh HA) (uh HB) (by omega) (k:=k - 1) (by omega) (uh HE') (by rw [uh HX,uh HY];omega),uh HX,uh HY]
     exact zqp (by omega)
    go_wp2_with fail
    go_quiet (fail)
    go_wp2
    go_ret
    exact ⟨by rw [uh HS];rfl,zqj (zqj (Below.refl _ _) _) _⟩
   ·by_cases hgt:y<x
    ·have HS:Hid (sgn (v4 a - v4 b)=1):=by
      show _=_
      rw [<- size_done (uh HA) (uh HB) (by omega) (k:=k - 1) (by omega) (uh HE') (by rw [uh HX,uh HY];omega),uh HX,uh HY]
      exact zqq (by omega)
     go_wp2_with fail
     go_quiet (fail)
     go_wp2_with fail
     go_quiet (fail)
     go_wp2
     go_ret
     exact ⟨by rw [uh HS];rfl,(by first | exact zqj (zqj (zqj (Below.refl _ _) _) _) _ | exact zqj (zqj (Below.refl _ _) _) _ | exact zqj (Below.refl _ _) _)⟩
    ·have hxy:x=y:=by omega
     have HXY:=qh hxy
     clear hxy
     go_wp2_with fail
     go_quiet (fail)
     go_wp2_with fail
     go_quiet (fail)
     go_wp2
     go_roundw
     case rel =>
      refine ⟨k - 1,by omega,by go_num,?_,_,rfl⟩
      show _=_
      rw [List.drop_eq_getElem_cons (show k - 1<a.length by omega),List.drop_eq_getElem_cons (show k - 1<b.length by omega),uh HE']
      have h1:a[k - 1]'(by omega)=x:=by have:=uh HX;unfold nth at this;rw [List.getElem?_eq_getElem (by omega)] at this;exact this
      have h2:b[k - 1]'(by omega)=y:=by have:=uh HY;unfold nth at this;rw [List.getElem?_eq_getElem (by omega)] at this;exact this
      rw [h1,h2,uh HXY]
     case measure=>simp [intOf];omega
theorem size_other (x y:Option Addr) (m n ca cb:Nat) (w:World) (hne:m≠n) (_hm:m<=1000000) (_hn:n<=1000000) :
 Calls Tryz.prog 156 #[.slice x m ca,.slice y n cb] w fun e w'=>e=.returned (.int .i64 (sgn ((m:Int) - n)))/\w'=w:=by
 have h1:((m:Int) == n)=false:=by simp;omega
 go_enter Tryz.func156,Tryz.ntmps156
 by_cases hlt:(m:Int)<n
 ·have HS:Hid (sgn ((m:Int) - n) = -1):=zqp (by omega)
  go_wp2
  go_ret
  exact ⟨by rw [uh HS];rfl,rfl⟩
 ·have HS:Hid (sgn ((m:Int) - n)=1):=zqq (by omega)
  go_wp2
  go_ret
  exact ⟨by rw [uh HS];rfl,rfl⟩
theorem size_nil (x y:Option Addr) (ca cb:Nat) (w:World) :
 Calls Tryz.prog 156 #[.slice x 0 ca,.slice y 0 cb] w fun e w'=>e=.returned (.int .i64 0)/\w'=w:=by
 go_enter Tryz.func156,Tryz.ntmps156
 go_wp2_with fail
 refine wp_loop_rounds 1 ?_
 rw [rounds_succ]
 go_wp2
 go_ret
 exact ⟨rfl,rfl⟩
theorem rsize_any {sa sb:Value}{a b:List Int} (w:World) (h1:Sl w sa a) (h2:Sl w sb b) (ha:P4 a) (hb:P4 b) (ta:Trim a) (tb:Trim b) (la:a.length<=100000) (lb:b.length<=100000) :
 Calls Tryz.prog 156 #[sa,sb] w fun e w'=>e=.returned (.int .i64 (sgn (v4 a - v4 b)))/\Below w.heap.size w w':=by
 by_cases hl:a.length=b.length
 ·by_cases h0:a.length=0
  ·have e1:=List.eq_nil_of_length_eq_zero h0
   have e2:b=[]:=List.eq_nil_of_length_eq_zero (by omega)
   subst e1;subst e2
   have z1:∃ x c,sa=.slice x 0 c:=by rcases h1 with ⟨rfl,_⟩ | ⟨g,c,rfl,_⟩ <;> exact ⟨_,_,rfl⟩
   have z2:∃ x c,sb=.slice x 0 c:=by rcases h2 with ⟨rfl,_⟩ | ⟨g,c,rfl,_⟩ <;> exact ⟨_,_,rfl⟩
   obtain ⟨x,c,rfl⟩:=z1
   obtain ⟨y,d,rfl⟩:=z2
   exact (size_nil x y c d w).mono fun e w' ⟨h,hw⟩=>⟨h,hw ▸ Below.refl _ _⟩
  ·rcases h1 with ⟨rfl,e⟩ | ⟨g,c,rfl,_,_,r1,_⟩
   ·rw [e] at h0;simp at h0
   ·rcases h2 with ⟨rfl,e⟩ | ⟨g2,c2,rfl,_,_,r2,_⟩
    ·rw [e] at hl;exact absurd hl h0
    ·rw [<- hl];exact size_same g c g2 c2 a.length a b w r1 r2 ha hb rfl hl.symm (by omega)
 ·have z1:∃ x c,sa=.slice x a.length c:=by rcases h1 with ⟨rfl,rfl⟩ | ⟨g,c,rfl,_⟩ <;> exact ⟨_,_,rfl⟩
  have z2:∃ x c,sb=.slice x b.length c:=by rcases h2 with ⟨rfl,rfl⟩ | ⟨g,c,rfl,_⟩ <;> exact ⟨_,_,rfl⟩
  obtain ⟨x,c,rfl⟩:=z1
  obtain ⟨y,d,rfl⟩:=z2
  refine (size_other x y a.length b.length c d w hl (by omega) (by omega)).mono ?_
  rintro e w' ⟨rfl,h⟩
  refine ⟨?_,h ▸ Below.refl _ _⟩
  rcases Nat.lt_or_gt_of_ne hl with h' | h'
  ·have:=v4_shorter ha hb tb h'
   rw [zqp (by omega),zqp (by omega)]
  ·have:=v4_shorter hb ha ta h'
   rw [zqq (by omega),zqq (by omega)]
theorem rcmp_any {N M:Nat}{v u:Value}{z o:Int} (w:World) (hz:Nr N w v z) (ho:Nr M w u o) (hN:N<=100000) (hM:M<=100000) :
 Calls Tryz.prog 92 #[v,u] w fun e w'=>e=.returned (.int .i64 (sgn (z - o)))/\Below w.heap.size w w':=by
 obtain ⟨na,sa,A,rfl,hsa,hPa,hTa,hla,hna,rfl⟩:=hz
 obtain ⟨nb,sb,B,rfl,hsb,hPb,hTb,hlb,hnb,rfl⟩:=ho
 obtain ⟨a1,n1,c1,e1⟩:=hsa.shape
 obtain ⟨a2,n2,c2,e2⟩:=hsb.shape
 have pa:=zqr hPa
 have pb:=zqr hPb
 have qa:na=true->0<v4 A:=fun h=>v4_pos hPa hTa (fun e=>by rw [hna e] at h;cases h)
 have qb:nb=true->0<v4 B:=fun h=>v4_pos hPb hTb (fun e=>by rw [hnb e] at h;cases h)
 have k1:=zqa w (.cells #[.bool na,sa] 57)
 have k2:=zqa (w.alloc (.cells #[.bool na,sa] 57)) (.cells #[.bool nb,sb] 57)
 have HK:=qh (bk k2 k1)
 have HC:=qh (ck k2 (show (w.alloc (.cells #[.bool na,sa] 57)).cell? ⟨w.heap.size,0,none⟩=some (.bool na) by rw [zqe rfl];rfl))
 have HSA:=qh ((hsa.later k1).later k2)
 have HSB:=qh ((hsb.later k1).later k2)
 subst e1
 subst e2
 clear hsa hsb k1 k2
 obtain ⟨R,HR⟩:∃ R,Hid (sgn ((if na then -v4 A else v4 A) - (if nb then -v4 B else v4 B))=R):=⟨_,rfl⟩
 rw [show sgn ((if na then -v4 A else v4 A) - (if nb then -v4 B else v4 B))=R from uh HR]
 go_enter Tryz.func92,Tryz.ntmps92
 cases na <;> cases nb
 ·go_wp2_with fail
  go_fit (rsize_any _ (uh HSA) (uh HSB) hPa hPb hTa hTb (by omega) (by omega))
  rintro e W1 ⟨rfl,hb1⟩
  have hB:=bk hb1 (uh HK)
  have d0:=ck hb1 (uh HC)
  go_wp2
  go_ret
  exact ⟨zxd (by have h:=uh HR;simpa using h),hB⟩
 ·have HS:Hid (R=1):=by
   have h:=uh HR
   simp only [if_true,Bool.false_eq_true,if_false] at h
   show _=_
   rw [<- h];exact zqq (by have:=qb rfl;omega)
  go_wp2
  go_ret
  exact ⟨zxd (uh HS).symm,uh HK⟩
 ·have HS:Hid (R = -1):=by
   have h:=uh HR
   simp only [if_true,Bool.false_eq_true,if_false] at h
   show _=_
   rw [<- h];exact zqp (by have:=qa rfl;omega)
  go_wp2
  go_ret
  exact ⟨zxd (uh HS).symm,uh HK⟩
 ·go_wp2_with fail
  go_fit (rsize_any _ (uh HSA) (uh HSB) hPa hPb hTa hTb (by omega) (by omega))
  rintro e W1 ⟨rfl,hb1⟩
  have hB:=bk hb1 (uh HK)
  have d0:=ck hb1 (uh HC)
  have HS:Hid (-sgn (v4 A - v4 B)=R):=by
   have h:=uh HR
   simp only [if_true] at h
   show _=_
   rw [<- h]
   rcases zqo (v4 A - v4 B) with ⟨a,b,c⟩ | ⟨a,b,c⟩ | ⟨a,b,c⟩
   ·rw [b,zqq (by omega)];rfl
   ·rw [b,zxi (by omega)];rfl
   ·rw [b,zqp (by omega)]
  have r0:-1<=sgn (v4 A - v4 B):=by rcases zqo (v4 A - v4 B) with ⟨a,b,c⟩ | ⟨a,b,c⟩ | ⟨a,b,c⟩ <;> omega
  have r1:sgn (v4 A - v4 B)<=1:=by rcases zqo (v4 A - v4 B) with ⟨a,b,c⟩ | ⟨a,b,c⟩ | ⟨a,b,c⟩ <;> omega
  go_wp2
  go_ret
  exact ⟨zxd (uh HS),hB⟩
theorem zxx (l:List Int) (i:Nat):v4 (l.take (i+1))=v4 (l.take i)+10000 ^ i*nth l i:=by
 by_cases h:i<l.length
 ·rw [List.take_succ_eq_append_getElem h,zjb,List.length_take,Nat.min_eq_left (by omega),nth_lt h]
  simp [v4]
 ·rw [List.take_of_length_le (by omega),List.take_of_length_le (by omega),zky (by omega)];simp
theorem zkl {l:List Int}{i:Nat} (h:l.length<=i):v4 (l.take i)=v4 l:=by rw [List.take_of_length_le h]
theorem v4_snoc (a:List Int) (x:Int):v4 (a++[x])=v4 a+10000 ^ a.length*x:=by rw [zjb];simp [v4]
theorem P4.snoc {a:List Int}{x:Int} (h:P4 a) (h0:0<=x) (h1:x<10000):P4 (a++[x]):=by
 intro d hd
 rcases List.mem_append.1 hd with hd | hd
 ·exact h d hd
 ·have:d=x:=by simpa using hd
  subst this;exact ⟨h0,h1⟩
theorem P4.take {a:List Int} (h:P4 a) (n:Nat):P4 (a.take n):=fun d hd=>h d (List.mem_of_mem_take hd)
theorem P4.drop {a:List Int} (h:P4 a) (n:Nat):P4 (a.drop n):=fun d hd=>h d (List.mem_of_mem_drop hd)
theorem P4.nil:P4 []:=fun d hd=>by cases hd
theorem carry_step {out:List Int}{i:Nat}{S c x y:Int} (hi:out.length=i) (h:v4 out+10000 ^ i*c=S) (hx:x=c+y):v4 (out++[x % 10000])+10000 ^ (i+1)*(x / 10000)=S+10000 ^ i*y:=by
 rw [v4_snoc,hi,Int.pow_succ]
 have e:x % 10000+10000*(x / 10000)=x:=Int.emod_add_mul_ediv x 10000
 have:(10000:Int) ^ i*(x % 10000)+10000 ^ i*10000*(x / 10000)=10000 ^ i*x:=by
  rw [Int.mul_assoc,<- Int.mul_add,e]
 rw [Int.add_assoc,this,hx,Int.mul_add,<- h];omega
theorem owe_step {out:List Int}{i:Nat}{S c x y d c':Int} (hi:out.length=i) (h:v4 out - 10000 ^ i*c=S) (hx:x=y - c) (hd:d=x+10000*c'):v4 (out++[d]) - 10000 ^ (i+1)*c'=S+10000 ^ i*y:=by
 rw [v4_snoc,hi,Int.pow_succ,hd,hx,<- h,Int.mul_add,Int.mul_sub,<- Int.mul_assoc];omega
theorem places_le {D:List Int}{n:Nat} (hP:P4 D) (hT:Trim D) (h:v4 D<10000 ^ n):D.length<=n:=by
 by_cases e:D=[]
 ·subst e;simp
 ·have h1:=v4_ge hP hT e
  by_cases g:D.length<=n
  ·exact g
  ·have h2:=p4_mono (show n<=D.length - 1 by omega)
   omega
theorem Sl.get {w:World}{sl:Value}{D:List Int} (h:Sl w sl D):∃ base cap,sl=.slice base D.length cap/\(D≠[]->∃ b,base=some ⟨b,0,none⟩/\RowI w b D):=by
 rcases h with ⟨rfl,rfl⟩ | ⟨b,cap,rfl,_,_,hr,_⟩
 ·exact ⟨none,0,rfl,fun h=>absurd rfl h⟩
 ·exact ⟨_,cap,rfl,fun _=>⟨b,rfl,hr⟩⟩
theorem grow_below {w wr w1:World}{v:Value}{o:Obj}{n:Nat}{xs:List Value} (hb:Below w.heap.size w wr) (hown:wr.ownsRow w.heap.size 3 1 v n xs) (hg:(wr.alloc o).grownBy w1 v.ownBlock):Below w.heap.size w w1 :=
 (hb.alloc hb.size o).grown hg (by have:=hb.size;simp only [World.alloc,Array.size_push];omega) (fun k hk=>(hown.lt k hk).1)
theorem zxf {ops:Array Oper}{rest:List Oper}{o:Oper}{a:Act}{w w0:World}{Q:Exit->Act->World->Prop} (hgd:o.guard=none) (s x:Operand)
 (ho:o.op=.call { callee:=.builtin .append,args:=#[s,x],argTypes:=#[55,55] }) (base:Nat) (v:Value) (n:Nat) (xs:List Value) (hs:a.eval s=v) (hown:w0.ownsRow base 3 1 v n xs)
 (y:Int) (hx:a.eval x=.slice (some ⟨w0.heap.size,0,none⟩) 1 1) (hw:w=w0.alloc (.cells #[.int .i64 y] 3)) (hn:n<=100000000) (hbase:base<=w0.heap.size)
 (h:∀ v' w',w'.ownsRow base 3 1 v' (n+1) (xs++[.int .i64 y])->w.grownBy w' v.ownBlock->wpList Tryz.prog ops Q rest (a.put o.dst v') w'):wpList Tryz.prog ops Q (o :: rest) a w:=by
 obtain ⟨i0,hi,hz0,hz1,hz2⟩:=info_parts info_int
 subst hw
 refine wpList_append_own _ hgd s x 55 ho base 3 i0 (.int .i64 0) 1 8 Tryz.underlying55 hi hz0 hz1 hz2 rfl (by decide) v n xs hs (hown.alloc _) ⟨w0.heap.size,0,none⟩ 1 1 [.int .i64 y] hx rfl ?_ ?_ ?_ ?_ ?_ (fun v' w' h1 h2 _=>h v' w' h1 h2)
 ·intro j u hj
  match j,hj with
  | 0,hj=>simp at hj;subst hj;simp [Addr.add]
 ·intro u hu;simp at hu;subst hu;rfl
 ·unfold maxLen;omega
 ·omega
 ·simp;omega
structure MoreK (a b:List Int) (w:World) (i:Nat) (c:Int) (v:Value) (D:List Int) (wr:World):Prop where
 own:wr.ownsRow w.heap.size 3 1 v D.length (D.map (Value.int .i64))
 places:P4 D
 len:D.length=i
 sum:v4 D+10000 ^ i*c=v4 (a.take i)+v4 (b.take i)
 below:Below w.heap.size w wr
theorem MoreK.keep {a b:List Int}{w wr:World}{i:Nat}{c:Int}{v:Value}{D:List Int} (h:MoreK a b w i c v D wr) {g o:Nat}{u:Value} (hc:w.cell? ⟨g,o,none⟩=some u):wr.cell? ⟨g,o,none⟩=some u:=ck h.below hc
theorem MoreK.step {a b:List Int}{w wr w1:World}{i:Nat}{c x:Int}{v v':Value}{D:List Int}{o:Obj} (h:MoreK a b w i c v D wr) (hx:x=c+(nth a i+nth b i)) (_h0:0<=x)
 (hown:w1.ownsRow w.heap.size 3 1 v' (D.length+1) (D.map (Value.int .i64)++[.int .i64 (x % 10000)])) (hg:(wr.alloc o).grownBy w1 v.ownBlock):MoreK a b w (i+1) (x / 10000) v' (D++[x % 10000]) w1:=by
 refine ⟨by simpa using hown,h.places.snoc (by omega) (by omega),by simp [h.len],?_,grow_below h.below h.own hg⟩
 rw [carry_step h.len h.sum hx,zxx,zxx,Int.mul_add];omega
theorem rmore_any {sa sb:Value}{a b:List Int} (w:World) (h1:Sl w sa a) (h2:Sl w sb b) (ha:P4 a) (hb:P4 b) (la:a.length<=1000000) (lb:b.length<=1000000) :
 Calls Tryz.prog 155 #[sa,sb] w fun e w'=>(∃ v D,e=.returned v/\Sl w' v D/\P4 D/\v4 D=v4 a+v4 b/\D.length<=max a.length b.length+1)/\Below w.heap.size w w':=by
 obtain ⟨pa,ca,rfl,hra⟩:=h1.get
 obtain ⟨pb,cb,rfl,hrb⟩:=h2.get
 clear h1 h2
 obtain ⟨n,HN⟩:∃ n,Hid (a.length=n):=⟨_,rfl⟩
 obtain ⟨m,HM⟩:∃ m,Hid (b.length=m):=⟨_,rfl⟩
 rw [show a.length=n from uh HN] at la ⊢
 rw [show b.length=m from uh HM] at lb ⊢
 go_enter Tryz.func155,Tryz.ntmps155
 go_wp2_with fail
 go_loopw [5,6,7] (fun v cv iv wr=>∃ (i:Nat) (c:Int) (D:List Int),i<=max n m+1/\cv=.int .i64 c/\iv=.int .i64 i/\0<=c/\c<=1/\(max n m<i->c=0)/\MoreK a b w i c v D wr) (fun _ _ iv _=>max n m+1 - (intOf iv).toNat)
 case atStart=>exact ⟨0,0,[],by omega,rfl,rfl,by omega,by omega,fun _=>rfl,World.ownsRow_nil _ _ _ _,P4.nil,rfl,by simp [v4],Below.refl _ _⟩
 case round =>
  obtain ⟨i,c,D,him,rfl,rfl,c0,c1,hc,hk⟩:=hrel
  obtain ⟨va,vn,vc,rfl⟩:=zqz hk.own
  by_cases hin:i<n
  ·by_cases him':i<m
   ·obtain ⟨ba,rfl,hca⟩:=hra (by rintro rfl;have:=uh HN;simp at this;omega)
    have hca:=hca i (by have:=uh HN;omega)
    have hxa:=ha.nth i
    have hia:(i:Int)<n:=by omega
    obtain ⟨xa,HXA⟩:∃ x,Hid (nth a i=x):=⟨_,rfl⟩
    rw [show nth a i=xa from uh HXA] at hca hxa
    obtain ⟨bb,rfl,hcb⟩:=hrb (by rintro rfl;have:=uh HM;simp at this;omega)
    have hcb:=hcb i (by have:=uh HM;omega)
    have hxb:=hb.nth i
    have hib:(i:Int)<m:=by omega
    obtain ⟨xb,HXB⟩:∃ x,Hid (nth b i=x):=⟨_,rfl⟩
    rw [show nth b i=xb from uh HXB] at hcb hxb
    have hca:=hk.keep hca
    have hcb:=hk.keep hcb
    obtain ⟨xa0,xa1⟩:=hxa
    obtain ⟨xb0,xb1⟩:=hxb
    obtain ⟨x,HX⟩:∃ x,Hid (x=c+xa+xb):=⟨_,rfl⟩
    have x0:0<=x:=by rw [show x=_ from uh HX];omega
    have x1:x<20000:=by rw [show x=_ from uh HX];omega
    have hxe:c+xa+xb=x:=(uh HX).symm
    have hDn:D.length<=100000000:=by have:=hk.len;omega
    have hbs:=hk.below.size
    go_wp2_with (at_builtin;refine zxf rfl _ _ rfl w.heap.size _ _ _ rfl hk.own (x % 10000) rfl rfl hDn hbs ?_;intro v' w1 hown' hgrow)
    have R:=hk.step (x:=x) (by rw [uh HX,uh HXA,uh HXB];omega) x0 hown' hgrow
    obtain ⟨va',vn',vc',rfl⟩:=zqz hown'
    clear hown' hgrow hk
    go_wp2
    go_roundw
    case rel=>exact ⟨i+1,x / 10000,_,by omega,by go_num,by go_num,by omega,by omega,fun h=>by omega,R⟩
    case measure=>simp [intOf];omega
   ·obtain ⟨ba,rfl,hca⟩:=hra (by rintro rfl;have:=uh HN;simp at this;omega)
    have hca:=hca i (by have:=uh HN;omega)
    have hxa:=ha.nth i
    have hia:(i:Int)<n:=by omega
    obtain ⟨xa,HXA⟩:∃ x,Hid (nth a i=x):=⟨_,rfl⟩
    rw [show nth a i=xa from uh HXA] at hca hxa
    obtain ⟨xb,HXB⟩:∃ x,Hid (nth b i=x):=⟨_,rfl⟩
    have hxb:xb=0:=by rw [<- uh HXB];exact zky (by have:=uh HM;omega)
    have hib:¬ (i:Int)<m:=by omega
    have hca:=hk.keep hca
    obtain ⟨xa0,xa1⟩:=hxa
    subst hxb
    obtain ⟨x,HX⟩:∃ x,Hid (x=c+xa):=⟨_,rfl⟩
    have x0:0<=x:=by rw [show x=_ from uh HX];omega
    have x1:x<20000:=by rw [show x=_ from uh HX];omega
    have hxe:c+xa=x:=(uh HX).symm
    have hDn:D.length<=100000000:=by have:=hk.len;omega
    have hbs:=hk.below.size
    go_wp2_with (at_builtin;refine zxf rfl _ _ rfl w.heap.size _ _ _ rfl hk.own (x % 10000) rfl rfl hDn hbs ?_;intro v' w1 hown' hgrow)
    have R:=hk.step (x:=x) (by rw [uh HX,uh HXA,uh HXB];omega) x0 hown' hgrow
    obtain ⟨va',vn',vc',rfl⟩:=zqz hown'
    clear hown' hgrow hk
    go_wp2
    go_roundw
    case rel=>exact ⟨i+1,x / 10000,_,by omega,by go_num,by go_num,by omega,by omega,fun h=>by omega,R⟩
    case measure=>simp [intOf];omega
  ·by_cases him':i<m
   ·obtain ⟨xa,HXA⟩:∃ x,Hid (nth a i=x):=⟨_,rfl⟩
    have hxa:xa=0:=by rw [<- uh HXA];exact zky (by have:=uh HN;omega)
    have hia:¬ (i:Int)<n:=by omega
    obtain ⟨bb,rfl,hcb⟩:=hrb (by rintro rfl;have:=uh HM;simp at this;omega)
    have hcb:=hcb i (by have:=uh HM;omega)
    have hxb:=hb.nth i
    have hib:(i:Int)<m:=by omega
    obtain ⟨xb,HXB⟩:∃ x,Hid (nth b i=x):=⟨_,rfl⟩
    rw [show nth b i=xb from uh HXB] at hcb hxb
    have hcb:=hk.keep hcb
    subst hxa
    obtain ⟨xb0,xb1⟩:=hxb
    obtain ⟨x,HX⟩:∃ x,Hid (x=c+xb):=⟨_,rfl⟩
    have x0:0<=x:=by rw [show x=_ from uh HX];omega
    have x1:x<20000:=by rw [show x=_ from uh HX];omega
    have hxe:c+xb=x:=(uh HX).symm
    have hDn:D.length<=100000000:=by have:=hk.len;omega
    have hbs:=hk.below.size
    go_wp2_with (at_builtin;refine zxf rfl _ _ rfl w.heap.size _ _ _ rfl hk.own (x % 10000) rfl rfl hDn hbs ?_;intro v' w1 hown' hgrow)
    have R:=hk.step (x:=x) (by rw [uh HX,uh HXA,uh HXB];omega) x0 hown' hgrow
    obtain ⟨va',vn',vc',rfl⟩:=zqz hown'
    clear hown' hgrow hk
    go_wp2
    go_roundw
    case rel=>exact ⟨i+1,x / 10000,_,by omega,by go_num,by go_num,by omega,by omega,fun h=>by omega,R⟩
    case measure=>simp [intOf];omega
   ·obtain ⟨xa,HXA⟩:∃ x,Hid (nth a i=x):=⟨_,rfl⟩
    have hxa:xa=0:=by rw [<- uh HXA];exact zky (by have:=uh HN;omega)
    have hia:¬ (i:Int)<n:=by omega
    obtain ⟨xb,HXB⟩:∃ x,Hid (nth b i=x):=⟨_,rfl⟩
    have hxb:xb=0:=by rw [<- uh HXB];exact zky (by have:=uh HM;omega)
    have hib:¬ (i:Int)<m:=by omega
    subst hxa
    subst hxb
    by_cases hcp:0<c
    ·obtain ⟨x,HX⟩:∃ x,Hid (x=c):=⟨_,rfl⟩
     have x0:0<=x:=by rw [show x=_ from uh HX];omega
     have x1:x<20000:=by rw [show x=_ from uh HX];omega
     obtain rfl:x=c:=uh HX
     have hDn:D.length<=100000000:=by have:=hk.len;omega
     have hbs:=hk.below.size
     go_wp2_with (at_builtin;refine zxf rfl _ _ rfl w.heap.size _ _ _ rfl hk.own (x % 10000) rfl rfl hDn hbs ?_;intro v' w1 hown' hgrow)
     have R:=hk.step (x:=x) (by rw [uh HX,uh HXA,uh HXB];omega) x0 hown' hgrow
     obtain ⟨va',vn',vc',rfl⟩:=zqz hown'
     clear hown' hgrow hk
     go_wp2
     go_roundw
     case rel=>exact ⟨i+1,x / 10000,_,by omega,by go_num,by go_num,by omega,by omega,fun h=>by omega,R⟩
     case measure=>simp [intOf];omega
    ·obtain rfl:c=0:=by omega
     go_wp2
     go_ret
     exact ⟨⟨_,rfl,D,sl_own hk.own,hk.places,by have:=hk.sum;rw [zkl (by have:=uh HN;omega),zkl (by have:=uh HM;omega)] at this;omega,by rw [hk.len];omega⟩,hk.below⟩
theorem rtrim_sl {sl:Value}{D:List Int} (w:World) (h:Sl w sl D) (hP:P4 D) :
 Calls Tryz.prog 148 #[sl] w fun e w'=>(∃ v D',e=.returned v/\Sl w v D'/\P4 D'/\Trim D'/\v4 D'=v4 D/\D'.length<=D.length)/\w'=w:=by
 rcases h with ⟨rfl,rfl⟩ | ⟨b,cap,rfl,h2,h3,h4,cur,h5⟩
 ·refine (rtrim_nil w).mono ?_
  rintro e w' ⟨rfl,rfl⟩
  exact ⟨⟨_,[],rfl,Or.inl ⟨rfl,rfl⟩,P4.nil,Or.inl rfl,rfl,Nat.le_refl _⟩,rfl⟩
 ·refine (rtrim_any b cap D w h4 h2 (by unfold maxLen at h3;omega)).mono ?_
  rintro e w' ⟨⟨m,hm,rfl,hz,ht⟩,rfl⟩
  have hl:(D.take m).length=m:=by rw [List.length_take];omega
  refine ⟨⟨_,D.take m,rfl,Or.inr ⟨b,cap,by rw [hl],by omega,h3,fun k hk => ?_,cur,h5⟩,hP.take m,trim_take hm ht,v4_take hz,by omega⟩,rfl⟩
  rw [hl] at hk
  rw [h4 k (by omega),nth_take hk]
structure LessK (a b:List Int) (w:World) (i:Nat) (c:Int) (v:Value) (D:List Int) (wr:World):Prop where
 own:wr.ownsRow w.heap.size 3 1 v D.length (D.map (Value.int .i64))
 places:P4 D
 len:D.length=i
 sum:v4 D - 10000 ^ i*c=v4 (a.take i) - v4 (b.take i)
 below:Below w.heap.size w wr
theorem LessK.keep {a b:List Int}{w wr:World}{i:Nat}{c:Int}{v:Value}{D:List Int} (h:LessK a b w i c v D wr) {g o:Nat}{u:Value} (hc:w.cell? ⟨g,o,none⟩=some u):wr.cell? ⟨g,o,none⟩=some u:=ck h.below hc
theorem LessK.step {a b:List Int}{w wr w1:World}{i:Nat}{c d c':Int}{v v':Value}{D:List Int}{o:Obj} (h:LessK a b w i c v D wr) (hd:d=nth a i - nth b i - c+10000*c') (h0:0<=d) (h1:d<10000)
 (hown:w1.ownsRow w.heap.size 3 1 v' (D.length+1) (D.map (Value.int .i64)++[.int .i64 d])) (hg:(wr.alloc o).grownBy w1 v.ownBlock):LessK a b w (i+1) c' v' (D++[d]) w1:=by
 refine ⟨by simpa using hown,h.places.snoc h0 h1,by simp [h.len],?_,grow_below h.below h.own hg⟩
 rw [owe_step (y:=nth a i - nth b i) h.len h.sum rfl hd,zxx,zxx,Int.mul_sub];omega
theorem LessK.done {a b:List Int}{w wr:World}{c:Int}{v:Value}{D:List Int} (h:LessK a b w a.length c v D wr) (hl:b.length<=a.length) (c0:0<=c) (hle:v4 b<=v4 a):v4 D=v4 a - v4 b:=by
 have hs:=h.sum
 rw [zkl (Nat.le_refl _),zkl hl] at hs
 have h1:=v4_lt h.places
 rw [h.len] at h1
 by_cases e:c=0
 ·subst e;omega
 ·exfalso
  have hp:(0:Int)<10000 ^ a.length:=Int.pow_pos (by decide)
  have:(10000:Int) ^ a.length*1<=10000 ^ a.length*c:=Int.mul_le_mul_of_nonneg_left (by omega) (by omega)
  omega
theorem len_le_of_v4 {a b:List Int} (ha:P4 a) (hb:P4 b) (tb:Trim b) (h:v4 b<=v4 a):b.length<=a.length:=by
 by_cases e:b.length<=a.length
 ·exact e
 ·have:=v4_shorter ha hb tb (by omega);omega
theorem rless_any {sa sb:Value}{a b:List Int} (w:World) (h1:Sl w sa a) (h2:Sl w sb b) (ha:P4 a) (hb:P4 b) (tb:Trim b) (hle:v4 b<=v4 a) (la:a.length<=1000000) :
 Calls Tryz.prog 157 #[sa,sb] w fun e w'=>(∃ v D,e=.returned v/\Sl w' v D/\P4 D/\Trim D/\v4 D=v4 a - v4 b)/\Below w.heap.size w w':=by
 have hlb:=len_le_of_v4 ha hb tb hle
 obtain ⟨pa,ca,rfl,hra⟩:=h1.get
 obtain ⟨pb,cb,rfl,hrb⟩:=h2.get
 clear h1 h2
 obtain ⟨n,HN⟩:∃ n,Hid (a.length=n):=⟨_,rfl⟩
 obtain ⟨m,HM⟩:∃ m,Hid (b.length=m):=⟨_,rfl⟩
 have HLB:=qh hlb
 rw [show a.length=n from uh HN] at la hlb ⊢
 rw [show b.length=m from uh HM] at hlb ⊢
 go_enter Tryz.func157,Tryz.ntmps157
 go_wp2_with fail
 go_loopg [5,6,7] n (fun k v cv iv wr=>∃ (i:Nat) (c:Int) (D:List Int),i<=n/\k=n - i/\cv=.int .i64 c/\iv=.int .i64 i/\0<=c/\c<=1/\LessK a b w i c v D wr)
 case atStart=>exact ⟨0,0,[],by omega,by omega,rfl,rfl,by omega,by omega,World.ownsRow_nil _ _ _ _,P4.nil,rfl,by simp [v4],Below.refl _ _⟩
 case round =>
  obtain ⟨i,c,D,hin0,hgk,rfl,rfl,c0,c1,hk⟩:=hrel
  obtain ⟨va,vn,vc,rfl⟩:=zqz hk.own
  have hDn:D.length<=100000000:=by have:=hk.len;omega
  have hbs:=hk.below.size
  by_cases hin:i<n
  ·obtain ⟨ba,rfl,hca⟩:=hra (by rintro rfl;have:=uh HN;simp at this;omega)
   have hca:=hk.keep (hca i (by have:=uh HN;omega))
   have hxa:=ha.nth i
   have hia:(i:Int)<n:=by omega
   obtain ⟨xa,HXA⟩:∃ x,Hid (nth a i=x):=⟨_,rfl⟩
   rw [show nth a i=xa from uh HXA] at hca hxa
   obtain ⟨xa0,xa1⟩:=hxa
   by_cases him:i<m
   ·obtain ⟨bb,rfl,hcb⟩:=hrb (by rintro rfl;have:=uh HM;simp at this;omega)
    have hcb:=hk.keep (hcb i (by have:=uh HM;omega))
    have hxb:=hb.nth i
    have hib:(i:Int)<m:=by omega
    obtain ⟨xb,HXB⟩:∃ x,Hid (nth b i=x):=⟨_,rfl⟩
    rw [show nth b i=xb from uh HXB] at hcb hxb
    obtain ⟨xb0,xb1⟩:=hxb
    obtain ⟨x,HX⟩:∃ x,Hid (x=xa - c - xb):=⟨_,rfl⟩
    have x0:-10000<=x:=by rw [show x=_ from uh HX];omega
    have x1:x<10000:=by rw [show x=_ from uh HX];omega
    have hxe:xa - c - xb=x:=(uh HX).symm
    by_cases hneg:x<0
    ·go_wp2_with (at_builtin;refine zxf rfl _ _ rfl w.heap.size _ _ _ rfl hk.own (x+10000) rfl rfl hDn hbs ?_;intro v' w1 hown' hgrow)
     have R:=hk.step (d:=x+10000) (c':=1) (by rw [uh HX,uh HXA,uh HXB];omega) (by omega) (by omega) hown' hgrow
     obtain ⟨va',vn',vc',rfl⟩:=zqz hown'
     clear hown' hgrow hk
     go_wp2
     go_roundg (n - (i+1))
     case measure=>omega
     case rel=>exact ⟨i+1,1,_,by omega,rfl,rfl,by go_num,by omega,by omega,R⟩
    ·go_wp2_with (at_builtin;refine zxf rfl _ _ rfl w.heap.size _ _ _ rfl hk.own x rfl rfl hDn hbs ?_;intro v' w1 hown' hgrow)
     have R:=hk.step (d:=x) (c':=0) (by rw [uh HX,uh HXA,uh HXB];omega) (by omega) (by omega) hown' hgrow
     obtain ⟨va',vn',vc',rfl⟩:=zqz hown'
     clear hown' hgrow hk
     go_wp2
     go_roundg (n - (i+1))
     case measure=>omega
     case rel=>exact ⟨i+1,0,_,by omega,rfl,rfl,by go_num,by omega,by omega,R⟩
   ·obtain ⟨xb,HXB⟩:∃ x,Hid (nth b i=x):=⟨_,rfl⟩
    have hxb:xb=0:=by rw [<- uh HXB];exact zky (by have:=uh HM;omega)
    have hib:¬ (i:Int)<m:=by omega
    subst hxb
    obtain ⟨x,HX⟩:∃ x,Hid (x=xa - c):=⟨_,rfl⟩
    have x0:-10000<=x:=by rw [show x=_ from uh HX];omega
    have x1:x<10000:=by rw [show x=_ from uh HX];omega
    have hxe:xa - c=x:=(uh HX).symm
    by_cases hneg:x<0
    ·go_wp2_with (at_builtin;refine zxf rfl _ _ rfl w.heap.size _ _ _ rfl hk.own (x+10000) rfl rfl hDn hbs ?_;intro v' w1 hown' hgrow)
     have R:=hk.step (d:=x+10000) (c':=1) (by rw [uh HX,uh HXA,uh HXB];omega) (by omega) (by omega) hown' hgrow
     obtain ⟨va',vn',vc',rfl⟩:=zqz hown'
     clear hown' hgrow hk
     go_wp2
     go_roundg (n - (i+1))
     case measure=>omega
     case rel=>exact ⟨i+1,1,_,by omega,rfl,rfl,by go_num,by omega,by omega,R⟩
    ·go_wp2_with (at_builtin;refine zxf rfl _ _ rfl w.heap.size _ _ _ rfl hk.own x rfl rfl hDn hbs ?_;intro v' w1 hown' hgrow)
     have R:=hk.step (d:=x) (c':=0) (by rw [uh HX,uh HXA,uh HXB];omega) (by omega) (by omega) hown' hgrow
     obtain ⟨va',vn',vc',rfl⟩:=zqz hown'
     clear hown' hgrow hk
     go_wp2
     go_roundg (n - (i+1))
     case measure=>omega
     case rel=>exact ⟨i+1,0,_,by omega,rfl,rfl,by go_num,by omega,by omega,R⟩
  ·obtain rfl:i=n:=by omega
   have hv:=LessK.done (by rw [show a.length=i from uh HN];exact hk) (uh HLB) c0 hle
   have HV:=qh hv
   have hs:=sl_own hk.own
   have hP:=hk.places
   have hB:=hk.below
   clear hk hv hgk
   go_wp2_with fail
   refine (rtrim_sl _ hs hP).mono ?_
   rintro e w2 ⟨⟨v2,D2,rfl,s2,p2,t2,e2,-⟩,rfl⟩
   have HE:=qh e2
   clear e2
   go_wp2
   go_ret
   exact ⟨⟨_,D2,rfl,s2,p2,t2,(uh HE).trans (uh HV)⟩,hB⟩
structure TimK (a:List Int) (y:Int) (w:World) (i:Nat) (c:Int) (v:Value) (D:List Int) (wr:World):Prop where
 own:wr.ownsRow w.heap.size 3 1 v D.length (D.map (Value.int .i64))
 places:P4 D
 len:D.length=i
 sum:v4 D+10000 ^ i*c=v4 (a.take i)*y
 below:Below w.heap.size w wr
theorem TimK.keep {a:List Int}{y:Int}{w wr:World}{i:Nat}{c:Int}{v:Value}{D:List Int} (h:TimK a y w i c v D wr) {g o:Nat}{u:Value} (hc:w.cell? ⟨g,o,none⟩=some u):wr.cell? ⟨g,o,none⟩=some u:=ck h.below hc
theorem TimK.step {a:List Int}{y:Int}{w wr w1:World}{i:Nat}{c x:Int}{v v':Value}{D:List Int}{o:Obj} (h:TimK a y w i c v D wr) (hx:x=c+nth a i*y) (_h0:0<=x)
 (hown:w1.ownsRow w.heap.size 3 1 v' (D.length+1) (D.map (Value.int .i64)++[.int .i64 (x % 10000)])) (hg:(wr.alloc o).grownBy w1 v.ownBlock):TimK a y w (i+1) (x / 10000) v' (D++[x % 10000]) w1:=by
 refine ⟨by simpa using hown,h.places.snoc (by omega) (by omega),by simp [h.len],?_,grow_below h.below h.own hg⟩
 rw [carry_step h.len h.sum hx,zxx,Int.add_mul,Int.mul_assoc]
theorem place_prod {x y:Int} (x0:0<=x) (x1:x<10000) (y0:0<=y) (y1:y<10000):0<=x*y/\x*y<=99980001:=by
 refine ⟨Int.mul_nonneg x0 y0,?_⟩
 have:x*y<=9999*9999:=Int.mul_le_mul (by omega) (by omega) y0 (by omega)
 omega
theorem rtimes_any {sa:Value}{a:List Int} (y:Int) (w:World) (h1:Sl w sa a) (ha:P4 a) (y0:0<=y) (y1:y<10000) (la:a.length<=1000000) :
 Calls Tryz.prog 220 #[sa,.int .i64 y] w fun e w'=>(∃ v D,e=.returned v/\Sl w' v D/\P4 D/\Trim D/\v4 D=v4 a*y)/\Below w.heap.size w w':=by
 obtain ⟨pa,ca,rfl,hra⟩:=h1.get
 clear h1
 obtain ⟨n,HN⟩:∃ n,Hid (a.length=n):=⟨_,rfl⟩
 rw [show a.length=n from uh HN] at la ⊢
 go_enter Tryz.func220,Tryz.ntmps220
 go_wp2_with fail
 go_loopg [5,6,7] (n+1) (fun k v cv iv wr=>∃ (i:Nat) (c:Int) (D:List Int),i<=n+1/\k=n+1 - i/\cv=.int .i64 c/\iv=.int .i64 i/\0<=c/\c<10000/\(n<i->c=0)/\TimK a y w i c v D wr)
 case atStart=>exact ⟨0,0,[],by omega,by omega,rfl,rfl,by omega,by omega,fun _=>rfl,World.ownsRow_nil _ _ _ _,P4.nil,rfl,by simp [v4],Below.refl _ _⟩
 case round =>
  obtain ⟨i,c,D,hin0,hgk,rfl,rfl,c0,c1,hcn,hk⟩:=hrel
  obtain ⟨va,vn,vc,rfl⟩:=zqz hk.own
  have hDn:D.length<=100000000:=by have:=hk.len;omega
  have hbs:=hk.below.size
  by_cases hin:i<n
  ·obtain ⟨ba,rfl,hca⟩:=hra (by rintro rfl;have:=uh HN;simp at this;omega)
   have hca:=hk.keep (hca i (by have:=uh HN;omega))
   have hxa:=ha.nth i
   have hia:(i:Int)<n:=by omega
   obtain ⟨xa,HXA⟩:∃ x,Hid (nth a i=x):=⟨_,rfl⟩
   rw [show nth a i=xa from uh HXA] at hca hxa
   obtain ⟨p0,p1⟩:=place_prod hxa.1 hxa.2 y0 y1
   obtain ⟨p,HP⟩:∃ p,Hid (xa*y=p):=⟨_,rfl⟩
   have hpe:xa*y=p:=uh HP
   rw [hpe] at p0 p1
   obtain ⟨x,HX⟩:∃ x,Hid (x=c+p):=⟨_,rfl⟩
   have x0:0<=x:=by rw [show x=_ from uh HX];omega
   have x1:x<100000000:=by rw [show x=_ from uh HX];omega
   have hxe:c+p=x:=(uh HX).symm
   go_wp2_with (at_builtin;refine zxf rfl _ _ rfl w.heap.size _ _ _ rfl hk.own (x % 10000) rfl rfl hDn hbs ?_;intro v' w1 hown' hgrow)
   have R:=hk.step (x:=x) (by rw [uh HX,uh HXA,<- uh HP]) x0 hown' hgrow
   obtain ⟨va',vn',vc',rfl⟩:=zqz hown'
   clear hown' hgrow hk
   go_wp2
   go_roundg (n+1 - (i+1))
   case measure=>omega
   case rel=>exact ⟨i+1,x / 10000,_,by omega,rfl,by go_num,by go_num,by omega,by omega,fun h=>by omega,R⟩
  ·have hia:¬ (i:Int)<n:=by omega
   have hna:nth a i=0:=zky (by have:=uh HN;omega)
   have HNA:=qh hna
   clear hna
   by_cases hcp:0<c
   ·go_wp2_with (at_builtin;refine zxf rfl _ _ rfl w.heap.size _ _ _ rfl hk.own (c % 10000) rfl rfl hDn hbs ?_;intro v' w1 hown' hgrow)
    have R:=hk.step (x:=c) (by rw [uh HNA];omega) c0 hown' hgrow
    obtain ⟨va',vn',vc',rfl⟩:=zqz hown'
    clear hown' hgrow hk
    go_wp2
    go_roundg (n+1 - (i+1))
    case measure=>omega
    case rel=>exact ⟨i+1,c / 10000,_,by omega,rfl,by go_num,by go_num,by omega,by omega,fun h=>by omega,R⟩
   ·obtain rfl:c=0:=by omega
    have hv:=hk.sum
    rw [zkl (by have:=uh HN;omega)] at hv
    have HV:=qh hv
    have hs:=sl_own hk.own
    have hP:=hk.places
    have hB:=hk.below
    clear hk hv hgk
    go_wp2_with fail
    refine (rtrim_sl _ hs hP).mono ?_
    rintro e w2 ⟨⟨v2,D2,rfl,s2,p2,t2,e2,-⟩,rfl⟩
    have HE:=qh e2
    clear e2
    go_wp2
    go_ret
    exact ⟨⟨_,D2,rfl,s2,p2,t2,by have:=uh HE;have:=uh HV;omega⟩,hB⟩
def GI (w:World) (g:Nat):Prop:=∃ cur,w.heap[g]? = some (.cells cur 3 (0,0))
theorem GI.lt {w:World}{g:Nat} (h:GI w g):g<w.heap.size:=by obtain ⟨cur,h⟩:=h;exact (Array.getElem?_eq_some_iff.1 h).1
theorem GI.later {w w':World}{g:Nat} (h:GI w g) (hb:Below w.heap.size w w'):GI w' g:=by
 obtain ⟨cur,h'⟩:=h;exact ⟨cur,by rw [hb.block g (GI.lt ⟨cur,h'⟩)];exact h'⟩
theorem GI.frozen {w:World}{g:Nat} (h:GI w g) (o:Nat):w.frozen? ⟨g,o,none⟩=false:=by
 obtain ⟨cur,h⟩:=h;simp [World.frozen?,h]
theorem GI.set {w:World}{g:Nat} (h:GI w g) (a:Addr) (v:Value):GI (w.setCell a v) g:=by
 obtain ⟨cur,h⟩:=h
 by_cases hg:g=a.block
 ·subst hg
  simp only [GI,World.setCell,Array.getElem?_modify]
  rw [if_pos trivial,h]
  exact ⟨_,rfl⟩
 ·exact ⟨cur,by rw [Below.heap_setCell w a v g hg];exact h⟩
theorem RowI.put {w:World}{b k:Nat}{l:List Int} (hr:RowI w b l) (hk:k<l.length) (x:Int):RowI (w.setCell ⟨b,k,none⟩ (.int .i64 x)) b (l.set k x):=by
 intro j hj
 simp at hj
 by_cases e:j=k
 ·subst e
  rw [zqd (hr j hj)]
  simp [nth,hj]
 ·rw [zqb _ _ _ _ _ _ (by omega),hr j hj]
  simp [nth,Ne.symm e]
theorem RowI.beside {w:World}{b g k:Nat}{l:List Int} (hr:RowI w b l) (hne:b≠g) (v:Value):RowI (w.setCell ⟨g,k,none⟩ v) b l:=fun j hj=>by
 rw [zqb _ _ _ _ _ _ (by omega)];exact hr j hj
theorem sl_mk {w:World}{g c:Nat}{l:List Int} (hr:RowI w g l) (hl:l.length<=c) (hc:c<=maxLen) (hg:GI w g):Sl w (.slice (some ⟨g,0,none⟩) l.length c) l:=Or.inr ⟨g,c,rfl,hl,hc,hr,hg⟩
theorem own_rowI {w:World}{base:Nat}{v:Value}{n:Nat}{G:List Int} (h:w.ownsRow base 3 1 v n (G.map (Value.int .i64))) (hn:v≠.slice none 0 0):∃ g c,v=.slice (some ⟨g,0,none⟩) n c/\G.length=n/\base<=g/\RowI w g G/\n<=c/\c<=maxLen/\GI w g:=by
 obtain ⟨h0,⟨rfl,h2⟩ | ⟨g,cap,cur,rfl,h3,h4,h5,h6,h7,h8⟩⟩:=h
 ·exact absurd rfl hn
 ·have hG:G.length=n:=by simpa using h0
  refine ⟨g,cap,rfl,hG,h3,fun k hk => ?_,h5,h6,cur,h4⟩
  have e:cur[k]? = (cur.toList.take (n*1))[k]? := by
   rw [List.getElem?_take,if_pos (by omega)];simp
  simp only [World.cell?,h4]
  rw [e,h8]
  simp [nth,hk]
theorem wpList_prepend {ops:Array Oper}{rest:List Oper}{o:Oper}{a:Act}{w w0:World}{Q:Exit->Act->World->Prop} (hgd:o.guard=none) (s x:Operand)
 (ho:o.op=.call { callee:=.builtin .append,args:=#[s,x],argTypes:=#[55,55] }) (y:Int) (r:Value) (R:List Int) (hR:Sl w0 r R)
 (hs:a.eval s=.slice (some ⟨w0.heap.size,0,none⟩) 1 1) (hx:a.eval x=r) (hw:w=w0.alloc (.cells #[.int .i64 y] 3)) (hn:R.length<=100000000)
 (h:∀ g c w',RowI w' g (y :: R)->w0.heap.size<=g->R.length+1<=c->c<=maxLen->GI w' g->Below w0.heap.size w0 w'->wpList Tryz.prog ops Q rest (a.put o.dst (.slice (some ⟨g,0,none⟩) (R.length+1) c)) w'):wpList Tryz.prog ops Q (o :: rest) a w:=by
 obtain ⟨i0,hi,hz0,hz1,hz2⟩:=info_parts info_int
 subst hw
 have hown:(w0.alloc (.cells #[.int .i64 y] 3)).ownsRow w0.heap.size 3 1 (.slice (some ⟨w0.heap.size,0,none⟩) 1 1) 1 [.int .i64 y]:=World.ownsRow_lit w0 #[.int .i64 y] 1 (Nat.le_refl _) (by decide) rfl
 have hb:=zqa w0 (.cells #[.int .i64 y] 3)
 rcases hR with ⟨rfl,rfl⟩ | ⟨b,cap,rfl,h2,h3,h4,cur,h5⟩
 ·refine wpList_append_own_none hgd s x 55 ho w0.heap.size 3 i0 1 Tryz.underlying55 hi _ _ _ hs hown hx ?_
  refine h w0.heap.size 1 _ ?_ (Nat.le_refl _) (by simp) (by decide) ⟨_,heap_alloc_new w0 _⟩ hb
  intro k hk
  simp at hk;subst hk
  simp [nth]
 ·have h4':RowI (w0.alloc (.cells #[.int .i64 y] 3)) b R:=h4.later hb
  refine wpList_append_own _ hgd s x 55 ho w0.heap.size 3 i0 (.int .i64 0) 1 8 Tryz.underlying55 hi hz0 hz1 hz2 rfl (by decide) _ _ _ hs hown ⟨b,0,none⟩ R.length cap (R.map (Value.int .i64)) hx (by simp) ?_ ?_ ?_ ?_ ?_ ?_
  ·intro j u hj
   have hjl:j<R.length:=by
    have:=(List.getElem?_eq_some_iff.1 hj).1
    simpa using this
   have hu:u=.int .i64 (nth R j):=by
    rw [List.getElem?_map,List.getElem?_eq_getElem hjl] at hj
    simp only [Option.map_some,Option.some.injEq] at hj
    rw [<- hj,nth_lt hjl]
   rw [hu,show Addr.add ⟨b,0,none⟩ j=⟨b,j,none⟩ by cases j <;> simp [Addr.add]]
   exact h4' j hjl
  ·intro u hu
   obtain ⟨x,_,rfl⟩:=List.mem_map.1 hu
   rfl
  ·unfold maxLen;omega
  ·omega
  ·simp
  ·intro v' w' hown' hgr hnil
   have hne:v'≠.slice none 0 0:=fun e=>by have:=hnil.1 e;simp at this
   rw [show [Value.int .i64 y]++R.map (Value.int .i64)=(y :: R).map (Value.int .i64) by simp,Nat.add_comm] at hown'
   obtain ⟨g,c,rfl,hl,hg,hr,hc1,hc2,hgi⟩:=own_rowI hown' hne
   refine h g c w' hr hg hc1 hc2 hgi ?_
   exact hb.grown hgr (by simp) (fun k hk=>(hown.lt k hk).1)
theorem made_ints (k:Nat):(madeCells (Value.int .i64 0).cells (k*1)).toList=(List.replicate k (0:Int)).map (Value.int .i64):=by
 apply List.ext_getElem
 ·simp [madeCells]
 ·intro i h1 h2
  simp [madeCells,Value.cells,Nat.mod_one]
theorem wpList_zeros {ops:Array Oper}{rest:List Oper}{o:Oper}{a:Act}{w:World}{Q:Exit->Act->World->Prop} (hg:o.guard=none) (l c:Operand) (hop:o.op=Op.makeSlice 55 l c) (L C:Int) (n:Nat) (hl:a.eval l=.int .i64 L) (hc:a.eval c=.int .i64 C) (hL:L=(n:Int)) (hC:C=(n:Int)) (hn:n<=1000000)
 (h:∀ w',RowI w' w.heap.size (List.replicate n 0)->GI w' w.heap.size->Below w.heap.size w w'->wpList Tryz.prog ops Q rest (a.put o.dst (.slice (some ⟨w.heap.size,0,none⟩) n n)) w'):wpList Tryz.prog ops Q (o :: rest) a w:=by
 obtain ⟨i0,hi,hz0,hz1,hz2⟩:=info_parts info_int
 refine wpList_make_full _ hg l c 55 hop w.heap.size 3 i0 (.int .i64 0) 1 Tryz.underlying55 hi hz0 hz1 .i64 .i64 L C n hl hc hL hC (by rw [hz2];omega) (by unfold maxLen;omega) (Nat.le_refl _) fun w' hown hgr => ?_
 rw [made_ints] at hown
 obtain ⟨g,c',e,_,_,hr,_,_,hgi⟩:=own_rowI hown (by simp)
 obtain ⟨rfl,rfl⟩:w.heap.size=g/\n=c':=by simpa using e
 exact h w' hr hgi ((Below.refl _ _).grown hgr (Nat.le_refl _) (fun k hk=>by cases hk))
theorem P4.set {l:List Int} (h:P4 l) (k:Nat) {x:Int} (h0:0<=x) (h1:x<10000):P4 (l.set k x):=fun d hd=>by
 rcases List.mem_or_eq_of_mem_set hd with hd | rfl
 ·exact h d hd
 ·exact ⟨h0,h1⟩
theorem p4_zeros (n:Nat):P4 (List.replicate n 0):=fun d hd=>by
 rw [List.mem_replicate] at hd;rw [hd.2];decide
theorem v4_zeros (n:Nat):v4 (List.replicate n 0)=0:=by
 induction n with
 | zero=>rfl
 | succ n ih=>simp [List.replicate_succ,v4,ih]
theorem digit_is {B V lo:Int} (h0:lo*B<=V) (h1:V<(lo+1)*B):V - lo*B<B/\0<=V - lo*B:=by
 rw [Int.add_mul] at h1;omega
end Go.Proofs.YtkdobjmhammhbaaGreatDoor
