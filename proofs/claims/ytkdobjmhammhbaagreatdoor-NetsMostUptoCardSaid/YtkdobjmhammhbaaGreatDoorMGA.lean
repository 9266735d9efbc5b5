import Derived.Test.YtkdobjmhammhbaaGreatDoorMH
import Derived.Shelf.Spec.TrailingZeros
namespace Go.Proofs.YtkdobjmhammhbaaGreatDoor
set_option maxHeartbeats 2000000
set_option maxRecDepth 8000
theorem odd_cop {a:Nat} (h:a % 2=1) (k:Nat):Nat.Coprime a (2 ^ k):=by
 apply Nat.Coprime.pow_right
 rw [Nat.coprime_comm]
 unfold Nat.Coprime
 rw [Nat.gcd_rec,h];simp
theorem gcd_strip {a m:Nat} (h:a % 2=1) (k:Nat):Nat.gcd a (2 ^ k*m)=Nat.gcd a m :=
 Nat.Coprime.gcd_mul_left_cancel_right m (odd_cop h k).symm
theorem gcd_twos {a b s t:Nat} (ha:a % 2=1) (hb:b % 2=1):Nat.gcd (2 ^ s*a) (2 ^ t*b)=2 ^ (min s t)*Nat.gcd a b:=by
 rcases Nat.le_total s t with h | h
 ·obtain ⟨d,rfl⟩:=Nat.exists_eq_add_of_le h
  rw [Nat.pow_add,Nat.mul_assoc,Nat.gcd_mul_left,gcd_strip ha,Nat.min_eq_left h]
 ·obtain ⟨d,rfl⟩:=Nat.exists_eq_add_of_le h
  rw [Nat.pow_add,Nat.mul_assoc,Nat.gcd_mul_left,Nat.gcd_comm,gcd_strip hb,Nat.gcd_comm,Nat.min_eq_right h]
theorem twos_unique {s t a b:Nat} (ha:a % 2=1) (hb:b % 2=1) (h:2 ^ s*a=2 ^ t*b):s=t/\a=b:=by
 have key:∀ {s t a b:Nat},s<t->a % 2=1->2 ^ s*a=2 ^ t*b->False:=by
  intro s t a b hlt ha h
  obtain ⟨d,rfl⟩:=Nat.exists_eq_add_of_lt hlt
  rw [Nat.add_assoc,Nat.pow_add,Nat.mul_assoc] at h
  have:=Nat.eq_of_mul_eq_mul_left (Nat.two_pow_pos s) h
  rw [Nat.pow_succ] at this
  have e:a=2*(2 ^ d*b):=by rw [this,Nat.mul_comm (2 ^ d) 2,Nat.mul_assoc]
  omega
 have hst:s=t:=by
  rcases Nat.lt_trichotomy s t with g | g | g
  ·exact (key g ha h).elim
  ·exact g
  ·exact (key g hb h.symm).elim
 subst hst
 exact ⟨rfl,Nat.eq_of_mul_eq_mul_left (Nat.two_pow_pos s) h⟩
theorem or_twos {s t a b:Nat} (ha:a % 2=1) (hb:b % 2=1):∃ c,c % 2=1/\(2 ^ s*a) ||| (2 ^ t*b)=2 ^ (min s t)*c:=by
 have key:∀ {s d a b:Nat},a % 2=1->b % 2=1->∃ c,c % 2=1/\(2 ^ s*a) ||| (2 ^ (s+d)*b)=2 ^ s*c:=by
  intro s d a b ha hb
  refine ⟨a ||| (2 ^ d*b),?_,?_⟩
  ·have:(a ||| (2 ^ d*b)).testBit 0=true:=by rw [Nat.testBit_or];simp [Nat.testBit_zero,ha]
   simpa [Nat.testBit_zero] using this
  ·rw [Nat.pow_add,Nat.mul_assoc,Nat.mul_comm (2 ^ s),Nat.mul_comm (2 ^ s),Nat.mul_comm (2 ^ s),<- Nat.shiftLeft_eq,<- Nat.shiftLeft_eq,<- Nat.shiftLeft_eq,Nat.shiftLeft_or_distrib]
 rcases Nat.le_total s t with h | h
 ·obtain ⟨d,rfl⟩:=Nat.exists_eq_add_of_le h
  rw [Nat.min_eq_left h];exact key ha hb
 ·obtain ⟨d,rfl⟩:=Nat.exists_eq_add_of_le h
  rw [Nat.min_eq_right h]
  obtain ⟨c,h1,h2⟩:=key (s:=t) (d:=d) hb ha
  exact ⟨c,h1,by rw [Nat.or_comm];exact h2⟩
theorem gcd_less {a b:Nat} (h:a<=b):Nat.gcd a (b - a)=Nat.gcd a b:=by
 obtain ⟨d,rfl⟩:=Nat.exists_eq_add_of_le h
 rw [Nat.add_sub_cancel_left];simp
theorem odd_nat {n:Nat} (h:(n:Int) % 2=1):n % 2=1:=by omega
theorem igcd_twos {a b:Int}{s t:Nat} (a0:0<=a) (b0:0<=b) (ha:a % 2=1) (hb:b % 2=1):(Int.gcd (2 ^ s*a) (2 ^ t*b):Int)=2 ^ (min s t)*(Int.gcd a b:Int):=by
 obtain ⟨n,rfl⟩:=Int.eq_ofNat_of_zero_le a0
 obtain ⟨m,rfl⟩:=Int.eq_ofNat_of_zero_le b0
 have:=gcd_twos (s:=s) (t:=t) (odd_nat ha) (odd_nat hb)
 rw [show ((2:Int) ^ s*(n:Int))=((2 ^ s*n:Nat):Int) by simp,show ((2:Int) ^ t*(m:Int))=((2 ^ t*m:Nat):Int) by simp,Int.gcd_natCast_natCast,Int.gcd_natCast_natCast,this]
 simp
theorem igcd_strip {a b:Int}{t:Nat} (a0:0<=a) (b0:0<=b) (ha:a % 2=1):Int.gcd a (2 ^ t*b)=Int.gcd a b:=by
 obtain ⟨n,rfl⟩:=Int.eq_ofNat_of_zero_le a0
 obtain ⟨m,rfl⟩:=Int.eq_ofNat_of_zero_le b0
 rw [show ((2:Int) ^ t*(m:Int))=((2 ^ t*m:Nat):Int) by simp,Int.gcd_natCast_natCast,Int.gcd_natCast_natCast]
 exact gcd_strip (odd_nat ha) t
theorem igcd_less {a b:Int} (a0:0<=a) (h:a<=b):Int.gcd a (b - a)=Int.gcd a b:=by
 obtain ⟨n,rfl⟩:=Int.eq_ofNat_of_zero_le a0
 obtain ⟨m,rfl⟩:=Int.eq_ofNat_of_zero_le (Int.le_trans a0 h)
 rw [show ((m:Int) - (n:Int))=((m - n:Nat):Int) by omega,Int.gcd_natCast_natCast,Int.gcd_natCast_natCast]
 exact gcd_less (by omega)
theorem igcd_le {a b:Int} (a0:0<a):(Int.gcd a b:Int)<=a:=Int.gcd_le_left b a0
theorem word_twos {x:Int} (hx:W64 x) (h0:0<x):∃ m:Int,0<=m/\m % 2=1/\x=2 ^ (Lib.ctz 64 x.toNat)*m/\Lib.ctz 64 x.toNat<=63:=by
 obtain ⟨n,rfl⟩:=Int.eq_ofNat_of_zero_le hx.1
 have hn:n<2 ^ 64:=by have:=hx.2;omega
 have hp:0<n:=by omega
 obtain ⟨m,hm,hk⟩:=Lib.ctzFrom_spec 64 n hp hn
 have e:Lib.ctz 64 ((n:Int)).toNat=Lib.ctzFrom 64 n:=by simp [Lib.ctz];omega
 rw [e]
 refine ⟨2*(m:Int)+1,by omega,by omega,?_,by omega⟩
 conv=>lhs;rw [hm]
 simp
theorem zjt {s t:Nat}{a b:Int} (a0:0<=a) (b0:0<=b) (ha:a % 2=1) (hb:b % 2=1) (h:2 ^ s*a=2 ^ t*b):s=t/\a=b:=by
 obtain ⟨n,rfl⟩:=Int.eq_ofNat_of_zero_le a0
 obtain ⟨m,rfl⟩:=Int.eq_ofNat_of_zero_le b0
 have h':2 ^ s*n=2 ^ t*m:=by
  have:((2 ^ s*n:Nat):Int)=((2 ^ t*m:Nat):Int):=by simpa using h
  exact_mod_cast this
 obtain ⟨e1,e2⟩:=twos_unique (odd_nat ha) (odd_nat hb) h'
 exact ⟨e1,by rw [e2]⟩
open Go.RowKit
def Tab64 (w:World):Prop:=TabAt 14 Lib.deBruijn64tab w
theorem Tab64.lt {w:World} (h:Tab64 w):14<w.heap.size:=World.block_lt_of_cell? w _ (h 0 (by decide))
theorem Tab64.later {w w':World} (h:Tab64 w) (hb:Below w.heap.size w w'):Tab64 w':=fun j hj=>by
 rw [hb.cell (p:=⟨14,j,none⟩) h.lt];exact h j hj
theorem Tab64.edit {w w':World}{g lo n:Nat} (h:Tab64 w) (hb:Edit g lo n w w') (hne:14≠g):Tab64 w':=fun j hj=>edit_cell hb (h j hj) hne
theorem tz_core (x k idx:Nat) (w:World) (hx0:((x:Int) == 0)=false)
 (key:IntKind.u64.wrap (bits BinOp.and IntKind.u64 (x:Int) (IntKind.u64.wrap (-(x:Int)))*285870213051353865) / 288230376151711744=(idx:Int))
 (hi:idx<64) (hk:k<64) (hcell:w.cell? ⟨14,idx,none⟩=some (.int .u8 k)) :
 Calls Tryz.prog 216 #[.int .u64 x] w fun e w'=>e=.returned (.int .i64 k)/\w'=w:=by
 go_enter Tryz.func216,Tryz.ntmps216
 go_wp2_with (simp only [key])
 go_ret
 exact ⟨rfl,rfl⟩
theorem tz_any (x:Int) (w:World) (hx:W64 x) (h0:0<x) (hT:Tab64 w) :
 Calls Tryz.prog 216 #[.int .u64 x] w fun e w'=>∃ (s:Nat) (m:Int),e=.returned (.int .i64 s)/\s<=63/\0<m/\Hid (m % 2=1/\x=2 ^ s*m/\m<=x)/\w'=w:=by
 obtain ⟨m,m0,m1,e,hs⟩:=word_twos hx h0
 obtain ⟨n,rfl⟩:=Int.eq_ofNat_of_zero_le hx.1
 have hn:n<18446744073709551616:=by have:=hx.2;omega
 have hn0:n≠0:=by omega
 obtain ⟨hlow,hk⟩:=Lib.lowest_bit 64 n hn0 hn
 obtain ⟨hi,htab⟩:=Lib.deBruijn64_at _ hk
 have hcell:=hT _ hi
 rw [htab] at hcell
 refine (tz_core n _ _ w (by simp;omega) (tz64_key n _ hn hn0 hlow) hi hk hcell).mono ?_
 rintro _ _ ⟨rfl,rfl⟩
 rw [Int.toNat_natCast] at e hs
 have hp:=zxu (Lib.ctz 64 n)
 refine ⟨_,m,rfl,hs,by omega,⟨m1,e,?_⟩,rfl⟩
 have:1*m<=2 ^ (Lib.ctz 64 n)*m:=Int.mul_le_mul_of_nonneg_right (by omega) m0
 omega
theorem min_max {a b:Int}:(a<=b/\min a b=a/\max a b=b)\/(b<a/\min a b=b/\max a b=a):=by omega
theorem div_twos {x m:Int}{s:Nat} (h:x=2 ^ s*m):x / 2 ^ s=m:=by
 rw [h];exact Int.mul_ediv_cancel_left _ (by have:=zxu s;omega)
theorem or_word {x y:Int}{s t:Nat}{a b:Int} (hx:W64 x) (hy:W64 y) (a0:0<a) (b0:0<b) (ha:a % 2=1) (hb:b % 2=1) (ex:x=2 ^ s*a) (ey:y=2 ^ t*b):∃ z c,bits .or .u64 x y=z/\W64 z/\0<z/\0<c/\c % 2=1/\z=2 ^ (min s t)*c:=by
 obtain ⟨n,rfl⟩:=Int.eq_ofNat_of_zero_le hx.1
 obtain ⟨m,rfl⟩:=Int.eq_ofNat_of_zero_le hy.1
 obtain ⟨a,rfl⟩:=Int.eq_ofNat_of_zero_le (Int.le_of_lt a0)
 obtain ⟨b,rfl⟩:=Int.eq_ofNat_of_zero_le (Int.le_of_lt b0)
 have hn:n<18446744073709551616:=by have:=hx.2;omega
 have hm:m<18446744073709551616:=by have:=hy.2;omega
 have en:n=2 ^ s*a:=by
  have:(n:Int)=((2 ^ s*a:Nat):Int):=by simpa using ex
  exact_mod_cast this
 have em:m=2 ^ t*b:=by
  have:(m:Int)=((2 ^ t*b:Nat):Int):=by simpa using ey
  exact_mod_cast this
 obtain ⟨c,hc,e⟩:=or_twos (s:=s) (t:=t) (odd_nat ha) (odd_nat hb)
 have hlt:n ||| m<18446744073709551616:=Nat.or_lt_two_pow (n:=64) hn hm
 have hp:=Nat.two_pow_pos (min s t)
 refine ⟨((n ||| m:Nat):Int),c,?_,⟨by omega,by omega⟩,?_,by omega,by omega,?_⟩
 ·exact bits_or_u64_nat n m hn hm
 ·rw [en,em,e]
  have:0<2 ^ min s t*c:=Nat.mul_pos hp (by omega)
  omega
 ·rw [en,em,e];simp
theorem gcd_out {x y u:Int}{s t:Nat}{a b:Int} (hx:W64 x) (x0:0<x) (a0:0<a) (b0:0<b) (ha:a % 2=1) (hb:b % 2=1) (ex:x=2 ^ s*a) (ey:y=2 ^ t*b) (hu:(Int.gcd u 0)=Int.gcd a y) (u0:0<=u) :
 u*2 ^ (min s t)=(Int.gcd x y:Int)/\0<=u*2 ^ (min s t)/\u*2 ^ (min s t)<18446744073709551616:=by
 have e:u*2 ^ (min s t)=(Int.gcd x y:Int):=by
  rw [ex,ey,igcd_twos (by omega) (by omega) ha hb,<- igcd_strip (t:=t) (by omega) (by omega) ha,<- ey,<- hu,Int.gcd_zero]
  rw [Int.natAbs_of_nonneg u0,Int.mul_comm]
 refine ⟨e,by omega,?_⟩
 rw [e]
 have:=igcd_le (b:=y) x0
 have:=hx.2
 omega
theorem commonWord_any (x y:Int) (w:World) (hx:W64 x) (hy:W64 y) (x0:0<x) (y0:0<y) (hT:Tab64 w) :
 Calls Tryz.prog 185 #[.int .u64 x,.int .u64 y] w fun e w'=>e=.returned (.int .u64 (Int.gcd x y))/\∃ n,w'=w.drewN n:=by
 have hx0:(x == 0)=false:=by simp;omega
 have hy0:(y == 0)=false:=by simp;omega
 obtain ⟨a,a0,a1,ex,hs⟩:=word_twos hx x0
 obtain ⟨b,b0,b1,ey,ht⟩:=word_twos hy y0
 obtain ⟨z,c,hor,hz,z0,c0,c1,ez⟩:=or_word hx hy (by omega) (by omega) a1 b1 ex ey
 obtain ⟨s,HS⟩:∃ s,Hid (Lib.ctz 64 x.toNat=s):=⟨_,rfl⟩
 obtain ⟨t,HT⟩:∃ t,Hid (Lib.ctz 64 y.toNat=t):=⟨_,rfl⟩
 rw [show Lib.ctz 64 x.toNat=s from uh HS] at ex hs ez
 rw [show Lib.ctz 64 y.toNat=t from uh HT] at ey ht ez
 have EX:=qh ex
 have EY:=qh ey
 have EZ:=qh ez
 have b0':0<b:=by omega
 have A1:=qh a1
 have B1:=qh b1
 have C1:=qh c1
 clear HS HT ex ey ez a1 b1 c1
 go_enter Tryz.func185,Tryz.ntmps185
 go_wp2_with fail
 refine (tz_any z _ hz z0 hT).mono ?_
 rintro e w1 ⟨k,m,rfl,hk,m0,HM,rfl⟩
 obtain ⟨rfl,-⟩:=zjt (by omega) (by omega) (uh HM).1 (uh C1) ((uh HM).2.1.symm.trans (uh EZ))
 go_wp2_with fail
 refine (tz_any x _ hx x0 hT).mono ?_
 rintro e w2 ⟨s1,m1,rfl,hs1,m10,HM1,rfl⟩
 obtain ⟨rfl,rfl⟩:=zjt (by omega) (by omega) (uh HM1).1 (uh A1) ((uh HM1).2.1.symm.trans (uh EX))
 have hd:=div_twos (uh EX)
 have mx:m1<=x:=(uh HM1).2.2
 have hxl:=hx.2
 have hyl:=hy.2
 go_wp2_with fail
 go_loopw [0,1] (fun p q wr=>∃ u v:Int,p=.int .u64 u/\q=.int .u64 v/\0<u/\u<18446744073709551616/\0<=v/\v<18446744073709551616/\Hid (u % 2=1/\Int.gcd u v=Int.gcd m1 y)/\∃ n,wr=w2.drewN n) (fun p q _=>(intOf p+intOf q).toNat)
 case atStart=>exact ⟨m1,y,rfl,rfl,m10,by omega,by omega,hyl,⟨uh A1,rfl⟩,0,rfl⟩
 case round =>
  obtain ⟨u,v,rfl,rfl,u0,u1,v0,v1,HG,nq,rfl⟩:=hrel
  by_cases hv:v=0
  ·subst hv
   obtain ⟨q1,q2,q3⟩:=gcd_out hx x0 m10 b0' (uh A1) (uh B1) (uh EX) (uh EY) (uh HG).2 (by omega)
   have hw:IntKind.u64.wrap (u*2 ^ (min s1 t))=(Int.gcd x y:Int):=by rw [IntKind.wrap_u64,q1];omega
   clear q1 q2 q3 hd hor
   go_wp2
   go_ret
   exact ⟨rfl,nq,rfl⟩
  ·have hv0:(v != 0)=true:=by simp;omega
   go_wp2_with fail
   refine (tz_any v _ ⟨v0,v1⟩ (by omega) (by exact hT)).mono ?_
   rintro e w3 ⟨k,m,rfl,hk3,m0,HM3,rfl⟩
   have hd3:=div_twos (uh HM3).2.1
   have hle:=(uh HM3).2.2
   have hgm:Int.gcd u m=Int.gcd m1 y:=by
    rw [<- (uh HG).2,(uh HM3).2.1];exact (igcd_strip (by omega) (by omega) (uh HG).1).symm
   go_wp2
   go_roundw
   case rel =>
    rcases min_max (a:=u) (b:=m) with ⟨h,e1,e2⟩ | ⟨h,e1,e2⟩
    ·refine ⟨u,m - u,by rw [e1],by rw [e1,e2],u0,u1,by omega,by omega,⟨(uh HG).1,?_⟩,nq,rfl⟩
     rw [igcd_less (by omega) h,hgm]
    ·refine ⟨m,u - m,by rw [e1],by rw [e1,e2],m0,by omega,by omega,by omega,⟨(uh HM3).1,?_⟩,nq,rfl⟩
     rw [igcd_less (by omega) (by omega),Int.gcd_comm,hgm]
   case measure=>simp only [intOf];omega
theorem pw_two (k:Nat):pw k=2 ^ (64*k):=by
 induction k with
 | zero=>rfl
 | succ k ih=>rw [zkg,ih,Nat.mul_add,Int.pow_add];omega
theorem val_low_zeros {l:List Int}{k:Nat} (hk:k<=l.length) (h:∀ j,j<k->nth l j=0):val l=pw k*val (l.drop k):=by
 rw [zxm l k hk,val_all_zero (l:=l.take k) (fun j => ?_)]
 ·omega
 ·by_cases e:j<k
  ·rw [nth_take e];exact h j e
  ·exact zky (by rw [List.length_take];omega)
theorem val_twos {l:List Int}{k s:Nat}{m:Int} (hw:Ws l) (hk:k<l.length) (hz:∀ j,j<k->nth l j=0) (hs:s<=63) (m0:0<m) (m1:m % 2=1) (e:nth l k=2 ^ s*m) :
 ∃ M:Int,0<M/\M % 2=1/\val l=2 ^ (64*k+s)*M/\val (l.drop k)=2 ^ s*M:=by
 have e1:=zjf l k hk
 have hr:=zqg (hw.drop (k+1))
 have hp:=two_split s (by omega)
 have h1:(2:Int) ^ (64 - s)=2*2 ^ (63 - s):=by rw [show 64 - s=(63 - s)+1 by omega,Int.pow_succ];omega
 have hq:=zxu (63 - s)
 have hm:=Int.mul_nonneg (Int.le_of_lt hq) hr
 have ed:val (l.drop k)=2 ^ s*(m+2*(2 ^ (63 - s)*val (l.drop (k+1)))):=by
  rw [e1,e,Int.mul_add,<- hp,h1]
  rw [Int.mul_assoc,Int.mul_assoc]
 refine ⟨m+2*(2 ^ (63 - s)*val (l.drop (k+1))),by omega,by omega,?_,ed⟩
 rw [val_low_zeros (by omega) hz,ed,pw_two,Int.pow_add,Int.mul_assoc]
theorem zero_below {l:List Int} (_hw:Ws l) {k:Nat} (hz:∀ j,j<k->nth l j=0) (hp:0<val l):k<l.length:=by
 by_cases e:k<l.length
 ·exact e
 ·exfalso
  have:=val_all_zero (l:=l) (fun j=>by
   by_cases g:j<k
   ·exact hz j g
   ·exact zky (by omega))
  omega
theorem lowZeros_any (g o cap n:Nat) (l:List Int) (w:World) (hr:Row w g o l) (hw:Ws l) (hn:l.length=n) (hlim:n<=1000000) (hp:0<val l) (hT:Tab64 w) :
 Calls Tryz.prog 233 #[.slice (some ⟨g,o,none⟩) n cap] w fun e w'=>(∃ (k s:Nat) (m:Int),e=.returned (.int .i64 ((64*k+s:Nat):Int))/\k<n/\s<=63/\0<m/\Hid (m % 2=1/\nth l k=2 ^ s*m/\∀ j,j<k->nth l j=0))/\∃ n,w'=w.drewN n:=by
 have HN:=qh hn
 clear hn
 go_enter Tryz.func233,Tryz.ntmps233
 go_wp2_with fail
 go_loopw [3] (fun v wr=>∃ k:Nat,k<n/\v=.int .i64 k/\Hid (∀ j,j<k->nth l j=0)/\∃ nq,wr=w.drewN nq) (fun v _=>n - (intOf v).toNat)
 case atStart=>exact ⟨0,by have:=zero_below hw (k:=0) (fun j hj=>by omega) hp;have:=uh HN;omega,rfl,fun j hj=>by omega,0,rfl⟩
 case round =>
  obtain ⟨k,hk,rfl,HZ,nq,rfl⟩:=hrel
  have hc:=hr k (by have:=uh HN;omega)
  have hx:=hw.get k
  by_cases h0:nth l k=0
  ·have HZ':Hid (∀ j,j<k+1->nth l j=0):=fun j hj=>by
    by_cases e:j=k
    ·rw [e];exact h0
    ·exact uh HZ j (by omega)
   have hlt:=zero_below hw (uh HZ') hp
   rw [uh HN] at hlt
   rw [h0] at hc
   clear h0
   go_wp2
   go_roundw
   case rel=>exact ⟨k+1,by omega,by go_num,HZ',nq,rfl⟩
   case measure=>simp [intOf];omega
  ·have h0':(nth l k == 0)=false:=by simpa using h0
   obtain ⟨x0,x1⟩:=hx
   go_wp2_with fail
   refine (tz_any (nth l k) _ ⟨x0,x1⟩ (by omega) (by exact hT)).mono ?_
   rintro e w3 ⟨s,m,rfl,hs,m0,HM,rfl⟩
   go_wp2
   go_ret
   exact ⟨⟨k,s,m,by go_num,hk,hs,m0,(uh HM).1,(uh HM).2.1,uh HZ⟩,nq,rfl⟩
theorem val_odd_ne {l:List Int} (h:val l % 2=1):l≠[]:=by rintro rfl;simp [val] at h
theorem odd_any (g o cap n:Nat) (l:List Int) (w:World) (hr:Row w g o l) (hf:Free w g) (hw:Ws l) (hn:l.length=n) (hlim:n<=1000000) (hc:n<=cap) (hcap:cap<=9223372036854775807) (hp:0<val l) (hT:Tab64 w) :
 Calls Tryz.prog 234 #[.slice (some ⟨g,o,none⟩) n cap] w fun e w'=>∃ (o' c' z:Nat) (l':List Int),e=.returned (.slice (some ⟨g,o',none⟩) l'.length c')/\Row w' g o' l'/\Ws l'/\Trim l'/\l'.length<=n/\l'.length<=c'/\c'<=9223372036854775807/\Hid (val l=2 ^ z*val l'/\val l' % 2=1/\0<val l')/\Edit g o n w w':=by
 have HN:=qh hn
 clear hn
 go_enter Tryz.func234,Tryz.ntmps234
 go_wp2_with fail
 refine (lowZeros_any g o cap n l _ hr hw (uh HN) hlim hp hT).mono ?_
 rintro e w1 ⟨⟨k,s,m,rfl,hk,hs,m0,HM⟩,q,rfl⟩
 have hq:(64*k+s) / 64=k:=by omega
 have hm:(s:Int) % 64=s:=by omega
 have hki:(k:Int)<=n:=by omega
 go_wp2_with fail
 refine (shiftDown_any g (o+k) (cap - k) (n - k) s (l.drop k) _ (by exact hr.drop k) (by exact hf) (hw.drop k) (by rw [List.length_drop,uh HN]) hs (by omega)).mono ?_
 rintro e w2 ⟨out,rfl,lo,wo,eo,ro,ed⟩
 obtain ⟨M,M0,M1,EV,ED⟩:=val_twos hw (by rw [uh HN];exact hk) (uh HM).2.2 hs m0 (uh HM).1 (uh HM).2.1
 have hmod:nth (l.drop k) 0 % 2 ^ s=0:=by
  rw [nth_drop,Nat.add_zero,(uh HM).2.1];exact Int.mul_emod_right _ _
 have HO:Hid (val out=M):=by
  show _=_
  rw [hmod,ED,Int.add_zero,Int.mul_comm] at eo
  exact Int.eq_of_mul_eq_mul_left (by have:=zxu s;omega) eo
 have HL:=qh lo
 have HE:=qh EV
 have ed':Edit g o n w w2:=(Edit.undrewN ed).mono (by omega) (by omega)
 clear eo lo hmod ED EV
 have hTr:=trim_any g (o+k) (cap - k) out w2 ro (by rw [uh HL];omega) (by omega)
 rw [uh HL] at hTr
 go_wp2_with fail
 refine hTr.mono ?_
 rintro e w3 ⟨⟨m',hm',rfl,hz',ht'⟩,rfl⟩
 go_wp2
 go_ret
 have hlt:(out.take m').length=m':=by rw [List.length_take,uh HL];omega
 have hval:val (out.take m')=M:=(zkt (by rw [uh HL];omega) hz').trans (uh HO)
 refine ⟨o+k,cap - k,64*k+s,out.take m',by rw [hlt];rfl,ro.take m',wo.take m',trim_trimmed (by rw [uh HL];omega) ht',by omega,by omega,by omega,⟨?_,?_,?_⟩,ed'⟩
 ·rw [hval];exact uh HE
 ·rw [hval];exact M1
 ·rw [hval];exact M0
theorem below_grown {w w':World} (h:Below w.heap.size w w'):w.grownBy w' none:=⟨h.os,h.tape,h.output,h.size,fun k hk _=>h.block k hk⟩
theorem grown_newG {w w':World} (h:w.grownBy w' none):Below w.heap.size w w':=(Below.refl _ _).grown h (Nat.le_refl _) (fun k hk=>by cases hk)
theorem made_zeros (k:Nat):(madeCells (Value.int .u64 0).cells (k*1)).toList=(List.replicate k (0:Int)).map (Value.int .u64):=by
 apply List.ext_getElem
 ·simp [madeCells]
 ·intro i h1 h2
  simp [madeCells,Value.cells,Nat.mod_one]
theorem two_mul_split (k s:Nat) (x:Int):pw k*(x*2 ^ s)=x*2 ^ (64*k+s):=by
 rw [pw_two,Int.pow_add,Int.mul_left_comm]
theorem val_zero_app (k:Nat) (l:List Int):val (List.replicate k 0++l)=pw k*val l:=by
 rw [zkc,val_replicate,List.length_replicate];omega
theorem ws_zeros (k:Nat):Ws (List.replicate k 0):=fun x hx=>by
 rw [List.mem_replicate] at hx;rw [hx.2];exact ⟨by decide,by decide⟩
theorem timesTwos_any (ga oa ca n k s:Nat) (a:List Int) (w:World) (hra:Row w ga oa a) (ha:Ws a) (hn:a.length=n) (hs:s<=63) (hlim:n+k<=800000) :
 Calls Tryz.prog 235 #[.slice (some ⟨ga,oa,none⟩) n ca,.int .i64 ((64*k+s:Nat):Int)] w fun e w'=>∃ v,e=.returned v/\Sz (n+1+k) w' v (val a*2 ^ (64*k+s))/\Below w.heap.size w w':=by
 obtain ⟨i0,hi,hz0,hz1,hz2⟩:=info_parts info_u64
 have hq:(64*k+s) / 64=k:=by omega
 have hm:(s:Int) % 64=s:=by omega
 have hqi:(64*(k:Int)+s) / 64=k:=by omega
 have HN:=qh hn
 clear hn
 go_enter Tryz.func235,Tryz.ntmps235
 have hb2:i0.bytes*k<=281474976710656:=by rw [hz2];omega
 have hb3:k<=maxLen:=by unfold maxLen;omega
 go_wp2_with (at_make;refine wpList_make_full _ rfl _ _ 35 rfl w.heap.size 200 i0 (.int .u64 0) 1 Tryz.underlying35 hi hz0 hz1 _ _ _ _ k rfl rfl hqi hqi hb2 hb3 (Nat.le_refl _) ?_;intro w1 hown1 hgr1)
 rw [made_zeros] at hown1
 have hb1:Below w.heap.size w w1:=grown_newG hgr1
 refine (shiftUp_any ga oa ca n s a _ (hra.later hb1) ha (uh HN) hs (by omega)).mono ?_
 rintro e w2 ⟨g,out,rfl,hg,lo,wo,eo,-,ro,fo,bo⟩
 have hown2:=hown1.kept (below_grown bo) (Or.inr (by simp [Value.ownBlock]))
 have HL:=qh lo
 have HE:=qh eo
 have hb12:=bk bo hb1
 have hbs:=hb12.size
 clear lo eo hown1 hgr1
 have hnews:∀ j u,(out.map (Value.int .u64))[j]? = some u->w2.cell? (Addr.add ⟨g,0,none⟩ j)=some u:=by
  intro j u hj
  have hjl:j<out.length:=by
   have:=(List.getElem?_eq_some_iff.1 hj).1
   simpa using this
  have hu:u=.int .u64 (nth out j):=by
   rw [List.getElem?_map,List.getElem?_eq_getElem hjl] at hj
   simp only [Option.map_some,Option.some.injEq] at hj
   rw [<- hj,nth_lt hjl]
  rw [hu]
  have:=ro j hjl
  rw [show Addr.add ⟨g,0,none⟩ j=⟨g,0+j,none⟩ by cases j <;> simp [Addr.add]]
  exact this
 have hone:∀ u ∈ out.map (Value.int .u64),u.oneCell'=true:=by
  intro u hu
  obtain ⟨x,_,rfl⟩:=List.mem_map.1 hu
  rfl
 have hlen:(out.map (Value.int .u64)).length=(n+1)*1:=by rw [List.length_map,uh HL];omega
 have h63:k+(n+1)<=maxLen:=by unfold maxLen;omega
 have hby:(k+(n+1))*8<=140737488355328:=by omega
 go_wp2_with (at_builtin;refine wpList_append_own _ rfl _ _ 35 rfl w.heap.size 200 i0 (.int .u64 0) 1 8 Tryz.underlying35 hi hz0 hz1 hz2 rfl (by decide) _ _ _ rfl hown2 ⟨g,0,none⟩ (n+1) (n+1) (out.map (Value.int .u64)) rfl hlen hnews hone h63 hby hbs ?_;intro v' w3 hown3 hgr3 _)
 have e0:(List.replicate k (0:Int)).map (Value.int .u64)++out.map (Value.int .u64)=(List.replicate k (0:Int)++out).map (Value.int .u64):=by rw [List.map_append]
 have hl3:(List.replicate k (0:Int)++out).length=k+(n+1):=by rw [List.length_append,List.length_replicate,uh HL]
 rw [e0,<- hl3] at hown3
 obtain ⟨g3,c3,rfl,r3,l3,cur,h3⟩:=own_row hown3 (by intro e;rw [e] at hl3;simp at hl3)
 have hc3:c3<=9223372036854775807:=by
  obtain ⟨_,⟨hh,_⟩ | ⟨_,_,_,hh,_,_,_,hm,_⟩⟩:=hown3
  ·simp at hh
  ·simp at hh;unfold maxLen at hm;omega
 have hb3':Below w.heap.size w w3:=hb12.grown hgr3 hbs (fun j hj=>(hown2.lt j hj).1)
 have hT:=zje g3 0 c3 (k+(n+1)) (List.replicate k 0++out) w3 r3 ((ws_zeros k).append wo) hl3 (by omega) hc3
 rw [hl3]
 clear hown3 hgr3 hown2
 go_wp2_with fail
 refine hT.mono ?_
 rintro e w4 ⟨v4,rfl,hsz,rfl⟩
 go_wp2
 go_ret
 refine ⟨_,rfl,(hsz.mono (by omega)).eq ?_,hb3'⟩
 rw [val_zero_app,uh HE,two_mul_split]
structure HvK (B0:Nat) (w:World) (G N ga oa ca gb ob cb:Nat) (A B:List Int) (wr:World):Prop where
 ne:ga≠gb
 la:B0<=ga
 lb:B0<=gb
 ra:Row wr ga oa A
 rb:Row wr gb ob B
 fa:Free wr ga
 fb:Free wr gb
 wa:Ws A
 wb:Ws B
 ta:Trim A
 tb:Trim B
 na:A.length<=N
 nb:B.length<=N
 ca1:A.length<=ca
 cb1:B.length<=cb
 ca2:ca<=9223372036854775807
 cb2:cb<=9223372036854775807
 oa:val A % 2=1
 ob:val B % 2=1
 gcd:Int.gcd (val A) (val B)=G
 below:Below B0 w wr
theorem HvK.swap {B0:Nat}{w:World}{G N ga oa ca gb ob cb:Nat}{A B:List Int}{wr:World} (h:HvK B0 w G N ga oa ca gb ob cb A B wr):HvK B0 w G N gb ob cb ga oa ca B A wr :=
 ⟨Ne.symm h.ne,h.lb,h.la,h.rb,h.ra,h.fb,h.fa,h.wb,h.wa,h.tb,h.ta,h.nb,h.na,h.cb1,h.ca1,h.cb2,h.ca2,h.ob,h.oa,by rw [Int.gcd_comm];exact h.gcd,h.below⟩
theorem HvK.drewN {B0:Nat}{w:World}{G N ga oa ca gb ob cb:Nat}{A B:List Int}{wr:World} (h:HvK B0 w G N ga oa ca gb ob cb A B wr) (n:Nat):HvK B0 w G N ga oa ca gb ob cb A B (wr.drewN n) :=
 ⟨h.ne,h.la,h.lb,h.ra,h.rb,h.fa,h.fb,h.wa,h.wb,h.ta,h.tb,h.na,h.nb,h.ca1,h.cb1,h.ca2,h.cb2,h.oa,h.ob,h.gcd,zqj h.below n⟩
theorem HvK.pos {B0:Nat}{w:World}{G N ga oa ca gb ob cb:Nat}{A B:List Int}{wr:World} (h:HvK B0 w G N ga oa ca gb ob cb A B wr):0<val A/\0<val B:=by
 have h1:=zqg h.wa
 have h2:=zqg h.wb
 have h3:=h.oa
 have h4:=h.ob
 omega
theorem HvK.step {B0:Nat}{w:World}{G N ga oa ca gb ob cb o' c' z:Nat}{A B l':List Int}{wr w3:World} (h:HvK B0 w G N ga oa ca gb ob cb A B wr) (hlt:val B<val A) (hv:val A - val B=2 ^ z*val l') (hodd:val l' % 2=1)
 (wl:Ws l') (tl:Trim l') (hr:Row w3 ga o' l') (hl:l'.length<=A.length) (hc1:l'.length<=c') (hc2:c'<=9223372036854775807) (hed:Edit ga oa A.length wr w3):HvK B0 w G N ga o' c' gb ob cb l' B w3:=by
 refine ⟨h.ne,h.la,h.lb,hr,h.rb.edit hed (Ne.symm h.ne),hed.free h.fa,h.fb.edit (Ne.symm h.ne) hed,wl,h.wb,tl,h.tb,Nat.le_trans hl h.na,h.nb,hc1,h.cb1,hc2,h.cb2,hodd,h.ob,?_,?_⟩
 ·have hp:=h.pos
  rw [Int.gcd_comm,<- igcd_strip (t:=z) (by omega) (zqg wl) h.ob,<- hv,igcd_less (by omega) (by omega),Int.gcd_comm]
  exact h.gcd
 ·have hs:B0<=wr.heap.size:=Nat.le_trans h.la (Nat.le_of_lt h.fa.lt)
  exact h.below.trans (hed.below h.la hs)
theorem half_less {a b x:Int}{z:Nat} (h:a - b=2 ^ z*x) (hb:0<b) (hx:0<=x):x<a:=by
 have hp:=zxu z
 have:1*x<=2 ^ z*x:=Int.mul_le_mul_of_nonneg_right (by omega) hx
 omega
theorem one_word {l:List Int} (hn:l≠[]) (h:¬ (1:Int)<l.length):l.length=1:=by
 have:=List.length_pos_iff.2 hn
 omega
theorem timesTwos_T (ga oa ca n T:Nat) (a:List Int) (w:World) (hra:Row w ga oa a) (ha:Ws a) (hn:a.length=n) (hlim:n+T / 64<=800000) :
 Calls Tryz.prog 235 #[.slice (some ⟨ga,oa,none⟩) n ca,.int .i64 (T:Int)] w fun e w'=>∃ v,e=.returned v/\Sz (n+1+T / 64) w' v (val a*2 ^ T)/\Below w.heap.size w w':=by
 have h:=timesTwos_any ga oa ca n (T / 64) (T % 64) a w hra ha hn (by omega) hlim
 rw [show 64*(T / 64)+T % 64=T by omega] at h
 exact h
theorem halves_loop (B0:Nat) (w0:World) (N ga oa ca gb ob cb:Nat) (A B:List Int) (w:World) (hra:Row w ga oa A) (hrb:Row w gb ob B) (hfa:Free w ga) (hfb:Free w gb) (hne:ga≠gb) (la:B0<=ga) (lb:B0<=gb) (wa:Ws A) (wb:Ws B)
 (na:A.length<=N) (nb:B.length<=N) (hN:N<=300000) (ca1:A.length<=ca) (cb1:B.length<=cb) (ca2:ca<=9223372036854775807) (cb2:cb<=9223372036854775807) (pa:0<val A) (pb:0<val B) (hT:Tab64 w) (hB0:14<B0) (hb0:Below B0 w0 w) :
 Calls Tryz.prog 218 #[.slice (some ⟨ga,oa,none⟩) A.length ca,.slice (some ⟨gb,ob,none⟩) B.length cb] w fun e w'=>∃ v,e=.returned v/\Sz (2*N+1) w' v (Int.gcd (val A) (val B))/\Below B0 w0 w':=by
 obtain ⟨n,HN⟩:∃ n,Hid (A.length=n):=⟨_,rfl⟩
 obtain ⟨m,HM⟩:∃ m,Hid (B.length=m):=⟨_,rfl⟩
 rw [show A.length=n from uh HN] at na ca1 ⊢
 rw [show B.length=m from uh HM] at nb cb1 ⊢
 go_enter Tryz.func218,Tryz.ntmps218
 go_wp2_with fail
 refine (lowZeros_any ga oa ca n A _ hra wa (uh HN) (by omega) pa hT).mono ?_
 rintro e w1 ⟨⟨k1,s1,m1,rfl,hk1,hs1,m10,HM1⟩,q1,rfl⟩
 go_wp2_with fail
 refine (lowZeros_any gb ob cb m B _ (by exact hrb) wb (uh HM) (by omega) pb (by exact hT)).mono ?_
 rintro e w2 ⟨⟨k2,s2,m2,rfl,hk2,hs2,m20,HM2⟩,q2,rfl⟩
 obtain ⟨MA,MA0,MA1,EA,-⟩:=val_twos wa (by rw [uh HN];exact hk1) (uh HM1).2.2 hs1 m10 (uh HM1).1 (uh HM1).2.1
 obtain ⟨MB,MB0,MB1,EB,-⟩:=val_twos wb (by rw [uh HM];exact hk2) (uh HM2).2.2 hs2 m20 (uh HM2).1 (uh HM2).2.1
 obtain ⟨T,HT⟩:∃ T,Hid (min (64*k1+s1) (64*k2+s2)=T):=⟨_,rfl⟩
 have hT64:T / 64<n:=by have:=uh HT;omega
 have hmin:min (64*(k1:Int)+s1) (64*(k2:Int)+s2)=(T:Int):=by have:=uh HT;omega
 have HG:Hid ((Int.gcd (val A) (val B):Int)=2 ^ T*(Int.gcd MA MB:Int)):=by
  show _=_
  rw [EA,EB,igcd_twos (by omega) (by omega) MA1 MB1,uh HT]
 have HMA:=qh (And.intro MA1 EA)
 have HMB:=qh (And.intro MB1 EB)
 clear MA1 EA MB1 EB
 go_wp2_with fail
 refine (odd_any ga oa ca n A _ (by exact hra) (by exact hfa) wa (uh HN) (by omega) ca1 ca2 pa (by exact hT)).mono ?_
 rintro e w3 ⟨o3,c3,z3,l3,rfl,r3,wl3,tl3,nl3,nc3,cc3,H3,E3⟩
 have E3:=Edit.undrewN E3
 have hT3:Tab64 w3:=hT.edit E3 (by omega)
 go_wp2_with fail
 refine (odd_any gb ob cb m B _ (hrb.edit E3 (Ne.symm hne)) (hfb.edit (Ne.symm hne) E3) wb (uh HM) (by omega) cb1 cb2 pb hT3).mono ?_
 rintro e w4 ⟨o4,c4,z4,l4,rfl,r4,wl4,tl4,nl4,nc4,cc4,H4,E4⟩
 have hT4:Tab64 w4:=hT3.edit E4 (by omega)
 have hB0s:B0<=w.heap.size:=by have:=hfa.lt;omega
 have hB3:Below B0 w0 w3:=hb0.trans (E3.below la hB0s)
 have hB4:Below B0 w0 w4:=hB3.trans (E4.below lb (by have:=E3.size;omega))
 have e3:val l3=MA:=(zjt (zqg wl3) (by omega) (uh H3).2.1 (uh HMA).1 ((uh H3).1.symm.trans (uh HMA).2)).2
 have e4:val l4=MB:=(zjt (zqg wl4) (by omega) (uh H4).2.1 (uh HMB).1 ((uh H4).1.symm.trans (uh HMB).2)).2
 have hK:HvK B0 w0 (Int.gcd MA MB) N ga o3 c3 gb o4 c4 l3 l4 w4 :=
  ⟨hne,la,lb,r3.edit E4 hne,r4,(E3.free hfa).edit hne E4,E4.free (hfb.edit (Ne.symm hne) E3),wl3,wl4,tl3,tl4,by omega,by omega,nc3,nc4,cc3,cc4,(uh H3).2.1,(uh H4).2.1,by rw [e3,e4],hB4⟩
 clear HM1 HM2 HMA HMB H3 H4 e3 e4 E3 E4 hB3 hB4 r3 r4 wl3 wl4 tl3 tl4 hT hT3 hra hrb hfa hfb
 go_wp2_with fail
 go_loopg [0,1] ((val l3+val l4).toNat) (fun k va vb wr=>∃ (xa xo xc ya yo yc:Nat) (X Y:List Int),va=.slice (some ⟨xa,xo,none⟩) X.length xc/\vb=.slice (some ⟨ya,yo,none⟩) Y.length yc/\k=(val X+val Y).toNat/\Tab64 wr/\HvK B0 w0 (Int.gcd MA MB) N xa xo xc ya yo yc X Y wr)
 case atStart=>exact ⟨_,_,_,_,_,_,_,_,rfl,rfl,rfl,hT4,hK⟩
 case round =>
  obtain ⟨xa,xo,xc,ya,yo,yc,X,Y,rfl,rfl,hgk,hTr,hk⟩:=hrel
  clear hK hT4
  by_cases hx1:(1:Int)<X.length
  ·have hXN:=hk.na
   have hYN:=hk.nb
   have hX1:X≠[]:=val_odd_ne hk.oa
   go_wp2_with fail
   refine (compare_nm xa xo xc ya yo yc _ _ X Y _ hk.ra hk.rb hk.wa hk.wb hk.ta hk.tb rfl rfl (by omega) (by omega)).mono ?_
   rintro e w5 ⟨rfl,q5,rfl⟩
   rcases Int.lt_trichotomy (val X) (val Y) with hc | hc | hc
   ·rw [zqp (show val X - val Y<0 by omega)]
    have hks:=hk.swap
    obtain ⟨p1,p2⟩:=hks.pos
    have hlen:X.length<=Y.length:=by
     by_cases e:X.length<=Y.length
     ·exact e
     ·have:=zqv hks.wa hks.wb hks.tb (by omega);omega
    have hPN:=hks.na
    go_wp2_with fail
    refine (lower_any ya yo yc xa xo xc _ _ Y X _ (by exact hks.ra) (by exact hks.rb) (by exact hks.fa) (fun _=>Ne.symm hks.ne) hks.wa hks.wb rfl rfl hlen (by omega) (by omega)).mono ?_
    rintro e w5 ⟨out,rfl,lo,wo,eo,ro,E5⟩
    have HLO:=qh lo
    have HEO:=qh eo
    have E5:=Edit.undrewN E5
    clear lo eo
    have hTr5:Tab64 w5:=hTr.edit E5 (by have:=hks.la;omega)
    have hTm:=trim_any ya yo yc out w5 ro (by rw [uh HLO];exact hks.ca1) hks.ca2
    rw [uh HLO] at hTm
    go_wp2_with fail
    refine hTm.mono ?_
    rintro e w6 ⟨⟨m6,hm6,rfl,hz6,ht6⟩,rfl⟩
    clear hTm
    have hl6:(out.take m6).length=m6:=by rw [List.length_take,uh HLO];omega
    have hv6:val (out.take m6)=val Y - val X:=(zkt (by rw [uh HLO];omega) hz6).trans (uh HEO)
    have HL6:=qh hl6
    have HV6:=qh hv6
    have hp6:0<val (out.take m6):=by rw [hv6];omega
    clear hl6 hv6
    have hc6:=hks.ca1
    have hc6':=hks.ca2
    go_wp2_with fail
    refine (odd_any ya yo yc m6 (out.take m6) _ (by exact ro.take m6) (by exact E5.free hks.fa) (wo.take m6) (uh HL6) (by omega) (by omega) hc6' hp6 (by exact hTr5)).mono ?_
    rintro e w7 ⟨o7,c7,z7,l7,rfl,r7,wl7,tl7,nl7,nc7,cc7,H7,E7⟩
    have E57:Edit ya yo Y.length wr w7:=E5.trans (E7.mono (Nat.le_refl _) (by omega))
    have h7:val Y - val X=2 ^ z7*val l7:=by rw [<- uh HV6];exact (uh H7).1
    have R:=hks.step (by omega) h7 (uh H7).2.1 wl7 tl7 r7 (by omega) nc7 cc7 E57
    have hTr7:Tab64 w7:=hTr.edit E57 (by have:=hks.la;omega)
    have hlt7:=half_less h7 p2 (zqg wl7)
    have hn7:=zqg wl7
    have HLT:Hid ((val l7+val X).toNat<gk):=by show _<_;rw [hgk];omega
    clear hgk hk r7 wl7 tl7 E5 E7 E57 h7 hlt7 hTr hTr5 ro wo hp6
    go_wp2
    go_roundg ((val l7+val X).toNat)
    case measure=>exact uh HLT
    case rel=>exact ⟨_,_,_,_,_,_,_,_,rfl,rfl,rfl,hTr7,R⟩
   ·rw [zxi (show val X - val Y=0 by omega)]
    go_wp2_with fail
    refine (timesTwos_T xa xo xc _ T X _ (by exact hk.ra) hk.wa rfl (by omega)).mono ?_
    rintro e w6 ⟨v6,rfl,s6,b6⟩
    have hgx:(Int.gcd (val A) (val B):Int)=val X*2 ^ T:=by
     rw [uh HG,<- hk.gcd,<- hc,Int.gcd_self,Int.natAbs_of_nonneg (zqg hk.wa),Int.mul_comm]
    have hB6:Below B0 w0 w6:=(zqj hk.below q5).trans (b6.mono (by have:=hk.fa.lt;have:=hk.la;simp only [World.drewN];omega))
    have HGX:=qh hgx
    have hNs:X.length+1+T / 64<=2*N+1:=by omega
    clear hgx hk hTr b6
    go_wp2
    go_ret
    exact ⟨_,rfl,(s6.mono hNs).eq (uh HGX).symm,hB6⟩
   ·rw [zqq (show 0<val X - val Y by omega)]
    obtain ⟨p1,p2⟩:=hk.pos
    have hlen:Y.length<=X.length:=by
     by_cases e:Y.length<=X.length
     ·exact e
     ·have:=zqv hk.wa hk.wb hk.tb (by omega);omega
    have hPN:=hk.na
    go_wp2_with fail
    refine (lower_any xa xo xc ya yo yc _ _ X Y _ (by exact hk.ra) (by exact hk.rb) (by exact hk.fa) (fun _=>Ne.symm hk.ne) hk.wa hk.wb rfl rfl hlen (by omega) (by omega)).mono ?_
    rintro e w5 ⟨out,rfl,lo,wo,eo,ro,E5⟩
    have HLO:=qh lo
    have HEO:=qh eo
    have E5:=Edit.undrewN E5
    clear lo eo
    have hTr5:Tab64 w5:=hTr.edit E5 (by have:=hk.la;omega)
    have hTm:=trim_any xa xo xc out w5 ro (by rw [uh HLO];exact hk.ca1) hk.ca2
    rw [uh HLO] at hTm
    go_wp2_with fail
    refine hTm.mono ?_
    rintro e w6 ⟨⟨m6,hm6,rfl,hz6,ht6⟩,rfl⟩
    clear hTm
    have hl6:(out.take m6).length=m6:=by rw [List.length_take,uh HLO];omega
    have hv6:val (out.take m6)=val X - val Y:=(zkt (by rw [uh HLO];omega) hz6).trans (uh HEO)
    have HL6:=qh hl6
    have HV6:=qh hv6
    have hp6:0<val (out.take m6):=by rw [hv6];omega
    clear hl6 hv6
    have hc6:=hk.ca1
    have hc6':=hk.ca2
    go_wp2_with fail
    refine (odd_any xa xo xc m6 (out.take m6) _ (by exact ro.take m6) (by exact E5.free hk.fa) (wo.take m6) (uh HL6) (by omega) (by omega) hc6' hp6 (by exact hTr5)).mono ?_
    rintro e w7 ⟨o7,c7,z7,l7,rfl,r7,wl7,tl7,nl7,nc7,cc7,H7,E7⟩
    have E57:Edit xa xo X.length wr w7:=E5.trans (E7.mono (Nat.le_refl _) (by omega))
    have h7:val X - val Y=2 ^ z7*val l7:=by rw [<- uh HV6];exact (uh H7).1
    have R:=hk.step (by omega) h7 (uh H7).2.1 wl7 tl7 r7 (by omega) nc7 cc7 E57
    have hTr7:Tab64 w7:=hTr.edit E57 (by have:=hk.la;omega)
    have hlt7:=half_less h7 p2 (zqg wl7)
    have hn7:=zqg wl7
    have HLT:Hid ((val l7+val Y).toNat<gk):=by show _<_;rw [hgk];omega
    clear hgk hk r7 wl7 tl7 E5 E7 E57 h7 hlt7 hTr hTr5 ro wo hp6
    go_wp2
    go_roundg ((val l7+val Y).toNat)
    case measure=>exact uh HLT
    case rel=>exact ⟨_,_,_,_,_,_,_,_,rfl,rfl,rfl,hTr7,R⟩
  ·by_cases hy1:(1:Int)<Y.length
   ·have hXN:=hk.na
    have hYN:=hk.nb
    have hX1:X≠[]:=val_odd_ne hk.oa
    go_wp2_with fail
    refine (compare_nm xa xo xc ya yo yc _ _ X Y _ hk.ra hk.rb hk.wa hk.wb hk.ta hk.tb rfl rfl (by omega) (by omega)).mono ?_
    rintro e w5 ⟨rfl,q5,rfl⟩
    rcases Int.lt_trichotomy (val X) (val Y) with hc | hc | hc
    ·rw [zqp (show val X - val Y<0 by omega)]
     have hks:=hk.swap
     obtain ⟨p1,p2⟩:=hks.pos
     have hlen:X.length<=Y.length:=by
      by_cases e:X.length<=Y.length
      ·exact e
      ·have:=zqv hks.wa hks.wb hks.tb (by omega);omega
     have hPN:=hks.na
     go_wp2_with fail
     refine (lower_any ya yo yc xa xo xc _ _ Y X _ (by exact hks.ra) (by exact hks.rb) (by exact hks.fa) (fun _=>Ne.symm hks.ne) hks.wa hks.wb rfl rfl hlen (by omega) (by omega)).mono ?_
     rintro e w5 ⟨out,rfl,lo,wo,eo,ro,E5⟩
     have HLO:=qh lo
     have HEO:=qh eo
     have E5:=Edit.undrewN E5
     clear lo eo
     have hTr5:Tab64 w5:=hTr.edit E5 (by have:=hks.la;omega)
     have hTm:=trim_any ya yo yc out w5 ro (by rw [uh HLO];exact hks.ca1) hks.ca2
     rw [uh HLO] at hTm
     go_wp2_with fail
     refine hTm.mono ?_
     rintro e w6 ⟨⟨m6,hm6,rfl,hz6,ht6⟩,rfl⟩
     clear hTm
     have hl6:(out.take m6).length=m6:=by rw [List.length_take,uh HLO];omega
     have hv6:val (out.take m6)=val Y - val X:=(zkt (by rw [uh HLO];omega) hz6).trans (uh HEO)
     have HL6:=qh hl6
     have HV6:=qh hv6
     have hp6:0<val (out.take m6):=by rw [hv6];omega
     clear hl6 hv6
     have hc6:=hks.ca1
     have hc6':=hks.ca2
     go_wp2_with fail
     refine (odd_any ya yo yc m6 (out.take m6) _ (by exact ro.take m6) (by exact E5.free hks.fa) (wo.take m6) (uh HL6) (by omega) (by omega) hc6' hp6 (by exact hTr5)).mono ?_
     rintro e w7 ⟨o7,c7,z7,l7,rfl,r7,wl7,tl7,nl7,nc7,cc7,H7,E7⟩
     have E57:Edit ya yo Y.length wr w7:=E5.trans (E7.mono (Nat.le_refl _) (by omega))
     have h7:val Y - val X=2 ^ z7*val l7:=by rw [<- uh HV6];exact (uh H7).1
     have R:=hks.step (by omega) h7 (uh H7).2.1 wl7 tl7 r7 (by omega) nc7 cc7 E57
     have hTr7:Tab64 w7:=hTr.edit E57 (by have:=hks.la;omega)
     have hlt7:=half_less h7 p2 (zqg wl7)
     have hn7:=zqg wl7
     have HLT:Hid ((val l7+val X).toNat<gk):=by show _<_;rw [hgk];omega
     clear hgk hk r7 wl7 tl7 E5 E7 E57 h7 hlt7 hTr hTr5 ro wo hp6
     go_wp2
     go_roundg ((val l7+val X).toNat)
     case measure=>exact uh HLT
     case rel=>exact ⟨_,_,_,_,_,_,_,_,rfl,rfl,rfl,hTr7,R⟩
    ·rw [zxi (show val X - val Y=0 by omega)]
     go_wp2_with fail
     refine (timesTwos_T xa xo xc _ T X _ (by exact hk.ra) hk.wa rfl (by omega)).mono ?_
     rintro e w6 ⟨v6,rfl,s6,b6⟩
     have hgx:(Int.gcd (val A) (val B):Int)=val X*2 ^ T:=by
      rw [uh HG,<- hk.gcd,<- hc,Int.gcd_self,Int.natAbs_of_nonneg (zqg hk.wa),Int.mul_comm]
     have hB6:Below B0 w0 w6:=(zqj hk.below q5).trans (b6.mono (by have:=hk.fa.lt;have:=hk.la;simp only [World.drewN];omega))
     have HGX:=qh hgx
     have hNs:X.length+1+T / 64<=2*N+1:=by omega
     clear hgx hk hTr b6
     go_wp2
     go_ret
     exact ⟨_,rfl,(s6.mono hNs).eq (uh HGX).symm,hB6⟩
    ·rw [zqq (show 0<val X - val Y by omega)]
     obtain ⟨p1,p2⟩:=hk.pos
     have hlen:Y.length<=X.length:=by
      by_cases e:Y.length<=X.length
      ·exact e
      ·have:=zqv hk.wa hk.wb hk.tb (by omega);omega
     have hPN:=hk.na
     go_wp2_with fail
     refine (lower_any xa xo xc ya yo yc _ _ X Y _ (by exact hk.ra) (by exact hk.rb) (by exact hk.fa) (fun _=>Ne.symm hk.ne) hk.wa hk.wb rfl rfl hlen (by omega) (by omega)).mono ?_
     rintro e w5 ⟨out,rfl,lo,wo,eo,ro,E5⟩
     have HLO:=qh lo
     have HEO:=qh eo
     have E5:=Edit.undrewN E5
     clear lo eo
     have hTr5:Tab64 w5:=hTr.edit E5 (by have:=hk.la;omega)
     have hTm:=trim_any xa xo xc out w5 ro (by rw [uh HLO];exact hk.ca1) hk.ca2
     rw [uh HLO] at hTm
     go_wp2_with fail
     refine hTm.mono ?_
     rintro e w6 ⟨⟨m6,hm6,rfl,hz6,ht6⟩,rfl⟩
     clear hTm
     have hl6:(out.take m6).length=m6:=by rw [List.length_take,uh HLO];omega
     have hv6:val (out.take m6)=val X - val Y:=(zkt (by rw [uh HLO];omega) hz6).trans (uh HEO)
     have HL6:=qh hl6
     have HV6:=qh hv6
     have hp6:0<val (out.take m6):=by rw [hv6];omega
     clear hl6 hv6
     have hc6:=hk.ca1
     have hc6':=hk.ca2
     go_wp2_with fail
     refine (odd_any xa xo xc m6 (out.take m6) _ (by exact ro.take m6) (by exact E5.free hk.fa) (wo.take m6) (uh HL6) (by omega) (by omega) hc6' hp6 (by exact hTr5)).mono ?_
     rintro e w7 ⟨o7,c7,z7,l7,rfl,r7,wl7,tl7,nl7,nc7,cc7,H7,E7⟩
     have E57:Edit xa xo X.length wr w7:=E5.trans (E7.mono (Nat.le_refl _) (by omega))
     have h7:val X - val Y=2 ^ z7*val l7:=by rw [<- uh HV6];exact (uh H7).1
     have R:=hk.step (by omega) h7 (uh H7).2.1 wl7 tl7 r7 (by omega) nc7 cc7 E57
     have hTr7:Tab64 w7:=hTr.edit E57 (by have:=hk.la;omega)
     have hlt7:=half_less h7 p2 (zqg wl7)
     have hn7:=zqg wl7
     have HLT:Hid ((val l7+val Y).toNat<gk):=by show _<_;rw [hgk];omega
     clear hgk hk r7 wl7 tl7 E5 E7 E57 h7 hlt7 hTr hTr5 ro wo hp6
     go_wp2
     go_roundg ((val l7+val Y).toNat)
     case measure=>exact uh HLT
     case rel=>exact ⟨_,_,_,_,_,_,_,_,rfl,rfl,rfl,hTr7,R⟩
   ·have hX1:=one_word (val_odd_ne hk.oa) hx1
    have hY1:=one_word (val_odd_ne hk.ob) hy1
    obtain ⟨x,rfl⟩:=List.length_eq_one_iff.1 hX1
    obtain ⟨y,rfl⟩:=List.length_eq_one_iff.1 hY1
    have hcx:wr.cell? ⟨xa,xo,none⟩=some (.int .u64 x):=hk.ra 0 (by simp)
    have hcy:wr.cell? ⟨ya,yo,none⟩=some (.int .u64 y):=hk.rb 0 (by simp)
    have hxw:W64 x:=hk.wa x (by simp)
    have hyw:W64 y:=hk.wb y (by simp)
    have hxy:=hk.pos
    simp only [val] at hxy
    have hx0:0<x:=by omega
    have hy0:0<y:=by omega
    have hgc:Int.gcd x y=Int.gcd MA MB:=by have:=hk.gcd;simp only [val] at this;simpa using this
    have hgl:(Int.gcd x y:Int)<18446744073709551616:=by have:=igcd_le (b:=y) hx0;have:=hxw.2;omega
    have hgw:Ws [(Int.gcd x y:Int)]:=Ws.mk ⟨by omega,hgl⟩ Ws.nil
    have hrow:∀ n,Row ((wr.drewN n).alloc (.cells #[.int .u64 (Int.gcd x y:Int)] 200)) wr.heap.size 0 [(Int.gcd x y:Int)]:=by
     intro n k hk
     simp at hk;subst hk
     show (wr.alloc _).cell? _=_
     simp [nth]
    have HGC:=qh hgc
    clear hgc
    have hB:=hk.below
    have hBs:B0<=wr.heap.size:=by have:=hk.fa.lt;have:=hk.la;omega
    have hNs:1+1+T / 64<=2*N+1:=by omega
    have hTl:1+T / 64<=800000:=by omega
    clear hk hgk
    go_wp2_with fail
    go_region_with (first | (go_at_call 185;go_fit (commonWord_any x y _ hxw hyw hx0 hy0 (by exact hTr));rintro e w8 ⟨rfl,q8,rfl⟩) | (go_at_call 235;go_fit (timesTwos_T _ 0 1 1 T [(Int.gcd x y:Int)] _ (by exact hrow _) hgw rfl hTl);rintro e w9 ⟨v9,rfl,s9,b9⟩))
    all_goals
     have hB9:Below B0 w0 w9:=((zqj hB _).alloc (by exact hBs) _).trans (b9.mono (by simp;omega))
     have hv9:val [(Int.gcd x y:Int)]*2 ^ T=(Int.gcd (val A) (val B):Int):=by
      rw [uh HG,<- uh HGC,Int.mul_comm];simp [val]
     have HV9:=qh hv9
     clear hv9 b9
     go_wp2
     go_ret
     exact ⟨_,rfl,(s9.mono hNs).eq (uh HV9),hB9⟩
end Go.Proofs.YtkdobjmhammhbaaGreatDoor
