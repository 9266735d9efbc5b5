import Derived.Test.YtkdobjmhammhbaaGreatDoorME
import Derived.Shelf.Spec.TrailingZeros
namespace Go.Proofs.YtkdobjmhammhbaaGreatDoor
theorem odd_cop {a:Nat} (h:a % 2=1) (k:Nat):Nat.Coprime a (2 ^ k):=by
 apply Nat.Coprime.pow_right
 rw [Nat.coprime_comm]
 unfold Nat.Coprime
 rw [Nat.gcd_rec,h];simp
theorem gcd_strip {a m:Nat} (h:a % 2=1) (k:Nat):Nat.gcd a (2 ^ k*m)=Nat.gcd a m :=
 Nat.Coprime.gcd_mul_left_cancel_right m (odd_cop h k).symm
theorem gcd_twos {a b s t:Nat} (ha:a % 2=1) (hb:b % 2=1):Nat.gcd (2 ^ s*a) (2 ^ t*b)=2 ^ (min s t)*Nat.gcd a b:=by
 rcases Nat.le_total s t with h | h
 · obtain ⟨d,rfl⟩:=Nat.exists_eq_add_of_le h
   rw [Nat.pow_add,Nat.mul_assoc,Nat.gcd_mul_left,gcd_strip ha,Nat.min_eq_left h]
 · obtain ⟨d,rfl⟩:=Nat.exists_eq_add_of_le h
   rw [Nat.pow_add,Nat.mul_assoc,Nat.gcd_mul_left,Nat.gcd_comm,gcd_strip hb,Nat.gcd_comm,Nat.min_eq_right h]
theorem twos_unique {s t a b:Nat} (ha:a % 2=1) (hb:b % 2=1) (h:2 ^ s*a=2 ^ t*b):s=t∧a=b:=by
 have key:∀ {s t a b:Nat},s<t→a % 2=1→2 ^ s*a=2 ^ t*b→False:=by
   intro s t a b hlt ha h
   obtain ⟨d,rfl⟩:=Nat.exists_eq_add_of_lt hlt
   rw [Nat.add_assoc,Nat.pow_add,Nat.mul_assoc] at h
   have:=Nat.eq_of_mul_eq_mul_left (Nat.two_pow_pos s) h
   rw [Nat.pow_succ] at this
   have e:a=2*(2 ^ d*b):=by rw [this,Nat.mul_comm (2 ^ d) 2,Nat.mul_assoc]
   omega
 have hst:s=t:=by
   rcases Nat.lt_trichotomy s t with g | g | g
   · exact (key g ha h).elim
   · exact g
   · exact (key g hb h.symm).elim
 subst hst
 exact ⟨rfl,Nat.eq_of_mul_eq_mul_left (Nat.two_pow_pos s) h⟩
theorem or_twos {s t a b:Nat} (ha:a % 2=1) (hb:b % 2=1):∃ c,c % 2=1∧(2 ^ s*a) ||| (2 ^ t*b)=2 ^ (min s t)*c:=by
 have key:∀ {s d a b:Nat},a % 2=1→b % 2=1→∃ c,c % 2=1∧(2 ^ s*a) ||| (2 ^ (s+d)*b)=2 ^ s*c:=by
   intro s d a b ha hb
   refine ⟨a ||| (2 ^ d*b),?_,?_⟩
   · have:(a ||| (2 ^ d*b)).testBit 0=true:=by rw [Nat.testBit_or];simp [Nat.testBit_zero,ha]
     simpa [Nat.testBit_zero] using this
   · rw [Nat.pow_add,Nat.mul_assoc,Nat.mul_comm (2 ^ s),Nat.mul_comm (2 ^ s),Nat.mul_comm (2 ^ s),← Nat.shiftLeft_eq,← Nat.shiftLeft_eq,← Nat.shiftLeft_eq,Nat.shiftLeft_or_distrib]
 rcases Nat.le_total s t with h | h
 · obtain ⟨d,rfl⟩:=Nat.exists_eq_add_of_le h
   rw [Nat.min_eq_left h];exact key ha hb
 · obtain ⟨d,rfl⟩:=Nat.exists_eq_add_of_le h
   rw [Nat.min_eq_right h]
   obtain ⟨c,h1,h2⟩:=key (s:=t) (d:=d) hb ha
   exact ⟨c,h1,by rw [Nat.or_comm];exact h2⟩
theorem gcd_less {a b:Nat} (h:a≤b):Nat.gcd a (b - a)=Nat.gcd a b:=by
 obtain ⟨d,rfl⟩:=Nat.exists_eq_add_of_le h
 rw [Nat.add_sub_cancel_left];simp
theorem odd_nat {n:Nat} (h:(n:Int) % 2=1):n % 2=1:=by omega
theorem igcd_twos {a b:Int}{s t:Nat} (a0:0≤a) (b0:0≤b) (ha:a % 2=1) (hb:b % 2=1):(Int.gcd (2 ^ s*a) (2 ^ t*b):Int)=2 ^ (min s t)*(Int.gcd a b:Int):=by
 obtain ⟨n,rfl⟩:=Int.eq_ofNat_of_zero_le a0
 obtain ⟨m,rfl⟩:=Int.eq_ofNat_of_zero_le b0
 have:=gcd_twos (s:=s) (t:=t) (odd_nat ha) (odd_nat hb)
 rw [show ((2:Int) ^ s*(n:Int))=((2 ^ s*n:Nat):Int) by simp,show ((2:Int) ^ t*(m:Int))=((2 ^ t*m:Nat):Int) by simp,Int.gcd_natCast_natCast,Int.gcd_natCast_natCast,this]
 simp
theorem igcd_strip {a b:Int}{t:Nat} (a0:0≤a) (b0:0≤b) (ha:a % 2=1):Int.gcd a (2 ^ t*b)=Int.gcd a b:=by
 obtain ⟨n,rfl⟩:=Int.eq_ofNat_of_zero_le a0
 obtain ⟨m,rfl⟩:=Int.eq_ofNat_of_zero_le b0
 rw [show ((2:Int) ^ t*(m:Int))=((2 ^ t*m:Nat):Int) by simp,Int.gcd_natCast_natCast,Int.gcd_natCast_natCast]
 exact gcd_strip (odd_nat ha) t
theorem igcd_less {a b:Int} (a0:0≤a) (h:a≤b):Int.gcd a (b - a)=Int.gcd a b:=by
 obtain ⟨n,rfl⟩:=Int.eq_ofNat_of_zero_le a0
 obtain ⟨m,rfl⟩:=Int.eq_ofNat_of_zero_le (Int.le_trans a0 h)
 rw [show ((m:Int) - (n:Int))=((m - n:Nat):Int) by omega,Int.gcd_natCast_natCast,Int.gcd_natCast_natCast]
 exact gcd_less (by omega)
theorem igcd_le {a b:Int} (a0:0<a):(Int.gcd a b:Int)≤a:=Int.gcd_le_left b a0
theorem word_twos {x:Int} (hx:W64 x) (h0:0<x):∃ m:Int,0≤m∧m % 2=1∧x=2 ^ (Lib.ctz 64 x.toNat)*m∧Lib.ctz 64 x.toNat≤63:=by
 obtain ⟨n,rfl⟩:=Int.eq_ofNat_of_zero_le hx.1
 have hn:n<2 ^ 64:=by have:=hx.2;omega
 have hp:0<n:=by omega
 obtain ⟨m,hm,hk⟩:=Lib.ctzFrom_spec 64 n hp hn
 have e:Lib.ctz 64 ((n:Int)).toNat=Lib.ctzFrom 64 n:=by simp [Lib.ctz];omega
 rw [e]
 refine ⟨2*(m:Int)+1,by omega,by omega,?_,by omega⟩
 conv=>lhs;rw [hm]
 simp
theorem zjo {s t:Nat}{a b:Int} (a0:0≤a) (b0:0≤b) (ha:a % 2=1) (hb:b % 2=1) (h:2 ^ s*a=2 ^ t*b):s=t∧a=b:=by
 obtain ⟨n,rfl⟩:=Int.eq_ofNat_of_zero_le a0
 obtain ⟨m,rfl⟩:=Int.eq_ofNat_of_zero_le b0
 have h':2 ^ s*n=2 ^ t*m:=by
   have:((2 ^ s*n:Nat):Int)=((2 ^ t*m:Nat):Int):=by simpa using h
   exact_mod_cast this
 obtain ⟨e1,e2⟩:=twos_unique (odd_nat ha) (odd_nat hb) h'
 exact ⟨e1,by rw [e2]⟩
open Go.RowKit
def Tab64 (w:World):Prop:=TabAt 14 Lib.deBruijn64tab w
theorem Tab64.lt {w:World} (h:Tab64 w):14<w.heap.size:=World.block_lt_of_cell? w _ (h 0 (by decide))
theorem Tab64.later {w w':World} (h:Tab64 w) (hb:Below w.heap.size w w'):Tab64 w':=fun j hj=>by
 rw [hb.cell (p:=⟨14,j,none⟩) h.lt];exact h j hj
theorem Tab64.edit {w w':World}{g lo n:Nat} (h:Tab64 w) (hb:Edit g lo n w w') (hne:14≠g):Tab64 w':=fun j hj=>edit_cell hb (h j hj) hne
set_option maxHeartbeats 1000000 in
theorem tz_core (x k idx:Nat) (w:World) (hx0:((x:Int) == 0)=false)
   (key:IntKind.u64.wrap (bits BinOp.and IntKind.u64 (x:Int) (IntKind.u64.wrap (-(x:Int)))*285870213051353865) / 288230376151711744=(idx:Int))
   (hi:idx<64) (hk:k<64) (hcell:w.cell? ⟨14,idx,none⟩=some (.int .u8 k)) :
   Calls Tryz.prog 216 #[.int .u64 x] w fun e w'=>e=.returned (.int .i64 k)∧w'=w:=by
 go_enter Tryz.func216,Tryz.ntmps216
 go_wp2_with (simp only [key])
 go_ret
 exact ⟨rfl,rfl⟩
theorem tz_any (x:Int) (w:World) (hx:W64 x) (h0:0<x) (hT:Tab64 w) :
   Calls Tryz.prog 216 #[.int .u64 x] w fun e w'=>∃ (s:Nat) (m:Int),e=.returned (.int .i64 s)∧s≤63∧0<m∧Hid (m % 2=1∧x=2 ^ s*m∧m≤x)∧w'=w:=by
 obtain ⟨m,m0,m1,e,hs⟩:=word_twos hx h0
 obtain ⟨n,rfl⟩:=Int.eq_ofNat_of_zero_le hx.1
 have hn:n<18446744073709551616:=by have:=hx.2;omega
 have hn0:n≠0:=by omega
 obtain ⟨hlow,hk⟩:=Lib.lowest_bit 64 n hn0 hn
 obtain ⟨hi,htab⟩:=Lib.deBruijn64_at _ hk
 have hcell:=hT _ hi
 rw [htab] at hcell
 refine (tz_core n _ _ w (by simp;omega) (tz64_key n _ hn hn0 hlow) hi hk hcell).mono ?_
 rintro _ _ ⟨rfl,rfl⟩
 rw [Int.toNat_natCast] at e hs
 have hp:=zxk (Lib.ctz 64 n)
 refine ⟨_,m,rfl,hs,by omega,⟨m1,e,?_⟩,rfl⟩
 have:1*m≤2 ^ (Lib.ctz 64 n)*m:=Int.mul_le_mul_of_nonneg_right (by omega) m0
 omega
theorem min_max {a b:Int}:(a≤b∧min a b=a∧max a b=b)∨(b<a∧min a b=b∧max a b=a):=by omega
theorem div_twos {x m:Int}{s:Nat} (h:x=2 ^ s*m):x / 2 ^ s=m:=by
 rw [h];exact Int.mul_ediv_cancel_left _ (by have:=zxk s;omega)
theorem or_word {x y:Int}{s t:Nat}{a b:Int} (hx:W64 x) (hy:W64 y) (a0:0<a) (b0:0<b) (ha:a % 2=1) (hb:b % 2=1) (ex:x=2 ^ s*a) (ey:y=2 ^ t*b):∃ z c,bits .or .u64 x y=z∧W64 z∧0<z∧0<c∧c % 2=1∧z=2 ^ (min s t)*c:=by
 obtain ⟨n,rfl⟩:=Int.eq_ofNat_of_zero_le hx.1
 obtain ⟨m,rfl⟩:=Int.eq_ofNat_of_zero_le hy.1
 obtain ⟨a,rfl⟩:=Int.eq_ofNat_of_zero_le (Int.le_of_lt a0)
 obtain ⟨b,rfl⟩:=Int.eq_ofNat_of_zero_le (Int.le_of_lt b0)
 have hn:n<18446744073709551616:=by have:=hx.2;omega
 have hm:m<18446744073709551616:=by have:=hy.2;omega
 have en:n=2 ^ s*a:=by
   have:(n:Int)=((2 ^ s*a:Nat):Int):=by simpa using ex
   exact_mod_cast this
 have em:m=2 ^ t*b:=by
   have:(m:Int)=((2 ^ t*b:Nat):Int):=by simpa using ey
   exact_mod_cast this
 obtain ⟨c,hc,e⟩:=or_twos (s:=s) (t:=t) (odd_nat ha) (odd_nat hb)
 have hlt:n ||| m<18446744073709551616:=Nat.or_lt_two_pow (n:=64) hn hm
 have hp:=Nat.two_pow_pos (min s t)
 refine ⟨((n ||| m:Nat):Int),c,?_,⟨by omega,by omega⟩,?_,by omega,by omega,?_⟩
 · exact bits_or_u64_nat n m hn hm
 · rw [en,em,e]
   have:0<2 ^ min s t*c:=Nat.mul_pos hp (by omega)
   omega
 · rw [en,em,e];simp
theorem gcd_out {x y u:Int}{s t:Nat}{a b:Int} (hx:W64 x) (x0:0<x) (a0:0<a) (b0:0<b) (ha:a % 2=1) (hb:b % 2=1) (ex:x=2 ^ s*a) (ey:y=2 ^ t*b) (hu:(Int.gcd u 0)=Int.gcd a y) (u0:0≤u) :
   u*2 ^ (min s t)=(Int.gcd x y:Int)∧0≤u*2 ^ (min s t)∧u*2 ^ (min s t)<18446744073709551616:=by
 have e:u*2 ^ (min s t)=(Int.gcd x y:Int):=by
   rw [ex,ey,igcd_twos (by omega) (by omega) ha hb,← igcd_strip (t:=t) (by omega) (by omega) ha,← ey,← hu,Int.gcd_zero]
   rw [Int.natAbs_of_nonneg u0,Int.mul_comm]
 refine ⟨e,by omega,?_⟩
 rw [e]
 have:=igcd_le (b:=y) x0
 have:=hx.2
 omega
set_option maxHeartbeats 1000000 in
set_option maxRecDepth 8000 in
theorem commonWord_any (x y:Int) (w:World) (hx:W64 x) (hy:W64 y) (x0:0<x) (y0:0<y) (hT:Tab64 w) :
   Calls Tryz.prog 185 #[.int .u64 x,.int .u64 y] w fun e w'=>e=.returned (.int .u64 (Int.gcd x y))∧∃ n,w'=w.drewN n:=by
 have hx0:(x == 0)=false:=by simp;omega
 have hy0:(y == 0)=false:=by simp;omega
 obtain ⟨a,a0,a1,ex,hs⟩:=word_twos hx x0
 obtain ⟨b,b0,b1,ey,ht⟩:=word_twos hy y0
 obtain ⟨z,c,hor,hz,z0,c0,c1,ez⟩:=or_word hx hy (by omega) (by omega) a1 b1 ex ey
 obtain ⟨s,HS⟩:∃ s,Hid (Lib.ctz 64 x.toNat=s):=⟨_,rfl⟩
 obtain ⟨t,HT⟩:∃ t,Hid (Lib.ctz 64 y.toNat=t):=⟨_,rfl⟩
 rw [show Lib.ctz 64 x.toNat=s from uh HS] at ex hs ez
 rw [show Lib.ctz 64 y.toNat=t from uh HT] at ey ht ez
 have EX:=qh ex
 have EY:=qh ey
 have EZ:=qh ez
 have b0':0<b:=by omega
 have A1:=qh a1
 have B1:=qh b1
 have C1:=qh c1
 clear HS HT ex ey ez a1 b1 c1
 go_enter Tryz.func185,Tryz.ntmps185
 go_wp2_with fail
 refine (tz_any z _ hz z0 hT).mono ?_
 rintro e w1 ⟨k,m,rfl,hk,m0,HM,rfl⟩
 obtain ⟨rfl,-⟩:=zjo (by omega) (by omega) (uh HM).1 (uh C1) ((uh HM).2.1.symm.trans (uh EZ))
 go_wp2_with fail
 refine (tz_any x _ hx x0 hT).mono ?_
 rintro e w2 ⟨s1,m1,rfl,hs1,m10,HM1,rfl⟩
 obtain ⟨rfl,rfl⟩:=zjo (by omega) (by omega) (uh HM1).1 (uh A1) ((uh HM1).2.1.symm.trans (uh EX))
 have hd:=div_twos (uh EX)
 have mx:m1≤x:=(uh HM1).2.2
 have hxl:=hx.2
 have hyl:=hy.2
 go_wp2_with fail
 go_loopw [0,1] (fun p q wr=>∃ u v:Int,p=.int .u64 u∧q=.int .u64 v∧0<u∧u<18446744073709551616∧0≤v∧v<18446744073709551616∧Hid (u % 2=1∧Int.gcd u v=Int.gcd m1 y)∧∃ n,wr=w2.drewN n) (fun p q _=>(intOf p+intOf q).toNat)
 case atStart=>exact ⟨m1,y,rfl,rfl,m10,by omega,by omega,hyl,⟨uh A1,rfl⟩,0,rfl⟩
 case round =>
   obtain ⟨u,v,rfl,rfl,u0,u1,v0,v1,HG,nq,rfl⟩:=hrel
   by_cases hv:v=0
   · subst hv
     obtain ⟨q1,q2,q3⟩:=gcd_out hx x0 m10 b0' (uh A1) (uh B1) (uh EX) (uh EY) (uh HG).2 (by omega)
     have hw:IntKind.u64.wrap (u*2 ^ (min s1 t))=(Int.gcd x y:Int):=by rw [IntKind.wrap_u64,q1];omega
     clear q1 q2 q3 hd hor
     go_wp2
     go_ret
     exact ⟨rfl,nq,rfl⟩
   · have hv0:(v != 0)=true:=by simp;omega
     go_wp2_with fail
     refine (tz_any v _ ⟨v0,v1⟩ (by omega) (by exact hT)).mono ?_
     rintro e w3 ⟨k,m,rfl,hk3,m0,HM3,rfl⟩
     have hd3:=div_twos (uh HM3).2.1
     have hle:=(uh HM3).2.2
     have hgm:Int.gcd u m=Int.gcd m1 y:=by
       rw [← (uh HG).2,(uh HM3).2.1];exact (igcd_strip (by omega) (by omega) (uh HG).1).symm
     go_wp2
     go_roundw
     case rel =>
       rcases min_max (a:=u) (b:=m) with ⟨h,e1,e2⟩ | ⟨h,e1,e2⟩
       · refine ⟨u,m - u,by rw [e1],by rw [e1,e2],u0,u1,by omega,by omega,⟨(uh HG).1,?_⟩,nq,rfl⟩
         rw [igcd_less (by omega) h,hgm]
       · refine ⟨m,u - m,by rw [e1],by rw [e1,e2],m0,by omega,by omega,by omega,⟨(uh HM3).1,?_⟩,nq,rfl⟩
         rw [igcd_less (by omega) (by omega),Int.gcd_comm,hgm]
     case measure=>simp only [intOf];omega
theorem pw_two (k:Nat):pw k=2 ^ (64*k):=by
 induction k with
 | zero=>rfl
 | succ k ih=>rw [zxn,ih,Nat.mul_add,Int.pow_add];omega
theorem val_low_zeros {l:List Int}{k:Nat} (hk:k≤l.length) (h:∀ j,j<k→nth l j=0):val l=pw k*val (l.drop k):=by
 rw [zxg l k hk,val_all_zero (l:=l.take k) (fun j => ?_)]
 · omega
 · by_cases e:j<k
   · rw [nth_take e];exact h j e
   · exact zky (by rw [List.length_take];omega)
theorem val_twos {l:List Int}{k s:Nat}{m:Int} (hw:Ws l) (hk:k<l.length) (hz:∀ j,j<k→nth l j=0) (hs:s≤63) (m0:0<m) (m1:m % 2=1) (e:nth l k=2 ^ s*m) :
   ∃ M:Int,0<M∧M % 2=1∧val l=2 ^ (64*k+s)*M∧val (l.drop k)=2 ^ s*M:=by
 have e1:=zkz l k hk
 have hr:=zqg (hw.drop (k+1))
 have hp:=two_split s (by omega)
 have h1:(2:Int) ^ (64 - s)=2*2 ^ (63 - s):=by rw [show 64 - s=(63 - s)+1 by omega,Int.pow_succ];omega
 have hq:=zxk (63 - s)
 have hm:=Int.mul_nonneg (Int.le_of_lt hq) hr
 have ed:val (l.drop k)=2 ^ s*(m+2*(2 ^ (63 - s)*val (l.drop (k+1)))):=by
   rw [e1,e,Int.mul_add,← hp,h1]
   rw [Int.mul_assoc,Int.mul_assoc]
 refine ⟨m+2*(2 ^ (63 - s)*val (l.drop (k+1))),by omega,by omega,?_,ed⟩
 rw [val_low_zeros (by omega) hz,ed,pw_two,Int.pow_add,Int.mul_assoc]
theorem zero_below {l:List Int} (_hw:Ws l) {k:Nat} (hz:∀ j,j<k→nth l j=0) (hp:0<val l):k<l.length:=by
 by_cases e:k<l.length
 · exact e
 · exfalso
   have:=val_all_zero (l:=l) (fun j=>by
     by_cases g:j<k
     · exact hz j g
     · exact zky (by omega))
   omega
set_option maxHeartbeats 1000000 in
set_option maxRecDepth 8000 in
theorem lowZeros_any (g o cap n:Nat) (l:List Int) (w:World) (hr:Row w g o l) (hw:Ws l) (hn:l.length=n) (hlim:n≤1000000) (hp:0<val l) (hT:Tab64 w) :
   Calls Tryz.prog 233 #[.slice (some ⟨g,o,none⟩) n cap] w fun e w'=>(∃ (k s:Nat) (m:Int),e=.returned (.int .i64 ((64*k+s:Nat):Int))∧k<n∧s≤63∧0<m∧Hid (m % 2=1∧nth l k=2 ^ s*m∧∀ j,j<k→nth l j=0))∧∃ n,w'=w.drewN n:=by
 have HN:=qh hn
 clear hn
 go_enter Tryz.func233,Tryz.ntmps233
 go_wp2_with fail
 go_loopw [3] (fun v wr=>∃ k:Nat,k<n∧v=.int .i64 k∧Hid (∀ j,j<k→nth l j=0)∧∃ nq,wr=w.drewN nq) (fun v _=>n - (intOf v).toNat)
 case atStart=>exact ⟨0,by have:=zero_below hw (k:=0) (fun j hj=>by omega) hp;have:=uh HN;omega,rfl,fun j hj=>by omega,0,rfl⟩
 case round =>
   obtain ⟨k,hk,rfl,HZ,nq,rfl⟩:=hrel
   have hc:=hr k (by have:=uh HN;omega)
   have hx:=hw.get k
   by_cases h0:nth l k=0
   · have HZ':Hid (∀ j,j<k+1→nth l j=0):=fun j hj=>by
       by_cases e:j=k
       · rw [e];exact h0
       · exact uh HZ j (by omega)
     have hlt:=zero_below hw (uh HZ') hp
     rw [uh HN] at hlt
     rw [h0] at hc
     clear h0
     go_wp2
     go_roundw
     case rel=>exact ⟨k+1,by omega,by go_num,HZ',nq,rfl⟩
     case measure=>simp [intOf];omega
   · have h0':(nth l k == 0)=false:=by simpa using h0
     obtain ⟨x0,x1⟩:=hx
     go_wp2_with fail
     refine (tz_any (nth l k) _ ⟨x0,x1⟩ (by omega) (by exact hT)).mono ?_
     rintro e w3 ⟨s,m,rfl,hs,m0,HM,rfl⟩
     go_wp2
     go_ret
     exact ⟨⟨k,s,m,by go_num,hk,hs,m0,(uh HM).1,(uh HM).2.1,uh HZ⟩,nq,rfl⟩
theorem val_odd_ne {l:List Int} (h:val l % 2=1):l≠[]:=by rintro rfl;simp [val] at h
set_option maxHeartbeats 1000000 in
set_option maxRecDepth 8000 in
theorem odd_any (g o cap n:Nat) (l:List Int) (w:World) (hr:Row w g o l) (hf:Free w g) (hw:Ws l) (hn:l.length=n) (hlim:n≤1000000) (hc:n≤cap) (hcap:cap≤9223372036854775807) (hp:0<val l) (hT:Tab64 w) :
   Calls Tryz.prog 234 #[.slice (some ⟨g,o,none⟩) n cap] w fun e w'=>∃ (o' c' z:Nat) (l':List Int),e=.returned (.slice (some ⟨g,o',none⟩) l'.length c')∧Row w' g o' l'∧Ws l'∧Trim l'∧l'.length≤n∧l'.length≤c'∧c'≤9223372036854775807∧Hid (val l=2 ^ z*val l'∧val l' % 2=1∧0<val l')∧Edit g o n w w':=by
 have HN:=qh hn
 clear hn
 go_enter Tryz.func234,Tryz.ntmps234
 go_wp2_with fail
 refine (lowZeros_any g o cap n l _ hr hw (uh HN) hlim hp hT).mono ?_
 rintro e w1 ⟨⟨k,s,m,rfl,hk,hs,m0,HM⟩,q,rfl⟩
 have hq:(64*k+s) / 64=k:=by omega
 have hm:(s:Int) % 64=s:=by omega
 have hki:(k:Int)≤n:=by omega
 go_wp2_with fail
 refine (shiftDown_any g (o+k) (cap - k) (n - k) s (l.drop k) _ (by exact hr.drop k) (by exact hf) (hw.drop k) (by rw [List.length_drop,uh HN]) hs (by omega)).mono ?_
 rintro e w2 ⟨out,rfl,lo,wo,eo,ro,ed⟩
 obtain ⟨M,M0,M1,EV,ED⟩:=val_twos hw (by rw [uh HN];exact hk) (uh HM).2.2 hs m0 (uh HM).1 (uh HM).2.1
 have hmod:nth (l.drop k) 0 % 2 ^ s=0:=by
   rw [nth_drop,Nat.add_zero,(uh HM).2.1];exact Int.mul_emod_right _ _
 have HO:Hid (val out=M):=by
   show _=_
   rw [hmod,ED,Int.add_zero,Int.mul_comm] at eo
   exact Int.eq_of_mul_eq_mul_left (by have:=zxk s;omega) eo
 have HL:=qh lo
 have HE:=qh EV
 have ed':Edit g o n w w2:=(Edit.undrewN ed).mono (by omega) (by omega)
 clear eo lo hmod ED EV
 have hTr:=trim_any g (o+k) (cap - k) out w2 ro (by rw [uh HL];omega) (by omega)
 rw [uh HL] at hTr
 go_wp2_with fail
 refine hTr.mono ?_
 rintro e w3 ⟨⟨m',hm',rfl,hz',ht'⟩,rfl⟩
 go_wp2
 go_ret
 have hlt:(out.take m').length=m':=by rw [List.length_take,uh HL];omega
 have hval:val (out.take m')=M:=(zkg (by rw [uh HL];omega) hz').trans (uh HO)
 refine ⟨o+k,cap - k,64*k+s,out.take m',by rw [hlt];rfl,ro.take m',wo.take m',trim_trimmed (by rw [uh HL];omega) ht',by omega,by omega,by omega,⟨?_,?_,?_⟩,ed'⟩
 · rw [hval];exact uh HE
 · rw [hval];exact M1
 · rw [hval];exact M0
end Go.Proofs.YtkdobjmhammhbaaGreatDoor
