import Derived.Test.YtkdobjmhammhbaaGreatDoorMJ3
namespace Go.Proofs.YtkdobjmhammhbaaGreatDoor
set_option maxHeartbeats 4000000
set_option maxRecDepth 8000
open Go.RowKit
def dens (l:List (Int×Int)):Int:=l.foldr (fun x a=>x.2*a) 1
def Mod (M:Int) (x:Int×Int):Prop:=0<x.2/\x.2<=M /\ -M<=x.1/\x.1<=M
theorem zjg {l:List (Int×Int)}{x:Int×Int} (h:x ∈ l):x.2∣dens l:=by
 induction l with
 | nil=>cases h
 | cons y l ih =>
  rcases List.mem_cons.1 h with rfl | h
  ·exact ⟨dens l,rfl⟩
  ·obtain ⟨k,hk⟩:=ih h
   exact ⟨y.2*k,by show y.2*dens l=_;rw [hk];grind⟩
theorem dens_in {M:Int}{l:List (Int×Int)} (h:∀ x ∈ l,Mod M x) (hM:0<M):0<dens l/\dens l<=M ^ l.length:=by
 induction l with
 | nil=>exact ⟨by decide,by simp [dens]⟩
 | cons y l ih =>
  obtain ⟨h1,h2⟩:=ih fun x hx=>h x (by simp [hx])
  obtain ⟨y0,y1,_⟩:=h y (by simp)
  refine ⟨Int.mul_pos y0 h1,?_⟩
  show y.2*dens l<=M ^ (l.length+1)
  rw [Int.pow_succ,Int.mul_comm (M ^ _)]
  exact Int.mul_le_mul y1 h2 (Int.le_of_lt h1) (Int.le_of_lt hM)
theorem scl_in {M D:Int}{x:Int×Int} (h:Mod M x) (hD:0<D) (hx:x.2∣D):-(M*D)<=scl D x/\scl D x<=M*D:=by
 obtain ⟨k,rfl⟩:=hx
 obtain ⟨h1,h2,h3,h4⟩:=h
 have hk:0<k:=by
  rcases Int.lt_or_le 0 k with h | h
  ·exact h
  ·have:=Int.mul_nonneg (Int.le_of_lt h1) (show 0 <= -k by omega);rw [Int.mul_neg] at this;omega
 have e:scl (x.2*k) x=x.1*k:=by unfold scl;rw [Int.mul_ediv_cancel_left _ (by omega)]
 have hle:k<=x.2*k:=by
  have:1*k<=x.2*k:=Int.mul_le_mul_of_nonneg_right (by omega) (by omega)
  omega
 have hm:=mul_abs (x:=x.1) (y:=k) (B:=M) (C:=x.2*k) ⟨h3,h4⟩ ⟨by omega,hle⟩ (by omega) (by omega)
 rw [e]
 exact hm
theorem pw_pow (a b:Nat):pw (a*b)=pw a ^ b:=by
 induction b with
 | zero=>simp [pw]
 | succ b ih=>rw [Nat.mul_succ,pw_add,ih,Int.pow_succ]
theorem ipow_le {a b:Int} (h0:0<=a) (h:a<=b):∀ n:Nat,a ^ n<=b ^ n
 | 0=>by simp
 | n+1=>by
  rw [Int.pow_succ,Int.pow_succ]
  exact Int.mul_le_mul (ipow_le h0 h n) h h0 (Int.pow_nonneg (by omega))
theorem ipow_up {M:Int} (hM:1<=M) {a b:Nat} (h:a<=b):M ^ a<=M ^ b:=by
 obtain ⟨c,rfl⟩:=Nat.le.dest h
 rw [Int.pow_add]
 have h1:0<M ^ a:=Int.pow_pos (by omega)
 have h2:0<M ^ c:=Int.pow_pos (by omega)
 have:M ^ a*1<=M ^ a*M ^ c:=Int.mul_le_mul_of_nonneg_left (by omega) (by omega)
 omega
def MM:Int:=10 ^ 90
def TT:Int:=MM ^ 330
theorem mm_ge:1000000<=MM:=by decide +kernel
theorem mm_pw:MM<=pw 5:=by decide +kernel
theorem mm_tk:MM<=10000 ^ 23:=by decide +kernel
theorem bigTT:Big 1649 7590 TT:=by
 have h0:=mm_ge
 refine ⟨?_,?_,by decide,by decide⟩
 ·rw [show (1649+1:Nat)=5*330 from rfl,pw_pow]
  exact ipow_le (by omega) mm_pw 330
 ·rw [show (7590:Nat)=23*330 from rfl,Int.pow_mul]
  exact ipow_le (by omega) mm_tk 330
theorem tt_of {D:Int}{k:Nat} (hk:k<=161) (D0:0<D) (hD:D<=MM ^ k):Dn TT D/\Dn TT (D*D)/\0<=MM*D/\1000*(MM*D)<TT/\1000*(MM*D*(MM*D))<TT:=by
 have h0:=mm_ge
 have hM:(1:Int)<=MM:=by omega
 have h1:D<=MM ^ 161:=Int.le_trans hD (ipow_up hM hk)
 have hB:MM*D<=MM ^ 162:=by
  rw [show (162:Nat)=161+1 from rfl,Int.pow_succ,Int.mul_comm]
  exact Int.mul_le_mul_of_nonneg_right h1 (by omega)
 have hB0:0<MM*D:=Int.mul_pos (by omega) D0
 have hBB:MM*D*(MM*D)<=MM ^ 324:=by
  rw [show (324:Nat)=162+162 from rfl,Int.pow_add]
  exact Int.mul_le_mul hB hB (Int.le_of_lt hB0) (Int.pow_nonneg (by omega))
 have hDD:D*D<=MM ^ 322:=by
  rw [show (322:Nat)=161+161 from rfl,Int.pow_add]
  exact Int.mul_le_mul h1 h1 (Int.le_of_lt D0) (Int.pow_nonneg (by omega))
 have p324:0<MM ^ 324:=Int.pow_pos (by omega)
 have key:1000*MM ^ 324<TT:=by
  unfold TT
  rw [show MM ^ 330=MM ^ 324*MM*MM ^ 5 by rw [<- Int.pow_succ,<- Int.pow_add]]
  have p5:0<MM ^ 5:=Int.pow_pos (by omega)
  have h2:MM ^ 324*1000000<=MM ^ 324*MM:=Int.mul_le_mul_of_nonneg_left h0 (by omega)
  have h3:MM ^ 324*MM*1<=MM ^ 324*MM*MM ^ 5:=Int.mul_le_mul_of_nonneg_left (by omega) (by omega)
  omega
 have u1:=ipow_up hM (show 161<=324 by decide)
 have u2:=ipow_up hM (show 162<=324 by decide)
 have u3:=ipow_up hM (show 322<=324 by decide)
 have dd:=Int.mul_pos D0 D0
 generalize MM ^ 161=a1 at *
 generalize MM ^ 162=a2 at *
 generalize MM ^ 322=a3 at *
 generalize MM ^ 324=a4 at *
 generalize TT=t at *
 generalize MM*D=b at *
 generalize b*b=bb at *
 generalize D*D=ddd at *
 refine ⟨⟨D0,by omega⟩,⟨dd,by omega⟩,by omega,by omega,by omega⟩
theorem saidRun_inr {s:ByteArray}{a:Nat}{k:Nat->Said}{r:Int×Int} (h:saidRun s a k=.inr r):k (runEnd s a)=.inr r:=by
 unfold saidRun at h
 split at h
 ·cases h
 ·split at h
  ·cases h
  ·exact h
theorem saidEnd_inr {s:ByteArray}{k:Nat}{r:Said}{x:Int×Int} (h:saidEnd s k r=.inr x):r=.inr x:=by
 unfold saidEnd at h
 split at h
 ·cases h
 ·exact h
theorem ten_le60 {z:Int} (h:z<=60):(10:Int) ^ z.toNat<=10 ^ 60:=zxk (by omega)
theorem ten_gt (n:Nat):(0:Int)<10 ^ n:=Int.pow_pos (by decide)
theorem saidExp_in {s:ByteArray}{z p q:Int}{places k:Nat} (h:saidExp s z places k=.inr (p,q)) (hz:-10 ^ 30<z/\z<10 ^ 30) (hp:places<=30):(-10 ^ 90<p/\p<10 ^ 90)/\q<=10 ^ 90:=by
 have t30:(10:Int) ^ 90=10 ^ 30*10 ^ 60:=by rw [<- Int.pow_add]
 have m3:(10:Int) ^ 30<=10 ^ 90:=zxk (by decide)
 have hpl:(10:Int) ^ places<=10 ^ 30:=zxk hp
 have hp0:=ten_gt places
 have h60:=ten_gt 60
 unfold saidExp at h
 split at h
 ·have h1:=saidEnd_inr (saidRun_inr h)
  split at h1
  ·cases h1
  ·rename_i hle
   generalize dv s (expAt s k) (runEnd s (expAt s k))=e at *
   have he:(10:Int) ^ e.toNat<=10 ^ 60:=ten_le60 (by omega)
   have he0:=ten_gt e.toNat
   generalize (10:Int) ^ e.toNat=E at *
   generalize (10:Int) ^ places=P at *
   generalize (10:Int) ^ 90=a at *
   generalize (10:Int) ^ 60=b at *
   generalize (10:Int) ^ 30=c at *
   have key:∀ x:Int,-c<x->x<c -> -a<x*E/\x*E<a:=fun x x0 x1=>by
    have k1:x.natAbs*E.natAbs<c.natAbs*b.natAbs:=by
     have:=Nat.mul_le_mul_left x.natAbs (show E.natAbs<=b.natAbs by omega)
     have:=Nat.mul_lt_mul_of_pos_right (show x.natAbs<c.natAbs by omega) (show 0<b.natAbs by omega)
     omega
    rw [<- Int.natAbs_mul,<- Int.natAbs_mul,<- t30] at k1
    omega
   split at h1
   ·simp only [Sum.inr.injEq,Prod.mk.injEq] at h1
    obtain ⟨rfl,rfl⟩:=h1
    refine ⟨by omega,?_⟩
    rw [t30]
    exact Int.mul_le_mul hpl he (by omega) (by omega)
   ·simp only [Sum.inr.injEq,Prod.mk.injEq] at h1
    obtain ⟨rfl,rfl⟩:=h1
    exact ⟨key z hz.1 hz.2,by omega⟩
 ·have h1:=saidEnd_inr h
  simp only [Sum.inr.injEq,Prod.mk.injEq] at h1
  obtain ⟨rfl,rfl⟩:=h1
  generalize (10:Int) ^ 90=a at *
  generalize (10:Int) ^ 30=c at *
  exact ⟨by omega,by omega⟩
theorem signed_in {z B:Int} (neg:Bool) (h0:0<=z) (h:z<B):-B<signed neg z/\signed neg z<B:=by
 unfold signed
 split <;> omega
theorem dv_in {s:ByteArray}{a:Nat} (ha:a<=s.size) (hs:s.size<=30):0<=dv s a (runEnd s a)/\dv s a (runEnd s a)<10 ^ 30:=by
 have h:=dv_bound ha
 have h1:=zxt s _ a rfl ha
 have:(10:Int) ^ (runEnd s a - a)<=10 ^ 30:=zxk (by omega)
 exact ⟨h.1,Int.lt_of_lt_of_le h.2 this⟩
theorem said_in {s:ByteArray}{p q:Int} (hs:s.size<=30) (h:said s=.inr (p,q)):(-10 ^ 90<p/\p<10 ^ 90)/\q<=10 ^ 90:=by
 have ha:=atOf_le s
 have hd:=dv_in ha hs
 have hb:=dv_bound ha
 have hr:=zxt s _ (atOf s) rfl ha
 have hg:=runEnd_ge s _ (atOf s) rfl
 have m3:(10:Int) ^ 30<=10 ^ 90:=zxk (by decide)
 unfold said at h
 have h1:=saidRun_inr h
 generalize hm:runEnd s (atOf s)=m at *
 by_cases e:bAt s m 47=true
 ·rw [if_pos e] at h1
  have hlt:=bAt_lt e
  unfold saidOver at h1
  have h2:=saidEnd_inr (saidRun_inr h1)
  have hd2:=dv_in (s:=s) (a:=m+1) (by omega) hs
  split at h2
  ·cases h2
  ·simp only [Sum.inr.injEq,Prod.mk.injEq] at h2
   obtain ⟨rfl,rfl⟩:=h2
   have hsg:=signed_in (minusOf s) hd.1 hd.2
   generalize (10:Int) ^ 90=a at *
   generalize (10:Int) ^ 30=c at *
   exact ⟨by omega,by omega⟩
 ·rw [if_neg e] at h1
  unfold saidDec at h1
  by_cases e2:bAt s m 46=true
  ·rw [if_pos e2] at h1
   have hlt:=bAt_lt e2
   have h2:=saidRun_inr h1
   have hb2:=dv_bound (s:=s) (a:=m+1) (by omega)
   have hr2:=zxt s _ (m+1) rfl (by omega)
   have hg2:=runEnd_ge s _ (m+1) rfl
   generalize runEnd s (m+1)=n at *
   refine saidExp_in h2 (signed_in _ ?_ ?_) (by omega)
   ·have:=ten_gt (n - (m+1))
    have:=Int.mul_nonneg hb.1 (Int.le_of_lt this)
    omega
   ·have t0:=ten_gt (n - (m+1))
    have t1:(dv s (atOf s) m+1)*10 ^ (n - (m+1))<=10 ^ (m - atOf s)*10 ^ (n - (m+1)):=Int.mul_le_mul_of_nonneg_right (by omega) (Int.le_of_lt t0)
    rw [<- Int.pow_add,Int.add_mul,Int.one_mul] at t1
    have t2:(10:Int) ^ (m - atOf s+(n - (m+1)))<=10 ^ 30:=zxk (by omega)
    generalize (10:Int) ^ (m - atOf s+(n - (m+1)))=a1 at *
    generalize (10:Int) ^ (n - (m+1))=a2 at *
    generalize (10:Int) ^ 30=a3 at *
    generalize dv s (atOf s) m*a2=a4 at *
    omega
  ·rw [if_neg e2] at h1
   exact saidExp_in h1 (signed_in _ hd.1 hd.2) (by omega)
theorem lowq_spec {p d:Int} (hd:0<d):(p / (Int.gcd p d:Int))*d=p*(d / (Int.gcd p d:Int))/\0<d / (Int.gcd p d:Int)/\Int.gcd (p / (Int.gcd p d:Int)) (d / (Int.gcd p d:Int))=1:=by
 have g0:0<Int.gcd p d:=Int.gcd_pos_of_ne_zero_right p (by omega)
 obtain ⟨p',hp⟩:=Int.gcd_dvd_left (a:=p) (b:=d)
 obtain ⟨q',hq'⟩:=Int.gcd_dvd_right (a:=p) (b:=d)
 have e1:p / (Int.gcd p d:Int)=p':=Int.ediv_eq_of_eq_mul_right (by omega) hp
 have e2:d / (Int.gcd p d:Int)=q':=Int.ediv_eq_of_eq_mul_right (by omega) hq'
 have h3:Int.gcd p' q'=1:=by
  have h:=Int.gcd_mul_left (Int.gcd p d:Int) p' q'
  rw [<- hp,<- hq',Int.natAbs_natCast] at h
  exact (Nat.eq_of_mul_eq_mul_left g0 (by rw [<- h,Nat.mul_one])).symm
 have q0:0<q':=by
  rcases Int.lt_or_le 0 q' with h | h
  ·exact h
  ·have:(Int.gcd p d:Int)*q'<=(Int.gcd p d:Int)*0:=Int.mul_le_mul_of_nonneg_left h (by omega)
   omega
 rw [e1,e2]
 refine ⟨?_,q0,h3⟩
 generalize (Int.gcd p d:Int)=g at *
 rw [hp,hq']
 grind
theorem num_in {s:ByteArray}{x:Int×Int} (hs:s.size<=30) (h:num s=some x):Mod MM x:=by
 unfold num at h
 cases e:said s with
 | inl c=>rw [e] at h;cases h
 | inr r =>
  obtain ⟨p,q⟩:=r
  rw [e] at h
  simp only at h
  by_cases hq:0<q
  ·rw [if_pos hq] at h
   obtain ⟨hp,hq2⟩:=said_in hs e
   obtain rfl:=Option.some.inj h
   have hl:=lowq_spec (p:=p) hq
   have hA:=low_le hq hl.2.1 hl.2.2 hl.1
   unfold Mod MM
   simp only
   generalize (10:Int) ^ 90=a at *
   omega
  ·rw [if_neg hq] at h;cases h
def IfP (e:Ending) (p:Prop):Prop:=∃ b,e=.returned (.bool b)/\(b=true->p)
theorem IfP.no {p:Prop}:IfP (.returned (.bool false)) p:=⟨false,rfl,fun h=>by cases h⟩
theorem IfP.yes {p:Prop} (h:p):IfP (.returned (.bool true)) p:=⟨true,rfl,fun _=>h⟩
def shortT (l:List ByteArray):Prop:=l.length<=40/\∀ s ∈ l,s.size<=24
def shortA (l:List (Int×Int×ByteArray×ByteArray)):Prop:=l.length<=20/\∀ x ∈ l,x.2.2.1.size<=24/\x.2.2.2.size<=24
theorem shortA_any {v:Value}{l:List (Int×Int×ByteArray×ByteArray)} (w:World) (h:Rows 4 SpE w v l):Calls Tryz.prog 15 #[v] w fun e w'=>IfP e (shortA l)/\w'=w:=by
 obtain ⟨sa,sc,rfl⟩:=h.shape
 have hsm:=h.small
 unfold maxLen at hsm
 have HR:=qh h
 clear h
 go_enter Tryz.func15,Tryz.ntmps15
 by_cases h20:(20:Int)<(l.length:Int)
 ·go_wp2
  go_ret
  exact ⟨IfP.no,rfl⟩
 go_wp2_with fail
 go_loopg [3] l.length (fun gk iv wr=>∃ i:Nat,i<=l.length/\gk=l.length - i/\iv=.int .i64 (i:Int)/\wr=w/\Hid (∀ x ∈ l.take i,x.2.2.1.size<=24/\x.2.2.2.size<=24))
 case atStart=>exact ⟨0,by omega,by omega,rfl,rfl,qh (by simp)⟩
 case round =>
  obtain ⟨i,hi,hgk,rfl,rfl,HA⟩:=hrel
  by_cases hil:i<l.length
  ·obtain ⟨⟨fr,to',s,t⟩,hs⟩:∃ s,l[i]? = some s:=⟨l[i],by simp [hil]⟩
   obtain ⟨b,o,rfl,cs,_,hcs,rfl,_,_,hsz,htz⟩:=(uh HR).at hs
   have c2:wr.cell? ⟨b,o+i*4+2,none⟩=some (.string s):=hcs 2 _ rfl
   have c3:wr.cell? ⟨b,o+i*4+3,none⟩=some (.string t):=hcs 3 _ rfl
   have HS:=qh hs
   have hil':(i:Int)<(l.length:Int):=by omega
   have him:(i:Int)+1<=100:=by omega
   unfold maxLen at hsz htz
   simp only at hsz htz
   clear hs hcs
   by_cases h24:(24:Int)<(s.size:Int)
   ·go_wp2
    go_ret
    exact ⟨IfP.no,rfl⟩
   by_cases h24':(24:Int)<(t.size:Int)
   ·go_wp2
    go_ret
    exact ⟨IfP.no,rfl⟩
   ·have HQ:=qh (show s.size<=24/\t.size<=24 by omega)
    go_wp2
    go_roundg (l.length - (i+1))
    case measure=>omega
    case rel=>exact ⟨i+1,by omega,rfl,by go_num,rfl,qh (all_take (uh HA) (uh HS) (uh HQ))⟩
  ·obtain rfl:i=l.length:=by omega
   clear hil hi hgk
   go_wp2
   go_ret
   exact ⟨IfP.yes ⟨by omega,by have:=uh HA;rw [List.take_length] at this;exact this⟩,rfl⟩
def loneL:List (Int×Int×ByteArray×ByteArray):=[(0,1,⟨#[50]⟩,⟨#[49]⟩),(0,1,⟨#[51]⟩,⟨#[52]⟩)]
theorem lone_any (w:World):Calls Tryz.prog 7 #[] w fun e w'=>(∃ v,e=.returned v/\Rows 4 SpE w' v loneL)/\Below w.heap.size w w':=by
 go_enter Tryz.func7,Tryz.ntmps7
 go_wp2
 go_ret
 refine ⟨⟨_,rfl,⟨_,2,rfl,Nat.le_refl _,by unfold maxLen;omega,Or.inr ⟨w.heap.size,0,rfl,fun i x hx => ?_⟩⟩⟩,zqa _ _⟩
 have hi:i<2:=(List.getElem?_eq_some_iff.1 hx).1
 rcases (by omega:i=0\/i=1) with rfl | rfl
 ·obtain rfl:=Option.some.inj hx
  refine ⟨[.int .i64 0,.int .i64 1,.string ⟨#[50]⟩,.string ⟨#[49]⟩],rfl,fun j u hu => ?_,rfl,(show I64 0 by unfold I64;omega),(show I64 1 by unfold I64;omega),by unfold maxLen;decide,by unfold maxLen;decide⟩
  rw [zqe rfl]
  have hj:j<4:=(List.getElem?_eq_some_iff.1 hu).1
  rcases (by omega:j=0\/j=1\/j=2\/j=3) with rfl | rfl | rfl | rfl <;> exact hu
 ·obtain rfl:=Option.some.inj hx
  refine ⟨[.int .i64 0,.int .i64 1,.string ⟨#[51]⟩,.string ⟨#[52]⟩],rfl,fun j u hu => ?_,rfl,(show I64 0 by unfold I64;omega),(show I64 1 by unfold I64;omega),by unfold maxLen;decide,by unfold maxLen;decide⟩
  rw [zqe rfl]
  have hj:j<4:=(List.getElem?_eq_some_iff.1 hu).1
  rcases (by omega:j=0\/j=1\/j=2\/j=3) with rfl | rfl | rfl | rfl <;> exact hu
end Go.Proofs.YtkdobjmhammhbaaGreatDoor
