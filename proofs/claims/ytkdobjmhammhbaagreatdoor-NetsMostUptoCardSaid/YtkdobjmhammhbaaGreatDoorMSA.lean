import Derived.Test.YtkdobjmhammhbaaGreatDoorMRA
namespace Go.Proofs.YtkdobjmhammhbaaGreatDoor
open Go.RowKit
def ByteAt (s:ByteArray) (j:Nat) (c:Nat):Prop:=∃ h:j<s.size,(s[j]'h).toNat=c
def runFrom (s:ByteArray):Nat->Nat->Nat
 | 0,a=>a
 | k+1,a=>if a<s.size/\48<=(s[a]!).toNat/\(s[a]!).toNat<=57 then runFrom s k (a+1) else a
def runEnd (s:ByteArray) (a:Nat):Nat:=runFrom s (s.size - a) a
theorem digAt_bang {s:ByteArray}{a:Nat}:DigAt s a↔a<s.size/\48<=(s[a]!).toNat/\(s[a]!).toNat<=57:=by
 constructor
 ·rintro ⟨h,h1,h2⟩
  rw [getElem!_pos s a h];exact ⟨h,h1,h2⟩
 ·rintro ⟨h,h1,h2⟩
  rw [getElem!_pos s a h] at h1 h2;exact ⟨h,h1,h2⟩
theorem runEnd_step {s:ByteArray}{a:Nat} (h:DigAt s a):runEnd s a=runEnd s (a+1):=by
 have hlt:a<s.size:=(digAt_bang.1 h).1
 unfold runEnd
 rw [show s.size - a=(s.size - (a+1))+1 by omega,runFrom,if_pos (digAt_bang.1 h)]
theorem zxr {s:ByteArray}{a:Nat} (h:¬ DigAt s a):runEnd s a=a:=by
 unfold runEnd
 cases s.size - a with
 | zero=>rfl
 | succ k=>rw [runFrom,if_neg (fun g=>h (digAt_bang.2 g))]
theorem runEnd_skip {s:ByteArray}{a:Nat} (i:Nat) (h:∀ j,a<=j->j<a+i->DigAt s j):runEnd s a=runEnd s (a+i):=by
 induction i with
 | zero=>rfl
 | succ i ih=>rw [ih (fun j h1 h2=>h j h1 (by omega)),runEnd_step (h (a+i) (by omega) (by omega))];rfl
theorem runEnd_is {s:ByteArray}{a m:Nat} (h0:a<=m) (h:∀ j,a<=j->j<m->DigAt s j) (hm:¬ DigAt s m):runEnd s a=m:=by
 obtain ⟨i,rfl⟩:=Nat.exists_eq_add_of_le h0
 rw [runEnd_skip i h,zxr hm]
theorem runEnd_ge (s:ByteArray):∀ (k a:Nat),s.size - a=k->a<=runEnd s a:=by
 intro k
 induction k with
 | zero=>intro a h;rw [zxr (fun ⟨g,_⟩=>by omega)];exact Nat.le_refl _
 | succ k ih =>
  intro a h
  by_cases g:DigAt s a
  ·rw [runEnd_step g];have:=ih (a+1) (by omega);omega
  ·rw [zxr g];exact Nat.le_refl _
theorem zxt (s:ByteArray):∀ (k a:Nat),s.size - a=k->a<=s.size->runEnd s a<=s.size:=by
 intro k
 induction k with
 | zero=>intro a h ha;rw [zxr (fun ⟨g,_⟩=>by omega)];exact ha
 | succ k ih =>
  intro a h ha
  by_cases g:DigAt s a
  ·rw [runEnd_step g];exact ih (a+1) (by omega) (by omega)
  ·rw [zxr g];exact ha
theorem runEnd_over {s:ByteArray}{a m:Nat} (h0:a<=m) (h:∀ j,a<=j->j<m->DigAt s j) (hm:DigAt s m):m<runEnd s a:=by
 obtain ⟨i,rfl⟩:=Nat.exists_eq_add_of_le h0
 rw [runEnd_skip i h,runEnd_step hm]
 have:=runEnd_ge s _ (a+i+1) rfl
 omega
abbrev Said:=(Nat×Nat) ⊕ (Int×Int)
def bAt (s:ByteArray) (j c:Nat):Bool:=decide (j<s.size) && decide ((s[j]!).toNat=c)
theorem zkh {s:ByteArray}{j c:Nat}:bAt s j c=true↔ByteAt s j c:=by
 unfold bAt
 rw [Bool.and_eq_true,decide_eq_true_iff,decide_eq_true_iff]
 constructor
 ·rintro ⟨h,h1⟩
  rw [getElem!_pos s j h] at h1;exact ⟨h,h1⟩
 ·rintro ⟨h,h1⟩
  rw [getElem!_pos s j h];exact ⟨h,h1⟩
theorem zql {s:ByteArray}{j c:Nat} (h:ByteAt s j c):bAt s j c=true:=zkh.2 h
theorem zxy {s:ByteArray}{j c:Nat} (h:¬ ByteAt s j c):bAt s j c=false:=by
 cases e:bAt s j c
 ·rfl
 ·exact absurd (zkh.1 e) h
theorem bAt_end {s:ByteArray}{j c:Nat} (h:s.size<=j):bAt s j c=false:=zxy (fun ⟨g,_⟩=>by omega)
theorem bAt_lt {s:ByteArray}{j c:Nat} (h:bAt s j c=true):j<s.size:=(zkh.1 h).1
def dv (s:ByteArray) (a b:Nat):Int:=dec (s.extract a b).data.toList
def signed (neg:Bool) (z:Int):Int:=if neg then -z else z
def saidRun (s:ByteArray) (a:Nat) (k:Nat->Said):Said:=if runEnd s a=a then .inl (1,a) else if a+300<runEnd s a then .inl (2,a+300) else k (runEnd s a)
def saidEnd (s:ByteArray) (k:Nat) (r:Said):Said:=if k<s.size then .inl (1,k) else r
def saidOver (s:ByteArray) (neg:Bool) (a m:Nat):Said :=
 saidRun s (m+1) fun n=>saidEnd s n (if dv s (m+1) n=0 then .inl (3,m+1) else .inr (signed neg (dv s a m),dv s (m+1) n))
def expAt (s:ByteArray) (k:Nat):Nat:=if bAt s (k+1) 43 || bAt s (k+1) 45 then k+2 else k+1
def saidExp (s:ByteArray) (num:Int) (places k:Nat):Said :=
 if bAt s k 101 then saidRun s (expAt s k) fun n=>saidEnd s n (if 60<dv s (expAt s k) n then .inl (2,expAt s k) else if bAt s (k+1) 45 then .inr (num,10 ^ places*10 ^ (dv s (expAt s k) n).toNat) else .inr (num*10 ^ (dv s (expAt s k) n).toNat,10 ^ places))
 else saidEnd s k (.inr (num,10 ^ places))
def saidDec (s:ByteArray) (neg:Bool) (a m:Nat):Said :=
 if bAt s m 46 then saidRun s (m+1) fun n=>saidExp s (signed neg (dv s a m*10 ^ (n - (m+1))+dv s (m+1) n)) (n - (m+1)) n
 else saidExp s (signed neg (dv s a m)) 0 m
def said (s:ByteArray):Said :=
 saidRun s (atOf s) fun m=>if bAt s m 47 then saidOver s (minusOf s) (atOf s) m else saidDec s (minusOf s) (atOf s) m
theorem zxz {s:ByteArray}{a:Nat}{k:Nat->Said} (h:runEnd s a=a):saidRun s a k=.inl (1,a):=by unfold saidRun;rw [if_pos h]
theorem zka {s:ByteArray}{a:Nat}{k:Nat->Said} (h:a+300<runEnd s a):saidRun s a k=.inl (2,a+300):=by unfold saidRun;rw [if_neg (by omega),if_pos h]
theorem zkb {s:ByteArray}{a m:Nat}{k:Nat->Said} (h0:a<m) (h1:m<=a+300) (e:runEnd s a=m):saidRun s a k=k m:=by unfold saidRun;rw [e,if_neg (by omega),if_neg (by omega)]
theorem zjc {s:ByteArray}{k:Nat}{r:Said} (h:k<s.size):saidEnd s k r=.inl (1,k):=by unfold saidEnd;rw [if_pos h]
theorem zjp {s:ByteArray}{k:Nat}{r:Said} (h:s.size<=k):saidEnd s k r=r:=by unfold saidEnd;rw [if_neg (by omega)]
theorem zkp {s:ByteArray} (h:ByteAt s 0 45):minusOf s=true/\atOf s=1:=by
 obtain ⟨h0,h1⟩:=h
 have e:=minus_some h0
 rw [h1] at e
 exact ⟨e,by unfold atOf;rw [e];rfl⟩
theorem zqx {s:ByteArray} (h:¬ ByteAt s 0 45):minusOf s=false/\atOf s=0:=by
 have e:minusOf s=false:=by
  by_cases h0:s.size=0
  ·exact minus_none h0
  ·have hp:0<s.size:=by omega
   rw [minus_some hp]
   cases e:((s[0]'hp).toNat == 45)
   ·rfl
   ·exact absurd ⟨hp,by simpa using e⟩ h
 exact ⟨e,by unfold atOf;rw [e];rfl⟩
theorem dig_extract {s:ByteArray}{a b:Nat} (hb:b<=s.size) (h:∀ j,a<=j->j<b->DigAt s j):Dig10 (s.extract a b).data.toList:=by
 intro c hc
 obtain ⟨i,hi,rfl⟩:=List.getElem_of_mem hc
 have hl:(s.extract a b).data.toList.length=b - a:=by rw [Array.length_toList];show (s.extract a b).size=_;rw [ByteArray.size_extract];omega
 obtain ⟨h1,h2,h3⟩:=h (a+i) (by omega) (by omega)
 have e:(s.extract a b).data.toList[i]=s[a+i]'h1:=by
  rw [Array.getElem_toList]
  show (s.extract a b)[i]'(by rw [<- ByteArray.size_data,<- Array.length_toList];exact hi)=_
  rw [ByteArray.getElem_extract]
 rw [e];exact ⟨h2,h3⟩
theorem runEnd_dig {s:ByteArray}{a:Nat}:∀ j,a<=j->j<runEnd s a->DigAt s j:=by
 intro j h1 h2
 obtain ⟨i,rfl⟩:=Nat.exists_eq_add_of_le h1
 have aux:∀ k,a+k<runEnd s a->DigAt s (a+k):=by
  intro k
  induction k using Nat.strongRecOn with
  | _ k ih =>
   intro hk
   by_cases g:DigAt s (a+k)
   ·exact g
   ·have:=runEnd_is (s:=s) (a:=a) (m:=a+k) (by omega) (fun j g1 g2=>by
     obtain ⟨i,rfl⟩:=Nat.exists_eq_add_of_le g1
     exact ih i (by omega) (by omega)) g
    omega
 exact aux i h2
theorem runEnd_dig10 {s:ByteArray}{a:Nat} (ha:a<=s.size):Dig10 (s.extract a (runEnd s a)).data.toList :=
 dig_extract (zxt s _ a rfl ha) runEnd_dig
theorem zxq {s:ByteArray}{a b:Nat} (hb:b<=s.size):(s.extract a b).size=b - a:=by rw [ByteArray.size_extract];omega
theorem dv_bound {s:ByteArray}{a:Nat} (ha:a<=s.size):0<=dv s a (runEnd s a)/\dv s a (runEnd s a)<10 ^ (runEnd s a - a):=by
 have hl:(s.extract a (runEnd s a)).data.toList.length=runEnd s a - a:=by rw [Array.length_toList];show (s.extract a (runEnd s a)).size=_;exact zxq (zxt s _ a rfl ha)
 have:=dec_bound' _ _ hl (runEnd_dig10 ha)
 exact this
theorem dv_self (s:ByteArray) (a:Nat):dv s a a=0:=by
 unfold dv;rw [Lib.extract_data,Nat.sub_self,List.take_zero];rfl
theorem dv_succ {s:ByteArray}{a i:Nat} (ha:a<=i) (hi:i<s.size):dv s a (i+1)=dv s a i*10+(((s[i]'hi).toNat:Int) - 48):=by
 unfold dv
 have e:(s.data.toList.drop a)[i - a]? = some (s[i]'hi):=by
  rw [List.getElem?_drop,show a+(i - a)=i by omega,Array.getElem?_toList]
  exact Array.getElem?_eq_getElem hi
 rw [Lib.extract_data,Lib.extract_data,show i+1 - a=(i - a)+1 by omega,List.take_add_one,e,<- dec_snoc]
 rfl
theorem dec_join {s:ByteArray}{a m b n:Nat} (hn:n<=s.size):dec (s.extract a m++s.extract b n).data.toList=dv s a m*10 ^ (n - b)+dv s b n:=by
 have hl:(s.extract b n).data.toList.length=n - b:=by rw [Array.length_toList];show (s.extract b n).size=_;exact zxq hn
 have e:(s.extract a m++s.extract b n).data.toList=(s.extract a m).data.toList++(s.extract b n).data.toList:=by simp
 rw [e,zkf,hl];rfl
theorem dig_join {s t:ByteArray} (h:Dig10 s.data.toList) (k:Dig10 t.data.toList):Dig10 (s++t).data.toList:=by
 intro c hc
 have e:(s++t).data.toList=s.data.toList++t.data.toList:=by simp
 rw [e] at hc
 rcases List.mem_append.1 hc with g | g
 ·exact h c g
 ·exact k c g
theorem expAt_le {s:ByteArray}{k:Nat} (h:k<s.size):expAt s k<=s.size:=by
 unfold expAt
 split
 ·rename_i g
  rcases Bool.or_eq_true_iff.1 g with g | g
  ·have:=bAt_lt g;omega
  ·have:=bAt_lt g;omega
 ·omega
def dB (s:ByteArray):Int:=dec s.data.toList
def Figs (s:ByteArray):Prop:=Dig10 s.data.toList/\s.size<=300
def noB:ByteArray:=⟨#[]⟩
theorem dB_none:dB noB=0:=rfl
theorem noB_size:noB.size=0:=rfl
theorem Figs.none:Figs noB:=⟨fun c hc=>by simp [noB] at hc,by decide⟩
theorem Figs.bound {s:ByteArray} (h:Figs s):0<=dB s/\dB s<10 ^ s.size:=by
 have:=zjo h.1
 rw [Array.length_toList] at this
 exact this
theorem Figs.run {s:ByteArray}{a m:Nat} (ha:a<=s.size) (h1:m<=a+300) (e:runEnd s a=m):Figs (s.extract a m):=by
 subst e
 exact ⟨runEnd_dig10 ha,by rw [zxq (zxt s _ a rfl ha)];omega⟩
def figNum (l b:ByteArray):Int:=if b.size=0 then dB l else dB l*10 ^ b.size+dB b
def figDen (u b:ByteArray):Int:=if b.size=0 then (if u.size=0 then 1 else dB u) else 10 ^ b.size
def figSaid (mi me:Bool) (l u b x:ByteArray) (us es:Nat):Said :=
 if 60<dB x then .inl (2,es) else if figDen u b=0 then .inl (3,us) else
  if me then .inr (signed mi (figNum l b),figDen u b*10 ^ (dB x).toNat) else .inr (signed mi (figNum l b*10 ^ (dB x).toNat),figDen u b)
theorem zki (n:Nat):(0:Int)<10 ^ n:=Int.pow_pos (by decide)
theorem signed_mul (mi:Bool) (a b:Int):signed mi (a*b)=signed mi a*b:=by
 unfold signed;split
 ·rw [Int.neg_mul]
 ·rfl
theorem size_some {s:ByteArray}{a b:Nat} (h:a<b) (hb:b<=s.size):(s.extract a b).size≠0:=by rw [zxq hb];omega
theorem fig_over {s:ByteArray}{mi:Bool}{a m n es:Nat} (h:m+1<n) (hn:n<=s.size) :
 figSaid mi false (s.extract a m) (s.extract (m+1) n) noB noB (m+1) es=if dv s (m+1) n=0 then .inl (3,m+1) else .inr (signed mi (dv s a m),dv s (m+1) n):=by
 have e1:figDen (s.extract (m+1) n) noB=dv s (m+1) n:=by
  unfold figDen;rw [if_pos noB_size,if_neg (size_some h hn)];rfl
 have e2:figNum (s.extract a m) noB=dv s a m:=by unfold figNum;rw [if_pos noB_size];rfl
 unfold figSaid
 rw [dB_none,if_neg (by decide),e1,e2]
 split
 ·rfl
 ·simp
theorem fig_plain {mi:Bool}{l b:ByteArray}{us es:Nat}:figSaid mi false l noB b noB us es=.inr (signed mi (figNum l b),figDen noB b):=by
 have h:figDen noB b≠0:=by
  unfold figDen;split
  ·rw [if_pos noB_size];decide
  ·have:=zki b.size;omega
 unfold figSaid
 rw [dB_none,if_neg (by decide),if_neg h]
 simp
theorem fig_exp {mi me:Bool}{l b x:ByteArray}{us es:Nat}:figSaid mi me l noB b x us es=if 60<dB x then .inl (2,es) else if me then .inr (signed mi (figNum l b),figDen noB b*10 ^ (dB x).toNat) else .inr (signed mi (figNum l b)*10 ^ (dB x).toNat,figDen noB b):=by
 have h:figDen noB b≠0:=by
  unfold figDen;split
  ·rw [if_pos noB_size];decide
  ·have:=zki b.size;omega
 unfold figSaid
 rw [if_neg h,signed_mul]
theorem num_none {s:ByteArray}{a m:Nat}:figNum (s.extract a m) noB=dv s a m:=by unfold figNum;rw [if_pos noB_size];rfl
theorem den_none:figDen noB noB=10 ^ 0:=by unfold figDen;rw [if_pos noB_size,if_pos noB_size];rfl
theorem num_some {s:ByteArray}{a m b n:Nat} (h:b<n) (hn:n<=s.size):figNum (s.extract a m) (s.extract b n)=dv s a m*10 ^ (n - b)+dv s b n:=by
 unfold figNum;rw [if_neg (size_some h hn),zxq hn];rfl
theorem den_some {s:ByteArray}{b n:Nat} (h:b<n) (hn:n<=s.size):figDen noB (s.extract b n)=10 ^ (n - b):=by
 unfold figDen;rw [if_neg (size_some h hn),zxq hn]
theorem said_exp {s:ByteArray}{mi:Bool}{l b:ByteArray}{us k E n places:Nat}{num:Int} (he:ByteAt s k 101) (hE:expAt s k=E) (hr:runEnd s E=n) (h0:E<n) (h1:n<=E+300) (hnum:num=signed mi (figNum l b)) (hden:figDen noB b=10 ^ places) :
 saidExp s num places k=saidEnd s n (figSaid mi (bAt s (k+1) 45) l noB b (s.extract E n) us E):=by
 unfold saidExp
 rw [if_pos (zql he),hE,zkb h0 h1 hr,fig_exp,hden,<- hnum]
 rfl
theorem said_noexp {s:ByteArray}{mi:Bool}{l b:ByteArray}{us es k places:Nat}{num:Int} (he:¬ ByteAt s k 101) (hnum:num=signed mi (figNum l b)) (hden:figDen noB b=10 ^ places) :
 saidExp s num places k=saidEnd s k (figSaid mi false l noB b noB us es):=by
 unfold saidExp
 rw [if_neg (by rw [zxy he];decide),fig_plain,hden,<- hnum]
theorem said_exp_none {s:ByteArray}{k E places:Nat}{num:Int} (he:ByteAt s k 101) (hE:expAt s k=E) (hr:runEnd s E=E):saidExp s num places k=.inl (1,E):=by
 unfold saidExp;rw [if_pos (zql he),hE,zxz hr]
theorem said_exp_many {s:ByteArray}{k E places:Nat}{num:Int} (he:ByteAt s k 101) (hE:expAt s k=E) (hr:E+300<runEnd s E):saidExp s num places k=.inl (2,E+300):=by
 unfold saidExp;rw [if_pos (zql he),hE,zka hr]
theorem dec_point {s:ByteArray}{neg:Bool}{a m n:Nat} (hp:ByteAt s m 46) (hr:runEnd s (m+1)=n) (h0:m+1<n) (h1:n<=m+1+300) :
 saidDec s neg a m=saidExp s (signed neg (dv s a m*10 ^ (n - (m+1))+dv s (m+1) n)) (n - (m+1)) n:=by
 unfold saidDec;rw [if_pos (zql hp),zkb h0 h1 hr]
theorem dec_point_none {s:ByteArray}{neg:Bool}{a m:Nat} (hp:ByteAt s m 46) (hr:runEnd s (m+1)=m+1):saidDec s neg a m=.inl (1,m+1):=by
 unfold saidDec;rw [if_pos (zql hp),zxz hr]
theorem dec_point_many {s:ByteArray}{neg:Bool}{a m:Nat} (hp:ByteAt s m 46) (hr:m+1+300<runEnd s (m+1)):saidDec s neg a m=.inl (2,m+1+300):=by
 unfold saidDec;rw [if_pos (zql hp),zka hr]
theorem dec_plain {s:ByteArray}{neg:Bool}{a m:Nat} (hp:¬ ByteAt s m 46):saidDec s neg a m=saidExp s (signed neg (dv s a m)) 0 m:=by
 unfold saidDec;rw [if_neg (by rw [zxy hp];decide)]
theorem said_over {s:ByteArray}{neg:Bool}{a m:Nat} (hn:minusOf s=neg) (ha:atOf s=a) (h0:a<m) (h1:m<=a+300) (hr:runEnd s a=m) (hp:ByteAt s m 47):said s=saidOver s neg a m:=by
 unfold said;rw [ha,hn,zkb h0 h1 hr,if_pos (zql hp)]
theorem said_dec {s:ByteArray}{neg:Bool}{a m:Nat} (hn:minusOf s=neg) (ha:atOf s=a) (h0:a<m) (h1:m<=a+300) (hr:runEnd s a=m) (hp:¬ ByteAt s m 47):said s=saidDec s neg a m:=by
 unfold said;rw [ha,hn,zkb h0 h1 hr,if_neg (by rw [zxy hp];decide)]
theorem over_some {s:ByteArray}{neg:Bool}{a m n es:Nat} (hr:runEnd s (m+1)=n) (h0:m+1<n) (h1:n<=m+1+300) (hn:n<=s.size) :
 saidOver s neg a m=saidEnd s n (figSaid neg false (s.extract a m) (s.extract (m+1) n) noB noB (m+1) es):=by
 unfold saidOver;rw [zkb h0 h1 hr,fig_over h0 hn]
theorem expAt_plus {s:ByteArray}{k:Nat} (h:ByteAt s (k+1) 43):expAt s k=k+2/\bAt s (k+1) 45=false:=by
 refine ⟨by unfold expAt;rw [zql h,Bool.true_or];rfl,zxy ?_⟩
 rintro ⟨h1,h2⟩
 obtain ⟨_,h3⟩:=h
 omega
theorem expAt_minus {s:ByteArray}{k:Nat} (h:ByteAt s (k+1) 45):expAt s k=k+2/\bAt s (k+1) 45=true :=
 ⟨by unfold expAt;rw [zql h,Bool.or_true];rfl,zql h⟩
theorem expAt_none {s:ByteArray}{k:Nat} (h:¬ ByteAt s (k+1) 43) (h':¬ ByteAt s (k+1) 45):expAt s k=k+1/\bAt s (k+1) 45=false :=
 ⟨by unfold expAt;rw [zxy h,zxy h'];rfl,zxy h'⟩
theorem rrun_any (s:ByteArray) (a:Nat) (w:World) (hs:s.size<=9223372036854775807) (ha:a<=s.size) :
 Calls Tryz.prog 80 #[.string s,.int .i64 a,.int .i64 300] w fun e w'=>((runEnd s a=a/\e=.returned (.tuple #[.int .i64 a,.agg #[.int .i64 1,.int .i64 a]]))\/(a+300<runEnd s a/\e=.returned (.tuple #[.int .i64 (a+300:Nat),.agg #[.int .i64 2,.int .i64 (a+300:Nat)]]))\/(∃ m:Nat,a<m/\m<=a+300/\m<=s.size/\runEnd s a=m/\e=.returned (.tuple #[.int .i64 m,.agg #[.int .i64 0,.int .i64 (-1)]])))/\Below w.heap.size w w':=by
 refine (digits_any s a w hs ha).mono ?_
 rintro e w' ⟨⟨m,code,pl,rfl,m0,m1,m2,hj,hc⟩,hb⟩
 refine ⟨?_,hb⟩
 rcases hc with ⟨rfl,rfl,rfl,h⟩ | ⟨rfl,rfl,rfl,h⟩ | ⟨rfl,rfl,h1,h⟩
 ·exact Or.inr (Or.inl ⟨runEnd_over m0 hj h,rfl⟩)
 ·exact Or.inl ⟨zxr h,rfl⟩
 ·exact Or.inr (Or.inr ⟨m,h1,m2,m1,runEnd_is m0 hj h,rfl⟩)
end Go.Proofs.YtkdobjmhammhbaaGreatDoor
