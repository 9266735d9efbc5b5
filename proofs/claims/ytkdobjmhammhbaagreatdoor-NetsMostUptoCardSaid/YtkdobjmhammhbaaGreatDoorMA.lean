import Derived.Test.YtkdobjmhammhbaaGreatDoorChecked
import Derived.WalkSpells
import Derived.WalkLawsBesides
import Derived.BigQuiet
import Derived.Shelf.Spec.BitsCarry
namespace Go.Proofs.YtkdobjmhammhbaaGreatDoor
set_option maxHeartbeats 1000000
def W64 (x:Int):Prop:=0<=x/\x<18446744073709551616
def Ws (l:List Int):Prop:=∀ x ∈ l,W64 x
def nth (l:List Int) (k:Nat):Int:=l[k]?.getD 0
theorem nth_lt {l:List Int}{k:Nat} (h:k<l.length):nth l k=l[k]:=by simp [nth,h]
theorem zky {l:List Int}{k:Nat} (h:l.length<=k):nth l k=0:=by simp [nth,h]
def pw:Nat->Int
 | 0=>1
 | n+1=>18446744073709551616*pw n
def val:List Int->Int
 | []=>0
 | x :: xs=>x+18446744073709551616*val xs
theorem zkm (n:Nat):0<pw n:=by
 induction n with
 | zero=>simp [pw]
 | succ n ih=>simp only [pw];omega
theorem pw_add (m n:Nat):pw (m+n)=pw m*pw n:=by
 induction m with
 | zero=>simp [pw]
 | succ m ih=>rw [Nat.succ_add,pw,pw,ih,Int.mul_assoc]
theorem zkg (n:Nat):pw (n+1)=18446744073709551616*pw n:=rfl
theorem Ws.cons {x:Int}{l:List Int} (h:Ws (x :: l)):W64 x/\Ws l:=⟨h x (by simp),fun y hy=>h y (by simp [hy])⟩
theorem Ws.mk {x:Int}{l:List Int} (h:W64 x) (h':Ws l):Ws (x :: l):=by
 intro y hy
 rcases List.mem_cons.1 hy with rfl | hy
 ·exact h
 ·exact h' y hy
theorem Ws.nil:Ws []:=fun _ h=>by cases h
theorem Ws.append {a b:List Int} (h:Ws a) (h':Ws b):Ws (a++b):=by
 intro y hy
 rcases List.mem_append.1 hy with hy | hy
 ·exact h y hy
 ·exact h' y hy
theorem Ws.take {a:List Int} (h:Ws a) (n:Nat):Ws (a.take n):=fun y hy=>h y (List.mem_of_mem_take hy)
theorem Ws.drop {a:List Int} (h:Ws a) (n:Nat):Ws (a.drop n):=fun y hy=>h y (List.mem_of_mem_drop hy)
theorem Ws.get {a:List Int} (h:Ws a) (k:Nat):W64 (nth a k):=by
 by_cases hk:k<a.length
 ·rw [nth_lt hk];exact h _ (List.getElem_mem hk)
 ·rw [zky (by omega)];exact ⟨by decide,by decide⟩
theorem zqg {l:List Int} (h:Ws l):0<=val l:=by
 induction l with
 | nil=>simp [val]
 | cons x l ih =>
  obtain ⟨⟨h1,_⟩,h2⟩:=h.cons
  have:=ih h2
  simp only [val];omega
theorem val_lt {l:List Int} (h:Ws l):val l<pw l.length:=by
 induction l with
 | nil=>simp [val,pw]
 | cons x l ih =>
  obtain ⟨⟨h1,h3⟩,h2⟩:=h.cons
  have:=ih h2
  simp only [val,List.length_cons,pw];omega
theorem zkc (a b:List Int):val (a++b)=val a+pw a.length*val b:=by
 induction a with
 | nil=>simp [val,pw]
 | cons x a ih=>simp only [List.cons_append,val,List.length_cons,pw,ih];grind
theorem zxv (a:List Int) (x:Int):val (a++[x])=val a+pw a.length*x:=by
 rw [zkc];simp [val]
theorem take_snoc (l:List Int) (k:Nat) (h:k<l.length):l.take (k+1)=l.take k++[nth l k]:=by
 rw [List.take_succ_eq_append_getElem h,nth_lt h]
theorem zqh (l:List Int) (k:Nat) (h:k<l.length):val (l.take (k+1))=val (l.take k)+pw k*nth l k:=by
 rw [take_snoc l k h,zxv,List.length_take,Nat.min_eq_left (by omega)]
theorem val_replicate (n:Nat):val (List.replicate n 0)=0:=by
 induction n with
 | zero=>rfl
 | succ n ih=>simp [List.replicate_succ,val,ih]
theorem zjf (l:List Int) (k:Nat) (h:k<l.length):val (l.drop k)=nth l k+18446744073709551616*val (l.drop (k+1)):=by
 rw [List.drop_eq_getElem_cons h,val,nth_lt h]
theorem zxm (l:List Int) (k:Nat) (h:k<=l.length):val l=val (l.take k)+pw k*val (l.drop k):=by
 have:=zkc (l.take k) (l.drop k)
 rw [List.take_append_drop,List.length_take,Nat.min_eq_left h] at this
 exact this
def Trim (l:List Int):Prop:=l=[]\/nth l (l.length - 1)≠0
theorem val_ge {l:List Int} (h:Ws l) (t:Trim l) (hl:l≠[]):pw (l.length - 1)<=val l:=by
 rcases t with t | t
 ·exact absurd t hl
 have hn:0<l.length:=List.length_pos_iff.2 hl
 have e:=zqh l (l.length - 1) (by omega)
 rw [Nat.sub_add_cancel hn,List.take_length] at e
 have h1:=zqg (h.take (l.length - 1))
 have h2:=(h.get (l.length - 1)).1
 have h3:=zkm (l.length - 1)
 have h4:pw (l.length - 1)*1<=pw (l.length - 1)*nth l (l.length - 1):=Int.mul_le_mul_of_nonneg_left (by omega) (by omega)
 omega
theorem pw_mono {m n:Nat} (h:m<=n):pw m<=pw n:=by
 obtain ⟨d,rfl⟩:=Nat.exists_eq_add_of_le h
 rw [pw_add]
 have h1:=zkm m
 have h2:=zkm d
 have:pw m*1<=pw m*pw d:=Int.mul_le_mul_of_nonneg_left (by omega) (by omega)
 omega
theorem zqv {a b:List Int} (ha:Ws a) (hb:Ws b) (tb:Trim b) (h:a.length<b.length):val a<val b:=by
 have h1:=val_lt ha
 have h2:=val_ge hb tb (by intro e;simp [e] at h)
 have h3:=pw_mono (show a.length<=b.length - 1 by omega)
 omega
theorem val_lt_of_word {a b:List Int} (ha:Ws a) (hb:Ws b) (k:Nat) (hl:a.length=b.length) (hk:k<a.length) (he:a.drop (k+1)=b.drop (k+1)) (h:nth a k<nth b k):val a<val b:=by
 have e1:=zxm a k (by omega)
 have e2:=zxm b k (by omega)
 have e3:=zjf a k hk
 have e4:=zjf b k (by omega)
 have h1:=val_lt (ha.take k)
 have h2:=zqg (hb.take k)
 rw [List.length_take,Nat.min_eq_left (by omega)] at h1
 rw [he] at e3
 have h3:val (a.drop k)+1<=val (b.drop k):=by omega
 have h4:=Int.mul_le_mul_of_nonneg_left h3 (Int.le_of_lt (zkm k))
 rw [Int.mul_add] at h4
 omega
theorem drop_eq_of {a b:List Int} (k:Nat) (hk:k<a.length) (hl:a.length=b.length) (he:a.drop (k+1)=b.drop (k+1)) (h:nth a k=nth b k):a.drop k=b.drop k:=by
 rw [List.drop_eq_getElem_cons hk,List.drop_eq_getElem_cons (show k<b.length by omega),he]
 rw [nth_lt hk,nth_lt (l:=b) (by omega)] at h
 rw [h]
theorem raise_round {W b out:List Int}{c:Int}{i:Nat} (hi:out.length=i) (h1:i<W.length) (h2:i<b.length) (h:val out+pw i*c=val (W.take i)+val (b.take i)) :
 val (out++[(nth W i+nth b i+c) % 18446744073709551616])+pw (i+1)*((nth W i+nth b i+c) / 18446744073709551616)=val (W.take (i+1))+val (b.take (i+1)):=by
 rw [zxv,hi,zqh W i h1,zqh b i h2,zkg]
 have e:=Int.mul_ediv_add_emod (nth W i+nth b i+c) 18446744073709551616
 generalize (nth W i+nth b i+c) / 18446744073709551616=k at *
 generalize (nth W i+nth b i+c) % 18446744073709551616=o at *
 have e2:pw i*(18446744073709551616*k+o)=pw i*(nth W i+nth b i+c):=by rw [e]
 grind
theorem raise_round' {W out:List Int}{S c:Int}{i:Nat} (hi:out.length=i) (h1:i<W.length) (h:val out+pw i*c=val (W.take i)+S) :
 val (out++[(nth W i+c) % 18446744073709551616])+pw (i+1)*((nth W i+c) / 18446744073709551616)=val (W.take (i+1))+S:=by
 rw [zxv,hi,zqh W i h1,zkg]
 have e:=Int.mul_ediv_add_emod (nth W i+c) 18446744073709551616
 generalize (nth W i+c) / 18446744073709551616=k at *
 generalize (nth W i+c) % 18446744073709551616=o at *
 have e2:pw i*(18446744073709551616*k+o)=pw i*(nth W i+c):=by rw [e]
 grind
def bor (x y:Int):Int:=if x<y then 1 else 0
theorem bor_01 (x y:Int):0<=bor x y/\bor x y<=1:=by unfold bor;split <;> omega
theorem bor_eq {u v:Int} (hu:W64 u) (h0:0<=v) (hv:v<=18446744073709551616):(u - v) % 18446744073709551616 - 18446744073709551616*bor u v=u - v:=by
 obtain ⟨h1,h2⟩:=hu
 unfold bor;split <;> omega
theorem lower_round {W b out:List Int}{c:Int}{i:Nat} (hi:out.length=i) (h1:i<W.length) (h2:i<b.length) (hW:Ws W) (hb:Ws b) (hc0:0<=c) (hc:c<=1) (h:val out - pw i*c=val (W.take i) - val (b.take i)) :
 val (out++[(nth W i - nth b i - c) % 18446744073709551616]) - pw (i+1)*bor (nth W i) (nth b i+c)=val (W.take (i+1)) - val (b.take (i+1)):=by
 rw [zxv,hi,zqh W i h1,zqh b i h2,zkg]
 have hbi:=hb.get i
 have e:=bor_eq (v:=nth b i+c) (hW.get i) (by have:=hbi.1;omega) (by have:=hbi.2;omega)
 rw [show nth W i - (nth b i+c)=nth W i - nth b i - c by omega] at e
 generalize bor (nth W i) (nth b i+c)=k at *
 generalize (nth W i - nth b i - c) % 18446744073709551616=o at *
 have e2:pw i*(o - 18446744073709551616*k)=pw i*(nth W i - nth b i - c):=by rw [e]
 grind
theorem lower_round' {W out:List Int}{S c:Int}{i:Nat} (hi:out.length=i) (h1:i<W.length) (hW:Ws W) (hc0:0<=c) (hc:c<=1) (h:val out - pw i*c=val (W.take i) - S) :
 val (out++[(nth W i - c) % 18446744073709551616]) - pw (i+1)*bor (nth W i) c=val (W.take (i+1)) - S:=by
 rw [zxv,hi,zqh W i h1,zkg]
 have e:=bor_eq (v:=c) (hW.get i) (by omega) (by omega)
 generalize bor (nth W i) c=k at *
 generalize (nth W i - c) % 18446744073709551616=o at *
 have e2:pw i*(o - 18446744073709551616*k)=pw i*(nth W i - c):=by rw [e]
 grind
theorem w64_mod (x:Int):W64 (x % 18446744073709551616):=⟨by omega,by omega⟩
theorem raiseTimes_round {W b out:List Int}{y c:Int}{i:Nat} (hi:out.length=i) (h1:i<W.length) (h2:i<b.length) (h:val out+pw i*c=val (W.take i)+val (b.take i)*y)
 {o k:Int} (e:o+18446744073709551616*k=nth W i+nth b i*y+c) :
 val (out++[o])+pw (i+1)*k=val (W.take (i+1))+val (b.take (i+1))*y:=by
 rw [zxv,hi,zqh W i h1,zqh b i h2,zkg]
 have e2:pw i*(o+18446744073709551616*k)=pw i*(nth W i+nth b i*y+c):=by rw [e]
 grind
theorem lowerTimes_round {W b out:List Int}{y c:Int}{i:Nat} (hi:out.length=i) (h1:i<W.length) (h2:i<b.length) (h:val out - pw i*c=val (W.take i) - val (b.take i)*y)
 {o k:Int} (e:o - 18446744073709551616*k=nth W i - nth b i*y - c) :
 val (out++[o]) - pw (i+1)*k=val (W.take (i+1)) - val (b.take (i+1))*y:=by
 rw [zxv,hi,zqh W i h1,zqh b i h2,zkg]
 have e2:pw i*(o - 18446744073709551616*k)=pw i*(nth W i - nth b i*y - c):=by rw [e]
 grind
theorem prod_bound {x y:Int} (hx:W64 x) (hy:W64 y):0<=x*y/\x*y<=340282366920938463426481119284349108225:=by
 obtain ⟨x0,x1⟩:=hx;obtain ⟨y0,y1⟩:=hy
 refine ⟨Int.mul_nonneg x0 y0,?_⟩
 have h1:x*y<=18446744073709551615*y:=Int.mul_le_mul_of_nonneg_right (by omega) y0
 omega
open Go.RowKit
theorem zxd {k:IntKind}{a b:Int} (h:a=b):Ending.returned (.int k a)=.returned (.int k b):=by rw [h]
theorem ret_bool {a b:Bool} (h:a=b):Ending.returned (.bool a)=.returned (.bool b):=by rw [h]
theorem qh {p:Prop} (h:p):Hid p:=h
theorem uh {p:Prop} (h:Hid p):p:=h
def lenOf:Value->Nat | .slice _ m _=>m | _=>0
def sgn (x:Int):Int:=if x<0 then -1 else if x=0 then 0 else 1
theorem zqp {x:Int} (h:x<0):sgn x = -1:=by simp [sgn,h]
theorem zxi {x:Int} (h:x=0):sgn x=0:=by simp [sgn,h]
theorem zqq {x:Int} (h:0<x):sgn x=1:=by simp [sgn,show ¬ x<0 by omega,show ¬ x=0 by omega]
theorem cmp_i64 (x y:Int) (w:World) :
 Calls Tryz.prog 141 #[.int .i64 x,.int .i64 y] w fun e w'=>e=.returned (.int .i64 (sgn (x - y)))/\w'=w:=by
 go_enter Tryz.func141,Tryz.ntmps141
 go_wp2
 all_goals go_ret
 all_goals first
  | exact ⟨zxd (zqp (by omega)).symm,rfl⟩
  | exact ⟨zxd (zqq (by omega)).symm,rfl⟩
  | exact ⟨zxd (zxi (by omega)).symm,rfl⟩
theorem cmp_int (x y:Int) (w:World) :
 Calls Tryz.prog 77 #[.int .i64 x,.int .i64 y] w fun e w'=>e=.returned (.int .i64 (sgn (x - y)))/\w'=w:=by
 go_enter Tryz.func77,Tryz.ntmps77
 go_wp2
 all_goals go_ret
 all_goals first
  | exact ⟨zxd (zqp (by omega)).symm,rfl⟩
  | exact ⟨zxd (zqq (by omega)).symm,rfl⟩
  | exact ⟨zxd (zxi (by omega)).symm,rfl⟩
theorem cmp_u64 (x y:Int) (w:World) :
 Calls Tryz.prog 189 #[.int .u64 x,.int .u64 y] w fun e w'=>e=.returned (.int .i64 (sgn (x - y)))/\w'=w:=by
 go_enter Tryz.func189,Tryz.ntmps189
 go_wp2
 all_goals go_ret
 all_goals first
  | exact ⟨zxd (zqp (by omega)).symm,rfl⟩
  | exact ⟨zxd (zqq (by omega)).symm,rfl⟩
  | exact ⟨zxd (zxi (by omega)).symm,rfl⟩
theorem zqn (near:Int) (sl:Value) (w:World) :
 Calls Tryz.prog 118 #[.agg #[.int .i64 near,sl]] w fun e w'=>e=.returned (.int .i64 (sgn near))/\Below w.heap.size w w':=by
 go_enter Tryz.func118,Tryz.ntmps118
 go_wp2_with (go_at_call 141;refine (cmp_i64 _ _ _).mono ?_;rintro e w' ⟨rfl,rfl⟩)
 go_ret
 exact ⟨by simp,(Below.refl _ _).alloc (Nat.le_refl _) _⟩
def iabs (x:Int):Int:=if x<0 then -x else x
theorem sizeOf_any (n:Int) (h0:-9223372036854775808<=n) (h1:n<=9223372036854775807) (w:World) :
 Calls Tryz.prog 183 #[.int .i64 n] w fun e w'=>e=.returned (.int .u64 (iabs n))/\w'=w:=by
 have hn:n<0->IntKind.u64.wrap (-IntKind.u64.wrap n)=iabs n:=by
  intro h;rw [IntKind.wrap_u64,IntKind.wrap_u64];unfold iabs;rw [if_pos h];omega
 have hp:0<=n->n=iabs n:=by intro h;unfold iabs;rw [if_neg (by omega)]
 have HN:=qh hn
 have HP:=qh hp
 clear hn hp
 go_enter Tryz.func183,Tryz.ntmps183
 go_wp2
 ·go_ret;exact ⟨zxd (uh HN ‹_›),rfl⟩
 ·go_ret;exact ⟨zxd (uh HP ‹_›),rfl⟩
def Row (w:World) (b off:Nat) (l:List Int):Prop:=∀ k,k<l.length->w.cell? ⟨b,off+k,none⟩=some (.int .u64 (nth l k))
theorem trim_any (b off cap:Nat) (l:List Int) (w:World) (hr:Row w b off l) (hl:l.length<=cap) (hcap:cap<=9223372036854775807) :
 Calls Tryz.prog 174 #[.slice (some ⟨b,off,none⟩) l.length cap] w fun e w'=>(∃ m,m<=l.length/\e=.returned (.slice (some ⟨b,off,none⟩) m cap)/\(∀ k,m<=k->nth l k=0)/\(m=0\/nth l (m - 1)≠0))/\w'=w:=by
 go_enter Tryz.func174,Tryz.ntmps174
 go_wp2
 go_loop [0] (fun v=>∃ m:Nat,m<=l.length/\v=.slice (some ⟨b,off,none⟩) m cap/\∀ k,m<=k->nth l k=0) lenOf
 case atStart=>exact ⟨l.length,Nat.le_refl _,rfl,fun k hk=>zky hk⟩
 case round =>
  obtain ⟨m,hm,rfl,hz⟩:=hrel
  have HZ:=qh hz
  clear hz
  by_cases hm0:m=0
  ·subst hm0
   go_wp2
   go_ret
   exact ⟨⟨0,Nat.zero_le _,rfl,uh HZ,Or.inl rfl⟩,rfl⟩
  ·have hc:=hr (m - 1) (by omega)
   by_cases hx:nth l (m - 1)=0
   ·have HX:=qh hx
    rw [hx] at hc
    clear hx
    go_wp2
    go_round
    case rel =>
     refine ⟨m - 1,by omega,rfl,fun k hk => ?_⟩
     by_cases e:k=m - 1
     ·rw [e];exact uh HX
     ·exact uh HZ k (by omega)
    case measure=>simp [lenOf];omega
   ·go_wp2
    go_ret
    exact ⟨⟨m,hm,rfl,uh HZ,Or.inr hx⟩,rfl⟩
theorem trim_nil (w:World):Calls Tryz.prog 174 #[.slice none 0 0] w fun e w'=>e=.returned (.slice none 0 0)/\w'=w:=by
 go_enter Tryz.func174,Tryz.ntmps174
 go_wp2
 refine wp_loop_rounds 1 ?_
 rw [rounds_succ]
 go_wp2
 go_ret
 exact ⟨rfl,rfl⟩
theorem quiet_same2 {P:Program}{f:FuncId}{args:Array Value}{w:World}{k n:Nat}{v:Value}
 (h:Calls P f args (w.drewN (k+n)) fun e w'=>e=.returned v/\w'=w.drewN (k+n)):Calls P f args (w.drewN (k+n)) fun e w''=>e=.returned v/\∃ m,w''=w.drewN (k+m) :=
 h.mono fun _ _ ⟨he,hm⟩=>⟨he,n,hm⟩
theorem compare_done {a b:List Int} (ha:Ws a) (hb:Ws b) {k:Nat} (hl:a.length=b.length) (hk:k<a.length) (he:a.drop (k+1)=b.drop (k+1)) (hne:nth a k≠nth b k):sgn (nth a k - nth b k)=sgn (val a - val b):=by
 rcases Int.lt_or_gt_of_ne hne with h | h
 ·have:=val_lt_of_word ha hb k hl hk he h
  rw [zqp (by omega),zqp (by omega)]
 ·have:=val_lt_of_word hb ha k hl.symm (by omega) he.symm h
  rw [zqq (by omega),zqq (by omega)]
theorem compare_len {a b:List Int} (ha:Ws a) (hb:Ws b) (ta:Trim a) (tb:Trim b) (hne:a.length≠b.length):sgn ((a.length:Int) - b.length)=sgn (val a - val b):=by
 rcases Nat.lt_or_gt_of_ne hne with h | h
 ·have:=zqv ha hb tb h
  rw [zqp (by omega),zqp (by omega)]
 ·have:=zqv hb ha ta h
  rw [zqq (by omega),zqq (by omega)]
theorem compare_same (ba oa ca bb ob cb n:Nat) (a b:List Int) (w:World) (hra:Row w ba oa a) (hrb:Row w bb ob b) (ha:Ws a) (hb:Ws b) (hla:a.length=n) (hlb:b.length=n) (hn:n<=1000000) :
 Calls Tryz.prog 142 #[.slice (some ⟨ba,oa,none⟩) n ca,.slice (some ⟨bb,ob,none⟩) n cb] w fun e w'=>e=.returned (.int .i64 (sgn (val a - val b)))/\∃ n,w'=w.drewN n:=by
 have HLA:=qh hla
 have HLB:=qh hlb
 clear hla hlb
 go_enter Tryz.func142,Tryz.ntmps142
 go_wp2_with fail
 go_loopw [19] (fun v wr=>∃ i:Nat,i<=n/\v=.int .i64 i/\a.drop (n - i)=b.drop (n - i)/\∃ nq,wr=w.drewN nq) (fun v _=>n - (intOf v).toNat)
 case atStart=>exact ⟨0,Nat.zero_le _,rfl,by rw [List.drop_eq_nil_of_le (by have:=uh HLA;omega),List.drop_eq_nil_of_le (by have:=uh HLB;omega)],0,rfl⟩
 case round =>
  obtain ⟨i,hi,rfl,hd,nq,rfl⟩:=hrel
  have HD:=qh hd
  clear hd
  by_cases hlt:i<n
  ·have hca:=hra (n - 1 - i) (by have:=uh HLA;omega)
   have hcb:=hrb (n - 1 - i) (by have:=uh HLB;omega)
   by_cases hx:nth a (n - 1 - i)=nth b (n - 1 - i)
   ·rw [hx] at hca
    have HX:=qh hx
    clear hx
    go_wp2_with fail
    go_quiet (fail)
    go_wp2
    go_roundw
    case rel => 
     refine ⟨i+1,by omega,by go_num,?_,_,rfl⟩
     have hA:=uh HLA
     have hB:=uh HLB
     have e:=drop_eq_of (n - 1 - i) (by omega) (by omega) (by rw [show n - 1 - i+1=n - i by omega];exact uh HD) (uh HX)
     rw [show n - (i+1)=n - 1 - i by omega];exact e
    case measure=>simp [intOf];omega
   ·go_wp2_with fail
    go_quiet (fail)
    go_wp2_with fail
    go_quiet ((go_at_call 189;exact quiet_same2 (cmp_u64 _ _ _)))
    go_wp2
    go_ret
    refine ⟨zxd (compare_done ha hb (by have:=uh HLA;have:=uh HLB;omega) (by have:=uh HLA;omega) (by rw [show n - 1 - i+1=n - i by omega];exact uh HD) hx),by simp only [World.drewN_drewN];exact ⟨_,rfl⟩⟩
  ·go_wp2
   go_ret
   refine ⟨zxd (zxi ?_).symm,nq,rfl⟩
   have e:=uh HD
   rw [show n - i=0 by omega] at e
   simp at e
   rw [e];omega
theorem compare_any (ba oa ca bb ob cb:Nat) (a b:List Int) (w:World) (hra:Row w ba oa a) (hrb:Row w bb ob b) (ha:Ws a) (hb:Ws b) (ta:Trim a) (tb:Trim b) (hla:a.length<=1000000) (_hlb:b.length<=1000000) :
 Calls Tryz.prog 142 #[.slice (some ⟨ba,oa,none⟩) a.length ca,.slice (some ⟨bb,ob,none⟩) b.length cb] w fun e w'=>e=.returned (.int .i64 (sgn (val a - val b)))/\∃ n,w'=w.drewN n:=by
 by_cases hne:a.length=b.length
 ·rw [<- hne]
  exact compare_same ba oa ca bb ob cb a.length a b w hra hrb ha hb rfl hne.symm hla
 ·have HC:=qh (compare_len ha hb ta tb hne)
  have hne':((a.length:Int) != (b.length:Int))=true:=by simp;omega
  go_enter Tryz.func142,Tryz.ntmps142
  go_wp2_with (go_at_call 77;refine (cmp_int _ _ _).mono ?_;rintro e w' ⟨rfl,rfl⟩)
  go_ret
  exact ⟨zxd (uh HC),0,rfl⟩
def Zr (N:Nat) (w:World) (v:Value) (z:Int):Prop :=
 (v=.agg #[.int .i64 z,.slice none 0 0] /\ -9223372036854775808<=z/\z<=9223372036854775807) \/
 (∃ (s:Int) (b off cap:Nat) (l:List Int),v=.agg #[.int .i64 s,.slice (some ⟨b,off,none⟩) l.length cap]/\(s=1\/s = -1)/\Ws l/\Trim l/\l≠[]/\z=s*val l/\l.length<=N/\l.length<=cap/\cap<=9223372036854775807/\Row w b off l/\(z < -9223372036854775808\/9223372036854775807<z))
theorem Row.lt {w:World}{b off:Nat}{l:List Int} (h:Row w b off l) (hl:l≠[]):b<w.heap.size:=by
 have:=h 0 (List.length_pos_iff.2 hl)
 exact World.block_lt_of_cell? w _ this
theorem Row.later {w w':World}{b off:Nat}{l:List Int} (h:Row w b off l) (hb:Below w.heap.size w w'):Row w' b off l:=by
 intro k hk
 have h1:=h k hk
 have h2:b<w.heap.size:=World.block_lt_of_cell? w _ h1
 rw [hb.cell (p:=⟨b,off+k,none⟩) h2];exact h1
theorem Zr.later {N:Nat}{w w':World}{v:Value}{z:Int} (h:Zr N w v z) (hb:Below w.heap.size w w'):Zr N w' v z:=by
 rcases h with h | ⟨s,b,off,cap,l,h1,h2,h3,h4,h5,h6,h7,h8,h9,h10,h11⟩
 ·exact Or.inl h
 ·exact Or.inr ⟨s,b,off,cap,l,h1,h2,h3,h4,h5,h6,h7,h8,h9,h10.later hb,h11⟩
theorem Zr.mono {N M:Nat}{w:World}{v:Value}{z:Int} (h:Zr N w v z) (hb:N<=M):Zr M w v z:=by
 rcases h with h | ⟨s,b,off,cap,l,h1,h2,h3,h4,h5,h6,h7,h8,h9,h10,h11⟩
 ·exact Or.inl h
 ·exact Or.inr ⟨s,b,off,cap,l,h1,h2,h3,h4,h5,h6,by omega,h8,h9,h10,h11⟩
theorem Zr.eq {N:Nat}{w:World}{v:Value}{z y:Int} (h:Zr N w v z) (e:z=y):Zr N w v y:=e ▸ h
theorem Zr.near {w:World}{z:Int} (N:Nat) (h0:-9223372036854775808<=z) (h1:z<=9223372036854775807):Zr N w (.agg #[.int .i64 z,.slice none 0 0]) z:=Or.inl ⟨rfl,h0,h1⟩
theorem of_any (n:Int) (w:World) :
 Calls Tryz.prog 102 #[.int .i64 n] w fun e w'=>e=.returned (.agg #[.int .i64 n,.slice none 0 0])/\Below w.heap.size w w':=by
 go_enter Tryz.func102,Tryz.ntmps102
 go_wp2
 exact bodyPost_ret (v:=.agg #[.int .i64 n,.slice none 0 0]) (by simp [results,Tryz.results102,go_sem]) rfl ⟨rfl,(Below.refl _ _).alloc (Nat.le_refl _) _⟩
theorem zr_word {w:World}{b:Nat}{s x:Int} (hs:s=1\/s = -1) (hx1:x<18446744073709551616) (hbig:9223372036854775807<x) (hne:s = -1->x≠9223372036854775808) (hc:w.cell? ⟨b,0,none⟩=some (.int .u64 x)) :
 Zr 1 w (.agg #[.int .i64 s,.slice (some ⟨b,0,none⟩) 1 1]) (s*x):=by
 refine Or.inr ⟨s,b,0,1,[x],rfl,hs,?_,Or.inr ?_,by simp,by simp [val],by simp,by simp,by decide,?_,?_⟩
 ·exact Ws.mk ⟨by omega,hx1⟩ Ws.nil
 ·simp [nth];omega
 ·intro k hk
  simp at hk;subst hk
  simpa [nth] using hc
 ·rcases hs with rfl | rfl
  ·right;omega
  ·left;have:=hne rfl;omega
theorem zkj (s x:Int) (w:World) (hs:s=1\/s = -1\/(s=0/\x=0)) (hx0:0<=x) (hx1:x<18446744073709551616) :
 Calls Tryz.prog 184 #[.int .i64 s,.int .u64 x] w fun e w'=>(∃ v,e=.returned v/\Zr 1 w' v (s*x))/\Below w.heap.size w w':=by
 by_cases hsm:x<=9223372036854775807
 ·obtain ⟨t,ht⟩:∃ t,t=s*x:=⟨_,rfl⟩
  have ht0:-9223372036854775808<=t/\t<=9223372036854775807:=by
   rcases hs with rfl | rfl | ⟨rfl,rfl⟩ <;> omega
  have hw:wrap64 (s*x)=t:=by rw [<- ht];unfold wrap64;omega
  rw [<- ht]
  have HT:=qh ht
  clear ht hs
  go_enter Tryz.func184,Tryz.ntmps184
  go_wp2
  refine bodyPost_ret (v:=.agg #[.int .i64 t,.slice none 0 0]) (by simp [results,Tryz.results102,go_sem]) rfl ?_
  go_wp2
  exact bodyPost_ret (v:=.agg #[.int .i64 t,.slice none 0 0]) (by simp [results,Tryz.results184,go_sem]) rfl ⟨⟨_,rfl,Zr.near 1 ht0.1 ht0.2⟩,((Below.refl _ _).alloc (Nat.le_refl _) _).alloc (by simp) _⟩
 ·rcases hs with rfl | rfl | ⟨rfl,rfl⟩
  ·go_enter Tryz.func184,Tryz.ntmps184
   go_wp2
   refine bodyPost_ret (v:=.agg #[.int .i64 1,.slice (some ⟨w.heap.size+1,0,none⟩) 1 1]) (by simp [results,Tryz.results184,go_sem]) rfl ⟨⟨_,rfl,(zr_word (Or.inl rfl) hx1 (by omega) (by omega) ?_).eq (by omega)⟩,((Below.refl _ _).alloc (Nat.le_refl _) _).alloc (by simp) _⟩
   simp [go_sem]
  ·by_cases hm:x=9223372036854775808
   ·subst hm
    go_enter Tryz.func184,Tryz.ntmps184
    go_wp2
    refine bodyPost_ret (v:=.agg #[.int .i64 (-9223372036854775808),.slice none 0 0]) (by simp [results,Tryz.results102,go_sem]) rfl ?_
    go_wp2
    exact bodyPost_ret (v:=.agg #[.int .i64 (-9223372036854775808),.slice none 0 0]) (by simp [results,Tryz.results184,go_sem]) rfl ⟨⟨_,rfl,Zr.near 1 (by decide) (by decide)⟩,((Below.refl _ _).alloc (Nat.le_refl _) _).alloc (by simp) _⟩
   ·have hm':(x == 9223372036854775808)=false:=by simpa using hm
    have HM:=qh hm
    clear hm
    go_enter Tryz.func184,Tryz.ntmps184
    go_wp2
    refine bodyPost_ret (v:=.agg #[.int .i64 (-1),.slice (some ⟨w.heap.size+1,0,none⟩) 1 1]) (by simp [results,Tryz.results184,go_sem]) rfl ⟨⟨_,rfl,(zr_word (Or.inr rfl) hx1 (by omega) (fun _=>uh HM) ?_).eq (by omega)⟩,((Below.refl _ _).alloc (Nat.le_refl _) _).alloc (by simp) _⟩
    simp [go_sem]
  ·omega
def Free (w:World) (g:Nat):Prop:=∃ cur e,w.heap[g]? = some (.cells cur e (0,0))
structure Edit (g lo n:Nat) (w w':World):Prop where
 os:w'.os=w.os
 tape:w'.tape=w.tape
 output:w'.output=w.output
 size:w.heap.size<=w'.heap.size
 other:∀ k,k<w.heap.size->k≠g->w'.heap[k]? = w.heap[k]?
 cell:∀ o,(o<lo\/lo+n<=o)->w'.cell? ⟨g,o,none⟩=w.cell? ⟨g,o,none⟩
 free:Free w g->Free w' g
theorem Free.frozen {w:World}{g:Nat} (h:Free w g) (o:Nat):w.frozen? ⟨g,o,none⟩=false:=by
 obtain ⟨cur,e,h⟩:=h
 simp [World.frozen?,h]
theorem Free.lt {w:World}{g:Nat} (h:Free w g):g<w.heap.size:=by
 obtain ⟨cur,e,h⟩:=h
 exact (Array.getElem?_eq_some_iff.1 h).1
theorem Edit.refl (g lo n:Nat) (w:World):Edit g lo n w w:=⟨rfl,rfl,rfl,Nat.le_refl _,fun _ _ _=>rfl,fun _ _=>rfl,id⟩
theorem Edit.trans {g lo n:Nat}{a b c:World} (h:Edit g lo n a b) (k:Edit g lo n b c):Edit g lo n a c :=
 ⟨k.os.trans h.os,k.tape.trans h.tape,k.output.trans h.output,Nat.le_trans h.size k.size,fun i hi hg=>(k.other i (Nat.lt_of_lt_of_le hi h.size) hg).trans (h.other i hi hg),fun o ho=>(k.cell o ho).trans (h.cell o ho),fun f=>k.free (h.free f)⟩
theorem Edit.drewN {g lo n:Nat}{a b:World} (h:Edit g lo n a b) (m:Nat):Edit g lo n a (b.drewN m):=⟨h.os,h.tape,h.output,h.size,h.other,h.cell,h.free⟩
theorem Edit.drew {g lo n:Nat}{a b:World} (h:Edit g lo n a b):Edit g lo n a b.drew:=⟨h.os,h.tape,h.output,h.size,h.other,h.cell,h.free⟩
theorem Edit.undrew {g lo n:Nat}{a b:World} (h:Edit g lo n a.drew b):Edit g lo n a b:=⟨h.os,h.tape,h.output,h.size,h.other,h.cell,h.free⟩
theorem Edit.undrewN {g lo n m:Nat}{a b:World} (h:Edit g lo n (a.drewN m) b):Edit g lo n a b:=⟨h.os,h.tape,h.output,h.size,h.other,h.cell,h.free⟩
theorem zqb (w:World) (g o g' o':Nat) (v:Value) (h:¬ (g'=g/\o'=o)):(w.setCell ⟨g,o,none⟩ v).cell? ⟨g',o',none⟩=w.cell? ⟨g',o',none⟩:=by
 by_cases hg:g'=g
 ·subst hg
  have ho:o'≠o:=fun e=>h ⟨rfl,e⟩
  simp only [World.setCell,World.cell?,Array.getElem?_modify]
  rw [if_pos trivial]
  cases hb:w.heap[g']? with
  | none=>rfl
  | some ob=>cases ob <;> simp [Ne.symm ho]
 ·exact World.cell?_of_block (Below.heap_setCell w ⟨g,o,none⟩ v g' hg)
theorem zkz {w:World}{g:Nat} (h:Free w g) (a:Addr) (v:Value):Free (w.setCell a v) g:=by
 obtain ⟨cur,e,h⟩:=h
 by_cases hg:g=a.block
 ·subst hg
  simp only [Free,World.setCell,Array.getElem?_modify]
  rw [if_pos trivial,h]
  exact ⟨_,_,rfl⟩
 ·exact ⟨cur,e,by rw [Below.heap_setCell w a v g hg];exact h⟩
theorem zqd {w:World}{g o:Nat}{u v:Value} (h:w.cell? ⟨g,o,none⟩=some u):(w.setCell ⟨g,o,none⟩ v).cell? ⟨g,o,none⟩=some v:=by
 simp only [World.setCell,World.cell?,Array.getElem?_modify] at h ⊢
 rw [if_pos trivial]
 cases hb:w.heap[g]? with
 | none=>simp [hb] at h
 | some ob =>
  cases ob <;> simp [hb] at h ⊢
  obtain ⟨hlt,_⟩:=Array.getElem?_eq_some_iff.1 h
  rw [Array.getElem?_setIfInBounds,if_pos rfl,if_pos hlt]
theorem Edit.setCell {g lo n:Nat}{a b:World} (h:Edit g lo n a b) {o:Nat} (h1:lo<=o) (h2:o<lo+n) (v:Value):Edit g lo n a (b.setCell ⟨g,o,none⟩ v) :=
 h.trans ⟨rfl,rfl,rfl,by simp [World.setCell],fun k _ hk=>Below.heap_setCell b ⟨g,o,none⟩ v k hk,fun o' ho=>zqb b g o g o' v (by omega),fun f=>zkz f _ _⟩
theorem Edit.mono {g lo n lo' n':Nat}{a b:World} (h:Edit g lo n a b) (h1:lo'<=lo) (h2:lo+n<=lo'+n'):Edit g lo' n' a b :=
 ⟨h.os,h.tape,h.output,h.size,h.other,fun o ho=>h.cell o (by omega),h.free⟩
theorem Edit.below {g lo n B:Nat}{a b:World} (h:Edit g lo n a b) (hB:B<=g) (hs:B<=a.heap.size):Below B a b :=
 ⟨h.os,h.tape,h.output,h.size,fun k hk=>h.other k (by omega) (by omega)⟩
theorem Row.edit {g lo n b off:Nat}{w w':World}{l:List Int} (hr:Row w b off l) (h:Edit g lo n w w') (hne:b≠g):Row w' b off l:=by
 intro k hk
 have h1:=hr k hk
 rw [World.cell?_of_block (w:=w) (w':=w') (a:=⟨b,off+k,none⟩) (h.other b (World.block_lt_of_cell? w _ h1) hne)]
 exact h1
theorem Row.beside {g lo n off:Nat}{w w':World}{l:List Int} (hr:Row w g off l) (h:Edit g lo n w w') (hne:off+l.length<=lo\/lo+n<=off):Row w' g off l:=by
 intro k hk
 rw [h.cell (off+k) (by omega)]
 exact hr k hk
theorem Row.set {b off k:Nat}{w:World}{l:List Int} (hr:Row w b off l) (hk:k<l.length) (x:Int):Row (w.setCell ⟨b,off+k,none⟩ (.int .u64 x)) b off (l.set k x):=by
 intro j hj
 simp at hj
 by_cases e:j=k
 ·subst e
  rw [zqd (hr j hj)]
  simp [nth,hj]
 ·rw [zqb _ _ _ _ _ _ (by omega),hr j hj]
  simp [nth,Ne.symm e]
theorem Row.drewN {b off:Nat}{w:World}{l:List Int} (hr:Row w b off l) (m:Nat):Row (w.drewN m) b off l:=hr
theorem set_mid {out W:List Int}{i:Nat}{o:Int} (hi:out.length=i) (hW:i<W.length):(out++W.drop i).set i o=(out++[o])++W.drop (i+1):=by
 rw [List.set_append_right i o (by omega),hi,Nat.sub_self,List.drop_eq_getElem_cons hW,List.set_cons_zero];simp
theorem nth_mid {out W:List Int}{i:Nat} (hi:out.length=i):nth (out++W.drop i) i=nth W i:=by
 simp [nth,List.getElem?_append,hi]
theorem Row.take {b off:Nat}{w:World}{l:List Int} (hr:Row w b off l) (m:Nat):Row w b off (l.take m):=by
 intro k hk
 simp at hk
 rw [hr k (by omega)]
 simp [nth,show k<m by omega]
theorem Row.drop {b off:Nat}{w:World}{l:List Int} (hr:Row w b off l) (m:Nat):Row w b (off+m) (l.drop m):=by
 intro k hk
 simp at hk
 rw [show off+m+k=off+(m+k) by omega,hr (m+k) (by omega)]
 simp [nth]
theorem add64 (x y c:Int) (hx:0<=x) (hy:0<=y) (hc0:0<=c) (hc:c<=1) (w:World):(callFunc 221 #[.int .u64 x,.int .u64 y,.int .u64 c]).run Tryz.prog w =
 .ok (.value (.tuple #[.int .u64 ((x+y+c) % 18446744073709551616),.int .u64 ((x+y+c) / 18446744073709551616)])) w:=by
 rw [run_callFunc_extern Tryz.func221 (by kernel_rfl) (by kernel_rfl) (by kernel_rfl) (e:=add64Entry) (by kernel_rfl),run_add64 x y c hx hy hc0 hc]
 rfl
theorem sub64 (x y b:Int) (hx:0<=x) (hy:0<=y) (hy':y<18446744073709551616) (hb0:0<=b) (hb:b<=1) (w:World):(callFunc 222 #[.int .u64 x,.int .u64 y,.int .u64 b]).run Tryz.prog w =
 .ok (.value (.tuple #[.int .u64 ((x - y - b) % 18446744073709551616),.int .u64 (bor x (y+b))])) w:=by
 obtain ⟨x,rfl⟩:=Int.eq_ofNat_of_zero_le hx
 obtain ⟨y,rfl⟩:=Int.eq_ofNat_of_zero_le hy
 obtain ⟨b,rfl⟩:=Int.eq_ofNat_of_zero_le hb0
 have e1:(((x+18446744073709551616 - y - b) % 18446744073709551616:Nat):Int)=((x:Int) - y - b) % 18446744073709551616:=by omega
 have e2:((if x<y+b then 1 else 0:Nat):Int)=bor (x:Int) (y+b):=by unfold bor;split <;> split <;> omega
 rw [<- e1,<- e2]
 rw [run_callFunc_extern Tryz.func222 (by kernel_rfl) (by kernel_rfl) (by kernel_rfl) (e:=sub64Entry) (by kernel_rfl),run_sub64 x y b (by omega)]
 rfl
theorem add64_0 (x y:Int) (hx:0<=x) (hy:0<=y) (w:World):(callFunc 221 #[.int .u64 x,.int .u64 y,.int .u64 0]).run Tryz.prog w =
 .ok (.value (.tuple #[.int .u64 ((x+y) % 18446744073709551616),.int .u64 ((x+y) / 18446744073709551616)])) w:=by
 simpa using add64 x y 0 hx hy (Int.le_refl 0) (by decide) w
theorem sub64_0 (x y:Int) (hx:0<=x) (hy:0<=y) (hy':y<18446744073709551616) (w:World):(callFunc 222 #[.int .u64 x,.int .u64 y,.int .u64 0]).run Tryz.prog w =
 .ok (.value (.tuple #[.int .u64 ((x - y) % 18446744073709551616),.int .u64 (bor x y)])) w:=by
 simpa using sub64 x y 0 hx hy hy' (Int.le_refl 0) (by decide) w
structure Half (y1 y0 u n q r:Int):Prop where
 y1lo:2147483648<=y1
 y1hi:y1<4294967296
 y0lo:0<=y0
 y0hi:y0<4294967296
 ulo:0<=u
 uhi:u<y1*4294967296+y0
 nlo:0<=n
 nhi:n<4294967296
 q0:0<=q
 qhi:q<=4294967297
 r0:0<=r
 rhi:r<4294967296
 eq:q*y1+r=u
 top:u*4294967296+n<(q+1)*(y1*4294967296+y0)
theorem half_start {y1 y0 u n:Int} (y1lo:2147483648<=y1) (y1hi:y1<4294967296) (y0lo:0<=y0) (y0hi:y0<4294967296) (ulo:0<=u) (uhi:u<y1*4294967296+y0)
 (nlo:0<=n) (nhi:n<4294967296):Half y1 y0 u n (u / y1) (u - u / y1*y1):=by
 have e:=Int.mul_ediv_add_emod u y1
 have e':u / y1*y1=y1*(u / y1):=Int.mul_comm _ _
 have m0:=Int.emod_nonneg u (show y1≠0 by omega)
 have m1:=Int.emod_lt_of_pos u (show 0<y1 by omega)
 have q0:0<=u / y1:=Int.ediv_nonneg ulo (by omega)
 generalize hq:u / y1=q at *
 generalize u % y1=r at *
 have qhi:q<=4294967297:=by
  by_cases h:q<=4294967297
  ·exact h
  ·have:y1*4294967298<=y1*q:=Int.mul_le_mul_of_nonneg_left (by omega) (by omega)
   omega
 have h1:(q+1)*(y1*4294967296+y0)=4294967296*(y1*q)+4294967296*y1+(q+1)*y0:=by grind
 have h2:0<=(q+1)*y0:=Int.mul_nonneg (by omega) y0lo
 exact ⟨y1lo,y1hi,y0lo,y0hi,ulo,uhi,nlo,nhi,q0,qhi,by omega,by omega,by omega,by rw [h1];omega⟩
theorem zja {y1 y0 u n q r:Int} (h:Half y1 y0 u n q r) (ht:4294967296<=q\/4294967296*r+n<q*y0) (hr:r+y1<4294967296):Half y1 y0 u n (q - 1) (r+y1):=by
 obtain ⟨a1,a2,a3,a4,a5,a6,a7,a8,a9,a10,a11,a12,a13,a14⟩:=h
 have key:u*4294967296+n<q*(y1*4294967296+y0)/\1<=q:=by
  have e:q*(y1*4294967296+y0)=4294967296*(q*y1)+q*y0:=by grind
  rcases ht with ht | ht
  ·have:4294967296*(y1*4294967296+y0)<=q*(y1*4294967296+y0):=Int.mul_le_mul_of_nonneg_right ht (by omega)
   exact ⟨by omega,by omega⟩
  ·refine ⟨by omega,?_⟩
   by_cases hq:q=0
   ·subst hq;omega
   ·omega
 have e2:(q - 1)*y1=q*y1 - y1:=by grind
 exact ⟨a1,a2,a3,a4,a5,a6,a7,a8,by omega,by omega,by omega,hr,by omega,by rw [show q - 1+1=q by omega];exact key.1⟩
structure Done (y1 y0 u n q:Int):Prop where
 q0:0<=q
 qhi:q<4294967296
 lo:q*(y1*4294967296+y0)<=u*4294967296+n
 hi:u*4294967296+n<(q+1)*(y1*4294967296+y0)
theorem half_done {y1 y0 u n q r:Int} (h:Half y1 y0 u n q r) (h1:q<4294967296) (h2:q*y0<=4294967296*r+n):Done y1 y0 u n q:=by
 obtain ⟨a1,a2,a3,a4,a5,a6,a7,a8,a9,a10,a11,a12,a13,a14⟩:=h
 have e:q*(y1*4294967296+y0)=4294967296*(q*y1)+q*y0:=by grind
 exact ⟨a9,h1,by omega,a14⟩
theorem zkn {y1 y0 u n q r:Int} (h:Half y1 y0 u n q r) (ht:4294967296<=q\/4294967296*r+n<q*y0) (hr:4294967296<=r+y1):Done y1 y0 u n (q - 1):=by
 obtain ⟨a1,a2,a3,a4,a5,a6,a7,a8,a9,a10,a11,a12,a13,a14⟩:=h
 have e:q*(y1*4294967296+y0)=4294967296*(q*y1)+q*y0:=by grind
 have key:u*4294967296+n<q*(y1*4294967296+y0)/\1<=q:=by
  rcases ht with ht | ht
  ·have:4294967296*(y1*4294967296+y0)<=q*(y1*4294967296+y0):=Int.mul_le_mul_of_nonneg_right ht (by omega)
   exact ⟨by omega,by omega⟩
  ·refine ⟨by omega,?_⟩
   by_cases hq:q=0
   ·subst hq;omega
   ·omega
 have e2:(q - 1)*(y1*4294967296+y0)=4294967296*(q*y1) - 4294967296*y1+(q - 1)*y0:=by grind
 have h3:(q - 1)*y0<=4294967296*y0:=Int.mul_le_mul_of_nonneg_right (by omega) a3
 have lo:(q - 1)*(y1*4294967296+y0)<=u*4294967296+n:=by omega
 refine ⟨by omega,?_,lo,by rw [show q - 1+1=q by omega];exact key.1⟩
 by_cases h:q - 1<4294967296
 ·exact h
 ·have:4294967296*(y1*4294967296+y0)<=(q - 1)*(y1*4294967296+y0):=Int.mul_le_mul_of_nonneg_right (by omega) (by omega)
  omega
theorem Done.rest {y1 y0 u n q:Int} (h:Done y1 y0 u n q):0<=u*4294967296+n - q*(y1*4294967296+y0)/\u*4294967296+n - q*(y1*4294967296+y0)<y1*4294967296+y0:=by
 obtain ⟨h1,h2,h3,h4⟩:=h
 rw [Int.add_mul] at h4
 omega
theorem halves_div {N y p y1 y0 u n1 n0 q1 q0 t:Int} (hp:0<p) (hy:y1*4294967296+y0=y*p) (hN:(u*4294967296+n1)*4294967296+n0=N*p)
 (_h1:Done y1 y0 u n1 q1) (ht:t=u*4294967296+n1 - q1*(y1*4294967296+y0)) (h0:Done y1 y0 t n0 q0) :
 q1*4294967296+q0=N / y/\(t*4294967296+n0 - q0*(y1*4294967296+y0)) / p=N % y:=by
 obtain ⟨r0,r1⟩:=h0.rest
 rw [hy] at ht r0 r1
 have e:t*4294967296+n0 - q0*(y*p)=p*(N - (q1*4294967296+q0)*y):=by
  subst ht;grind
 rw [hy,e]
 rw [e] at r0 r1
 rw [Int.mul_ediv_cancel_left _ (by omega)]
 generalize hq:q1*4294967296+q0=q at *
 have g0:0<=N - q*y:=by
  by_cases g:0<=N - q*y
  ·exact g
  ·have:p*(N - q*y)<=p*(-1):=Int.mul_le_mul_of_nonneg_left (by omega) (by omega)
   omega
 have g1:N - q*y<y:=by
  by_cases g:N - q*y<y
  ·exact g
  ·have:p*y<=p*(N - q*y):=Int.mul_le_mul_of_nonneg_left (by omega) (by omega)
   rw [Int.mul_comm p y] at this
   omega
 have hy0:0<y:=by omega
 have d:=Int.mul_ediv_add_emod N y
 have d0:=Int.emod_nonneg N (show y≠0 by omega)
 have d1:=Int.emod_lt_of_pos N hy0
 have:q=N / y:=by
  have hk:y*(N / y - q)+(N % y - (N - q*y))=0:=by grind
  generalize N / y=a at *
  generalize N % y=b at *
  generalize N - q*y=c at *
  by_cases g:a - q=0
  ·omega
  ·by_cases g':1<=a - q
   ·have:y*1<=y*(a - q):=Int.mul_le_mul_of_nonneg_left (by omega) (by omega)
    omega
   ·have:y*(a - q)<=y*(-1):=Int.mul_le_mul_of_nonneg_left (by omega) (by omega)
    omega
 refine ⟨this,?_⟩
 rw [this,Int.mul_comm] ;omega
theorem digit_top {wn w1 b1:Int}{lo by' P d:Int} (hP:0<P) (hb1:0<b1) (hd:d=(wn*18446744073709551616+w1) / b1) (hlo:lo<P) (hby:P*b1<=by') (d0:0<=d) :
 lo+P*(w1+18446744073709551616*wn)<(d+1)*by':=by
 have e:=Int.mul_ediv_add_emod (wn*18446744073709551616+w1) b1
 have m1:=Int.emod_lt_of_pos (wn*18446744073709551616+w1) hb1
 rw [<- hd] at e
 generalize (wn*18446744073709551616+w1) % b1=r at *
 have h1:(d+1)*(P*b1)<=(d+1)*by':=Int.mul_le_mul_of_nonneg_left hby (by omega)
 have h2:P*(w1+18446744073709551616*wn+1)<=P*((d+1)*b1):=Int.mul_le_mul_of_nonneg_left (by rw [Int.add_mul,Int.mul_comm d b1];omega) (by omega)
 have h3:(d+1)*(P*b1)=P*((d+1)*b1):=by grind
 rw [Int.mul_add] at h2
 omega
end Go.Proofs.YtkdobjmhammhbaaGreatDoor
