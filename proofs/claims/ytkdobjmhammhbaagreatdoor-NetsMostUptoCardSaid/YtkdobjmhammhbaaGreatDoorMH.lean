import Derived.Test.YtkdobjmhammhbaaGreatDoorMG
import Derived.Lib.AppendIntMem
namespace Go.Proofs.YtkdobjmhammhbaaGreatDoor
set_option maxHeartbeats 2000000
set_option maxRecDepth 100000
open Go.RowKit
def Good (s:ByteArray):Prop:=1<=s.size/\s.size<=300/\∀ j (h:j<s.size),48<=s[j].toNat/\s[j].toNat<=57
def Wrong (s:ByteArray) (k:Nat) (text:Bool):Prop :=
 (s.size=0/\k=0/\text=true)\/(∃ h:k<s.size,k<=300/\(∀ j (h:j<s.size),j<k->48<=s[j].toNat/\s[j].toNat<=57)/\((text=true/\¬ (48<=s[k].toNat/\s[k].toNat<=57))\/(text=false/\k=300/\48<=s[k].toNat/\s[k].toNat<=57)))
theorem wrongDigit_any (s:ByteArray) (w:World) (t1 t2:TypeId) (p1 p2:Value) (hs:s.size<=maxLen) (h1:w.cell? ⟨1,0,none⟩=some (.iface t1 p1)) (h2:w.cell? ⟨2,0,none⟩=some (.iface t2 p2)) :
 Calls Tryz.prog 213 #[.string s] w fun e w'=>((e=.returned (.tuple #[.int .i64 0,.nilIface])/\Good s)\/(∃ k:Nat,e=.returned (.tuple #[.int .i64 k,.iface t1 p1])/\Wrong s k true)\/(∃ k:Nat,e=.returned (.tuple #[.int .i64 k,.iface t2 p2])/\Wrong s k false))/\∃ n,w'=w.drewN n:=by
 unfold maxLen at hs
 go_enter Tryz.func213,Tryz.ntmps213
 go_wp2_with fail
 go_loop [7] (fun v=>∃ i:Nat,i<=s.size/\i<=300/\v=.int .i64 i/\Hid (∀ j (h:j<s.size),j<i->48<=s[j].toNat/\s[j].toNat<=57)) (fun v=>s.size - (intOf v).toNat)
 case atStart=>exact ⟨0,Nat.zero_le _,Nat.zero_le _,rfl,fun j h hj=>by omega⟩
 case round =>
  obtain ⟨i,hi,hi3,rfl,HD⟩:=hrel
  by_cases hlt:i<s.size
  ·by_cases hd:48<=s[i].toNat/\s[i].toNat<=57
   ·obtain ⟨hd1,hd2⟩:=hd
    have hd1':(48:Int)<=(s[i].toNat:Int):=by omega
    have hd2':(s[i].toNat:Int)<=57:=by omega
    by_cases h300:i=300
    ·subst h300
     go_wp2_with fail
     go_quiet (fail)
     go_wp2
     go_ret2
     exact ⟨Or.inr (Or.inr ⟨300,rfl,Or.inr ⟨hlt,Nat.le_refl _,uh HD,Or.inr ⟨rfl,rfl,hd1,hd2⟩⟩⟩),_,rfl⟩
    ·have h300':((i:Int) == 300)=false:=by simp;omega
     clear h300
     go_wp2
     go_round
     case rel =>
      refine ⟨i+1,by omega,by simp at h300';omega,by go_num,fun j h hj => ?_⟩
      by_cases e:j=i
      ·subst e;exact ⟨hd1,hd2⟩
      ·exact uh HD j h (by omega)
     case measure=>simp [intOf];omega
   ·have HND:=qh hd
    clear hd
    by_cases hd1:(s[i].toNat:Int)<48
    ·go_wp2_with fail
     go_quiet (fail)
     go_wp2
     go_ret2
     exact ⟨Or.inr (Or.inl ⟨i,rfl,Or.inr ⟨hlt,hi3,uh HD,Or.inl ⟨rfl,uh HND⟩⟩⟩),_,rfl⟩
    ·have hd2:(57:Int)<(s[i].toNat:Int):=by have:=uh HND;omega
     go_wp2_with fail
     go_quiet (fail)
     go_wp2
     go_ret2
     exact ⟨Or.inr (Or.inl ⟨i,rfl,Or.inr ⟨hlt,hi3,uh HD,Or.inl ⟨rfl,uh HND⟩⟩⟩),_,rfl⟩
  ·by_cases he:s.size=0
   ·have hem:s=ByteArray.empty:=by
     have:s.data.size=0:=he
     cases s;simp_all [ByteArray.empty,ByteArray.emptyWithCapacity]
    subst hem
    go_wp2_with fail
    go_quiet (fail)
    go_wp2
    go_ret2
    exact ⟨Or.inr (Or.inl ⟨0,rfl,Or.inl ⟨rfl,rfl,rfl⟩⟩),_,rfl⟩
   ·have hem:s.toList.isEmpty=false:=by
     rw [Lib.toList_data]
     cases hl:s.data.toList with
     | nil=>exact absurd (by
      have:s.data.toList.length=0:=by rw [hl];rfl
      simpa using this) he
     | cons a l=>rfl
    go_wp2
    go_ret2
    exact ⟨Or.inl ⟨rfl,by omega,by omega,fun j h=>uh HD j h (by omega)⟩,0,rfl⟩
def dec (l:List UInt8):Int:=l.foldl (fun n c=>n*10+((c.toNat:Int) - 48)) 0
theorem dec_snoc (l:List UInt8) (c:UInt8):dec (l++[c])=dec l*10+((c.toNat:Int) - 48):=by simp [dec]
def Dig10 (l:List UInt8):Prop:=∀ c ∈ l,48<=c.toNat/\c.toNat<=57
theorem dec_bound':∀ (n:Nat) (l:List UInt8),l.length=n->Dig10 l->0<=dec l/\dec l<10 ^ n:=by
 intro n
 induction n with
 | zero=>intro l hl _;rw [List.eq_nil_of_length_eq_zero hl];simp [dec]
 | succ n ih =>
  intro l hl h
  have e:l=l.take n++[l[n]]:=by
   rw [<- List.take_succ_eq_append_getElem (by omega),List.take_of_length_le (by omega)]
  have hc:=h l[n] (List.getElem_mem _)
  obtain ⟨i1,i2⟩:=ih (l.take n) (by simp;omega) (fun d hd=>h d (List.mem_of_mem_take hd))
  rw [e,dec_snoc,Int.pow_succ]
  omega
theorem zjo {l:List UInt8} (h:Dig10 l):0<=dec l/\dec l<10 ^ l.length:=dec_bound' _ l rfl h
theorem ten18 {k:Nat} (h:k<=18):(10:Int) ^ k<=1000000000000000000:=by
 have:(10:Nat) ^ k<=10 ^ 18:=Nat.pow_le_pow_right (by decide) h
 have e:((10 ^ k:Nat):Int)=(10:Int) ^ k:=by simp
 rw [<- e];omega
theorem ten19 {k:Nat} (h:k<=19):(10:Int) ^ k<=10000000000000000000:=by
 have:(10:Nat) ^ k<=10 ^ 19:=Nat.pow_le_pow_right (by decide) h
 have e:((10 ^ k:Nat):Int)=(10:Int) ^ k:=by simp
 rw [<- e];omega
theorem btake_snoc (s:ByteArray) (k:Nat) (h:k<s.size):s.data.toList.take (k+1)=s.data.toList.take k++[s[k]]:=by
 rw [List.take_succ_eq_append_getElem (by simpa using h)];rfl
theorem readGroup_any (s:ByteArray) (w:World) (hs:s.size<=19) (hd:Dig10 s.data.toList) :
 Calls Tryz.prog 231 #[.string s] w fun e w'=>(∃ v,e=.returned v/\Zr 1 w' v (dec s.data.toList))/\Below w.heap.size w w':=by
 have HD:=qh hd
 clear hd
 go_enter Tryz.func231,Tryz.ntmps231
 go_wp2_with fail
 go_loop [3,7] (fun n v=>∃ (k:Nat) (m:Int),k<=s.size/\v=.int .i64 k/\n=.int .u64 m/\Hid (m=dec (s.data.toList.take k))) (fun _ v=>s.size - (intOf v).toNat)
 case atStart=>exact ⟨0,0,Nat.zero_le _,rfl,rfl,rfl⟩
 case round =>
  obtain ⟨k,m,hk,rfl,rfl,HM⟩:=hrel
  have hb:=zjo (l:=s.data.toList.take k) (fun c hc=>uh HD c (List.mem_of_mem_take hc))
  rw [<- uh HM,List.length_take,Nat.min_eq_left (by simpa using hk)] at hb
  by_cases hlt:k<s.size
  ·have b1:=hb.1
   have b2:m<1000000000000000000:=Int.lt_of_lt_of_le hb.2 (ten18 (by omega))
   have hc:=uh HD s[k] (by
    have:s[k]=s.data.toList[k]'(by simpa using hlt):=rfl
    rw [this];exact List.getElem_mem _)
   have c1:(48:Int)<=(s[k].toNat:Int):=by omega
   have c2:(s[k].toNat:Int)<=57:=by omega
   clear hb hc
   go_wp2
   go_round
   case rel=>exact ⟨k+1,_,by omega,by go_num,rfl,(by show _=_;rw [btake_snoc s k hlt,dec_snoc,uh HM])⟩
   case measure=>simp [intOf];omega
  ·have b1:=hb.1
   have b2:m<10000000000000000000:=Int.lt_of_lt_of_le hb.2 (ten19 (by omega))
   clear hb
   have hbox:=zqy w
   go_wp2_with fail
   go_fit (zkj 1 m _ (Or.inl rfl) b1 (by omega))
   rintro e w1 ⟨⟨v,rfl,hZ⟩,hb1⟩
   obtain ⟨u1,a1,n1,c1,hv1⟩:=hZ.shape
   subst hv1
   have hbx:=hbox.later hb1
   obtain ⟨⟨x0,g0⟩,⟨a0,n0,c0,g1⟩,gf⟩:=hbx.cells
   have hz:w.heap.size<w1.heap.size:=World.block_lt_of_cell? w1 _ g0
   go_wp2
   obtain ⟨st0,st1⟩:=hbx.stored (.int .i64 u1) (.slice a1 n1 c1)
   exact bodyPost_ret (v:=.agg #[.int .i64 u1,.slice a1 n1 c1]) (by simp [results,Tryz.results231,go_sem,st0,st1]) rfl ⟨⟨_,rfl,(hZ.stored hbx _ _).eq (by rw [Int.one_mul,uh HM,List.take_of_length_le (by simp;omega)])⟩,zqc (((Below.refl _ _).alloc (Nat.le_refl _) _).trans (hb1.mono (by simp))) (Nat.le_refl _) _ _⟩
theorem Zr.tight {N M:Nat}{w:World}{v:Value}{z:Int} (h:Zr N w v z) (hb:iabs z<pw M):Zr M w v z:=by
 rcases h with h | ⟨s,b,off,cap,l,h1,h2,h3,h4,h5,h6,h7,h8,h9,h10,h11⟩
 ·exact Or.inl h
 ·refine Or.inr ⟨s,b,off,cap,l,h1,h2,h3,h4,h5,h6,?_,h8,h9,h10,h11⟩
  have v0:=zqg h3
  have e:iabs z=val l:=by
   rw [h6];unfold iabs
   rcases h2 with rfl | rfl
   ·rw [if_neg (by omega)];omega
   ·split <;> omega
  rw [e] at hb
  have h12:=val_ge h3 h4 h5
  by_cases g:l.length<=M
  ·exact g
  ·have:=pw_mono (show M<=l.length - 1 by omega)
   omega
theorem zkf (a b:List UInt8):dec (a++b)=dec a*10 ^ b.length+dec b:=by
 have key:∀ (b:List UInt8) (n:Int),b.foldl (fun n c=>n*10+((c.toNat:Int) - 48)) n=n*10 ^ b.length+dec b:=by
  intro b
  induction b with
  | nil=>intro n;simp [dec]
  | cons c b ih =>
   intro n
   have e:=ih ((0:Int)*10+((c.toNat:Int) - 48))
   have e2:=ih (n*10+((c.toNat:Int) - 48))
   have e3:dec (c :: b)=b.foldl (fun n c=>n*10+((c.toNat:Int) - 48)) ((0:Int)*10+((c.toNat:Int) - 48)):=rfl
   rw [List.foldl_cons,e2,e3,e,List.length_cons,Int.pow_succ]
   grind
 unfold dec
 rw [List.foldl_append]
 exact key b _
theorem ten_pw (k:Nat):(10:Int) ^ (19*k)<=pw k:=by
 induction k with
 | zero=>simp [pw]
 | succ k ih =>
  rw [Nat.mul_succ,Int.pow_add,zkg]
  have:(10:Int) ^ 19=10000000000000000000:=by decide
  rw [this]
  have p:=zkm k
  omega
theorem zxk {a b:Nat} (h:a<=b):(10:Int) ^ a<=10 ^ b:=by
 have:(10:Nat) ^ a<=10 ^ b:=Nat.pow_le_pow_right (by decide) h
 have e:((10 ^ a:Nat):Int)=(10:Int) ^ a:=by simp
 have e':((10 ^ b:Nat):Int)=(10:Int) ^ b:=by simp
 rw [<- e,<- e'];omega
theorem dec_tight {l:List UInt8}{k:Nat} (h:Dig10 l) (hk:l.length<=19*k):iabs (dec l)<pw k:=by
 obtain ⟨h0,h1⟩:=zjo h
 have:=zxk hk
 have:=ten_pw k
 unfold iabs;rw [if_neg (by omega)];omega
structure Rd (w:World) (bz bf:Nat) (uf:Int) (af:Option Addr) (nf cf:Nat) (i:Nat) (z:Int) (u:Int) (a:Option Addr) (n c:Nat) (wr:World):Prop where
 below:Below w.heap.size w wr
 box:Box wr w.heap.size
 boxz:Box wr bz
 z0:wr.cell? ⟨bz,0,none⟩=some (.int .i64 u)
 z1:wr.cell? ⟨bz,1,none⟩=some (.slice a n c)
 f0:wr.cell? ⟨bf,0,none⟩=some (.int .i64 uf)
 f1:wr.cell? ⟨bf,1,none⟩=some (.slice af nf cf)
 zr:Zr (i+1) wr (.agg #[.int .i64 u,.slice a n c]) z
 fr:Zr 1 wr (.agg #[.int .i64 uf,.slice af nf cf]) 10000000000000000000
theorem Rd.keep {w:World}{bz bf:Nat}{uf:Int}{af:Option Addr}{nf cf i:Nat}{z u:Int}{a:Option Addr}{n c:Nat}{wr w1:World} (h:Rd w bz bf uf af nf cf i z u a n c wr) (hb:Below wr.heap.size wr w1):Rd w bz bf uf af nf cf i z u a n c w1 :=
 ⟨bk hb h.below,h.box.later hb,h.boxz.later hb,ck hb h.z0,ck hb h.z1,ck hb h.f0,ck hb h.f1,h.zr.later hb,h.fr.later hb⟩
theorem Rd.drew {w:World}{bz bf:Nat}{uf:Int}{af:Option Addr}{nf cf i:Nat}{z u:Int}{a:Option Addr}{n c:Nat}{wr:World} (h:Rd w bz bf uf af nf cf i z u a n c wr):Rd w bz bf uf af nf cf i z u a n c wr.drew :=
 ⟨h.below.drew,h.box,h.boxz,h.z0,h.z1,h.f0,h.f1,h.zr,h.fr⟩
theorem Rd.next {w:World}{bz bf:Nat}{uf:Int}{af:Option Addr}{nf cf i:Nat}{z u:Int}{a:Option Addr}{n c:Nat}{wr:World}{N:Nat}{z' u':Int}{a':Option Addr}{n' c':Nat} (h:Rd w bz bf uf af nf cf i z u a n c wr) (hz:Zr N wr (.agg #[.int .i64 u',.slice a' n' c']) z') (ht:iabs z'<pw (i+2)) (hb1:w.heap.size<bz) (hb2:bf≠bz) :
 Rd w bz bf uf af nf cf (i+1) z' u' a' n' c' ((wr.setCell ⟨bz,0,none⟩ (.int .i64 u')).setCell ⟨bz,1,none⟩ (.slice a' n' c')):=by
 obtain ⟨s0,s1⟩:=h.boxz.stored (.int .i64 u') (.slice a' n' c')
 refine ⟨zqc h.below (by omega) _ _,(h.box.other (by omega) _).other (by omega) _,h.boxz.stored' _ _ _ _,s0,s1,?_,?_,(hz.tight ht).stored h.boxz _ _,h.fr.stored h.boxz _ _⟩
 ·rw [zqb _ _ _ _ _ _ (by omega),zqb _ _ _ _ _ _ (by omega)];exact h.f0
 ·rw [zqb _ _ _ _ _ _ (by omega),zqb _ _ _ _ _ _ (by omega)];exact h.f1
theorem readDigits_any (s:ByteArray) (w:World) (hs:s.size<=300) (hd:Dig10 s.data.toList) :
 Calls Tryz.prog 214 #[.string s] w fun e w'=>(∃ v,e=.returned v/\Zr 16 w' v (dec s.data.toList))/\Below w.heap.size w w':=by
 have HD:=qh hd
 clear hd
 obtain ⟨f,hf⟩:∃ f,s.size % 19=f:=⟨_,rfl⟩
 obtain ⟨m,hm⟩:∃ m,s.size / 19=m:=⟨_,rfl⟩
 have hfm:Hid (s.size=f+19*m/\f<19/\m<=15):=⟨by omega,by omega,by omega⟩
 have hfi:(s.size:Int) % 19=(f:Int):=by omega
 have hmi:(s.size:Int) / 19=(m:Int):=by omega
 have hf19:f<19:=(uh hfm).2.1
 have hfs:f<=s.size:=by have:=(uh hfm).1;omega
 clear hf hm
 have hbox0:=zqy w
 go_enter Tryz.func214,Tryz.ntmps214
 go_wp2_with fail
 simp only [hfi]
 go_fit (readGroup_any (s.extract 0 f) _ (by rw [Lib.size_eq,Lib.extract_data];simp;omega) (by rw [Lib.extract_data];exact fun c hc=>uh HD c (List.mem_of_mem_drop (List.mem_of_mem_take hc))))
 rintro e w1 ⟨⟨v1,rfl,hZ1⟩,hb1⟩
 obtain ⟨u1,a1,n1,c1,hv1⟩:=hZ1.shape
 subst hv1
 have hbox1:=hbox0.later hb1
 have hbl1:Below w.heap.size w w1:=((Below.refl _ _).alloc (Nat.le_refl _) _).trans (hb1.mono (by simp))
 go_wp2_with fail
 go_fit (zkj 1 10000000000000000000 _ (Or.inl rfl) (by decide) (by decide))
 rintro e w2 ⟨⟨v2,rfl,hZ2⟩,hb2⟩
 obtain ⟨uf,af,nf,cf,hv2⟩:=hZ2.shape
 subst hv2
 obtain ⟨bz,hbz⟩:∃ bz,w1.heap.size=bz:=⟨_,rfl⟩
 have hbz0:w.heap.size<bz:=by rw [<- hbz];obtain ⟨⟨_,g⟩,_⟩:=hbox1.cells;exact World.block_lt_of_cell? w1 _ g
 have hboxz:Box (w1.alloc (.cells #[.int .i64 u1,.slice a1 n1 c1] 37)) bz:=by rw [<- hbz];exact ⟨_,_,_,_,heap_alloc_new w1 _⟩
 have hzc:(w1.alloc (.cells #[.int .i64 u1,.slice a1 n1 c1] 37)).cell? ⟨bz,0,none⟩=some (.int .i64 u1)/\(w1.alloc (.cells #[.int .i64 u1,.slice a1 n1 c1] 37)).cell? ⟨bz,1,none⟩=some (.slice a1 n1 c1):=by
  rw [<- hbz];exact ⟨by simp [go_sem],by simp [go_sem]⟩
 have hal1:Below w1.heap.size w1 (w1.alloc (.cells #[.int .i64 u1,.slice a1 n1 c1] 37)):=(Below.refl _ _).alloc (Nat.le_refl _) _
 have hR2:Below w.heap.size w w2/\Box w2 w.heap.size/\Box w2 bz/\w2.cell? ⟨bz,0,none⟩=some (.int .i64 u1)/\w2.cell? ⟨bz,1,none⟩=some (.slice a1 n1 c1)/\Zr 1 w2 (.agg #[.int .i64 u1,.slice a1 n1 c1]) (dec (s.extract 0 f).data.toList) :=
  ⟨bk hb2 (bk hal1 hbl1),(hbox1.later hal1).later hb2,hboxz.later hb2,ck hb2 hzc.1,ck hb2 hzc.2,(hZ1.later hal1).later hb2⟩
 have hbzw:bz<w2.heap.size:=by obtain ⟨⟨_,g⟩,_⟩:=hR2.2.2.1.cells;exact World.block_lt_of_cell? w2 _ g
 rw [hbz]
 clear hbz hboxz hzc hal1 hbox0 hbox1 hZ1 hb1 hbl1 hb2
 go_wp2_with fail
 obtain ⟨bf,hbf⟩:∃ bf,w2.heap.size=bf:=⟨_,rfl⟩
 obtain ⟨w3,hw3⟩:∃ w3,w3=w2.alloc (.cells #[.int .i64 uf,.slice af nf cf] 37):=⟨_,rfl⟩
 have hal2:Below w2.heap.size w2 w3:=by rw [hw3];exact (Below.refl _ _).alloc (Nat.le_refl _) _
 have hfc:w3.cell? ⟨bf,0,none⟩=some (.int .i64 uf)/\w3.cell? ⟨bf,1,none⟩=some (.slice af nf cf):=by rw [hw3,<- hbf];exact ⟨by simp [go_sem],by simp [go_sem]⟩
 have hR3:Rd w bz bf uf af nf cf 0 (dec (s.data.toList.take f)) u1 a1 n1 c1 w3:=by
  obtain ⟨r1,r2,r3,r4,r5,r6⟩:=hR2
  refine ⟨bk hal2 r1,r2.later hal2,r3.later hal2,ck hal2 r4,ck hal2 r5,hfc.1,hfc.2,(r6.later hal2).eq ?_,(hZ2.later hal2).eq (by omega)⟩
  rw [Lib.extract_data];simp
 have hbfz:bf≠bz:=by omega
 have hbf2:bz<bf:=by omega
 rw [<- hw3,hbf]
 clear hw3 hbf hal2 hfc hR2 hbzw hZ2
 go_loopw [19] (fun v wr=>∃ (i:Nat) (u:Int) (a:Option Addr) (n c:Nat),i<=m/\v=.int .i64 i/\Rd w bz bf uf af nf cf i (dec (s.data.toList.take (f+19*i))) u a n c wr) (fun v _=>m - (intOf v).toNat)
 case atStart=>exact ⟨0,u1,a1,n1,c1,Nat.zero_le _,rfl,by simpa using hR3⟩
 case round =>
  clear hR3
  obtain ⟨i,u,a,n,c,hi,rfl,hR⟩:=hrel
  have r0:=hR.z0;have r1:=hR.z1;have r2:=hR.f0;have r3:=hR.f1
  obtain ⟨_,_,rf⟩:=hR.boxz.cells
  by_cases hlt:i<m
  ·obtain ⟨j,hj⟩:∃ j,f+19*i=j:=⟨_,rfl⟩
   have t1:j+19<=s.size:=by have:=uh hfm;omega
   have hji:(f:Int)+(i:Int)*19=(j:Int):=by omega
   have q2:(j:Int)+19<=(s.size:Int):=by omega
   have q3:(j:Int)<=(j:Int)+19:=by omega
   rw [hj] at hR
   have hgl:(s.extract j (j+19)).data.toList=(s.data.toList.drop j).take 19:=by rw [Lib.extract_data,show j+19 - j=19 by omega]
   have hgs:(s.extract j (j+19)).size<=19:=by rw [Lib.size_eq,hgl];simp;omega
   have hgd:Dig10 (s.extract j (j+19)).data.toList:=by rw [hgl];exact fun c hc=>uh HD c (List.mem_of_mem_drop (List.mem_of_mem_take hc))
   have htk:s.data.toList.take (j+19)=s.data.toList.take j++(s.data.toList.drop j).take 19:=by rw [List.take_add]
   have hval:dec (s.data.toList.take j)*10000000000000000000+dec (s.extract j (j+19)).data.toList=dec (s.data.toList.take (j+19)):=by
    rw [htk,zkf,hgl]
    have:((s.data.toList.drop j).take 19).length=19:=by simp;rw [Lib.size_eq] at t1;simp at t1;omega
    rw [this];rfl
   have htight:iabs (dec (s.data.toList.take (j+19)))<pw (i+2):=dec_tight (fun c hc=>uh HD c (List.mem_of_mem_take hc)) (by simp;omega)
   have HVAL:=qh hval
   have HT:=qh htight
   have HJ:=qh hj
   have HG:=qh (And.intro hgs hgd)
   have hi15:i<=15:=by have:=uh hfm;omega
   clear hval htight hj hgl hgs hgd htk
   have hd0:=hR.drew
   go_wp2_with fail
   have hw1:IntKind.i64.wrap ((j:Int)+19)=(j:Int)+19:=by rw [IntKind.wrap_i64];omega
   have hw2:((j:Int)+19).toNat=j+19:=by omega
   have hw3:¬ ((j:Int)<0):=by omega
   have hw4:¬ ((s.size:Int)<(j:Int)+19):=by omega
   have hw5:¬ ((j:Int)+19<(j:Int)):=by omega
   go_region_with (first | (go_at_call 132;go_fit (mul_any (N:=i) (z:=dec (s.data.toList.take j)) (o:=10000000000000000000) _ hd0.zr (hd0.fr.mono (by omega)) (by omega));rintro e w4 ⟨⟨v4,rfl,hZ4⟩,hb4⟩;have hd1:=hd0.keep hb4) | (go_at_call 231;go_fit (readGroup_any _ _ (uh HG).1 (uh HG).2);rintro e w5 ⟨⟨v5,rfl,hZ5⟩,hb5⟩;have hd2:=hd1.keep hb5) | (go_at_call 111;go_fit (add_any (N:=i+1+i) _ ((hZ4.later hb5).mono (by omega)) (hZ5.mono (by omega)) (by omega));rintro e w6 ⟨⟨v6,rfl,hZ6⟩,hb6⟩;obtain ⟨u6,a6,n6,c6,hv6⟩:=hZ6.shape;subst hv6;have hd3:=hd2.keep hb6;obtain ⟨⟨x0,g0⟩,⟨a0,n0,c0,g1⟩,gf⟩:=hd3.boxz.cells))
   all_goals go_wp2
   all_goals go_roundw
   all_goals first | exact ⟨i+1,u6,a6,n6,c6,by omega,rfl,(by have:=Rd.next hd3 (hZ6.eq (uh HVAL)) (uh HT) (by omega) (by omega);rw [show f+19*(i+1)=j+19 by have:=uh HJ;omega];exact this)⟩ | (simp [intOf];omega)
  ·have hid:i=m:=by omega
   have hrb:Box wr w.heap.size:=hR.box
   obtain ⟨⟨x0,g0⟩,⟨a0,n0,c0,g1⟩,gf⟩:=hrb.cells
   have hz:w.heap.size<wr.heap.size:=World.block_lt_of_cell? wr _ g0
   have HID:=qh hid
   clear hid
   go_wp2
   obtain ⟨st0,st1⟩:=hrb.stored (.int .i64 u) (.slice a n c)
   refine bodyPost_ret (v:=.agg #[.int .i64 u,.slice a n c]) (by simp [results,Tryz.results214,go_sem,st0,st1]) rfl ⟨⟨_,rfl,((hR.zr.stored hrb _ _).mono ?_).eq ?_⟩,zqc hR.below (Nat.le_refl _) _ _⟩
   ·have:=uh HID;have:=uh hfm;omega
   ·rw [uh HID,<- (uh hfm).1,List.take_of_length_le (by simp)]
structure Vr (w:World) (b:Nat) (u:Int) (a:Option Addr) (n c N:Nat) (z:Int):Prop where
 c0:w.cell? ⟨b,0,none⟩=some (.int .i64 u)
 c1:w.cell? ⟨b,1,none⟩=some (.slice a n c)
 box:Box w b
 zr:Zr N w (.agg #[.int .i64 u,.slice a n c]) z
theorem Vr.frozen {w:World}{b:Nat}{u:Int}{a:Option Addr}{n c N:Nat}{z:Int} (h:Vr w b u a n c N z):∀ k,w.frozen? ⟨b,k,none⟩=false:=h.box.cells.2.2
theorem Vr.lt {w:World}{b:Nat}{u:Int}{a:Option Addr}{n c N:Nat}{z:Int} (h:Vr w b u a n c N z):b<w.heap.size:=World.block_lt_of_cell? w _ h.c0
theorem Vr.keep {w w1:World}{b:Nat}{u:Int}{a:Option Addr}{n c N:Nat}{z:Int} (h:Vr w b u a n c N z) (hb:Below w.heap.size w w1):Vr w1 b u a n c N z :=
 ⟨ck hb h.c0,ck hb h.c1,h.box.later hb,h.zr.later hb⟩
theorem zqa (w:World) (o:Obj):Below w.heap.size w (w.alloc o):=(Below.refl _ _).alloc (Nat.le_refl _) _
theorem Vr.new {w:World}{u:Int}{a:Option Addr}{n c N:Nat}{z:Int} (h:Zr N w (.agg #[.int .i64 u,.slice a n c]) z):Vr (w.alloc (.cells #[.int .i64 u,.slice a n c] 37)) w.heap.size u a n c N z :=
 ⟨by rw [zqe rfl];rfl,by rw [zqe rfl];rfl,⟨_,_,_,_,heap_alloc_new w _⟩,h.later (zqa w _)⟩
theorem Vr.store {w:World}{b:Nat}{u u':Int}{a a':Option Addr}{n c N n' c' M:Nat}{z z':Int} (h:Vr w b u a n c N z) (hz:Zr M w (.agg #[.int .i64 u',.slice a' n' c']) z'):Vr ((w.setCell ⟨b,0,none⟩ (.int .i64 u')).setCell ⟨b,1,none⟩ (.slice a' n' c')) b u' a' n' c' M z' :=
 ⟨(h.box.stored _ _).1,(h.box.stored _ _).2,h.box.stored' _ _ _ _,hz.stored h.box _ _⟩
theorem Vr.other {w:World}{b q:Nat}{u:Int}{a:Option Addr}{n c N:Nat}{z:Int} (h:Vr w b u a n c N z) (hq:Box w q) (hne:b≠q) (x:Int) (a':Option Addr) (n' c':Nat):Vr ((w.setCell ⟨q,0,none⟩ (.int .i64 x)).setCell ⟨q,1,none⟩ (.slice a' n' c')) b u a n c N z :=
 ⟨by rw [zqb _ _ _ _ _ _ (by omega),zqb _ _ _ _ _ _ (by omega)];exact h.c0,by rw [zqb _ _ _ _ _ _ (by omega),zqb _ _ _ _ _ _ (by omega)];exact h.c1,(h.box.other hne _).other hne _,h.zr.stored hq _ _⟩
theorem Vr.mono {w:World}{b:Nat}{u:Int}{a:Option Addr}{n c N M:Nat}{z:Int} (h:Vr w b u a n c N z) (hM:N<=M):Vr w b u a n c M z:=⟨h.c0,h.c1,h.box,h.zr.mono hM⟩
def digitsOf (s:ByteArray):ByteArray:=⟨(Lib.trimPrefix s.data.toList [45]).toArray⟩
def minusOf (s:ByteArray):Bool:=Lib.hasPrefix s.data.toList [45]
def numOf (s:ByteArray):Int:=if minusOf s then - dec (digitsOf s).data.toList else dec (digitsOf s).data.toList
theorem digitsOf_size (s:ByteArray):(digitsOf s).size<=s.size:=by
 show (Lib.trimPrefix s.data.toList [45]).toArray.size<=s.data.size
 unfold Lib.trimPrefix
 split <;> simp
theorem Good.dig {d:ByteArray} (h:Good d):Dig10 d.data.toList:=by
 intro c hc
 obtain ⟨j,hj,rfl⟩:=List.getElem_of_mem hc
 exact h.2.2 j (by simpa using hj)
theorem fault_world (w:World) (n:Nat) (x y:Value) (T:TypeId) :
 let X:=(((w.alloc (.cells #[.int .i64 0,.slice none 0 0] 37)).drewN n).setCell ⟨w.heap.size,0,none⟩ (.int .i64 0)).setCell ⟨w.heap.size,1,none⟩ (.slice none 0 0)
 (X.alloc (.cells #[x,y] T)).cell? ⟨w.heap.size,0,none⟩=some (.int .i64 0)/\(X.alloc (.cells #[x,y] T)).cell? ⟨w.heap.size,1,none⟩=some (.slice none 0 0) /\
 (X.alloc (.cells #[x,y] T)).cell? ⟨w.heap.size+1,0,none⟩=some x/\(X.alloc (.cells #[x,y] T)).cell? ⟨w.heap.size+1,1,none⟩=some y/\Below w.heap.size w (X.alloc (.cells #[x,y] T)):=by
 intro X
 have hal:=zqa w (.cells #[.int .i64 0,.slice none 0 0] 37)
 have hbx:Box ((w.alloc (.cells #[.int .i64 0,.slice none 0 0] 37)).drewN n) w.heap.size:=zqy w
 obtain ⟨s0,s1⟩:=hbx.stored (.int .i64 0) (.slice none 0 0)
 have hX:Below w.heap.size w X:=zqc (zqj hal n) (Nat.le_refl _) _ _
 have hz:X.heap.size=w.heap.size+1:=by
  show (World.setCell _ _ _).heap.size=_
  simp [World.setCell,World.drewN]
 have hk:=zqa X (.cells #[x,y] T)
 exact ⟨ck hk s0,ck hk s1,by rw [zqe hz];rfl,by rw [zqe hz];rfl,bk hk hX⟩
theorem read_any (s:ByteArray) (w:World) (t1 t2:TypeId) (p1 p2:Value) (hs:s.size<=maxLen) (h1:w.cell? ⟨1,0,none⟩=some (.iface t1 p1)) (h2:w.cell? ⟨2,0,none⟩=some (.iface t2 p2)) :
 Calls Tryz.prog 180 #[.string s] w fun e w'=>((∃ v,e=.returned (.tuple #[v,.nilIface])/\Good (digitsOf s)/\Zr 16 w' v (numOf s))\/(∃ (k:Nat) (text:Bool) (b:Nat),e=.returned (.tuple #[.agg #[.int .i64 0,.slice none 0 0],.iface 162 (.pointer (some ⟨b,0,none⟩))])/\Wrong (digitsOf s) k text/\w'.cell? ⟨b,0,none⟩=some (.int .i64 (((s.size - (digitsOf s).size:Nat):Int)+k))/\w'.cell? ⟨b,1,none⟩=some (if text then .iface t1 p1 else .iface t2 p2)))/\Below w.heap.size w w':=by
 have hbox0:=zqy w
 have hal:=zqa w (.cells #[.int .i64 0,.slice none 0 0] 37)
 have k1:=ck hal h1
 have k2:=ck hal h2
 go_enter Tryz.func180,Tryz.ntmps180
 go_wp2_with fail
 go_fit (Tryz.strings_CutPrefix s ⟨#[45]⟩ _)
 rintro e W1 ⟨rfl,rfl⟩
 have hds:=digitsOf_size s
 obtain ⟨d,HD⟩:∃ d,Hid (digitsOf s=d):=⟨_,rfl⟩
 obtain ⟨mi,HM⟩:∃ m,Hid (minusOf s=m):=⟨_,rfl⟩
 rw [show (⟨(Lib.trimPrefix s.data.toList [45]).toArray⟩:ByteArray)=d from uh HD,show Lib.hasPrefix s.data.toList [45]=mi from uh HM]
 rw [uh HD] at hds
 go_wp2_with fail
 go_fit (wrongDigit_any d _ t1 t2 p1 p2 (by omega) k1 k2)
 rintro e W2 ⟨hcase,n,rfl⟩
 rcases hcase with ⟨rfl,hg⟩ | ⟨k,rfl,hw⟩ | ⟨k,rfl,hw⟩
 ·have hbn:=zqj hal n
  go_wp2_with fail
  go_fit (readDigits_any d _ hg.2.1 hg.dig)
  rintro e W3 ⟨⟨v3,rfl,hZ3⟩,hb3⟩
  obtain ⟨u3,a3,n3,c3,hv3⟩:=hZ3.shape
  subst hv3
  have hbox3:Box W3 w.heap.size:=Box.later (w:=(w.alloc (.cells #[.int .i64 0,.slice none 0 0] 37)).drewN n) hbox0 hb3
  have hbl3:Below w.heap.size w W3:=bk hb3 hbn
  obtain ⟨⟨x0,g0⟩,⟨a0,n0,c0,g1⟩,gf⟩:=hbox3.cells
  have hlt:w.heap.size<W3.heap.size:=World.block_lt_of_cell? W3 _ g0
  have HG:=qh hg
  have HS:=qh hs
  clear hg k1 k2 hbox0 hal hb3 hbn h1 h2 hds hs
  cases mi
  ·go_wp2
   obtain ⟨s0,s1⟩:=hbox3.stored (.int .i64 u3) (.slice a3 n3 c3)
   have hk:=zqa ((W3.setCell ⟨w.heap.size,0,none⟩ (.int .i64 u3)).setCell ⟨w.heap.size,1,none⟩ (.slice a3 n3 c3)) (.cells #[.int .i64 u3,.slice a3 n3 c3] 37)
   have f0:=ck hk s0
   have f1:=ck hk s1
   exact bodyPost_ret (v:=.tuple #[.agg #[.int .i64 u3,.slice a3 n3 c3],.nilIface]) (by simp [results,Tryz.results180,go_sem,f0,f1]) rfl ⟨Or.inl ⟨_,rfl,by rw [show digitsOf s=d from uh HD];exact uh HG,((hZ3.stored hbox3 _ _).later hk).eq (by unfold numOf;rw [show minusOf s=false from uh HM,show digitsOf s=d from uh HD];rfl)⟩,bk hk (zqc hbl3 (Nat.le_refl _) _ _)⟩
  ·have hn3:=zqa W3 (.cells #[.int .i64 u3,.slice a3 n3 c3] 37)
   go_wp2_with fail
   go_fit (neg_any (N:=15) _ (hZ3.later hn3))
   rintro e W4 ⟨⟨v4,rfl,hZ4⟩,hb4⟩
   obtain ⟨u4,a4,n4,c4,hv4⟩:=hZ4.shape
   subst hv4
   have hbox4:Box W4 w.heap.size:=(hbox3.later hn3).later hb4
   have hbl4:Below w.heap.size w W4:=bk hb4 (bk hn3 hbl3)
   clear g0 g1 gf hlt
   obtain ⟨⟨x0,g0⟩,⟨a0,n0,c0,g1⟩,gf⟩:=hbox4.cells
   have hlt:w.heap.size<W4.heap.size:=World.block_lt_of_cell? W4 _ g0
   clear hn3 hb4
   go_wp2
   obtain ⟨s0,s1⟩:=hbox4.stored (.int .i64 u4) (.slice a4 n4 c4)
   exact bodyPost_ret (v:=.tuple #[.agg #[.int .i64 u4,.slice a4 n4 c4],.nilIface]) (by simp [results,Tryz.results180,go_sem,s0,s1]) rfl ⟨Or.inl ⟨_,rfl,by rw [show digitsOf s=d from uh HD];exact uh HG,(hZ4.stored hbox4 _ _).eq (by unfold numOf;rw [show minusOf s=true from uh HM,show digitsOf s=d from uh HD];rfl)⟩,zqc hbl4 (Nat.le_refl _) _ _⟩
 ·have hp:Hid (((s.size - (digitsOf s).size:Nat):Int)=(s.size:Int) - d.size):=by
   show _=_
   rw [show digitsOf s=d from uh HD];omega
  have hk:(k:Int)<=d.size:=by
   rcases hw with ⟨_,hk,_⟩ | ⟨hk,_⟩ <;> omega
  have HW:=qh hw
  clear hw
  unfold maxLen at hs
  go_wp2
  obtain ⟨f0,f1,f2,f3,f4⟩:=fault_world w n (.int .i64 ((s.size:Int) - d.size+k)) (.iface t1 p1) 166
  exact bodyPost_ret (v:=.tuple #[.agg #[.int .i64 0,.slice none 0 0],.iface 162 (.pointer (some ⟨w.heap.size+1,0,none⟩))]) (by simp [results,Tryz.results180,go_sem,f0,f1]) rfl ⟨Or.inr ⟨k,true,w.heap.size+1,rfl,by rw [show digitsOf s=d from uh HD];exact uh HW,by rw [show ((s.size - (digitsOf s).size:Nat):Int)=(s.size:Int) - d.size from uh hp];exact f2,f3⟩,f4⟩
 ·have hp:Hid (((s.size - (digitsOf s).size:Nat):Int)=(s.size:Int) - d.size):=by
   show _=_
   rw [show digitsOf s=d from uh HD];omega
  have hk:(k:Int)<=d.size:=by
   rcases hw with ⟨_,hk,_⟩ | ⟨hk,_⟩ <;> omega
  have HW:=qh hw
  clear hw
  unfold maxLen at hs
  go_wp2
  obtain ⟨f0,f1,f2,f3,f4⟩:=fault_world w n (.int .i64 ((s.size:Int) - d.size+k)) (.iface t2 p2) 166
  exact bodyPost_ret (v:=.tuple #[.agg #[.int .i64 0,.slice none 0 0],.iface 162 (.pointer (some ⟨w.heap.size+1,0,none⟩))]) (by simp [results,Tryz.results180,go_sem,f0,f1]) rfl ⟨Or.inr ⟨k,false,w.heap.size+1,rfl,by rw [show digitsOf s=d from uh HD];exact uh HW,by rw [show ((s.size - (digitsOf s).size:Nat):Int)=(s.size:Int) - d.size from uh hp];exact f2,f3⟩,f4⟩
theorem below_grow (w:World) (k:Nat) (os:Array Obj):Below w.heap.size w (Sort.grow (w.drewN k) os) :=
 ⟨rfl,rfl,rfl,by simp [Sort.grow,World.drewN],fun i hi=>by simp [Sort.grow,World.drewN,Array.getElem?_append,hi]⟩
theorem zkq {w w':World}{name:String}{k:IntKind}{zs:List Int} (h:Lib.TabIs Tryz.prog w name k zs) (hb:Below w.heap.size w w'):Lib.TabIs Tryz.prog w' name k zs:=Lib.tabBelow_of_tabIs h w' hb
theorem text_near (n : Int) (h0 : -9223372036854775808 ≤ n) (h1 : n ≤ 9223372036854775807) (w : World) (htab : Lib.TabIs Tryz.prog w "internal/strconv.uint64pow10" .u64 Lib.pow10Tab) :
 Calls Tryz.prog 66 #[.agg #[.int .i64 n,.slice none 0 0]] w fun e w'=>e=.returned (.string ⟨(Lib.itoa n).toArray⟩)/\Below w.heap.size w w':=by
 have hal:=zqa w (.cells #[.int .i64 n,.slice none 0 0] 37)
 have HT:=qh htab
 clear htab
 have hq:=eql_none
 go_enter Tryz.func66,Tryz.ntmps66
 go_wp2_with fail
 go_fit (Tryz.strconv_FormatInt_10 n h0 h1 _ (zkq (uh HT) hal))
 rintro e W1 ⟨rfl,k,os,hW1⟩
 have hb1:Below w.heap.size w W1:=by
  rw [hW1];exact bk (below_grow _ k os) hal
 clear hW1 hal
 go_wp2
 go_ret
 exact ⟨rfl,hb1⟩
theorem info_u64:(Tryz.prog.info? 200).map (fun i=>(i.zero,i.size,i.bytes))=some (some (.int .u64 0),1,8):=by kernel_rfl
theorem clone_any (b off cap:Nat) (l:List Int) (w:World) (hr:Row w b off l) (hne:l≠[]) (_hl:l.length<=cap) (_hcap:cap<=9223372036854775807) (hln:l.length<=1000000) :
 Calls Tryz.prog 172 #[.slice (some ⟨b,off,none⟩) l.length cap] w fun e w'=>(∃ g c,e=.returned (.slice (some ⟨g,0,none⟩) l.length c)/\w.heap.size<=g/\Row w' g 0 l/\Free w' g/\l.length<=c/\c<=maxLen)/\Below w.heap.size w w':=by
 obtain ⟨i0,hi,hz0,hz1,hz2⟩:=info_parts info_u64
 have hq:=eql_any (some ⟨b,off,none⟩) l.length cap
 go_enter Tryz.func172,Tryz.ntmps172
 have hown0:(w.alloc (.cells #[] 200)).ownsRow w.heap.size 200 1 (.slice (some ⟨w.heap.size,0,none⟩) 0 0) 0 []:=World.ownsRow_lit w #[] 0 (Nat.le_refl _) (Nat.zero_le _) rfl
 have hk:=zqa w (.cells #[] 200)
 have hr':=hr.later hk
 go_wp2_with (at_builtin;refine wpList_append_own _ rfl _ _ 35 rfl w.heap.size 200 i0 (.int .u64 0) 1 8 Tryz.underlying35 hi hz0 hz1 hz2 rfl (by decide) _ _ _ rfl hown0 ⟨b,off,none⟩ l.length cap (l.map (Value.int .u64)) rfl ?hl ?c1 ?c2 ?c3 ?c4 ?c5 ?_)
 case hl=>simp
 case c1 =>
  intro j u hj
  have hjl:j<l.length:=by
   have:=(List.getElem?_eq_some_iff.1 hj).1
   simpa using this
  have hu:u=.int .u64 (nth l j):=by
   rw [List.getElem?_map,List.getElem?_eq_getElem hjl] at hj
   simp only [Option.map_some,Option.some.injEq] at hj
   rw [<- hj]
   simp [nth,hjl]
  rw [hu,show (⟨b,off,none⟩:Addr).add j=⟨b,off+j,none⟩ by unfold Addr.add;split <;> simp_all]
  exact hr' j hjl
 case c2 =>
  intro u hu
  obtain ⟨x,_,rfl⟩:=List.mem_map.1 hu
  rfl
 case c3=>unfold maxLen;omega
 case c4=>omega
 case c5=>simp
 intro v' w1 hown' hgrow hnil
 have hB:Below w.heap.size w w1:=hk.grown hgrow (by simp) (fun k hk'=>by simp [Value.ownBlock] at hk';omega)
 obtain ⟨q1,⟨rfl,q2⟩ | ⟨g,c,cur,rfl,q3,q4,q5,q6,q7,q8⟩⟩:=hown'
 ·exfalso;exact hne (List.eq_nil_of_length_eq_zero (by omega))
 ·have hrow:Row w1 g 0 l:=by
   intro k hk'
   have e:cur[k]? = (cur.toList.take (l.length*1))[k]? := by
    rw [List.getElem?_take,if_pos (by omega)];simp
   simp only [World.cell?,Nat.zero_add,q4]
   rw [e,q8]
   simp [nth,hk']
  have hfree:Free w1 g:=⟨cur,_,q4⟩
  have hle:l.length<=c:=by omega
  have hcm:=q6
  clear hgrow hnil hown0 hr' hk q1 q4 q5 q6 q7 q8
  go_wp2
  go_ret
  exact ⟨⟨g,c,by simp,q3,hrow,hfree,hle,hcm⟩,hB⟩
abbrev p19:Int:=10000000000000000000
def v19:List Int->Int
 | []=>0
 | d :: l=>d+p19*v19 l
theorem v19_append (a b:List Int):v19 (a++b)=v19 a+p19 ^ a.length*v19 b:=by
 induction a with
 | nil=>simp [v19]
 | cons d l ih=>simp only [List.cons_append,v19,ih,List.length_cons,Int.pow_succ,Int.mul_add];rw [Int.mul_comm (p19 ^ l.length) p19,Int.mul_assoc];omega
def P19 (l:List Int):Prop:=∀ d ∈ l,0<=d/\d<p19
theorem val_zeros {l:List Int} (h:∀ k,nth l k=0):val l=0:=by
 induction l with
 | nil=>simp [val]
 | cons d l ih =>
  have h0:d=0:=by have:=h 0;simpa [nth] using this
  have h1:=ih (fun k=>by have:=h (k+1);simpa [nth] using this)
  simp [val,h0,h1]
theorem val_take {l:List Int}{m:Nat} (hm:m<=l.length) (h:∀ k,m<=k->nth l k=0):val (l.take m)=val l:=by
 rw [zxm l m hm,val_zeros (l:=l.drop m) (fun k=>by have:=h (m+k) (by omega);simpa [nth] using this)]
 omega
theorem trim_cut {l:List Int}{m:Nat} (hm:m<=l.length) (h:m=0\/nth l (m - 1)≠0):Trim (l.take m):=by
 rcases h with rfl | h
 ·exact Or.inl (by simp)
 ·by_cases hm0:m=0
  ·subst hm0;exact Or.inl (by simp)
  ·refine Or.inr ?_
   rw [List.length_take,Nat.min_eq_left hm]
   unfold nth at h ⊢
   rw [List.getElem?_take,if_pos (by omega)];exact h
theorem pow_bound {n k:Nat}{v:Int} (h1:p19 ^ k<=v) (h2:v<pw n):k<=2*n:=by
 rcases Nat.lt_or_ge (2*n) k with h | h
 ·exfalso
  have e1:∀ n,pw n<=p19 ^ (2*n):=by
   intro n
   induction n with
   | zero=>simp [pw]
   | succ n ih =>
    have hp:(0:Int)<p19 ^ (2*n):=Int.pow_pos (by decide)
    rw [zkg,show 2*(n+1)=2*n+1+1 by omega,Int.pow_succ,Int.pow_succ]
    unfold p19 at *
    omega
  have e2:p19 ^ (2*n)<=p19 ^ k:=by
   obtain ⟨j,rfl⟩:∃ j,k=2*n+j:=⟨k - 2*n,by omega⟩
   rw [Int.pow_add]
   have hp:(0:Int)<p19 ^ (2*n):=Int.pow_pos (by decide)
   have hq:(0:Int)<p19 ^ j:=Int.pow_pos (by decide)
   have:=Int.mul_le_mul_of_nonneg_left (show (1:Int)<=p19 ^ j by omega) (Int.le_of_lt hp)
   omega
  have:=e1 n
  omega
 ·exact h
structure GrK (l:List Int) (w:World) (g c:Nat) (L:List Int) (v:Value) (G:List Int) (wr:World):Prop where
 row:Row wr g 0 L
 free:Free wr g
 words:Ws L
 trim:Trim L
 cap:L.length<=c
 less:L.length<=l.length
 own:wr.ownsRow (g+1) 200 1 v G.length (G.map (Value.int .u64))
 groups:P19 G
 sum:val l=v19 G+p19 ^ G.length*val L
 top:G=[]\/L≠[]\/nth G (G.length - 1)≠0
 below:Below w.heap.size w wr
theorem edit_grown {g o n:Nat}{w w':World} (h:Edit g o n w w'):w.grownBy w' (some g):=⟨h.os,h.tape,h.output,h.size,fun k hk hne=>h.other k hk (fun e=>hne (by rw [e]))⟩
theorem v19_nonneg {l:List Int} (h:P19 l):0<=v19 l:=by
 induction l with
 | nil=>simp [v19]
 | cons d l ih =>
  have h1:=h d (List.mem_cons_self ..)
  have h2:=ih (fun x hx=>h x (List.mem_cons_of_mem _ hx))
  simp only [v19];unfold p19 at *;omega
theorem GrK.count {l:List Int}{w:World}{g c:Nat}{L:List Int}{v:Value}{G:List Int}{wr:World} (h:GrK l w g c L v G wr) (hl:Ws l) (hne:L≠[]):G.length<=2*l.length:=by
 have h1:0<val L:=by
  have:=val_ge h.words h.trim hne
  have:=zkm (L.length - 1)
  omega
 have h2:=v19_nonneg h.groups
 have h3:(p19:Int) ^ G.length*1<=p19 ^ G.length*val L:=Int.mul_le_mul_of_nonneg_left (by omega) (Int.le_of_lt (Int.pow_pos (by decide)))
 have h4:=h.sum
 exact pow_bound (v:=val l) (by omega) (val_lt hl)
theorem GrK.apart {l:List Int}{w:World}{g c:Nat}{L:List Int}{v:Value}{G:List Int}{wr:World} (h:GrK l w g c L v G wr):v.ownBlock=none\/v.ownBlock≠some g:=by
 refine Or.inr fun e => ?_
 have:=(h.own.lt g e).1
 omega
theorem GrK.row2 {l:List Int}{w:World}{g c:Nat}{L out:List Int}{v:Value}{G:List Int}{wr W1 W2:World}{o:Obj} (h:GrK l w g c L v G wr) (hE:Edit g 0 L.length wr W1) (hrow:Row W1 g 0 out) (hgr:(W1.alloc o).grownBy W2 v.ownBlock):Row W2 g 0 out:=by
 have hlt:=h.own.lt
 have hg1:=(hE.free h.free).lt
 have hblk:W2.heap[g]? = W1.heap[g]? := by
  rw [hgr.block g (by simp;omega) (fun e=>by have:=(hlt g e.symm).1;omega),Below.heap_alloc _ _ _ hg1]
 exact fun k hk=>by
  rw [World.cell?_of_block (w:=W1) (a:=⟨g,0+k,none⟩) hblk];exact hrow k hk
theorem GrK.step {l:List Int}{w:World}{g c:Nat}{L out:List Int}{v v':Value}{G:List Int}{wr W1 W2:World}{r:Int}{m:Nat}{o:Obj} (h:GrK l w g c L v G wr) (hg:w.heap.size<=g) (hne:L≠[])
 (hE:Edit g 0 L.length wr W1) (hrow:Row W1 g 0 out) (hlen:out.length=L.length) (hws:Ws out) (hval:val L=val out*p19+r) (r0:0<=r) (r1:r<p19)
 (hown:W2.ownsRow (g+1) 200 1 v' (G.length+1) (G.map (Value.int .u64)++[.int .u64 r])) (hgr:(W1.alloc o).grownBy W2 v.ownBlock)
 (hm:m<=out.length) (hz:∀ k,m<=k->nth out k=0) (ht:m=0\/nth out (m - 1)≠0):GrK l w g c (out.take m) v' (G++[r]) W2:=by
 have hlt:=h.own.lt
 have hgl:=h.free.lt
 have hf1:=hE.free h.free
 have hg1:=hf1.lt
 have hblk:W2.heap[g]? = W1.heap[g]? := by
  rw [hgr.block g (by simp;omega) (fun e=>by have:=(hlt g e.symm).1;omega),Below.heap_alloc _ _ _ hg1]
 have hrow2:Row W2 g 0 out:=fun k hk=>by
  rw [World.cell?_of_block (w:=W1) (a:=⟨g,0+k,none⟩) hblk];exact hrow k hk
 have hB1:Below w.heap.size w W1:=h.below.trans ⟨hE.os,hE.tape,hE.output,hE.size,fun k hk=>hE.other k (Nat.lt_of_lt_of_le hk h.below.size) (by omega)⟩
 refine ⟨hrow2.take m,?_,hws.take m,trim_cut hm ht,?_,?_,by simpa using hown,?_,?_,?_,?_⟩
 ·obtain ⟨cur,e,hf⟩:=hf1
  exact ⟨cur,e,hblk.trans hf⟩
 ·have:=h.cap;rw [List.length_take];omega
 ·have:=h.less;rw [List.length_take];omega
 ·intro d hd
  rcases List.mem_append.1 hd with hd | hd
  ·exact h.groups d hd
  ·have:d=r:=by simpa using hd
   subst this;exact ⟨r0,r1⟩
 ·rw [v19_append,h.sum,List.length_append,Int.pow_add,val_take hm hz,hval]
  simp only [v19,List.length_cons,List.length_nil,Int.mul_zero,Int.add_zero,Int.mul_add]
  rw [show (p19:Int) ^ (0+1)=p19 by rw [Int.pow_succ,Int.pow_zero,Int.one_mul],Int.mul_comm (val out) p19,Int.mul_assoc]
  omega
 ·by_cases e:out.take m=[]
  ·refine Or.inr (Or.inr ?_)
   rw [show (G++[r]).length - 1=G.length by simp]
   have e2:nth (G++[r]) G.length=r:=by simp [nth]
   rw [e2]
   have h0:val out=0:=by rw [<- val_take hm hz,e];simp [val]
   have h1:=val_ge h.words h.trim hne
   have h2:=zkm (L.length - 1)
   rw [h0] at hval
   omega
  ·exact Or.inr (Or.inl e)
 ·exact (hB1.alloc hB1.size o).grown hgr (by have:=hB1.size;simp only [World.alloc,Array.size_push];omega) (fun k hk=>by have:=(hlt k hk).1;omega)
theorem trim_wide (b off cap:Nat) (l:List Int) (w:World) (hr:Row w b off l) (hl:l.length<=cap) (hcap:cap<=9223372036854775807) :
 Calls Tryz.prog 174 #[.slice (some ⟨b,off,none⟩) l.length cap] w fun e w'=>(∃ m,m<=l.length/\e=.returned (.slice (some ⟨b,off,none⟩) m cap)/\(∀ k,m<=k->nth l k=0)/\(m=0\/nth l (m - 1)≠0))/\w'=w:=by
 go_enter Tryz.func174,Tryz.ntmps174
 go_wp2
 go_loop [0] (fun v=>∃ m:Nat,m<=l.length/\v=.slice (some ⟨b,off,none⟩) m cap/\∀ k,m<=k->nth l k=0) lenOf
 case atStart=>exact ⟨l.length,Nat.le_refl _,rfl,fun k hk=>zky hk⟩
 case round =>
  obtain ⟨m,hm,rfl,hz⟩:=hrel
  have HZ:=qh hz
  clear hz
  by_cases hm0:m=0
  ·subst hm0
   go_wp2
   go_ret
   exact ⟨⟨0,Nat.zero_le _,rfl,uh HZ,Or.inl rfl⟩,rfl⟩
  ·have hc:=hr (m - 1) (by omega)
   by_cases hx:nth l (m - 1)=0
   ·have HX:=qh hx
    rw [hx] at hc
    clear hx
    go_wp2
    go_round
    case rel =>
     refine ⟨m - 1,by omega,rfl,fun k hk => ?_⟩
     by_cases e:k=m - 1
     ·rw [e];exact uh HX
     ·exact uh HZ k (by omega)
    case measure=>simp [lenOf];omega
   ·go_wp2
    go_ret
    exact ⟨⟨m,hm,rfl,uh HZ,Or.inr hx⟩,rfl⟩
theorem own_len {w:World}{base:Nat}{v:Value}{n:Nat}{xs:List Value} (h:w.ownsRow base 200 1 v n xs):∃ a k,v=.slice a n k:=by
 obtain ⟨_,⟨rfl,rfl⟩ | ⟨g,cap,cur,rfl,_⟩⟩:=h
 ·exact ⟨_,_,rfl⟩
 ·exact ⟨_,_,rfl⟩
theorem own_row {w:World}{base:Nat}{v:Value}{G:List Int} (h:w.ownsRow base 200 1 v G.length (G.map (Value.int .u64))) (hne:G≠[]):∃ g c,v=.slice (some ⟨g,0,none⟩) G.length c/\Row w g 0 G/\G.length<=c/\∃ cur,w.heap[g]? = some (.cells cur 200 (0,0)):=by
 obtain ⟨h0,⟨rfl,h2⟩ | ⟨g,cap,cur,rfl,h3,h4,h5,h6,h7,h8⟩⟩:=h
 ·exact absurd (List.eq_nil_of_length_eq_zero h2) hne
 ·refine ⟨g,cap,rfl,fun k hk => ?_,h5,cur,h4⟩
  have e:cur[k]? = (cur.toList.take (G.length*1))[k]? := by
   rw [List.getElem?_take,if_pos (by omega)];simp
  simp only [World.cell?,h4,Nat.zero_add]
  rw [e,h8]
  simp [nth,hk]
theorem GrK.done {l:List Int}{w:World}{g c:Nat}{v:Value}{G:List Int}{wr:World} (h:GrK l w g c [] v G wr) (hw:Ws l) (ht:Trim l) (hne:l≠[]):v19 G=val l/\G≠[]/\Trim G:=by
 have hs:=h.sum
 simp only [val,Int.mul_zero,Int.add_zero] at hs
 refine ⟨hs.symm,?_,?_⟩
 ·rintro rfl
  have h1:=val_ge hw ht hne
  have h2:=zkm (l.length - 1)
  simp only [v19] at hs
  omega
 ·rcases h.top with e | e | e
  ·exact Or.inl e
  ·exact absurd rfl e
  ·exact Or.inr e
theorem groupsOf_any (b off cap:Nat) (l:List Int) (w:World) (hr:Row w b off l) (hw:Ws l) (ht:Trim l) (hne:l≠[]) (hl:l.length<=cap) (hcap:cap<=9223372036854775807) (hsm:l.length<=20000) :
 Calls Tryz.prog 121 #[.slice (some ⟨b,off,none⟩) l.length cap] w fun e w'=>(∃ g c G,e=.returned (.slice (some ⟨g,0,none⟩) G.length c)/\Row w' g 0 G/\P19 G/\Trim G/\G≠[]/\G.length<=40001/\G.length<=c/\v19 G=val l/\∃ cur,w'.heap[g]? = some (.cells cur 200 (0,0)))/\Below w.heap.size w w':=by
 obtain ⟨i0,hi,hz0,hz1,hz2⟩:=info_parts info_u64
 have HW:=qh hw
 go_enter Tryz.func121,Tryz.ntmps121
 go_wp2_with fail
 go_fit (clone_any b off cap l _ hr hne hl hcap (by omega))
 rintro e W0 ⟨⟨g,c,rfl,hg,hrow,hfree,hlc,hcm⟩,hb0⟩
 have hc63:c<=9223372036854775807:=by unfold maxLen at hcm;omega
 clear hcm
 have hK:GrK l w g c l (.slice none 0 0) [] W0:=⟨hrow,hfree,hw,ht,hlc,Nat.le_refl _,World.ownsRow_nil _ _ _ _,fun d hd=>by simp at hd,by simp [v19],Or.inl rfl,hb0⟩
 have HT:=qh ht
 clear hrow hfree hb0 hr ht hw
 go_wp2_with fail
 go_loopw [3,4] (fun v x wr=>∃ (L G:List Int),G.length<=40001/\x=.slice (some ⟨g,0,none⟩) L.length c/\GrK l w g c L v G wr) (fun v _ _=>2*l.length+2 - lenOf v)
 case atStart=>exact ⟨l,[],by simp,rfl,hK⟩
 case round =>
  obtain ⟨L,G,hGl,rfl,hk⟩:=hrel
  clear hK
  obtain ⟨va,vc,rfl⟩:=own_len hk.own
  by_cases hL:L=[]
  ·subst hL
   obtain ⟨d1,d2,d3⟩:=hk.done (uh HW) (uh HT) hne
   obtain ⟨g',c',e1,e2,e3,e4⟩:=own_row hk.own d2
   have D1:=qh d1
   have D2:=qh d2
   have hB:=hk.below
   have hP:=hk.groups
   clear d1 d2 hk
   obtain ⟨rfl,_,rfl⟩:va=some ⟨g',0,none⟩/\G.length=G.length/\vc=c':=by simpa using e1
   clear e1
   go_wp2
   go_ret
   exact ⟨⟨g',vc,G,rfl,e2,hP,d3,uh D2,hGl,e3,uh D1,e4⟩,hB⟩
  ·have hLp:0<L.length:=List.length_pos_iff.2 hL
   have hLi:(0:Int)<L.length:=by omega
   have hcnt:=hk.count (uh HW) hL
   have hLl:=hk.less
   have HL:=qh hL
   clear hL
   go_wp2_with fail
   go_fit (divideWord_any g 0 c L.length L p19 _ hk.row hk.free hk.words (by constructor <;> decide) (by decide) rfl (by omega))
   rintro e W1 ⟨r,out,rfl,r0,r1,ho,hws,hval,hrow,hE⟩
   have hown1:=hk.own.kept (edit_grown hE) hk.apart
   have HVAL:=qh hval
   have HO:=qh ho
   have R1:=qh r1
   have hr64:r<=18446744073709551615:=by unfold p19 at r1;omega
   have hgW:g<W1.heap.size:=(hE.free hk.free).lt
   clear hval ho r1
   go_wp2_with (at_builtin;refine wpList_append_own _ rfl _ _ 35 rfl (g+1) 200 i0 (.int .u64 0) 1 8 Tryz.underlying35 hi hz0 hz1 hz2 rfl (by decide) _ _ _ rfl (hown1.alloc _) ⟨W1.heap.size,0,none⟩ 1 1 [.int .u64 r] rfl rfl ?c1 ?c2 ?c3 ?c4 ?c5 ?_)
   case c1 =>
    intro j u hj
    match j,hj with
    | 0,hj=>simp at hj;subst hj;simp [Addr.add]
   case c2=>intro u hu;simp at hu;subst hu;rfl
   case c3=>unfold maxLen;omega
   case c4=>omega
   case c5=>simp;omega
   ·intro v' W2 hown' hgrow _
    obtain ⟨va',vc',rfl⟩:=own_len hown'
    have hrow2:=hk.row2 hE hrow hgrow
    have hT:=trim_wide g 0 c out W2 hrow2 (by rw [uh HO];exact hk.cap) hc63
    rw [uh HO] at hT
    clear hown1 hrow2
    go_wp2_with fail
    go_fit hT
    rintro e W3 ⟨⟨m,hm,rfl,hz,htr⟩,rfl⟩
    have R:=hk.step hg (uh HL) hE hrow (uh HO) hws (uh HVAL) r0 (uh R1) hown' hgrow (by rw [uh HO];exact hm) hz htr
    clear hown' hgrow hk hE hrow hws hz htr hT
    go_wp2
    go_roundw
    case rel=>exact ⟨out.take m,G++[r],by rw [List.length_append];simp only [List.length_cons,List.length_nil];omega,by rw [List.length_take,uh HO,Nat.min_eq_left hm],R⟩
    case measure=>simp [lenOf];omega
theorem int64_near (n:Int) (w:World) :
 Calls Tryz.prog 133 #[.agg #[.int .i64 n,.slice none 0 0]] w fun e w'=>e=.returned (.tuple #[.int .i64 n,.bool true])/\Below w.heap.size w w':=by
 have hq:=eql_none
 go_enter Tryz.func133,Tryz.ntmps133
 go_wp2
 go_ret2
 exact ⟨rfl,zqa w _⟩
theorem int64_far (u:Int) (b off n c:Nat) (w:World) :
 Calls Tryz.prog 133 #[.agg #[.int .i64 u,.slice (some ⟨b,off,none⟩) n c]] w fun e w'=>e=.returned (.tuple #[.int .i64 0,.bool false])/\Below w.heap.size w w':=by
 have hq:=eql_some b off n c
 go_enter Tryz.func133,Tryz.ntmps133
 go_wp2
 go_ret2
 exact ⟨rfl,zqa w _⟩
theorem int64_any {N:Nat}{v:Value}{z:Int} (w:World) (hz:Zr N w v z) :
 Calls Tryz.prog 133 #[v] w fun e w'=>((-9223372036854775808<=z/\z<=9223372036854775807/\e=.returned (.tuple #[.int .i64 z,.bool true]))\/((z < -9223372036854775808\/9223372036854775807<z)/\e=.returned (.tuple #[.int .i64 0,.bool false])))/\Below w.heap.size w w':=by
 rcases hz with ⟨rfl,h0,h1⟩ | ⟨s,b,off,cap,l,rfl,_,_,_,_,_,_,_,_,_,hbig⟩
 ·exact (int64_near z w).mono fun e w' ⟨h,hb⟩=>⟨Or.inl ⟨h0,h1,h⟩,hb⟩
 ·exact (int64_far _ _ _ _ _ w).mono fun e w' ⟨h,hb⟩=>⟨Or.inr ⟨hbig,h⟩,hb⟩
theorem formatUintIn_any (u : Nat) (hu64 : u < 18446744073709551616) (w : World) (htab : Lib.TabIs Tryz.prog w "internal/strconv.uint64pow10" .u64 Lib.pow10Tab) :
 Calls Tryz.prog 175 #[.int .u64 u,.int .i64 10] w fun e w'=>e=.returned (.string ⟨(Lib.decDigits u).toArray⟩)/\Below w.heap.size w w':=by
 by_cases hs:u<100
 ·have hsi:(u:Int)<100:=by omega
  go_enter Tryz.func175,Tryz.ntmps175
  go_wp2_with fail
  go_fit (Tryz.internal_strconv_small u hs _)
  rintro e w1 ⟨rfl,rfl⟩
  go_wp2
  go_ret
  exact ⟨rfl,Below.refl _ _⟩
 ·have hu1:1<=u:=by omega
  have hsi:¬ (u:Int)<100:=by omega
  have hnd20:Lib.nDigits u<=20:=by have:=Lib.numDigits_eq u hu1 hu64;split at this <;> omega
  have hal:Tryz.prog.arrayLen 296=24:=by simp [Program.arrayLen,Tryz.underlying296]
  have hsl1:∀ W,(Instr.sliceAt 296 (.pointer (some ⟨w.heap.size,0,none⟩)) none (some (.int .i64 (Lib.nDigits u:Int))) none).run Tryz.prog W=.ok (.slice (some ⟨w.heap.size,0,none⟩) (Lib.nDigits u) 24) W:=fun W=>by
   rw [run_sliceAt_array_h W 296 ⟨w.heap.size,0,none⟩ (by simp [Program.arrayLen,Program.elem,Tryz.underlying296]) .i64 (Lib.nDigits u:Int) (by omega) (by rw [hal];omega)]
   go_simp
  have hH0:=Lib.holds_zero0 w 296 (Lib.nDigits u) (by omega)
  have hfmt:=Tryz.internal_strconv_formatBase10 w.heap.size 0 24 u (Array.replicate (Lib.nDigits u) 0) (w.alloc (.cells Lib.zeros24 296)) hH0 (by rw [Array.size_replicate];exact Lib.lt_pow_nDigits u) hu64 (by rw [Array.size_replicate];omega)
  rw [Array.size_replicate] at hfmt
  have HH0:=qh hH0
  have HF:=qh hfmt
  have HTAB:=qh (Lib.tabIs_alloc htab (.cells Lib.zeros24 296))
  clear hH0 hal hfmt htab
  go_enter Tryz.func175,Tryz.ntmps175
  go_wp2_with fail
  go_fit (Tryz.internal_strconv_numDigits u hu1 hu64 _ (uh HTAB))
  rintro e w1 ⟨rfl,rfl⟩
  go_wp2_with fail
  go_fit (uh HF)
  rintro e w2 ⟨rfl,k,v',dk,hw2,hF⟩
  have hcv:(convert 194 9 (.slice (some ⟨w.heap.size,0,none⟩) (Lib.nDigits u) 24)).run Tryz.prog w2=.ok (.string ⟨(Lib.decDigits u).toArray⟩) w2:=by
   have h:=run_convert_bytes_back (P:=Tryz.prog) w2 194 9 5 ⟨w.heap.size,0,none⟩ 24 (Lib.decDigits u) Tryz.underlying194 Tryz.underlying5 Tryz.underlying9 (fun j hj=>by
    rw [Lib.row_is_numeral hF j hj,Lib.add_plain,hw2,World.cell?_drewN]
    exact Sort.cell?_putRow (fun (b:UInt8)=>Value.int .u8 (b.toNat:Int)) _ w.heap.size 0 _ dk (uh HH0) (by rw [hF.size,Array.size_replicate]) j (by rw [hF.size];rw [Lib.decDigits_length] at hj;exact hj))
   rw [Lib.decDigits_length] at h
   exact h
  have hB:Below w.heap.size w w2:=by
   rw [hw2,Sort.alloc_eq_grow]
   obtain ⟨os',_,e⟩:=Sort.putRow_grow_new (fun (b:UInt8)=>Value.int .u8 (b.toNat:Int)) w #[.cells Lib.zeros24 296] w.heap.size 0 dk (Nat.le_refl _)
   rw [e]
   exact below_grow w k os'
  have HFF:=qh hF
  clear hF hw2
  go_wp2
  go_ret
  exact ⟨rfl,hB⟩
theorem formatUint_any (u : Nat) (hu64 : u < 18446744073709551616) (w : World) (htab : Lib.TabIs Tryz.prog w "internal/strconv.uint64pow10" .u64 Lib.pow10Tab) :
 Calls Tryz.prog 122 #[.int .u64 u,.int .i64 10] w fun e w'=>e=.returned (.string ⟨(Lib.decDigits u).toArray⟩)/\Below w.heap.size w w':=by
 have HTAB:=qh htab
 clear htab
 go_enter Tryz.func122,Tryz.ntmps122
 go_wp2_with fail
 go_fit (formatUintIn_any u hu64 _ (uh HTAB))
 rintro e w1 ⟨rfl,hb⟩
 go_wp2
 go_ret
 exact ⟨rfl,hb⟩
theorem wstr_any (B b:Nat) (bs:List Value) (s:ByteArray) (w:World) (h:Lib.IsBuilderF 196 5 B b bs w) (hlen:bs.length+s.size<=140737488355328) (hBw:B<=w.heap.size) :
 Calls Tryz.prog 123 #[.pointer (some ⟨b,0,none⟩),.string s] w fun e w'=>e=.returned (.tuple #[.int .i64 s.size,.nilIface])/\(Lib.BuilderAtF 196 5 B b (.pointer (some ⟨b,0,none⟩)) (bs++Lib.strCells s) w'/\Below B w w'/\Lib.OthersKept 5 (some b) w w') :=
 Any.Builder_WriteString_k { Tryz.lays105 with } Tryz.Builder_Extra_105 B b bs s w h hlen hBw
def lays167_ren:Go.Shelf.Ren:=⟨fun | 167=>120 | n=>Tryz.lays105_ren.f n,fun n=>Tryz.lays105_ren.t n,fun n=>Tryz.lays105_ren.g n⟩
theorem lays167:Go.Proofs.Lays.n167 Tryz.prog lays167_ren:={ Tryz.lays105 with
 f167:=Tryz.func120.trans (congrArg some (by kernel_rfl)) }
theorem wbyte_any (B b:Nat) (bs:List Value) (c:Int) (w:World) (h:Lib.IsBuilderF 196 5 B b bs w) (hlen:bs.length+1<=140737488355328) (hBw:B<=w.heap.size) :
 Calls Tryz.prog 120 #[.pointer (some ⟨b,0,none⟩),.int .u8 c] w fun e w'=>e=.returned .nilIface/\(Lib.BuilderAtF 196 5 B b (.pointer (some ⟨b,0,none⟩)) (bs++[.int .u8 c]) w'/\Below B w w'/\Lib.OthersKept 5 (some b) w w') :=
 Any.Builder_WriteByte_k lays167 { Tryz.Builder_Extra_105 with } B b bs c w h hlen hBw
theorem grown_new {w w':World} (h:Below w.heap.size w w'):w.grownBy w' none:=⟨h.os,h.tape,h.output,h.size,fun k hk _=>h.block k hk⟩
theorem builderAt_later {T e:TypeId}{B b:Nat}{p:Value}{bs:List Value}{w w':World} (h:Lib.BuilderAtF T e B b p bs w) (hb:Below w.heap.size w w'):Lib.BuilderAtF T e B b p bs w':=by
 obtain ⟨hB,v,hv,hown,hne⟩:=h
 refine ⟨hB,v,by rw [hb.block b (Array.getElem?_eq_some_iff.1 hv).1];exact hv,hown.kept (grown_new hb) ?_,hne⟩
 cases e:v.ownBlock with
 | none=>exact Or.inl rfl
 | some k=>exact Or.inr (by simp)
theorem zkr {T e:TypeId}{B b:Nat}{bs:List Value}{w w':World} (h:Lib.IsBuilderF T e B b bs w) (hb:Below w.heap.size w w'):Lib.IsBuilderF T e B b bs w' :=
 h.elim (fun x=>.inl (builderAt_later x hb)) (fun x=>.inr (builderAt_later x hb))
theorem builder_new (w:World) (B:Nat) (hB:B<=w.heap.size):Lib.IsBuilderF 196 5 B w.heap.size [] (w.alloc (.cells #[.pointer none,.slice none 0 0] 196)) :=
 .inl ⟨hB,.slice none 0 0,heap_alloc_new w _,Go.World.ownsRowF_nil _ _ _ _,by simp [Value.ownBlock]⟩
theorem Zr.small {N:Nat}{w:World}{v:Value}{z:Int} (h:Zr N w v z) (h0:-9223372036854775808<=z) (h1:z<=9223372036854775807):v=.agg #[.int .i64 z,.slice none 0 0]:=by
 rcases h with ⟨h,_,_⟩ | ⟨s,b,off,cap,l,_,_,_,_,_,_,_,_,_,_,hbig⟩
 ·exact h
 ·omega
end Go.Proofs.YtkdobjmhammhbaaGreatDoor
