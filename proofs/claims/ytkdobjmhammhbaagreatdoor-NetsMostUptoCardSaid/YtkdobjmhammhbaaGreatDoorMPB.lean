import Derived.Test.YtkdobjmhammhbaaGreatDoorMK3
namespace Go.Proofs.YtkdobjmhammhbaaGreatDoor
set_option maxHeartbeats 16000000
set_option maxRecDepth 8000
open Go.RowKit
theorem digAt_list {s:ByteArray}{j:Nat}:DigAt s j↔∃ c,s.data.toList[j]? = some c/\48<=c.toNat/\c.toNat<=57:=by
 constructor
 ·rintro ⟨h,h1⟩
  exact ⟨s[j]'h,by rw [Array.getElem?_toList];exact Array.getElem?_eq_getElem h,h1⟩
 ·rintro ⟨c,hc,h1⟩
  rw [Array.getElem?_toList] at hc
  obtain ⟨h,e⟩:=Array.getElem?_eq_some_iff.1 hc
  exact ⟨h,by show 48<=(s.data[j]).toNat/\(s.data[j]).toNat<=57;rw [e];exact h1⟩
theorem byteAt_list {s:ByteArray}{j n:Nat}:ByteAt s j n↔∃ c,s.data.toList[j]? = some c/\c.toNat=n:=by
 constructor
 ·rintro ⟨h,h1⟩
  exact ⟨s[j]'h,by rw [Array.getElem?_toList];exact Array.getElem?_eq_getElem h,h1⟩
 ·rintro ⟨c,hc,h1⟩
  rw [Array.getElem?_toList] at hc
  obtain ⟨h,e⟩:=Array.getElem?_eq_some_iff.1 hc
  exact ⟨h,by show (s.data[j]).toNat=n;rw [e];exact h1⟩
theorem extract_list (s:ByteArray) (a b:Nat):(s.extract a b).data.toList=(s.data.toList.take b).drop a:=by
 rw [ByteArray.data_extract,Array.toList_extract]
 simp [List.extract,List.drop_take]
theorem run_in {s:ByteArray}{pre D rest:List UInt8} (hs:s.data.toList=pre++(D++rest)) (hD:Dig10 D) (hr:∀ c,rest.head? = some c->¬ (48<=c.toNat/\c.toNat<=57)):runEnd s pre.length=pre.length+D.length/\dv s pre.length (pre.length+D.length)=dec D:=by
 refine ⟨runEnd_is (by omega) (fun j h1 h2=>digAt_list.2 ?_) (fun h => ?_),?_⟩
 ·obtain ⟨c,hc⟩:∃ c,D[j - pre.length]? = some c:=⟨D[j - pre.length]'(by omega),by simp⟩
  refine ⟨c,?_,hD c (List.mem_of_getElem? hc)⟩
  rw [hs,List.getElem?_append_right h1,List.getElem?_append_left (by omega)]
  exact hc
 ·obtain ⟨c,hc,h1⟩:=digAt_list.1 h
  rw [hs,List.getElem?_append_right (by omega),List.getElem?_append_right (by omega)] at hc
  exact hr c (by rw [List.head?_eq_getElem?,<- hc];congr 1;omega) h1
 ·rw [dv,extract_list,hs,<- List.append_assoc,List.take_left' (by simp),List.drop_left' rfl]
structure TxF (s:ByteArray) (p d:Int) (m:Nat):Prop where
 mi:minusOf s=decide (p<0)
 ao:atOf s=if p<0 then 1 else 0
 run:runEnd s (atOf s)=m
 lt:atOf s<m
 le:m<=s.size
 val:dv s (atOf s) m=(p.natAbs:Int)
 fin:(d=1/\m=s.size)\/(d≠1/\ByteAt s m 47/\runEnd s (m+1)=s.size/\m+1<s.size/\dv s (m+1) s.size=d)
 ml:m=atOf s+(Lib.decDigits p.natAbs).length
 dl:d≠1->s.size=m+1+(Lib.decDigits d.toNat).length
theorem txf {p d:Int} (hd:0<d):∃ m,TxF (qtext p d) p d m:=by
 have hne:∀ u,Lib.decDigits u≠[]:=fun u h=>by
  have:=Lib.decDigits_length u
  rw [h] at this
  unfold Lib.nDigits at this
  split at this <;> simp at this
 obtain ⟨pre,hpre,hmi⟩:∃ pre:List UInt8,Lib.itoa p=pre++Lib.decDigits p.natAbs/\((p<0/\pre=[45])\/(¬ p<0/\pre=[])):=by
  by_cases h:p<0
  ·exact ⟨[45],by rw [Lib.itoa,if_pos h];rfl,Or.inl ⟨h,rfl⟩⟩
  ·exact ⟨[],by rw [Lib.itoa,if_neg h,show p.toNat=p.natAbs by omega];rfl,Or.inr ⟨h,rfl⟩⟩
 obtain ⟨rest,hrest,hre⟩:∃ rest:List UInt8,(qtext p d).data.toList=pre++(Lib.decDigits p.natAbs++rest)/\((d=1/\rest=[])\/(d≠1/\rest=47 :: Lib.decDigits d.toNat)):=by
  by_cases h:d=1
  ·exact ⟨[],by rw [qtext,if_pos h,hpre];simp,Or.inl ⟨h,rfl⟩⟩
  ·refine ⟨47 :: Lib.decDigits d.toNat,?_,Or.inr ⟨h,rfl⟩⟩
   rw [qtext,if_neg h,show Lib.itoa d=Lib.decDigits d.toNat by rw [Lib.itoa,if_neg (by omega)],hpre]
   simp [ByteArray.data_append]
 have hrun:=run_in hrest (zxo _) (fun c hc h=>by
  rcases hre with ⟨_,rfl⟩ | ⟨_,rfl⟩
  ·cases hc
  ·obtain rfl:(47:UInt8)=c:=by simpa using hc
   exact absurd h (by decide))
 have hsz:(qtext p d).size=pre.length+(Lib.decDigits p.natAbs).length+rest.length:=by
  have this:=congrArg List.length hrest
  rw [List.length_append,List.length_append] at this
  rw [show (qtext p d).size=(qtext p d).data.toList.length from by simp,this]
  omega
 have hm:minusOf (qtext p d)=decide (p<0):=by
  rw [minusOf,hrest]
  rcases hmi with ⟨h,rfl⟩ | ⟨h,rfl⟩
  ·simp [Lib.hasPrefix,h]
  ·obtain ⟨c,l,hcl⟩:∃ c l,Lib.decDigits p.natAbs=c :: l:=by
    cases hx:Lib.decDigits p.natAbs with
    | nil=>exact absurd hx (hne _)
    | cons c l=>exact ⟨c,l,rfl⟩
   have hc:=zxo p.natAbs c (by rw [hcl];simp)
   rw [hcl]
   have:c≠45:=by rintro rfl;exact absurd hc (by decide)
   simp [Lib.hasPrefix,h,List.isPrefixOf,Ne.symm this]
 have hao:atOf (qtext p d)=pre.length:=by
  rw [atOf,hm]
  rcases hmi with ⟨h,rfl⟩ | ⟨h,rfl⟩ <;> simp [h]
 have hl0:0<(Lib.decDigits p.natAbs).length:=List.length_pos_iff.2 (hne _)
 refine ⟨pre.length+(Lib.decDigits p.natAbs).length,hm,?_,by rw [hao];exact hrun.1,by rw [hao];omega,by omega,by rw [hao,hrun.2,zxp],?_,by rw [hao],fun hd1 => ?_⟩
 ·rw [hao]
  rcases hmi with ⟨h,rfl⟩ | ⟨h,rfl⟩ <;> simp [h]
 ·rcases hre with ⟨h,rfl⟩ | ⟨h,rfl⟩
  ·left;exact ⟨h,by rw [hsz];rfl⟩
  ·right
   have h2:(qtext p d).data.toList=(pre++(Lib.decDigits p.natAbs++[47]))++(Lib.decDigits d.toNat++[]):=by rw [hrest];simp
   have hrun2:=run_in h2 (zxo _) (fun c hc=>by cases hc)
   have e1:(pre++(Lib.decDigits p.natAbs++[47])).length=pre.length+(Lib.decDigits p.natAbs).length+1:=by simp;omega
   have e2:(qtext p d).size=pre.length+(Lib.decDigits p.natAbs).length+1+(Lib.decDigits d.toNat).length:=by rw [hsz];simp;omega
   rw [e1,<- e2] at hrun2
   have hl1:0<(Lib.decDigits d.toNat).length:=List.length_pos_iff.2 (hne _)
   refine ⟨h,byteAt_list.2 ⟨47,?_,rfl⟩,hrun2.1,by omega,by rw [hrun2.2,zxp];omega⟩
   rw [hrest,List.getElem?_append_right (by omega),List.getElem?_append_right (by omega)]
   simp
 ·rcases hre with ⟨h,rfl⟩ | ⟨h,rfl⟩
  ·exact absurd h hd1
  ·rw [hsz];simp;omega
theorem rdig_any (s:ByteArray) (a m:Nat) (v M:Int) (w:World) (hs:s.size<=1000000000) (hv:v=(a:Int)) (h0:a<m) (hm:m<=s.size) (hr:runEnd s a=m) (hM:(m:Int) - a<M) (_hM2:M<=2000000000) :
 Calls Tryz.prog 80 #[.string s,.int .i64 v,.int .i64 M] w fun e w'=>e=.returned (.tuple #[.int .i64 m,.agg #[.int .i64 0,.int .i64 (-1)]])/\Below w.heap.size w w':=by
 subst hv
 have hdig:∀ j,a<=j->j<m->DigAt s j:=by rw [<- hr];exact runEnd_dig
 have hend:¬ DigAt s m:=fun h=>by
  have:=runEnd_over (a:=a) (m:=m) (by omega) hdig h
  omega
 have HD:=qh hdig
 have HE:=qh hend
 clear hdig hend hr
 go_enter Tryz.func80,Tryz.ntmps80
 go_wp2_with fail
 go_loop [8] (fun v=>∃ j:Nat,a<=j/\j<=m/\v=.int .i64 j) (fun v=>m - (intOf v).toNat)
 case atStart=>exact ⟨a,Nat.le_refl _,by omega,rfl⟩
 case round =>
  obtain ⟨j,hj0,hj1,rfl⟩:=hrel
  by_cases hlt:j<m
  ·obtain ⟨hjs,hd1⟩:=uh HD j hj0 hlt
   have hlti:(j:Int)<s.size:=by omega
   have hdec:decide (48<=(s[j]'hjs).toNat/\(s[j]'hjs).toNat<=57)=true:=by simp only [decide_eq_true_eq];exact hd1
   have HDEC:=qh hdec
   have h3:((j:Int) - a == M)=false:=by simp;omega
   clear hdec hd1
   go_wp2_with fail
   go_fit (digit_any (s[j]'hjs).toNat _)
   rintro e w1 ⟨rfl,rfl⟩
   rw [uh HDEC]
   go_wp2
   go_round
   case rel=>exact ⟨j+1,by omega,by omega,by go_num⟩
   case measure=>simp [intOf];omega
  ·obtain rfl:j=m:=by omega
   have hqi:((j:Int) == a)=false:=by simp;omega
   by_cases hjs:j<s.size
   ·have hlti:(j:Int)<s.size:=by omega
    have hdec:decide (48<=(s[j]'hjs).toNat/\(s[j]'hjs).toNat<=57)=false:=by
     simp only [decide_eq_false_iff_not]
     exact fun h=>uh HE ⟨hjs,h⟩
    have HDEC:=qh hdec
    clear hdec
    go_wp2_with fail
    go_fit (digit_any (s[j]'hjs).toNat _)
    rintro e w1 ⟨rfl,rfl⟩
    rw [uh HDEC]
    go_wp2
    exact bodyPost_ret (v:=.tuple #[.int .i64 j,.agg #[.int .i64 0,.int .i64 (-1)]]) (by simp [results,Tryz.results80,go_sem]) rfl ⟨rfl,zqa w _⟩
   ·have hlti:¬ (j:Int)<s.size:=by omega
    go_wp2
    exact bodyPost_ret (v:=.tuple #[.int .i64 j,.agg #[.int .i64 0,.int .i64 (-1)]]) (by simp [results,Tryz.results80,go_sem]) rfl ⟨rfl,zqa w _⟩
theorem ext_dig {s:ByteArray}{a m:Nat} (hm:m<=s.size) (hr:runEnd s a=m):Dig10 (s.extract a m).data.toList:=by
 rw [<- hr]
 exact dig_extract (by omega) runEnd_dig
theorem qsaid_stroke {N:Nat}{p d:Int} (s:ByteArray) (m:Nat) (M:Int) (w:World) (hT:TxF s p d m) (hd1:d≠1) (d0:0<d) (hg:Int.gcd p d=1) (hs4:s.size<=4*N) (hN:N<=80000) (hM:M=(s.size:Int)+1) :
 Calls Tryz.prog 36 #[.string s,.int .i64 M] w fun e w'=>(∃ v,e=.returned (.tuple #[v,.agg #[.int .i64 0,.int .i64 (-1)]])/\Qr N w' v p d)/\Below w.heap.size w w':=by
 obtain ⟨hmi,hao,hrun,hlt,hle,hval,hfin,hml,hdl⟩:=hT
 clear hml hdl
 obtain ⟨_,hb47,hrun2,hlt2,hval2⟩:d≠1/\ByteAt s m 47/\runEnd s (m+1)=s.size/\m+1<s.size/\dv s (m+1) s.size=d:=by
  rcases hfin with ⟨h,_⟩ | h
  ·exact absurd h hd1
  ·exact h
 have h3:(¬ (0:Int)<s.size/\minusOf s=false/\atOf s=0)\/(∃ h:0<s.size,(((s[0]'h).toNat:Int) == 45)=true/\minusOf s=true/\atOf s=1)\/(∃ h:0<s.size,(((s[0]'h).toNat:Int) == 45)=false/\minusOf s=false/\atOf s=0):=by
  rcases zqu s 0 45 with ⟨h0,h1⟩ | ⟨h0,h1,h2⟩ | ⟨h0,h1,h2⟩
  ·exact Or.inl ⟨h0,zqx (fun g=>by have:=zql g;rw [h1] at this;exact absurd this (by decide))⟩
  ·exact Or.inr (Or.inl ⟨h0,h1,zkp (zkh.1 h2)⟩)
  ·exact Or.inr (Or.inr ⟨h0,h1,zqx (fun g=>by have:=zql g;rw [h2] at this;exact absurd this (by decide))⟩)
 obtain ⟨a,HA⟩:∃ a,Hid (atOf s=a):=⟨_,rfl⟩
 obtain ⟨mi,HMI⟩:∃ b,Hid (minusOf s=b):=⟨_,rfl⟩
 rw [show atOf s=a from uh HA] at hao hrun hlt hval h3
 rw [show minusOf s=mi from uh HMI] at hmi h3
 have hs2:s.size<=1000000000:=by omega
 have hMi:M<=2000000000:=by omega
 have hs3:s.size<=9223372036854775807:=by omega
 have hz0:0<=dv s a m:=by rw [hval];omega
 have H3:=qh h3
 have HRUN:=qh (And.intro hrun hrun2)
 have HVAL:=qh (And.intro hval (And.intro hval2 (And.intro hmi hao)))
 have HG:=qh hg
 have hmM:(m:Int) - a<M:=by omega
 have hmM2:(s.size:Int) - ((m+1:Nat):Int)<M:=by omega
 have hle1:(a:Int)<=m:=by omega
 have hle2:(m:Int)<=s.size:=by omega
 have hle3:a<=m:=by omega
 obtain ⟨hm47,hb2⟩:=hb47
 have hb3:(((s[m]'hm47).toNat:Int) == 47)=true:=by simp;omega
 have HMM:=qh (And.intro hM (And.intro hmM hmM2))
 have HDG:=qh (And.intro (ext_dig hle hrun) (ext_dig (Nat.le_refl _) hrun2))
 have hex1:(s.extract a m).size<=4*N:=by rw [zxq hle];omega
 have hex2:(s.extract (m+1) s.size).size<=4*N:=by rw [zxq (Nat.le_refl _)];omega
 clear h3 hrun hrun2 hval hval2 hmi hao hfin hg hM hmM hmM2 hb2
 have hst:=QK.start w
 go_enter Tryz.func36,Tryz.ntmps36
 go_upto_region 2 with fail
 obtain ⟨W0,hW0⟩:∃ W0,W0=(w.alloc (.cells #[.bool false,.slice none 0 0,.bool false,.slice none 0 0] 59)).alloc (.cells #[.int .i64 0,.int .i64 0] 61):=⟨_,rfl⟩
 rw [<- hW0] at hst ⊢
 clear hW0
 go_cut [7] (fun b wx=>b=.bool mi/\W0=wx)
 case first =>
  rcases uh H3 with ⟨hz,hm,_⟩ | ⟨hz,h1,hm,_⟩ | ⟨hz,h1,hm,_⟩
  ·exfalso;omega
  ·have hzi:(0:Int)<s.size:=by omega
   go_wp2
   go_meet
   exact ⟨by rw [hm],rfl⟩
  ·have hzi:(0:Int)<s.size:=by omega
   go_wp2
   go_meet
   exact ⟨by rw [hm],rfl⟩
 case rest =>
 obtain ⟨rfl,rfl⟩:=hcut
 go_upto_if 31 with fail
 have hma:(mi=false/\a=0)\/(mi=true/\a=1):=by
  rcases uh H3 with ⟨_,hm,ha⟩ | ⟨_,_,hm,ha⟩ | ⟨_,_,hm,ha⟩
  ·exact Or.inl ⟨hm,ha⟩
  ·exact Or.inr ⟨hm,ha⟩
  ·exact Or.inl ⟨hm,ha⟩
 go_cut [6,7] (fun v b wx=>v=.int .i64 a/\b=.bool mi/\W0=wx)
 case first =>
  rcases hma with ⟨rfl,rfl⟩ | ⟨rfl,rfl⟩
  ·go_wp2
   go_meet
   exact ⟨rfl,rfl,rfl⟩
  ·go_wp2
   go_meet
   exact ⟨rfl,rfl,rfl⟩
 case rest =>
 obtain ⟨rfl,rfl,rfl⟩:=hcut
 clear hma H3
 go_wp2_with fail
 go_fit (rdig_any s a m _ _ _ hs2 rfl hlt hle (uh HRUN).1 (uh HMM).2.1 hMi)
 rintro e W1 ⟨rfl,hb1⟩
 have hst1:=hst.keep hb1
 clear hst hb1
 have hlt1:=hst1.lt
 have l0:w.heap.size<W1.heap.size:=by omega
 go_wp2_with fail
 go_fit (zxl (N:=N) (s.extract a m) _ hex1 (by omega) (uh HDG).1)
 rintro e W2 ⟨⟨v2,rfl,hN2⟩,hb2⟩
 obtain ⟨p0,p1,p2,p3,rfl⟩:=hN2.shape
 have hst2:=(hst1.keep (zqa W1 _)).keep hb2
 have hnum:=NB.new hN2
 clear hb2 hst1 hlt1 l0 hN2
 go_wp2_with fail
 go_fit (zxn 1 _ (by decide) (by decide))
 rintro e W3 ⟨⟨v3,rfl,hN3⟩,hb3'⟩
 obtain ⟨r0,r1,r2,r3,rfl⟩:=hN3.shape
 have hnum3:=(hnum.keep hb3').keep (zqa W3 (.cells #[.bool r0,.slice r1 r2 r3] 57))
 have hden3:=NB.new hN3
 have hst3:=((hst2.keep (zqa W2 (.cells #[.bool p0,.slice p1 p2 p3] 57))).keep hb3').keep (zqa W3 (.cells #[.bool r0,.slice r1 r2 r3] 57))
 have l2:=hst2.lt
 have l3:=(hnum.keep hb3').lt
 clear hb3' hnum hN3 hst2
 go_upto_region 11 with fail
 obtain ⟨W4,hW4⟩:∃ W4,W4=W3.alloc (.cells #[.bool r0,.slice r1 r2 r3] 57):=⟨_,rfl⟩
 rw [<- hW4] at hnum3 hden3 hst3 ⊢
 clear hW4
 generalize W2.heap.size=nb at hnum3 l2 l3 ⊢
 generalize W3.heap.size=db at hden3 l3 ⊢
 have z0:0<=dv s a m:=hz0
 have hmi':(m:Int)<s.size:=by omega
 go_wp2_with fail
 go_fit (rdig_any s (m+1) s.size ((m:Int)+1) _ _ hs2 (by omega) hlt2 (Nat.le_refl _) (uh HRUN).2 (uh HMM).2.2 hMi)
 rintro e W5 ⟨rfl,hb5⟩
 have hst5:=hst3.keep hb5
 have hnum5:=hnum3.keep hb5
 have hden5:=hden3.keep hb5
 clear hb5 hst3 hnum3 hden3
 have hni:¬ (s.size:Int)<s.size:=by omega
 have hle4:(m:Int)+1<=s.size:=by omega
 have hlt5:=hst5.lt
 have l0:w.heap.size<W5.heap.size:=by omega
 go_wp2_with fail
 go_fit (zxl (N:=N) (s.extract (m+1) s.size) _ hex2 (by omega) (uh HDG).2)
 rintro e W6 ⟨⟨v6,rfl,hN6⟩,hb6⟩
 obtain ⟨q0,q1,q2,q3,rfl⟩:=hN6.shape
 have hst6:=(hst5.keep (zqa W5 _)).keep hb6
 have hnum6:=(hnum5.keep (zqa W5 _)).keep hb6
 have hden6:=(hden5.keep (zqa W5 _)).keep hb6
 clear hst5 hnum5 hden5 hb6 hlt5 l0
 have hN6':Nr N W6 (.agg #[.bool q0,.slice q1 q2 q3]) d:=by
  have h:=hN6
  rw [show dec (s.extract (m+1) s.size).data.toList=d from (uh HVAL).2.1] at h
  exact h
 obtain ⟨DN,-,-,-,-,hlen,hzz0,hzz1⟩:=hN6'.places (by omega)
 have hnum7:=hnum6.beside hden6.box (by omega) (.bool q0) (.slice q1 q2 q3)
 have hden7:=hden6.stored hN6'
 have hst7:=hst6.beside (q:=db) (by omega) (.bool q0) (.slice q1 q2 q3)
 have b0:=hden6.c0
 have b1:=hden6.c1
 obtain ⟨_,_,bf⟩:=hden6.box.cells
 have lb:=hden6.lt
 have hq2:((q2:Int) == 0)=false:=by have:=hzz1 (by omega);simp;omega
 clear hzz0 hzz1 hlen hN6
 go_upto_region 20 with fail
 obtain ⟨W7,hW7⟩:∃ W7,W7=(W6.setCell ⟨db,0,none⟩ (.bool q0)).setCell ⟨db,1,none⟩ (.slice q1 q2 q3):=⟨_,rfl⟩
 rw [<- hW7] at hnum7 hden7 hst7 ⊢
 clear hW7 b0 b1 bf lb hnum6 hden6 hst6
 have e1:=hnum7.c1
 have f0:=hden7.c0
 have f1:=hden7.c1
 obtain ⟨DD,hsD,hPD,hlD,hvD,-,-,-⟩:=hnum7.nr.places z0
 have HVD:=qh hvD
 clear hvD
 go_region_held3 (fun w'=>Below w.heap.size w w'/\w'.cell? ⟨nb,1,none⟩=some (.slice p1 p2 p3)/\w'.cell? ⟨db,0,none⟩=some (.bool q0)/\w'.cell? ⟨db,1,none⟩=some (.slice q1 q2 q3))
  (first | with_reducible exact uh S2 | with_reducible exact uh S1 | with_reducible exact sq_q4 (uh S2) l2 l3 | with_reducible exact sq_f2 (uh S2) l2 l3 | with_reducible exact sq_f2 (sq_q4 (uh S2) l2 l3) l2 l3 | with_reducible exact sq_q4 (sq_f2 (uh S2) l2 l3) l2 l3 | exact ⟨hst7.below.drew,e1,f0,f1⟩)
  (first | (go_at_call 84;go_fit (zks mi _ DD N _ (show Sl W7.drew _ _ from hsD) hPD hlD);rintro e q1 ⟨⟨v1,rfl,hM1⟩,hb1⟩;obtain ⟨i1,i2,i3,i4,rfl⟩:=hM1.shape;have S1:=qh (sq_keep hb1 ⟨hst7.below.drew,e1,f0,f1⟩)) | (go_at_call 83;go_fit (over_any (N:=N) _ hM1 (((show Nr _ W7.drew _ _ from hden7.nr).later hb1)) (by omega) (by omega));rintro e q2 ⟨⟨v2,P,D,rfl,hQ2,hE⟩,hb2⟩;have HE:=qh hE;clear hE;obtain ⟨i5,i6,i7,i8,i9,i10,i11,i12,rfl,hP3,hD3,D0,hG3⟩:=hQ2;have HG3:=qh hG3;clear hG3;have S2:=qh (sq_keep hb2 (uh S1));have hst8:=(hst7.drew.keep hb1).keep hb2;obtain ⟨⟨x0,g0⟩,⟨a0,n0,c0,g1⟩,⟨x1,g2⟩,⟨a1,n1,c1,g3⟩,gf⟩:=hst8.qb.cells;obtain ⟨⟨y0,k0⟩,⟨y1,k1⟩,kf⟩:=hst8.fb.cells;have hlt:=hst8.lt;have l0:w.heap.size<q2.heap.size:=by omega))
 have hst8:=(hst7.drew.keep hb1).keep hb2
 go_wp2
 obtain ⟨t0,t1,t2,t3,t4,t5,hB⟩:=hst8.out (.bool i5) (.slice i6 i7 i8) (.bool i9) (.slice i10 i11 i12) (.int .i64 0) (.int .i64 (-1))
 have hPD2:P=p/\D=d:=by
  have h9:=uh HE
  rw [show v4 DD=dv s a m from uh HVD,(uh HVAL).1,(uh HVAL).2.2.1] at h9
  have h10:P*d=p*D:=by
   by_cases hp:p<0
   ·rw [if_pos (by simp [hp])] at h9
    rw [show -(p.natAbs:Int)=p by omega] at h9
    exact h9
   ·rw [if_neg (by simp [hp])] at h9
    rw [show (p.natAbs:Int)=p by omega] at h9
    exact h9
  exact lowest_one (z:=p) (o:=d) (by omega) h10 rfl D0 d0 (uh HG3) (uh HG)
 obtain ⟨rfl,rfl⟩:=hPD2
 exact bodyPost_ret (v:=.tuple #[.agg #[.bool i5,.slice i6 i7 i8,.bool i9,.slice i10 i11 i12],.agg #[.int .i64 0,.int .i64 (-1)]]) (by simp [results,Tryz.results36,go_sem,t0,t1,t2,t3,t4,t5]) rfl ⟨⟨_,rfl,_,_,_,_,_,_,_,_,rfl,hst8.nr hP3 _ _ _ _ _ _,hst8.nr hD3 _ _ _ _ _ _,D0,uh HG3⟩,hB⟩
theorem qsaid_whole {N:Nat}{p:Int} (s:ByteArray) (m:Nat) (M:Int) (w:World) (hT:TxF s p 1 m) (hs4:s.size<=4*N) (hN:N<=80000) (hN2:2<=N) (hM:M=(s.size:Int)+1) :
 Calls Tryz.prog 36 #[.string s,.int .i64 M] w fun e w'=>(∃ v,e=.returned (.tuple #[v,.agg #[.int .i64 0,.int .i64 (-1)]])/\Qr N w' v p 1)/\Below w.heap.size w w':=by
 obtain ⟨hmi,hao,hrun,hlt,hle,hval,hfin,hml,hdl⟩:=hT
 clear hml hdl
 have hms:m=s.size:=by
  rcases hfin with ⟨_,h⟩ | ⟨h,_⟩
  ·exact h
  ·exact absurd rfl h
 have h3:(¬ (0:Int)<s.size/\minusOf s=false/\atOf s=0)\/(∃ h:0<s.size,(((s[0]'h).toNat:Int) == 45)=true/\minusOf s=true/\atOf s=1)\/(∃ h:0<s.size,(((s[0]'h).toNat:Int) == 45)=false/\minusOf s=false/\atOf s=0):=by
  rcases zqu s 0 45 with ⟨h0,h1⟩ | ⟨h0,h1,h2⟩ | ⟨h0,h1,h2⟩
  ·exact Or.inl ⟨h0,zqx (fun g=>by have:=zql g;rw [h1] at this;exact absurd this (by decide))⟩
  ·exact Or.inr (Or.inl ⟨h0,h1,zkp (zkh.1 h2)⟩)
  ·exact Or.inr (Or.inr ⟨h0,h1,zqx (fun g=>by have:=zql g;rw [h2] at this;exact absurd this (by decide))⟩)
 obtain ⟨a,HA⟩:∃ a,Hid (atOf s=a):=⟨_,rfl⟩
 obtain ⟨mi,HMI⟩:∃ b,Hid (minusOf s=b):=⟨_,rfl⟩
 rw [show atOf s=a from uh HA] at hao hrun hlt hval h3
 rw [show minusOf s=mi from uh HMI] at hmi h3
 have hs2:s.size<=1000000000:=by omega
 have hMi:M<=2000000000:=by omega
 have hs3:s.size<=9223372036854775807:=by omega
 have hz0:0<=dv s a m:=by rw [hval];omega
 have H3:=qh h3
 have HRUN:=qh hrun
 have HVAL:=qh (And.intro hval (And.intro hmi hao))
 have hmM:(m:Int) - a<M:=by omega
 have hle1:(a:Int)<=m:=by omega
 have hle2:(m:Int)<=s.size:=by omega
 have hle3:a<=m:=by omega
 have HMM:=qh (And.intro hM hmM)
 have HDG:=qh (ext_dig hle hrun)
 have HMS:=qh hms
 have hmlt:¬ (m:Int)<s.size:=by omega
 have hex1:(s.extract a m).size<=4*N:=by rw [zxq hle];omega
 clear h3 hrun hval hmi hao hfin hM hmM hms
 have hst:=QK.start w
 go_enter Tryz.func36,Tryz.ntmps36
 go_upto_region 2 with fail
 obtain ⟨W0,hW0⟩:∃ W0,W0=(w.alloc (.cells #[.bool false,.slice none 0 0,.bool false,.slice none 0 0] 59)).alloc (.cells #[.int .i64 0,.int .i64 0] 61):=⟨_,rfl⟩
 rw [<- hW0] at hst ⊢
 clear hW0
 go_cut [7] (fun b wx=>b=.bool mi/\W0=wx)
 case first =>
  rcases uh H3 with ⟨hz,hm,_⟩ | ⟨hz,h1,hm,_⟩ | ⟨hz,h1,hm,_⟩
  ·exfalso;omega
  ·have hzi:(0:Int)<s.size:=by omega
   go_wp2
   go_meet
   exact ⟨by rw [hm],rfl⟩
  ·have hzi:(0:Int)<s.size:=by omega
   go_wp2
   go_meet
   exact ⟨by rw [hm],rfl⟩
 case rest =>
 obtain ⟨rfl,rfl⟩:=hcut
 go_upto_if 31 with fail
 have hma:(mi=false/\a=0)\/(mi=true/\a=1):=by
  rcases uh H3 with ⟨_,hm,ha⟩ | ⟨_,_,hm,ha⟩ | ⟨_,_,hm,ha⟩
  ·exact Or.inl ⟨hm,ha⟩
  ·exact Or.inr ⟨hm,ha⟩
  ·exact Or.inl ⟨hm,ha⟩
 go_cut [6,7] (fun v b wx=>v=.int .i64 a/\b=.bool mi/\W0=wx)
 case first =>
  rcases hma with ⟨rfl,rfl⟩ | ⟨rfl,rfl⟩
  ·go_wp2
   go_meet
   exact ⟨rfl,rfl,rfl⟩
  ·go_wp2
   go_meet
   exact ⟨rfl,rfl,rfl⟩
 case rest =>
 obtain ⟨rfl,rfl,rfl⟩:=hcut
 clear hma H3
 go_wp2_with fail
 go_fit (rdig_any s a m _ _ _ hs2 rfl hlt hle (uh HRUN) (uh HMM).2 hMi)
 rintro e W1 ⟨rfl,hb1⟩
 have hst1:=hst.keep hb1
 clear hst hb1
 have hlt1:=hst1.lt
 have l0:w.heap.size<W1.heap.size:=by omega
 go_wp2_with fail
 go_fit (zxl (N:=N) (s.extract a m) _ hex1 (by omega) (uh HDG))
 rintro e W2 ⟨⟨v2,rfl,hN2⟩,hb2⟩
 obtain ⟨p0,p1,p2,p3,rfl⟩:=hN2.shape
 have hst2:=(hst1.keep (zqa W1 _)).keep hb2
 have hnum:=NB.new hN2
 clear hb2 hst1 hlt1 l0 hN2
 go_wp2_with fail
 go_fit (zxn 1 _ (by decide) (by decide))
 rintro e W3 ⟨⟨v3,rfl,hN3⟩,hb3'⟩
 obtain ⟨r0,r1,r2,r3,rfl⟩:=hN3.shape
 have hnum3:=(hnum.keep hb3').keep (zqa W3 (.cells #[.bool r0,.slice r1 r2 r3] 57))
 have hden3:=NB.new hN3
 have hst3:=((hst2.keep (zqa W2 (.cells #[.bool p0,.slice p1 p2 p3] 57))).keep hb3').keep (zqa W3 (.cells #[.bool r0,.slice r1 r2 r3] 57))
 have l2:=hst2.lt
 have l3:=(hnum.keep hb3').lt
 clear hb3' hnum hN3 hst2
 go_upto_region 11 with fail
 obtain ⟨W4,hW4⟩:∃ W4,W4=W3.alloc (.cells #[.bool r0,.slice r1 r2 r3] 57):=⟨_,rfl⟩
 rw [<- hW4] at hnum3 hden3 hst3 ⊢
 clear hW4
 generalize W2.heap.size=nb at hnum3 l2 l3 ⊢
 generalize W3.heap.size=db at hden3 l3 ⊢
 have z0:0<=dv s a m:=hz0
 go_wp2_with fail
 go_fit (rten_any 0 _ (by decide))
 rintro e V1 ⟨⟨v1,rfl,hT1⟩,hb1⟩
 obtain ⟨x0,x1,x2,x3,rfl⟩:=hT1.shape
 have kn1:=zqa V1 (.cells #[.bool x0,.slice x1 x2 x3] 57)
 have hst4:=(hst3.keep hb1).keep kn1
 have hnum4:=(hnum3.keep hb1).keep kn1
 have hden4:=(hden3.keep hb1).keep kn1
 have ht4:=NB.new hT1
 have l4:db<V1.heap.size:=(hden3.keep hb1).lt
 clear hst3 hnum3 hden3 hb1 kn1
 obtain ⟨tb,htb⟩:∃ X,X=V1.heap.size:=⟨_,rfl⟩
 rw [<- htb] at ht4 l4
 have c0:=ht4.c0
 have c1:=ht4.c1
 obtain ⟨_,_,df⟩:=hden4.box.cells
 have d0':=hden4.c0
 have d1':=hden4.c1
 have ld:=hden4.lt
 have hden5:=hden4.stored ht4.nr
 have hst5:=hst4.beside (q:=db) (by omega) (.bool x0) (.slice x1 x2 x3)
 have hnum5:=hnum4.beside hden4.box (by omega) (.bool x0) (.slice x1 x2 x3)
 have ht5:=ht4.beside hden4.box (by omega) (.bool x0) (.slice x1 x2 x3)
 clear hT1
 go_upto_region 39 with fail
 rw [<- htb]
 obtain ⟨V2,hV2⟩:∃ X,X=V1.alloc (.cells #[.bool x0,.slice x1 x2 x3] 57):=⟨_,rfl⟩
 rw [<- hV2] at hst4 hnum4 hden4 ht4 hden5 hst5 hnum5 ht5 c0 c1 df d0' d1' ld ⊢
 clear hV2 htb hst4 hnum4 hden4
 go_upto_region 40 with fail
 obtain ⟨V3,hV3⟩:∃ X,X=(V2.setCell ⟨db,0,none⟩ (.bool x0)).setCell ⟨db,1,none⟩ (.slice x1 x2 x3):=⟨_,rfl⟩
 rw [<- hV3] at hden5 hst5 hnum5 ht5 ⊢
 clear hV3 c0 c1 df d0' d1' ld ht4
 go_wp2_with fail
 go_fit (rten_any 0 _ (by decide))
 rintro e V4 ⟨⟨v4,rfl,hT4⟩,hb4⟩
 obtain ⟨y0,y1,y2,y3,rfl⟩:=hT4.shape
 have ht6:=ht5.keep hb4
 have hst6:=hst5.keep hb4
 have hnum6:=hnum5.keep hb4
 have hden6:=hden5.keep hb4
 clear hb4 ht5 hst5 hnum5 hden5
 have c0:=ht6.c0
 have c1:=ht6.c1
 obtain ⟨_,_,cf⟩:=ht6.box.cells
 have lt6:=ht6.lt
 have ht7:=ht6.stored hT4
 have hst7:=hst6.beside (q:=tb) (by omega) (.bool y0) (.slice y1 y2 y3)
 have hnum7:=hnum6.beside ht6.box (by omega) (.bool y0) (.slice y1 y2 y3)
 have hden7:=hden6.beside ht6.box (by omega) (.bool y0) (.slice y1 y2 y3)
 have e0:=hnum6.c0
 have e1:=hnum6.c1
 have f0:=hden6.c0
 have f1:=hden6.c1
 go_wp2_with fail
 go_fit (zjh (N:=0+1) (M:=0+1) _ hden7.nr ht7.nr (by omega))
 rintro e V5 ⟨⟨v5,rfl,hN5⟩,hb5⟩
 obtain ⟨j0,j1,j2,j3,rfl⟩:=hN5.shape
 have hst8:=hst7.keep hb5
 have hnum8:=hnum7.keep hb5
 have hden8:=hden7.keep hb5
 clear hb5 c0 c1 cf e0 e1 f0 f1 ht6 hst6 hnum6 hden6 hst7 hnum7 hden7 ht7 lt6
 have e0:=hden8.c0
 have e1:=hden8.c1
 obtain ⟨_,_,ef⟩:=hden8.box.cells
 have lt8:=hden8.lt
 have hN5':Nr (0+1+(0+1)) V5 (.agg #[.bool j0,.slice j1 j2 j3]) 1:=hN5
 have hden9:=hden8.stored hN5'
 have hst9:=hst8.beside (q:=db) (by omega) (.bool j0) (.slice j1 j2 j3)
 have hnum9:=hnum8.beside hden8.box (by omega) (.bool j0) (.slice j1 j2 j3)
 clear hN5 hst8 hnum8 hden8
 go_upto_region 45 with fail
 obtain ⟨W7,hW7⟩:∃ X,X=(V5.setCell ⟨db,0,none⟩ (.bool j0)).setCell ⟨db,1,none⟩ (.slice j1 j2 j3):=⟨_,rfl⟩
 rw [<- hW7] at hden9 hst9 hnum9 ⊢
 clear hW7 e0 e1 ef lt8
 have e1:=hnum9.c1
 have f0:=hden9.c0
 have f1:=hden9.c1
 obtain ⟨DD,hsD,hPD,hlD,hvD,-,-,-⟩:=hnum9.nr.places z0
 have HVD:=qh hvD
 clear hvD
 go_region_held3 (fun w'=>Below w.heap.size w w'/\w'.cell? ⟨nb,1,none⟩=some (.slice p1 p2 p3)/\w'.cell? ⟨db,0,none⟩=some (.bool j0)/\w'.cell? ⟨db,1,none⟩=some (.slice j1 j2 j3))
  (first | with_reducible exact uh S2 | with_reducible exact uh S1 | with_reducible exact sq_q4 (uh S2) l2 l3 | with_reducible exact sq_f2 (uh S2) l2 l3 | with_reducible exact sq_f2 (sq_q4 (uh S2) l2 l3) l2 l3 | with_reducible exact sq_q4 (sq_f2 (uh S2) l2 l3) l2 l3 | exact ⟨hst9.below.drew,e1,f0,f1⟩)
  (first | (go_at_call 84;go_fit (zks mi _ DD N _ (show Sl W7.drew _ _ from hsD) hPD hlD);rintro e q1 ⟨⟨v1,rfl,hM1⟩,hb1⟩;obtain ⟨i1,i2,i3,i4,rfl⟩:=hM1.shape;have S1:=qh (sq_keep hb1 ⟨hst9.below.drew,e1,f0,f1⟩)) | (go_at_call 83;go_fit (over_any (N:=N) (o:=1) _ hM1 ((((show Nr _ W7.drew _ _ from hden9.nr).later hb1)).mono (by omega)) (by decide) (by omega));rintro e q2 ⟨⟨v2,P,D,rfl,hQ2,hE⟩,hb2⟩;have HE:=qh hE;clear hE;obtain ⟨i5,i6,i7,i8,i9,i10,i11,i12,rfl,hP3,hD3,D0,hG3⟩:=hQ2;have HG3:=qh hG3;clear hG3;have S2:=qh (sq_keep hb2 (uh S1));have hst8:=(hst9.drew.keep hb1).keep hb2;obtain ⟨⟨x0,g0⟩,⟨a0,n0,c0,g1⟩,⟨x1,g2⟩,⟨a1,n1,c1,g3⟩,gf⟩:=hst8.qb.cells;obtain ⟨⟨y0,k0⟩,⟨y1,k1⟩,kf⟩:=hst8.fb.cells;have hlt:=hst8.lt;have l0:w.heap.size<q2.heap.size:=by omega))
 have hst8:=(hst9.drew.keep hb1).keep hb2
 go_wp2
 obtain ⟨t0,t1,t2,t3,t4,t5,hB⟩:=hst8.out (.bool i5) (.slice i6 i7 i8) (.bool i9) (.slice i10 i11 i12) (.int .i64 0) (.int .i64 (-1))
 have hPD2:P=p/\D=1:=by
  have h9:=uh HE
  rw [show v4 DD=dv s a m from uh HVD,(uh HVAL).1,(uh HVAL).2.1] at h9
  have h10:P*1=p*D:=by
   by_cases hp:p<0
   ·rw [if_pos (by simp [hp])] at h9
    rw [show -(p.natAbs:Int)=p by omega] at h9
    exact h9
   ·rw [if_neg (by simp [hp])] at h9
    rw [show (p.natAbs:Int)=p by omega] at h9
    exact h9
  exact lowest_one (z:=p) (o:=1) (by decide) h10 rfl D0 (by decide) (uh HG3) (by simp)
 obtain ⟨rfl,rfl⟩:=hPD2
 exact bodyPost_ret (v:=.tuple #[.agg #[.bool i5,.slice i6 i7 i8,.bool i9,.slice i10 i11 i12],.agg #[.int .i64 0,.int .i64 (-1)]]) (by simp [results,Tryz.results36,go_sem,t0,t1,t2,t3,t4,t5]) rfl ⟨⟨_,rfl,_,_,_,_,_,_,_,_,rfl,hst8.nr hP3 _ _ _ _ _ _,hst8.nr hD3 _ _ _ _ _ _,D0,uh HG3⟩,hB⟩
theorem qsaid_any {N:Nat}{p d:Int} (w:World) (d0:0<d) (hg:Int.gcd p d=1) (hs4:(qtext p d).size<=4*N) (hN:N<=80000) (hN2:2<=N) :
 Calls Tryz.prog 27 #[.string (qtext p d)] w fun e w'=>(∃ x1 x2 x3 x4 x5 x6 x7 x8,e=.returned (.tuple #[.agg #[.bool x1,.slice x2 x3 x4,.bool x5,.slice x6 x7 x8],.agg #[.int .i64 0,.int .i64 (-1)]])/\Qr N w' (.agg #[.bool x1,.slice x2 x3 x4,.bool x5,.slice x6 x7 x8]) p d)/\Below w.heap.size w w':=by
 obtain ⟨m,hT⟩:=txf (p:=p) d0
 obtain ⟨s,hs⟩:∃ s,s=qtext p d:=⟨_,rfl⟩
 rw [<- hs] at hT hs4 ⊢
 have hq:∀ (W:World) (M:Int),M=(s.size:Int)+1->Calls Tryz.prog 36 #[.string s,.int .i64 M] W fun e w'=>(∃ v,e=.returned (.tuple #[v,.agg #[.int .i64 0,.int .i64 (-1)]])/\Qr N w' v p d)/\Below W.heap.size W w':=fun W M hM=>by
  by_cases e:d=1
  ·subst e
   exact qsaid_whole s m M W hT hs4 hN hN2 hM
  ·exact qsaid_stroke s m M W hT e d0 hg hs4 hN hM
 have HQ:=qh hq
 have hsz:(s.size:Int)+1<=1000000:=by omega
 have hst:=QK.start w
 clear hT hq hs
 go_enter Tryz.func27,Tryz.ntmps27
 go_wp2_with fail
 go_fit (uh HQ _ _ rfl)
 rintro e W1 ⟨⟨v,rfl,hQ⟩,hb1⟩
 obtain ⟨i5,i6,i7,i8,i9,i10,i11,i12,rfl,hP3,hD3,D0,hG3⟩:=hQ
 have HG3:=qh hG3
 have hst8:=hst.keep hb1
 obtain ⟨⟨x0,g0⟩,⟨a0,n0,c0,g1⟩,⟨x1,g2⟩,⟨a1,n1,c1,g3⟩,gf⟩:=hst8.qb.cells
 obtain ⟨⟨y0,k0⟩,⟨y1,k1⟩,kf⟩:=hst8.fb.cells
 have hlt:=hst8.lt
 have l0:w.heap.size<W1.heap.size:=by omega
 clear hb1 hst hG3
 go_wp2
 obtain ⟨t0,t1,t2,t3,t4,t5,hB⟩:=hst8.out (.bool i5) (.slice i6 i7 i8) (.bool i9) (.slice i10 i11 i12) (.int .i64 0) (.int .i64 (-1))
 exact bodyPost_ret (v:=.tuple #[.agg #[.bool i5,.slice i6 i7 i8,.bool i9,.slice i10 i11 i12],.agg #[.int .i64 0,.int .i64 (-1)]]) (by simp [results,Tryz.results27,go_sem,t0,t1,t2,t3,t4,t5]) rfl ⟨⟨_,_,_,_,_,_,_,_,rfl,_,_,_,_,_,_,_,_,rfl,hst8.nr hP3 _ _ _ _ _ _,hst8.nr hD3 _ _ _ _ _ _,D0,uh HG3⟩,hB⟩
theorem rsaid_any {N:Nat}{v:Value}{L:List (Int×Int)} (w:World) (h:Rows 1 TE w v (L.map qt)) (hl:L.length<=20) (hL:∀ x ∈ L,0<x.2/\Int.gcd x.1 x.2=1/\(qt x).size<=4*N) (hN:N<=80000) (hN2:2<=N) :
 Calls Tryz.prog 25 #[v] w fun e w'=>(∃ v,e=.returned (.tuple #[v,.bool true])/\Rows 4 (QE N) w' v L)/\Below w.heap.size w w':=by
 obtain ⟨sa,sc,rfl⟩:=h.shape
 have HR:=qh h
 have HL:=qh hL
 rw [List.length_map] at HR ⊢
 clear h hL
 go_enter Tryz.func25,Tryz.ntmps25
 go_wp2_with fail
 go_loopg [4,5] L.length (fun gk ov iv wr=>∃ (i:Nat) (X:List (Int×Int)),i<=L.length/\gk=L.length - i/\iv=.int .i64 (i:Int)/\Hid (X=L.take i)/\Hid (Below w.heap.size w wr)/\Hid (OwnR NoInt 4 (QE N) 59 wr w.heap.size ov X))
 case atStart=>exact ⟨0,[],by omega,by omega,rfl,qh (by simp),qh (Below.refl _ _),qh (OwnR.nil _ _ _ _ _ _)⟩
 case round =>
  obtain ⟨i,X,hi,hgk,rfl,HX,HB,HO⟩:=hrel
  obtain ⟨oa,oc,rfl⟩:=(uh HO).slice
  by_cases hil:i<L.length
  ·obtain ⟨x,hx⟩:∃ x,L[i]? = some x:=⟨L[i],by simp [hil]⟩
   obtain ⟨b,o,rfl,cs,_,hcs,hte⟩:=(uh HR).at (i:=i) (x:=qt x) (by rw [List.getElem?_map,hx];rfl)
   obtain ⟨rfl,hsz⟩:=hte
   have c0:wr.cell? ⟨b,o+i,none⟩=some (.string (qt x)):=ck (uh HB) (by simpa using hcs 0 _ rfl)
   have hxl:=uh HL x (List.mem_of_getElem? hx)
   have HS:=qh hx
   have HXL:=qh hxl
   have hil':(i:Int)<(L.length:Int):=by omega
   have him:(i:Int)+1<=100:=by omega
   clear hx hcs hsz hxl
   go_wp2_with fail
   go_fit (qsaid_any (N:=N) (p:=x.1) (d:=x.2) _ (uh HXL).1 (uh HXL).2.1 (uh HXL).2.2 hN hN2)
   rintro e W1 ⟨⟨a1,a2,a3,a4,a5,a6,a7,a8,rfl,hQ⟩,B1⟩
   have k1:=zqa W1 (.cells #[.bool a1,.slice a2 a3 a4,.bool a5,.slice a6 a7 a8] 59)
   have k2:=zqa (W1.alloc (.cells #[.bool a1,.slice a2 a3 a4,.bool a5,.slice a6 a7 a8] 59)) (.cells #[.int .i64 0,.int .i64 (-1)] 61)
   have ca:=qh (c4_keep k2 (c4_new (w:=W1) (.bool a1) (.slice a2 a3 a4) (.bool a5) (.slice a6 a7 a8) 59))
   have fa:((W1.alloc (.cells #[.bool a1,.slice a2 a3 a4,.bool a5,.slice a6 a7 a8] 59)).alloc (.cells #[.int .i64 0,.int .i64 (-1)] 61)).cell? ⟨W1.heap.size+1,0,none⟩=some (.int .i64 0):=by rw [zqe (by simp)];rfl
   have KA:=qh (bk k2 k1)
   have BB:=qh (bk (bk (bk k2 k1) B1) (uh HB))
   have HO:=qh (((uh HO).later (QE.stays _ _ (by decide)) B1).later (QE.stays _ _ (by decide)) (uh KA))
   have qa:=qh (hQ.later (uh KA))
   clear k1 k2 B1 c0 HB hQ
   obtain ⟨r0,r1,r2,r3⟩:=uh ca
   obtain ⟨V1,hV1⟩:∃ V,V=(W1.alloc (.cells #[.bool a1,.slice a2 a3 a4,.bool a5,.slice a6 a7 a8] 59)).alloc (.cells #[.int .i64 0,.int .i64 (-1)] 61):=⟨_,rfl⟩
   rw [<- hV1] at BB HO qa fa r0 r1 r2 r3
   go_upto_region 8 with fail
   rw [<- hV1]
   have hbs:w.heap.size<=V1.heap.size:=(uh BB).size
   have hLn:X.length<=100000000:=by rw [uh HX,List.length_take];omega
   clear hV1
   go_wp2_with (at_builtin;refine wpList_pushE (y:=x) rfl _ _ _ rfl Tryz.underlying52 info_q rfl (by decide) (by decide) zk_q (QE.stays _ _ (by decide)) w.heap.size _ rfl (uh HO) [.bool a1,.slice a2 a3 a4,.bool a5,.slice a6 a7 a8] rfl (one_q _ _ _ _ _ _ _ _) (kd_q _ _ _ _ _ _ _ _) ⟨_,_,_,_,_,_,_,_,rfl,uh qa⟩ rfl rfl hLn hbs ?_;intro ov' Z1 hO1 hc1 hgr1 hge1)
   go_roundg (L.length - (i+1))
   case measure=>omega
   case rel=>exact ⟨i+1,X++[x],by omega,rfl,by go_num,qh (by rw [tkn (uh HS),uh HX]),qh ((bk (zqa _ _) (uh BB)).grown hgr1 (bk (zqa _ _) (uh BB)).size hge1),qh hO1⟩
  ·obtain rfl:i=L.length:=by omega
   clear hil hi hgk
   have hX:=uh HX
   rw [List.take_length] at hX
   go_wp2
   exact bodyPost_ret (v:=.tuple #[.slice oa X.length oc,.bool true]) (by simp [results,Tryz.results25,go_sem]) rfl ⟨⟨_,rfl,by rw [<- hX];exact (uh HO).rows⟩,uh HB⟩
end Go.Proofs.YtkdobjmhammhbaaGreatDoor
