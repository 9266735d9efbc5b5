import Derived.Test.YtkdobjmhammhbaaGreatDoorMGA
import Derived.Test.YtkdobjmhammhbaaGreatDoorMHB
namespace Go.Proofs.YtkdobjmhammhbaaGreatDoor
open Go.RowKit
theorem below_grown {w w':World} (h:Below w.heap.size w w'):w.grownBy w' none:=⟨h.os,h.tape,h.output,h.size,fun k hk _=>h.block k hk⟩
theorem grown_newG {w w':World} (h:w.grownBy w' none):Below w.heap.size w w':=(Below.refl _ _).grown h (Nat.le_refl _) (fun k hk=>by cases hk)
theorem made_zeros (k:Nat):(madeCells (Value.int .u64 0).cells (k*1)).toList=(List.replicate k (0:Int)).map (Value.int .u64):=by
 apply List.ext_getElem
 · simp [madeCells]
 · intro i h1 h2
   simp [madeCells,Value.cells,Nat.mod_one]
theorem two_mul_split (k s:Nat) (x:Int):pw k*(x*2 ^ s)=x*2 ^ (64*k+s):=by
 rw [pw_two,Int.pow_add,Int.mul_left_comm]
theorem val_zero_app (k:Nat) (l:List Int):val (List.replicate k 0++l)=pw k*val l:=by
 rw [zxt,val_replicate,List.length_replicate];omega
theorem ws_zeros (k:Nat):Ws (List.replicate k 0):=fun x hx=>by
 rw [List.mem_replicate] at hx;rw [hx.2];exact ⟨by decide,by decide⟩
set_option maxHeartbeats 1000000 in
set_option maxRecDepth 8000 in
theorem timesTwos_any (ga oa ca n k s:Nat) (a:List Int) (w:World) (hra:Row w ga oa a) (ha:Ws a) (hn:a.length=n) (hs:s≤63) (hlim:n+k≤800000) :
   Calls Tryz.prog 235 #[.slice (some ⟨ga,oa,none⟩) n ca,.int .i64 ((64*k+s:Nat):Int)] w fun e w'=>∃ v,e=.returned v∧Sz (n+1+k) w' v (val a*2 ^ (64*k+s))∧Below w.heap.size w w':=by
 obtain ⟨i0,hi,hz0,hz1,hz2⟩:=info_parts info_u64
 have hq:(64*k+s) / 64=k:=by omega
 have hm:(s:Int) % 64=s:=by omega
 have hqi:(64*(k:Int)+s) / 64=k:=by omega
 have HN:=qh hn
 clear hn
 go_enter Tryz.func235,Tryz.ntmps235
 have hb2:i0.bytes*k≤281474976710656:=by rw [hz2];omega
 have hb3:k≤maxLen:=by unfold maxLen;omega
 go_wp2_with (at_make;refine wpList_make_full _ rfl _ _ 35 rfl w.heap.size 200 i0 (.int .u64 0) 1 Tryz.underlying35 hi hz0 hz1 _ _ _ _ k rfl rfl hqi hqi hb2 hb3 (Nat.le_refl _) ?_;intro w1 hown1 hgr1)
 rw [made_zeros] at hown1
 have hb1:Below w.heap.size w w1:=grown_newG hgr1
 refine (shiftUp_any ga oa ca n s a _ (hra.later hb1) ha (uh HN) hs (by omega)).mono ?_
 rintro e w2 ⟨g,out,rfl,hg,lo,wo,eo,-,ro,fo,bo⟩
 have hown2:=hown1.kept (below_grown bo) (Or.inr (by simp [Value.ownBlock]))
 have HL:=qh lo
 have HE:=qh eo
 have hb12:=bk bo hb1
 have hbs:=hb12.size
 clear lo eo hown1 hgr1
 have hnews:∀ j u,(out.map (Value.int .u64))[j]? = some u→w2.cell? (Addr.add ⟨g,0,none⟩ j)=some u:=by
   intro j u hj
   have hjl:j<out.length:=by
     have:=(List.getElem?_eq_some_iff.1 hj).1
     simpa using this
   have hu:u=.int .u64 (nth out j):=by
     rw [List.getElem?_map,List.getElem?_eq_getElem hjl] at hj
     simp only [Option.map_some,Option.some.injEq] at hj
     rw [← hj,nth_lt hjl]
   rw [hu]
   have:=ro j hjl
   rw [show Addr.add ⟨g,0,none⟩ j=⟨g,0+j,none⟩ by cases j <;> simp [Addr.add]]
   exact this
 have hone:∀ u ∈ out.map (Value.int .u64),u.oneCell'=true:=by
   intro u hu
   obtain ⟨x,_,rfl⟩:=List.mem_map.1 hu
   rfl
 have hlen:(out.map (Value.int .u64)).length=(n+1)*1:=by rw [List.length_map,uh HL];omega
 have h63:k+(n+1)≤maxLen:=by unfold maxLen;omega
 have hby:(k+(n+1))*8≤140737488355328:=by omega
 go_wp2_with (at_builtin;refine wpList_append_own _ rfl _ _ 35 rfl w.heap.size 200 i0 (.int .u64 0) 1 8 Tryz.underlying35 hi hz0 hz1 hz2 rfl (by decide) _ _ _ rfl hown2 ⟨g,0,none⟩ (n+1) (n+1) (out.map (Value.int .u64)) rfl hlen hnews hone h63 hby hbs ?_;intro v' w3 hown3 hgr3 _)
 have e0:(List.replicate k (0:Int)).map (Value.int .u64)++out.map (Value.int .u64)=(List.replicate k (0:Int)++out).map (Value.int .u64):=by rw [List.map_append]
 have hl3:(List.replicate k (0:Int)++out).length=k+(n+1):=by rw [List.length_append,List.length_replicate,uh HL]
 rw [e0,← hl3] at hown3
 obtain ⟨g3,c3,rfl,r3,l3,cur,h3⟩:=own_row hown3 (by intro e;rw [e] at hl3;simp at hl3)
 have hc3:c3≤9223372036854775807:=by
   obtain ⟨_,⟨hh,_⟩ | ⟨_,_,_,hh,_,_,_,hm,_⟩⟩:=hown3
   · simp at hh
   · simp at hh;unfold maxLen at hm;omega
 have hb3':Below w.heap.size w w3:=hb12.grown hgr3 hbs (fun j hj=>(hown2.lt j hj).1)
 have hT:=zkw g3 0 c3 (k+(n+1)) (List.replicate k 0++out) w3 r3 ((ws_zeros k).append wo) hl3 (by omega) hc3
 rw [hl3]
 clear hown3 hgr3 hown2
 go_wp2_with fail
 refine hT.mono ?_
 rintro e w4 ⟨v4,rfl,hsz,rfl⟩
 go_wp2
 go_ret
 refine ⟨_,rfl,(hsz.mono (by omega)).eq ?_,hb3'⟩
 rw [val_zero_app,uh HE,two_mul_split]
structure HvK (B0:Nat) (w:World) (G N ga oa ca gb ob cb:Nat) (A B:List Int) (wr:World):Prop where
 ne:ga≠gb
 la:B0≤ga
 lb:B0≤gb
 ra:Row wr ga oa A
 rb:Row wr gb ob B
 fa:Free wr ga
 fb:Free wr gb
 wa:Ws A
 wb:Ws B
 ta:Trim A
 tb:Trim B
 na:A.length≤N
 nb:B.length≤N
 ca1:A.length≤ca
 cb1:B.length≤cb
 ca2:ca≤9223372036854775807
 cb2:cb≤9223372036854775807
 oa:val A % 2=1
 ob:val B % 2=1
 gcd:Int.gcd (val A) (val B)=G
 below:Below B0 w wr
theorem HvK.swap {B0:Nat}{w:World}{G N ga oa ca gb ob cb:Nat}{A B:List Int}{wr:World} (h:HvK B0 w G N ga oa ca gb ob cb A B wr):HvK B0 w G N gb ob cb ga oa ca B A wr :=
 ⟨Ne.symm h.ne,h.lb,h.la,h.rb,h.ra,h.fb,h.fa,h.wb,h.wa,h.tb,h.ta,h.nb,h.na,h.cb1,h.ca1,h.cb2,h.ca2,h.ob,h.oa,by rw [Int.gcd_comm];exact h.gcd,h.below⟩
theorem HvK.drewN {B0:Nat}{w:World}{G N ga oa ca gb ob cb:Nat}{A B:List Int}{wr:World} (h:HvK B0 w G N ga oa ca gb ob cb A B wr) (n:Nat):HvK B0 w G N ga oa ca gb ob cb A B (wr.drewN n) :=
 ⟨h.ne,h.la,h.lb,h.ra,h.rb,h.fa,h.fb,h.wa,h.wb,h.ta,h.tb,h.na,h.nb,h.ca1,h.cb1,h.ca2,h.cb2,h.oa,h.ob,h.gcd,zqj h.below n⟩
theorem HvK.pos {B0:Nat}{w:World}{G N ga oa ca gb ob cb:Nat}{A B:List Int}{wr:World} (h:HvK B0 w G N ga oa ca gb ob cb A B wr):0<val A∧0<val B:=by
 have h1:=zqg h.wa
 have h2:=zqg h.wb
 have h3:=h.oa
 have h4:=h.ob
 omega
theorem HvK.step {B0:Nat}{w:World}{G N ga oa ca gb ob cb o' c' z:Nat}{A B l':List Int}{wr w3:World} (h:HvK B0 w G N ga oa ca gb ob cb A B wr) (hlt:val B<val A) (hv:val A - val B=2 ^ z*val l') (hodd:val l' % 2=1)
   (wl:Ws l') (tl:Trim l') (hr:Row w3 ga o' l') (hl:l'.length≤A.length) (hc1:l'.length≤c') (hc2:c'≤9223372036854775807) (hed:Edit ga oa A.length wr w3):HvK B0 w G N ga o' c' gb ob cb l' B w3:=by
 refine ⟨h.ne,h.la,h.lb,hr,h.rb.edit hed (Ne.symm h.ne),hed.free h.fa,h.fb.edit (Ne.symm h.ne) hed,wl,h.wb,tl,h.tb,Nat.le_trans hl h.na,h.nb,hc1,h.cb1,hc2,h.cb2,hodd,h.ob,?_,?_⟩
 · have hp:=h.pos
   rw [Int.gcd_comm,← igcd_strip (t:=z) (by omega) (zqg wl) h.ob,← hv,igcd_less (by omega) (by omega),Int.gcd_comm]
   exact h.gcd
 · have hs:B0≤wr.heap.size:=Nat.le_trans h.la (Nat.le_of_lt h.fa.lt)
   exact h.below.trans (hed.below h.la hs)
theorem half_less {a b x:Int}{z:Nat} (h:a - b=2 ^ z*x) (hb:0<b) (hx:0≤x):x<a:=by
 have hp:=zxk z
 have:1*x≤2 ^ z*x:=Int.mul_le_mul_of_nonneg_right (by omega) hx
 omega
theorem one_word {l:List Int} (hn:l≠[]) (h:¬ (1:Int)<l.length):l.length=1:=by
 have:=List.length_pos_iff.2 hn
 omega
theorem timesTwos_T (ga oa ca n T:Nat) (a:List Int) (w:World) (hra:Row w ga oa a) (ha:Ws a) (hn:a.length=n) (hlim:n+T / 64≤800000) :
   Calls Tryz.prog 235 #[.slice (some ⟨ga,oa,none⟩) n ca,.int .i64 (T:Int)] w fun e w'=>∃ v,e=.returned v∧Sz (n+1+T / 64) w' v (val a*2 ^ T)∧Below w.heap.size w w':=by
 have h:=timesTwos_any ga oa ca n (T / 64) (T % 64) a w hra ha hn (by omega) hlim
 rw [show 64*(T / 64)+T % 64=T by omega] at h
 exact h
set_option maxHeartbeats 2000000 in
set_option maxRecDepth 8000 in
theorem halves_loop (B0:Nat) (w0:World) (N ga oa ca gb ob cb:Nat) (A B:List Int) (w:World) (hra:Row w ga oa A) (hrb:Row w gb ob B) (hfa:Free w ga) (hfb:Free w gb) (hne:ga≠gb) (la:B0≤ga) (lb:B0≤gb) (wa:Ws A) (wb:Ws B)
   (na:A.length≤N) (nb:B.length≤N) (hN:N≤300000) (ca1:A.length≤ca) (cb1:B.length≤cb) (ca2:ca≤9223372036854775807) (cb2:cb≤9223372036854775807) (pa:0<val A) (pb:0<val B) (hT:Tab64 w) (hB0:14<B0) (hb0:Below B0 w0 w) :
   Calls Tryz.prog 218 #[.slice (some ⟨ga,oa,none⟩) A.length ca,.slice (some ⟨gb,ob,none⟩) B.length cb] w fun e w'=>∃ v,e=.returned v∧Sz (2*N+1) w' v (Int.gcd (val A) (val B))∧Below B0 w0 w':=by
 obtain ⟨n,HN⟩:∃ n,Hid (A.length=n):=⟨_,rfl⟩
 obtain ⟨m,HM⟩:∃ m,Hid (B.length=m):=⟨_,rfl⟩
 rw [show A.length=n from uh HN] at na ca1 ⊢
 rw [show B.length=m from uh HM] at nb cb1 ⊢
 go_enter Tryz.func218,Tryz.ntmps218
 go_wp2_with fail
 refine (lowZeros_any ga oa ca n A _ hra wa (uh HN) (by omega) pa hT).mono ?_
 rintro e w1 ⟨⟨k1,s1,m1,rfl,hk1,hs1,m10,HM1⟩,q1,rfl⟩
 go_wp2_with fail
 refine (lowZeros_any gb ob cb m B _ (by exact hrb) wb (uh HM) (by omega) pb (by exact hT)).mono ?_
 rintro e w2 ⟨⟨k2,s2,m2,rfl,hk2,hs2,m20,HM2⟩,q2,rfl⟩
 obtain ⟨MA,MA0,MA1,EA,-⟩:=val_twos wa (by rw [uh HN];exact hk1) (uh HM1).2.2 hs1 m10 (uh HM1).1 (uh HM1).2.1
 obtain ⟨MB,MB0,MB1,EB,-⟩:=val_twos wb (by rw [uh HM];exact hk2) (uh HM2).2.2 hs2 m20 (uh HM2).1 (uh HM2).2.1
 obtain ⟨T,HT⟩:∃ T,Hid (min (64*k1+s1) (64*k2+s2)=T):=⟨_,rfl⟩
 have hT64:T / 64<n:=by have:=uh HT;omega
 have hmin:min (64*(k1:Int)+s1) (64*(k2:Int)+s2)=(T:Int):=by have:=uh HT;omega
 have HG:Hid ((Int.gcd (val A) (val B):Int)=2 ^ T*(Int.gcd MA MB:Int)):=by
   show _=_
   rw [EA,EB,igcd_twos (by omega) (by omega) MA1 MB1,uh HT]
 have HMA:=qh (And.intro MA1 EA)
 have HMB:=qh (And.intro MB1 EB)
 clear MA1 EA MB1 EB
 go_wp2_with fail
 refine (odd_any ga oa ca n A _ (by exact hra) (by exact hfa) wa (uh HN) (by omega) ca1 ca2 pa (by exact hT)).mono ?_
 rintro e w3 ⟨o3,c3,z3,l3,rfl,r3,wl3,tl3,nl3,nc3,cc3,H3,E3⟩
 have E3:=Edit.undrewN E3
 have hT3:Tab64 w3:=hT.edit E3 (by omega)
 go_wp2_with fail
 refine (odd_any gb ob cb m B _ (hrb.edit E3 (Ne.symm hne)) (hfb.edit (Ne.symm hne) E3) wb (uh HM) (by omega) cb1 cb2 pb hT3).mono ?_
 rintro e w4 ⟨o4,c4,z4,l4,rfl,r4,wl4,tl4,nl4,nc4,cc4,H4,E4⟩
 have hT4:Tab64 w4:=hT3.edit E4 (by omega)
 have hB0s:B0≤w.heap.size:=by have:=hfa.lt;omega
 have hB3:Below B0 w0 w3:=hb0.trans (E3.below la hB0s)
 have hB4:Below B0 w0 w4:=hB3.trans (E4.below lb (by have:=E3.size;omega))
 have e3:val l3=MA:=(zjo (zqg wl3) (by omega) (uh H3).2.1 (uh HMA).1 ((uh H3).1.symm.trans (uh HMA).2)).2
 have e4:val l4=MB:=(zjo (zqg wl4) (by omega) (uh H4).2.1 (uh HMB).1 ((uh H4).1.symm.trans (uh HMB).2)).2
 have hK:HvK B0 w0 (Int.gcd MA MB) N ga o3 c3 gb o4 c4 l3 l4 w4 :=
   ⟨hne,la,lb,r3.edit E4 hne,r4,(E3.free hfa).edit hne E4,E4.free (hfb.edit (Ne.symm hne) E3),wl3,wl4,tl3,tl4,by omega,by omega,nc3,nc4,cc3,cc4,(uh H3).2.1,(uh H4).2.1,by rw [e3,e4],hB4⟩
 clear HM1 HM2 HMA HMB H3 H4 e3 e4 E3 E4 hB3 hB4 r3 r4 wl3 wl4 tl3 tl4 hT hT3 hra hrb hfa hfb
 go_wp2_with fail
 go_loopg [0,1] ((val l3+val l4).toNat) (fun k va vb wr=>∃ (xa xo xc ya yo yc:Nat) (X Y:List Int),va=.slice (some ⟨xa,xo,none⟩) X.length xc∧vb=.slice (some ⟨ya,yo,none⟩) Y.length yc∧k=(val X+val Y).toNat∧Tab64 wr∧HvK B0 w0 (Int.gcd MA MB) N xa xo xc ya yo yc X Y wr)
 case atStart=>exact ⟨_,_,_,_,_,_,_,_,rfl,rfl,rfl,hT4,hK⟩
 case round =>
   obtain ⟨xa,xo,xc,ya,yo,yc,X,Y,rfl,rfl,hgk,hTr,hk⟩:=hrel
   clear hK hT4
   by_cases hx1:(1:Int)<X.length
   · have hXN:=hk.na
     have hYN:=hk.nb
     have hX1:X≠[]:=val_odd_ne hk.oa
     go_wp2_with fail
     refine (compare_nm xa xo xc ya yo yc _ _ X Y _ hk.ra hk.rb hk.wa hk.wb hk.ta hk.tb rfl rfl (by omega) (by omega)).mono ?_
     rintro e w5 ⟨rfl,q5,rfl⟩
     rcases Int.lt_trichotomy (val X) (val Y) with hc | hc | hc
     · rw [zqk (show val X - val Y<0 by omega)]
       have hks:=hk.swap
       obtain ⟨p1,p2⟩:=hks.pos
       have hlen:X.length≤Y.length:=by
         by_cases e:X.length≤Y.length
         · exact e
         · have:=zqr hks.wa hks.wb hks.tb (by omega);omega
       have hPN:=hks.na
       go_wp2_with fail
       refine (lower_any ya yo yc xa xo xc _ _ Y X _ (by exact hks.ra) (by exact hks.rb) (by exact hks.fa) (fun _=>Ne.symm hks.ne) hks.wa hks.wb rfl rfl hlen (by omega) (by omega)).mono ?_
       rintro e w5 ⟨out,rfl,lo,wo,eo,ro,E5⟩
       have HLO:=qh lo
       have HEO:=qh eo
       have E5:=Edit.undrewN E5
       clear lo eo
       have hTr5:Tab64 w5:=hTr.edit E5 (by have:=hks.la;omega)
       have hTm:=trim_any ya yo yc out w5 ro (by rw [uh HLO];exact hks.ca1) hks.ca2
       rw [uh HLO] at hTm
       go_wp2_with fail
       refine hTm.mono ?_
       rintro e w6 ⟨⟨m6,hm6,rfl,hz6,ht6⟩,rfl⟩
       clear hTm
       have hl6:(out.take m6).length=m6:=by rw [List.length_take,uh HLO];omega
       have hv6:val (out.take m6)=val Y - val X:=(zkg (by rw [uh HLO];omega) hz6).trans (uh HEO)
       have HL6:=qh hl6
       have HV6:=qh hv6
       have hp6:0<val (out.take m6):=by rw [hv6];omega
       clear hl6 hv6
       have hc6:=hks.ca1
       have hc6':=hks.ca2
       go_wp2_with fail
       refine (odd_any ya yo yc m6 (out.take m6) _ (by exact ro.take m6) (by exact E5.free hks.fa) (wo.take m6) (uh HL6) (by omega) (by omega) hc6' hp6 (by exact hTr5)).mono ?_
       rintro e w7 ⟨o7,c7,z7,l7,rfl,r7,wl7,tl7,nl7,nc7,cc7,H7,E7⟩
       have E57:Edit ya yo Y.length wr w7:=E5.trans (E7.mono (Nat.le_refl _) (by omega))
       have h7:val Y - val X=2 ^ z7*val l7:=by rw [← uh HV6];exact (uh H7).1
       have R:=hks.step (by omega) h7 (uh H7).2.1 wl7 tl7 r7 (by omega) nc7 cc7 E57
       have hTr7:Tab64 w7:=hTr.edit E57 (by have:=hks.la;omega)
       have hlt7:=half_less h7 p2 (zqg wl7)
       have hn7:=zqg wl7
       have HLT:Hid ((val l7+val X).toNat<gk):=by show _<_;rw [hgk];omega
       clear hgk hk r7 wl7 tl7 E5 E7 E57 h7 hlt7 hTr hTr5 ro wo hp6
       go_wp2
       go_roundg ((val l7+val X).toNat)
       case measure=>exact uh HLT
       case rel=>exact ⟨_,_,_,_,_,_,_,_,rfl,rfl,rfl,hTr7,R⟩
     · rw [zxa (show val X - val Y=0 by omega)]
       go_wp2_with fail
       refine (timesTwos_T xa xo xc _ T X _ (by exact hk.ra) hk.wa rfl (by omega)).mono ?_
       rintro e w6 ⟨v6,rfl,s6,b6⟩
       have hgx:(Int.gcd (val A) (val B):Int)=val X*2 ^ T:=by
         rw [uh HG,← hk.gcd,← hc,Int.gcd_self,Int.natAbs_of_nonneg (zqg hk.wa),Int.mul_comm]
       have hB6:Below B0 w0 w6:=(zqj hk.below q5).trans (b6.mono (by have:=hk.fa.lt;have:=hk.la;simp only [World.drewN];omega))
       have HGX:=qh hgx
       have hNs:X.length+1+T / 64≤2*N+1:=by omega
       clear hgx hk hTr b6
       go_wp2
       go_ret
       exact ⟨_,rfl,(s6.mono hNs).eq (uh HGX).symm,hB6⟩
     · rw [zqi (show 0<val X - val Y by omega)]
       obtain ⟨p1,p2⟩:=hk.pos
       have hlen:Y.length≤X.length:=by
         by_cases e:Y.length≤X.length
         · exact e
         · have:=zqr hk.wa hk.wb hk.tb (by omega);omega
       have hPN:=hk.na
       go_wp2_with fail
       refine (lower_any xa xo xc ya yo yc _ _ X Y _ (by exact hk.ra) (by exact hk.rb) (by exact hk.fa) (fun _=>Ne.symm hk.ne) hk.wa hk.wb rfl rfl hlen (by omega) (by omega)).mono ?_
       rintro e w5 ⟨out,rfl,lo,wo,eo,ro,E5⟩
       have HLO:=qh lo
       have HEO:=qh eo
       have E5:=Edit.undrewN E5
       clear lo eo
       have hTr5:Tab64 w5:=hTr.edit E5 (by have:=hk.la;omega)
       have hTm:=trim_any xa xo xc out w5 ro (by rw [uh HLO];exact hk.ca1) hk.ca2
       rw [uh HLO] at hTm
       go_wp2_with fail
       refine hTm.mono ?_
       rintro e w6 ⟨⟨m6,hm6,rfl,hz6,ht6⟩,rfl⟩
       clear hTm
       have hl6:(out.take m6).length=m6:=by rw [List.length_take,uh HLO];omega
       have hv6:val (out.take m6)=val X - val Y:=(zkg (by rw [uh HLO];omega) hz6).trans (uh HEO)
       have HL6:=qh hl6
       have HV6:=qh hv6
       have hp6:0<val (out.take m6):=by rw [hv6];omega
       clear hl6 hv6
       have hc6:=hk.ca1
       have hc6':=hk.ca2
       go_wp2_with fail
       refine (odd_any xa xo xc m6 (out.take m6) _ (by exact ro.take m6) (by exact E5.free hk.fa) (wo.take m6) (uh HL6) (by omega) (by omega) hc6' hp6 (by exact hTr5)).mono ?_
       rintro e w7 ⟨o7,c7,z7,l7,rfl,r7,wl7,tl7,nl7,nc7,cc7,H7,E7⟩
       have E57:Edit xa xo X.length wr w7:=E5.trans (E7.mono (Nat.le_refl _) (by omega))
       have h7:val X - val Y=2 ^ z7*val l7:=by rw [← uh HV6];exact (uh H7).1
       have R:=hk.step (by omega) h7 (uh H7).2.1 wl7 tl7 r7 (by omega) nc7 cc7 E57
       have hTr7:Tab64 w7:=hTr.edit E57 (by have:=hk.la;omega)
       have hlt7:=half_less h7 p2 (zqg wl7)
       have hn7:=zqg wl7
       have HLT:Hid ((val l7+val Y).toNat<gk):=by show _<_;rw [hgk];omega
       clear hgk hk r7 wl7 tl7 E5 E7 E57 h7 hlt7 hTr hTr5 ro wo hp6
       go_wp2
       go_roundg ((val l7+val Y).toNat)
       case measure=>exact uh HLT
       case rel=>exact ⟨_,_,_,_,_,_,_,_,rfl,rfl,rfl,hTr7,R⟩
   · by_cases hy1:(1:Int)<Y.length
     · have hXN:=hk.na
       have hYN:=hk.nb
       have hX1:X≠[]:=val_odd_ne hk.oa
       go_wp2_with fail
       refine (compare_nm xa xo xc ya yo yc _ _ X Y _ hk.ra hk.rb hk.wa hk.wb hk.ta hk.tb rfl rfl (by omega) (by omega)).mono ?_
       rintro e w5 ⟨rfl,q5,rfl⟩
       rcases Int.lt_trichotomy (val X) (val Y) with hc | hc | hc
       · rw [zqk (show val X - val Y<0 by omega)]
         have hks:=hk.swap
         obtain ⟨p1,p2⟩:=hks.pos
         have hlen:X.length≤Y.length:=by
           by_cases e:X.length≤Y.length
           · exact e
           · have:=zqr hks.wa hks.wb hks.tb (by omega);omega
         have hPN:=hks.na
         go_wp2_with fail
         refine (lower_any ya yo yc xa xo xc _ _ Y X _ (by exact hks.ra) (by exact hks.rb) (by exact hks.fa) (fun _=>Ne.symm hks.ne) hks.wa hks.wb rfl rfl hlen (by omega) (by omega)).mono ?_
         rintro e w5 ⟨out,rfl,lo,wo,eo,ro,E5⟩
         have HLO:=qh lo
         have HEO:=qh eo
         have E5:=Edit.undrewN E5
         clear lo eo
         have hTr5:Tab64 w5:=hTr.edit E5 (by have:=hks.la;omega)
         have hTm:=trim_any ya yo yc out w5 ro (by rw [uh HLO];exact hks.ca1) hks.ca2
         rw [uh HLO] at hTm
         go_wp2_with fail
         refine hTm.mono ?_
         rintro e w6 ⟨⟨m6,hm6,rfl,hz6,ht6⟩,rfl⟩
         clear hTm
         have hl6:(out.take m6).length=m6:=by rw [List.length_take,uh HLO];omega
         have hv6:val (out.take m6)=val Y - val X:=(zkg (by rw [uh HLO];omega) hz6).trans (uh HEO)
         have HL6:=qh hl6
         have HV6:=qh hv6
         have hp6:0<val (out.take m6):=by rw [hv6];omega
         clear hl6 hv6
         have hc6:=hks.ca1
         have hc6':=hks.ca2
         go_wp2_with fail
         refine (odd_any ya yo yc m6 (out.take m6) _ (by exact ro.take m6) (by exact E5.free hks.fa) (wo.take m6) (uh HL6) (by omega) (by omega) hc6' hp6 (by exact hTr5)).mono ?_
         rintro e w7 ⟨o7,c7,z7,l7,rfl,r7,wl7,tl7,nl7,nc7,cc7,H7,E7⟩
         have E57:Edit ya yo Y.length wr w7:=E5.trans (E7.mono (Nat.le_refl _) (by omega))
         have h7:val Y - val X=2 ^ z7*val l7:=by rw [← uh HV6];exact (uh H7).1
         have R:=hks.step (by omega) h7 (uh H7).2.1 wl7 tl7 r7 (by omega) nc7 cc7 E57
         have hTr7:Tab64 w7:=hTr.edit E57 (by have:=hks.la;omega)
         have hlt7:=half_less h7 p2 (zqg wl7)
         have hn7:=zqg wl7
         have HLT:Hid ((val l7+val X).toNat<gk):=by show _<_;rw [hgk];omega
         clear hgk hk r7 wl7 tl7 E5 E7 E57 h7 hlt7 hTr hTr5 ro wo hp6
         go_wp2
         go_roundg ((val l7+val X).toNat)
         case measure=>exact uh HLT
         case rel=>exact ⟨_,_,_,_,_,_,_,_,rfl,rfl,rfl,hTr7,R⟩
       · rw [zxa (show val X - val Y=0 by omega)]
         go_wp2_with fail
         refine (timesTwos_T xa xo xc _ T X _ (by exact hk.ra) hk.wa rfl (by omega)).mono ?_
         rintro e w6 ⟨v6,rfl,s6,b6⟩
         have hgx:(Int.gcd (val A) (val B):Int)=val X*2 ^ T:=by
           rw [uh HG,← hk.gcd,← hc,Int.gcd_self,Int.natAbs_of_nonneg (zqg hk.wa),Int.mul_comm]
         have hB6:Below B0 w0 w6:=(zqj hk.below q5).trans (b6.mono (by have:=hk.fa.lt;have:=hk.la;simp only [World.drewN];omega))
         have HGX:=qh hgx
         have hNs:X.length+1+T / 64≤2*N+1:=by omega
         clear hgx hk hTr b6
         go_wp2
         go_ret
         exact ⟨_,rfl,(s6.mono hNs).eq (uh HGX).symm,hB6⟩
       · rw [zqi (show 0<val X - val Y by omega)]
         obtain ⟨p1,p2⟩:=hk.pos
         have hlen:Y.length≤X.length:=by
           by_cases e:Y.length≤X.length
           · exact e
           · have:=zqr hk.wa hk.wb hk.tb (by omega);omega
         have hPN:=hk.na
         go_wp2_with fail
         refine (lower_any xa xo xc ya yo yc _ _ X Y _ (by exact hk.ra) (by exact hk.rb) (by exact hk.fa) (fun _=>Ne.symm hk.ne) hk.wa hk.wb rfl rfl hlen (by omega) (by omega)).mono ?_
         rintro e w5 ⟨out,rfl,lo,wo,eo,ro,E5⟩
         have HLO:=qh lo
         have HEO:=qh eo
         have E5:=Edit.undrewN E5
         clear lo eo
         have hTr5:Tab64 w5:=hTr.edit E5 (by have:=hk.la;omega)
         have hTm:=trim_any xa xo xc out w5 ro (by rw [uh HLO];exact hk.ca1) hk.ca2
         rw [uh HLO] at hTm
         go_wp2_with fail
         refine hTm.mono ?_
         rintro e w6 ⟨⟨m6,hm6,rfl,hz6,ht6⟩,rfl⟩
         clear hTm
         have hl6:(out.take m6).length=m6:=by rw [List.length_take,uh HLO];omega
         have hv6:val (out.take m6)=val X - val Y:=(zkg (by rw [uh HLO];omega) hz6).trans (uh HEO)
         have HL6:=qh hl6
         have HV6:=qh hv6
         have hp6:0<val (out.take m6):=by rw [hv6];omega
         clear hl6 hv6
         have hc6:=hk.ca1
         have hc6':=hk.ca2
         go_wp2_with fail
         refine (odd_any xa xo xc m6 (out.take m6) _ (by exact ro.take m6) (by exact E5.free hk.fa) (wo.take m6) (uh HL6) (by omega) (by omega) hc6' hp6 (by exact hTr5)).mono ?_
         rintro e w7 ⟨o7,c7,z7,l7,rfl,r7,wl7,tl7,nl7,nc7,cc7,H7,E7⟩
         have E57:Edit xa xo X.length wr w7:=E5.trans (E7.mono (Nat.le_refl _) (by omega))
         have h7:val X - val Y=2 ^ z7*val l7:=by rw [← uh HV6];exact (uh H7).1
         have R:=hk.step (by omega) h7 (uh H7).2.1 wl7 tl7 r7 (by omega) nc7 cc7 E57
         have hTr7:Tab64 w7:=hTr.edit E57 (by have:=hk.la;omega)
         have hlt7:=half_less h7 p2 (zqg wl7)
         have hn7:=zqg wl7
         have HLT:Hid ((val l7+val Y).toNat<gk):=by show _<_;rw [hgk];omega
         clear hgk hk r7 wl7 tl7 E5 E7 E57 h7 hlt7 hTr hTr5 ro wo hp6
         go_wp2
         go_roundg ((val l7+val Y).toNat)
         case measure=>exact uh HLT
         case rel=>exact ⟨_,_,_,_,_,_,_,_,rfl,rfl,rfl,hTr7,R⟩
     · have hX1:=one_word (val_odd_ne hk.oa) hx1
       have hY1:=one_word (val_odd_ne hk.ob) hy1
       obtain ⟨x,rfl⟩:=List.length_eq_one_iff.1 hX1
       obtain ⟨y,rfl⟩:=List.length_eq_one_iff.1 hY1
       have hcx:wr.cell? ⟨xa,xo,none⟩=some (.int .u64 x):=hk.ra 0 (by simp)
       have hcy:wr.cell? ⟨ya,yo,none⟩=some (.int .u64 y):=hk.rb 0 (by simp)
       have hxw:W64 x:=hk.wa x (by simp)
       have hyw:W64 y:=hk.wb y (by simp)
       have hxy:=hk.pos
       simp only [val] at hxy
       have hx0:0<x:=by omega
       have hy0:0<y:=by omega
       have hgc:Int.gcd x y=Int.gcd MA MB:=by have:=hk.gcd;simp only [val] at this;simpa using this
       have hgl:(Int.gcd x y:Int)<18446744073709551616:=by have:=igcd_le (b:=y) hx0;have:=hxw.2;omega
       have hgw:Ws [(Int.gcd x y:Int)]:=Ws.mk ⟨by omega,hgl⟩ Ws.nil
       have hrow:∀ n,Row ((wr.drewN n).alloc (.cells #[.int .u64 (Int.gcd x y:Int)] 200)) wr.heap.size 0 [(Int.gcd x y:Int)]:=by
         intro n k hk
         simp at hk;subst hk
         show (wr.alloc _).cell? _=_
         simp [nth]
       have HGC:=qh hgc
       clear hgc
       have hB:=hk.below
       have hBs:B0≤wr.heap.size:=by have:=hk.fa.lt;have:=hk.la;omega
       have hNs:1+1+T / 64≤2*N+1:=by omega
       have hTl:1+T / 64≤800000:=by omega
       clear hk hgk
       go_wp2_with fail
       go_region_with (first | (go_at_call 185;go_fit (commonWord_any x y _ hxw hyw hx0 hy0 (by exact hTr));rintro e w8 ⟨rfl,q8,rfl⟩) | (go_at_call 235;go_fit (timesTwos_T _ 0 1 1 T [(Int.gcd x y:Int)] _ (by exact hrow _) hgw rfl hTl);rintro e w9 ⟨v9,rfl,s9,b9⟩))
       all_goals
         have hB9:Below B0 w0 w9:=((zqj hB _).alloc (by exact hBs) _).trans (b9.mono (by simp;omega))
         have hv9:val [(Int.gcd x y:Int)]*2 ^ T=(Int.gcd (val A) (val B):Int):=by
           rw [uh HG,← uh HGC,Int.mul_comm];simp [val]
         have HV9:=qh hv9
         clear hv9 b9
         go_wp2
         go_ret
         exact ⟨_,rfl,(s9.mono hNs).eq (uh HV9),hB9⟩
end Go.Proofs.YtkdobjmhammhbaaGreatDoor
