import Derived.Test.YtkdobjmhammhbaaGreatDoorMSA
import Derived.Test.YtkdobjmhammhbaaGreatDoorMQA
namespace Go.Proofs.YtkdobjmhammhbaaGreatDoor
set_option maxHeartbeats 16000000
set_option maxRecDepth 8000
open Go.RowKit
theorem rten_any (n:Nat) (w:World) (hn:n<=1000) :
 Calls Tryz.prog 86 #[.int .i64 n] w fun e w'=>(∃ v,e=.returned v/\Nr (n+1) w' v (10 ^ n))/\Below w.heap.size w w':=by
 have hbx:=zji w false none 0 0
 have hk0:=zqa w (.cells #[.bool false,.slice none 0 0] 57)
 go_enter Tryz.func86,Tryz.ntmps86
 go_wp2_with fail
 go_fit (zxn 1 _ (by decide) (by decide))
 rintro e W1 ⟨⟨v1,rfl,hN1⟩,hb1⟩
 obtain ⟨x1,a1,n1,c1,rfl⟩:=hN1.shape
 have hbx1:=hbx.later hb1
 have hk1:=bk hb1 hk0
 have l1:w.heap.size<W1.heap.size:=by obtain ⟨⟨x0,g0⟩,_⟩:=hbx1.cells;exact World.block_lt_of_cell? W1 _ g0
 clear hbx hk0 hb1
 have hA:=zqa W1 (.cells #[.bool x1,.slice a1 n1 c1] 57)
 have hout:=NB.new hN1
 go_wp2_with fail
 go_fit (zxn 10 _ (by decide) (by decide))
 rintro e W2 ⟨⟨v2,rfl,hN2⟩,hb2⟩
 obtain ⟨x2,a2,n2,c2,rfl⟩:=hN2.shape
 have hout2:=(hout.keep hb2).keep (zqa W2 (.cells #[.bool x2,.slice a2 n2 c2] 57))
 have hten:=NB.new hN2
 have l2:W1.heap.size<W2.heap.size:=(hout.keep hb2).lt
 have hbx2:=((hbx1.later hA).later hb2).later (zqa W2 (.cells #[.bool x2,.slice a2 n2 c2] 57))
 have hk2:=bk (zqa W2 (.cells #[.bool x2,.slice a2 n2 c2] 57)) (bk hb2 (bk hA hk1))
 clear hout hbx1 hk1 hA hb2
 go_wp2_with fail
 go_loopg [5] n (fun g iv wr=>∃ i:Nat,g=n - i/\i<=n/\iv=.int .i64 i/\(∃ x a m c P,Hid (P=(10:Int) ^ i)/\NB wr W1.heap.size x a m c (i+1) P)/\NB wr W2.heap.size x2 a2 n2 c2 1 10/\NBox wr w.heap.size/\Below w.heap.size w wr)
 case atStart=>exact ⟨0,rfl,by omega,rfl,⟨_,_,_,_,_,qh (by simp),hout2⟩,hten,hbx2,hk2⟩
 case round =>
  clear hout2 hten hbx2 hk2
  obtain ⟨i,hgk,hi,rfl,⟨x,a,m,c,P,HP,hout⟩,hten,hbx,hk⟩:=hrel
  have e0:=hout.c0
  have e1:=hout.c1
  by_cases hin:i<n
  ·have f0:=hten.c0
   have f1:=hten.c1
   have hini:(i:Int)<n:=by omega
   go_wp2_with fail
   go_fit (zjh (N:=i+1) (M:=1) _ hout.nr hten.nr (by omega))
   rintro e W3 ⟨⟨v3,rfl,hN3⟩,hb3⟩
   obtain ⟨x3,a3,n3,c3,rfl⟩:=hN3.shape
   have hout3:=hout.keep hb3
   have hten3:=hten.keep hb3
   have hbx3:=hbx.later hb3
   have hk3:=bk hb3 hk
   have HP3:Hid (P*10=(10:Int) ^ (i+1)):=by show _=_;rw [uh HP,Int.pow_succ]
   clear e0 e1 f0 f1 hb3 hout hten hbx hk HP
   have e0:=hout3.c0
   have e1:=hout3.c1
   obtain ⟨_,_,gf⟩:=hout3.box.cells
   go_wp2
   go_roundg (n - (i+1))
   case measure=>omega
   case rel=>exact ⟨i+1,rfl,by omega,by go_num,⟨_,_,_,_,_,HP3,hout3.stored hN3⟩,hten3.beside hout3.box (by omega) _ _,hbx3.beside (by omega) _ _,zqc hk3 (by omega) _ _⟩
  ·have hini:¬ (i:Int)<n:=by omega
   obtain rfl:i=n:=by omega
   obtain ⟨⟨x0,g0⟩,⟨a0,n0,c0,g1⟩,gf⟩:=hbx.cells
   go_wp2
   obtain ⟨st0,st1⟩:=hbx.stored (.bool x) (.slice a m c)
   exact bodyPost_ret (v:=.agg #[.bool x,.slice a m c]) (by simp [results,Tryz.results86,go_sem,st0,st1]) rfl ⟨⟨_,rfl,by rw [<- uh HP];exact hout.nr.stored hbx _ _⟩,zqc hk (Nat.le_refl _) _ _⟩
def PowQ (s:ByteArray) (E:Nat) (ng:Bool) (e:Ending):Prop :=
 (runEnd s E=E/\e=.returned (.tuple #[.int .i64 0,.int .i64 E,.agg #[.int .i64 1,.int .i64 E]])) \/
 (E+300<runEnd s E/\e=.returned (.tuple #[.int .i64 0,.int .i64 (E+300:Nat),.agg #[.int .i64 2,.int .i64 (E+300:Nat)]])) \/
 (∃ m:Nat,E<m/\m<=E+300/\m<=s.size/\runEnd s E=m /\
  ((m<s.size/\e=.returned (.tuple #[.int .i64 0,.int .i64 m,.agg #[.int .i64 1,.int .i64 m]])) \/
   (m=s.size/\60<dv s E m/\e=.returned (.tuple #[.int .i64 0,.int .i64 m,.agg #[.int .i64 2,.int .i64 E]])) \/
   (m=s.size/\dv s E m<=60/\e=.returned (.tuple #[.int .i64 (if ng then - dv s E m else dv s E m),.int .i64 m,.agg #[.int .i64 0,.int .i64 (-1)]]))))
theorem exp_cases (s:ByteArray) (k:Nat) (hk:k<s.size):(s.size=k+1/\expAt s k=k+1/\bAt s (k+1) 45=false)\/(∃ h:k+1<s.size,(((s[k+1]'h).toNat:Int) == 45)=true/\expAt s k=k+2/\bAt s (k+1) 45=true)\/(∃ h:k+1<s.size,(((s[k+1]'h).toNat:Int) == 45)=false/\(((s[k+1]'h).toNat:Int) == 43)=true/\expAt s k=k+2/\bAt s (k+1) 45=false)\/(∃ h:k+1<s.size,(((s[k+1]'h).toNat:Int) == 45)=false/\(((s[k+1]'h).toNat:Int) == 43)=false/\expAt s k=k+1/\bAt s (k+1) 45=false):=by
 by_cases h:k+1<s.size
 ·by_cases h1:(s[k+1]'h).toNat=45
  ·have e:bAt s (k+1) 45=true:=zql ⟨h,h1⟩
   exact Or.inr (Or.inl ⟨h,by rw [h1];rfl,by unfold expAt;rw [e,Bool.or_true];rfl,e⟩)
  ·have e:bAt s (k+1) 45=false:=zxy (fun ⟨_,g⟩=>h1 g)
   have f1:(((s[k+1]'h).toNat:Int) == 45)=false:=by simp;omega
   by_cases h2:(s[k+1]'h).toNat=43
   ·have e2:bAt s (k+1) 43=true:=zql ⟨h,h2⟩
    exact Or.inr (Or.inr (Or.inl ⟨h,f1,by rw [h2];rfl,by unfold expAt;rw [e2,Bool.true_or];rfl,e⟩))
   ·have e2:bAt s (k+1) 43=false:=zxy (fun ⟨_,g⟩=>h2 g)
    have f2:(((s[k+1]'h).toNat:Int) == 43)=false:=by simp;omega
    exact Or.inr (Or.inr (Or.inr ⟨h,f1,f2,by unfold expAt;rw [e,e2];rfl,e⟩))
 ·have e:bAt s (k+1) 45=false:=bAt_end (by omega)
  have e2:bAt s (k+1) 43=false:=bAt_end (by omega)
  exact Or.inl ⟨by omega,by unfold expAt;rw [e,e2];rfl,e⟩
theorem GB.stored {w:World}{r:Nat}{T:TypeId} (h:GB w r T) (u u':Value):((w.setCell ⟨r,0,none⟩ u).setCell ⟨r,1,none⟩ u').cell? ⟨r,0,none⟩=some u/\((w.setCell ⟨r,0,none⟩ u).setCell ⟨r,1,none⟩ u').cell? ⟨r,1,none⟩=some u':=by
 obtain ⟨x,y,hb⟩:=h
 refine ⟨?_,?_⟩ <;> simp [World.cell?,World.setCell,Array.getElem?_modify,hb]
theorem fault_out {w W1:World}{T:TypeId} (h:GB W1 w.heap.size T) (hb:Below w.heap.size w W1) (u u':Value) (o:Obj) :
 let W:=((W1.setCell ⟨w.heap.size,0,none⟩ u).setCell ⟨w.heap.size,1,none⟩ u').alloc o
 W.cell? ⟨w.heap.size,0,none⟩=some u/\W.cell? ⟨w.heap.size,1,none⟩=some u'/\Below w.heap.size w W:=by
 intro W
 obtain ⟨s0,s1⟩:=h.stored u u'
 exact ⟨ck (zqa _ o) s0,ck (zqa _ o) s1,bk (zqa _ o) (zqc hb (Nat.le_refl _) _ _)⟩
theorem rpower_any (s:ByteArray) (k:Nat) (w:World) (hs:s.size<=9223372036854775807) (hk:k<s.size) :
 Calls Tryz.prog 85 #[.string s,.int .i64 (k+1:Nat)] w fun e w'=>PowQ s (expAt s k) (bAt s (k+1) 45) e/\Below w.heap.size w w':=by
 have hE:=expAt_le hk
 have hc:=exp_cases s k hk
 obtain ⟨E,HE⟩:∃ E,Hid (expAt s k=E):=⟨_,rfl⟩
 rw [show expAt s k=E from uh HE] at hc hE ⊢
 obtain ⟨ng,HNG⟩:∃ b,Hid (bAt s (k+1) 45=b):=⟨_,rfl⟩
 rw [show bAt s (k+1) 45=ng from uh HNG] at hc ⊢
 have HC:=qh hc
 clear hc
 have hbx:=gb_new w (.int .i64 0) (.int .i64 0) 61
 have hk0:=zqa w (.cells #[.int .i64 0,.int .i64 0] 61)
 go_enter Tryz.func85,Tryz.ntmps85
 go_upto_region 1 with fail
 obtain ⟨W0,hW0⟩:∃ W0,W0=w.alloc (.cells #[.int .i64 0,.int .i64 0] 61):=⟨_,rfl⟩
 rw [<- hW0] at hbx hk0 ⊢
 clear hW0
 go_cut [7] (fun b wx=>b=.bool ng/\W0=wx)
 case first =>
  rcases uh HC with ⟨hz,_,hn⟩ | ⟨hz,h1,_,hn⟩ | ⟨hz,h1,h2,_,hn⟩ | ⟨hz,h1,h2,_,hn⟩
  ·have hzi:¬ ((k+1:Nat):Int)<s.size:=by omega
   go_wp2
   go_meet
   exact ⟨by rw [hn],rfl⟩
  ·have hzi:((k+1:Nat):Int)<s.size:=by omega
   go_wp2
   go_meet
   exact ⟨by rw [hn],rfl⟩
  ·have hzi:((k+1:Nat):Int)<s.size:=by omega
   go_wp2
   go_meet
   exact ⟨by rw [hn],rfl⟩
  ·have hzi:((k+1:Nat):Int)<s.size:=by omega
   go_wp2
   go_meet
   exact ⟨by rw [hn],rfl⟩
 case rest =>
  obtain ⟨rfl,rfl⟩:=hcut
  go_upto_region 2 with fail
  go_cut [34] (fun b wx=>b=.bool (decide (E=k+2))/\W0=wx)
  case first =>
   rcases uh HC with ⟨hz,hq,rfl⟩ | ⟨hz,h1,hq,rfl⟩ | ⟨hz,h1,h2,hq,rfl⟩ | ⟨hz,h1,h2,hq,rfl⟩
   ·have hzi:¬ ((k+1:Nat):Int)<s.size:=by omega
    go_wp2
    go_meet
    exact ⟨by rw [hq];simp,rfl⟩
   ·have hzi:((k+1:Nat):Int)<s.size:=by omega
    go_wp2
    go_meet
    exact ⟨by rw [hq];simp,rfl⟩
   ·have hzi:((k+1:Nat):Int)<s.size:=by omega
    go_wp2
    go_meet
    exact ⟨by rw [hq];simp,rfl⟩
   ·have hzi:((k+1:Nat):Int)<s.size:=by omega
    go_wp2
    go_meet
    exact ⟨by rw [hq];simp,rfl⟩
  case rest =>
   obtain ⟨rfl,rfl⟩:=hcut
   go_upto_if 34 with fail
   have hE2:E=k+1\/E=k+2:=by
    rcases uh HC with ⟨_,hq,_⟩ | ⟨_,_,hq,_⟩ | ⟨_,_,_,hq,_⟩ | ⟨_,_,_,hq,_⟩
    ·exact Or.inl hq
    ·exact Or.inr hq
    ·exact Or.inr hq
    ·exact Or.inl hq
   go_cut [1] (fun v wx=>v=.int .i64 E/\W0=wx)
   case first =>
    rcases hE2 with hq | hq
    ·have hd:decide (E=k+2)=false:=by rw [hq];simp
     go_wp2
     go_meet
     exact ⟨by first | (rw [hq];done) | (rw [hq];go_num),rfl⟩
    ·have hd:decide (E=k+2)=true:=by rw [hq];simp
     go_wp2
     go_meet
     exact ⟨by first | (rw [hq];done) | (rw [hq];go_num),rfl⟩
   case rest =>
    obtain ⟨rfl,rfl⟩:=hcut
    clear hE2 HC
    go_wp2_with fail
    go_fit (rrun_any s E _ (by omega) hE)
    rintro e W1 ⟨hc,hb1⟩
    have bx1:=hbx.later hb1
    have bk1:=bk hb1 hk0
    obtain ⟨⟨y0,k0⟩,⟨y1,k1⟩,kf⟩:=bx1.cells
    have l0:w.heap.size<W1.heap.size:=World.block_lt_of_cell? W1 _ k0
    clear hb1 hbx hk0
    rcases hc with ⟨hr,rfl⟩ | ⟨hr,rfl⟩ | ⟨m,m0,m1,m2,hr,rfl⟩
    ·have HR:=qh hr
     clear hr
     go_wp2
     go_region
     all_goals go_wp2
     obtain ⟨st0,st1,hB⟩:=fault_out bx1 bk1 (.int .i64 1) (.int .i64 E) (.cells #[.int .i64 1,.int .i64 E] 61)
     exact bodyPost_ret (v:=.tuple #[.int .i64 0,.int .i64 E,.agg #[.int .i64 1,.int .i64 E]]) (by simp [results,Tryz.results85,go_sem,st0,st1]) rfl ⟨Or.inl ⟨uh HR,rfl⟩,hB.drew⟩
    ·have HR:=qh hr
     clear hr
     go_wp2
     go_region
     all_goals go_wp2
     obtain ⟨st0,st1,hB⟩:=fault_out bx1 bk1 (.int .i64 2) (.int .i64 ((E:Int)+300)) (.cells #[.int .i64 2,.int .i64 ((E:Int)+300)] 61)
     exact bodyPost_ret (v:=.tuple #[.int .i64 0,.int .i64 ((E:Int)+300),.agg #[.int .i64 2,.int .i64 ((E:Int)+300)]]) (by simp [results,Tryz.results85,go_sem,st0,st1]) rfl ⟨Or.inr (Or.inl ⟨uh HR,rfl⟩),hB.drew⟩
    ·have HR:=qh hr
     have HD:=qh (runEnd_dig (s:=s) (a:=E))
     rw [show runEnd s E=m from uh HR] at HD
     clear hr
     by_cases hms:m<s.size
     ·have hmi:(m:Int)<s.size:=by omega
      go_wp2
      obtain ⟨st0,st1,hB⟩:=fault_out bx1 bk1 (.int .i64 1) (.int .i64 m) (.cells #[.int .i64 0,.int .i64 (-1)] 61)
      exact bodyPost_ret (v:=.tuple #[.int .i64 0,.int .i64 m,.agg #[.int .i64 1,.int .i64 m]]) (by simp [results,Tryz.results85,go_sem,st0,st1]) rfl ⟨Or.inr (Or.inr ⟨m,m0,m1,m2,uh HR,Or.inl ⟨hms,rfl⟩⟩),hB⟩
     ·have hmi:¬ (m:Int)<s.size:=by omega
      go_wp2_with fail
      go_loopg [10,11] (m - E) (fun g xv iv wr=>∃ (i:Nat) (x:Int),g=m - i/\E<=i/\i<=m/\iv=.int .i64 i/\xv=.int .i64 x/\0<=x/\x<=700/\Hid ((x<=60/\x=dv s E i)\/(60<x/\60<dv s E i))/\wr=W1.alloc (.cells #[.int .i64 0,.int .i64 (-1)] 61))
      case atStart=>exact ⟨E,0,rfl,Nat.le_refl _,by omega,rfl,rfl,by omega,by omega,Or.inl ⟨by decide,(dv_self s E).symm⟩,rfl⟩
      case round =>
       obtain ⟨i,x,hgk,hi0,hi1,rfl,rfl,hx0,hx1,HX,rfl⟩:=hrel
       by_cases him:i<m
       ·have himi:(i:Int)<m:=by omega
        have his:i<s.size:=by omega
        have hisi:(i:Int)<s.size:=by omega
        obtain ⟨_,d1,d2⟩:=uh HD i hi0 him
        have c1:(48:Int)<=((s[i]'his).toNat:Int):=by omega
        have c2:((s[i]'his).toNat:Int)<=57:=by omega
        clear d1 d2
        have HS:=qh (dv_succ hi0 his)
        by_cases hx:x<=60
        ·go_wp2
         go_roundg (m - (i+1))
         case measure=>omega
         case rel =>
          refine ⟨i+1,10*x+(((s[i]'his).toNat:Int) - 48),rfl,by omega,by omega,by go_num,by go_num,by omega,by omega,?_,rfl⟩
          have h1:=uh HS
          rcases uh HX with ⟨_,h2⟩ | ⟨h2,_⟩
          ·show _\/_
           omega
          ·omega
        ·go_wp2
         go_roundg (m - (i+1))
         case measure=>omega
         case rel =>
          refine ⟨i+1,x,rfl,by omega,by omega,by go_num,rfl,hx0,hx1,?_,rfl⟩
          have h1:=uh HS
          rcases uh HX with ⟨h2,_⟩ | ⟨_,h2⟩
          ·omega
          ·show _\/_
           omega
       ·have himi:¬ (i:Int)<m:=by omega
        obtain rfl:i=m:=by omega
        by_cases hx:60<x
        ·have hdv:60<dv s E i:=by rcases uh HX with ⟨h2,_⟩ | ⟨_,h2⟩ <;> omega
         have HDV:=qh hdv
         clear hdv
         go_wp2
         obtain ⟨st0,st1,hB⟩:=fault_out bx1 bk1 (.int .i64 2) (.int .i64 E) (.cells #[.int .i64 0,.int .i64 (-1)] 61)
         exact bodyPost_ret (v:=.tuple #[.int .i64 0,.int .i64 i,.agg #[.int .i64 2,.int .i64 E]]) (by simp [results,Tryz.results85,go_sem,st0,st1]) rfl ⟨Or.inr (Or.inr ⟨i,m0,m1,m2,uh HR,Or.inr (Or.inl ⟨by omega,uh HDV,rfl⟩)⟩),hB⟩
        ·have hdv:x=dv s E i:=by rcases uh HX with ⟨_,h2⟩ | ⟨h2,_⟩ <;> omega
         have HDV:=qh hdv
         clear hdv
         cases ng
         ·go_wp2
          obtain ⟨st0,st1,hB⟩:=fault_out bx1 bk1 (.int .i64 0) (.int .i64 (-1)) (.cells #[.int .i64 0,.int .i64 (-1)] 61)
          exact bodyPost_ret (v:=.tuple #[.int .i64 x,.int .i64 i,.agg #[.int .i64 0,.int .i64 (-1)]]) (by simp [results,Tryz.results85,go_sem,st0,st1]) rfl ⟨Or.inr (Or.inr ⟨i,m0,m1,m2,uh HR,Or.inr (Or.inr ⟨by omega,by have:=uh HDV;omega,by rw [<- uh HDV];rfl⟩)⟩),hB⟩
         ·go_wp2
          obtain ⟨st0,st1,hB⟩:=fault_out bx1 bk1 (.int .i64 0) (.int .i64 (-1)) (.cells #[.int .i64 0,.int .i64 (-1)] 61)
          exact bodyPost_ret (v:=.tuple #[.int .i64 (-x),.int .i64 i,.agg #[.int .i64 0,.int .i64 (-1)]]) (by simp [results,Tryz.results85,go_sem,st0,st1]) rfl ⟨Or.inr (Or.inr ⟨i,m0,m1,m2,uh HR,Or.inr (Or.inr ⟨by omega,by have:=uh HDV;omega,by rw [<- uh HDV];rfl⟩)⟩),hB⟩
structure QK (w wx:World):Prop where
 below:Below w.heap.size w wx
 qb:QBox wx w.heap.size
 fb:GB wx (w.heap.size+1) 61
theorem QK.keep {w wx w1:World} (h:QK w wx) (hb:Below wx.heap.size wx w1):QK w w1:=⟨bk hb h.below,h.qb.later hb,h.fb.later hb⟩
theorem QK.drew {w wx:World} (h:QK w wx):QK w wx.drew:=⟨h.below.drew,h.qb,h.fb⟩
theorem QK.lt {w wx:World} (h:QK w wx):w.heap.size+1<wx.heap.size:=by
 obtain ⟨x,y,hb⟩:=h.fb
 exact (Array.getElem?_eq_some_iff.1 hb).1
theorem QK.beside {w wx:World} (h:QK w wx) {q:Nat} (hq:w.heap.size+1<q) (u u':Value):QK w ((wx.setCell ⟨q,0,none⟩ u).setCell ⟨q,1,none⟩ u'):=by
 refine ⟨zqc h.below (by omega) _ _,h.qb.beside (by omega) _ _,?_⟩
 obtain ⟨x,y,hb⟩:=h.fb
 exact ⟨x,y,by rw [Below.heap_setCell _ _ _ _ (by show _≠_;simp;omega),Below.heap_setCell _ _ _ _ (by show _≠_;simp;omega)];exact hb⟩
theorem QK.start (w:World):QK w ((w.alloc (.cells #[.bool false,.slice none 0 0,.bool false,.slice none 0 0] 59)).alloc (.cells #[.int .i64 0,.int .i64 0] 61)):=by
 have k1:=zqa w (.cells #[.bool false,.slice none 0 0,.bool false,.slice none 0 0] 59)
 have k2:=zqa (w.alloc (.cells #[.bool false,.slice none 0 0,.bool false,.slice none 0 0] 59)) (.cells #[.int .i64 0,.int .i64 0] 61)
 have g:=gb_new (w.alloc (.cells #[.bool false,.slice none 0 0,.bool false,.slice none 0 0] 59)) (.int .i64 0) (.int .i64 0) 61
 rw [show (w.alloc (.cells #[.bool false,.slice none 0 0,.bool false,.slice none 0 0] 59)).heap.size=w.heap.size+1 by simp] at g
 exact ⟨bk k2 k1,(zju w _ _ _ _ _ _ _ _).later k2,g⟩
theorem QK.out {w W:World} (h:QK w W) (u0 u1 u2 u3 v0 v1:Value) :
 let W':=(((((W.setCell ⟨w.heap.size,0,none⟩ u0).setCell ⟨w.heap.size,1,none⟩ u1).setCell ⟨w.heap.size,2,none⟩ u2).setCell ⟨w.heap.size,3,none⟩ u3).setCell ⟨w.heap.size+1,0,none⟩ v0).setCell ⟨w.heap.size+1,1,none⟩ v1
 W'.cell? ⟨w.heap.size,0,none⟩=some u0/\W'.cell? ⟨w.heap.size,1,none⟩=some u1/\W'.cell? ⟨w.heap.size,2,none⟩=some u2/\W'.cell? ⟨w.heap.size,3,none⟩=some u3/\W'.cell? ⟨w.heap.size+1,0,none⟩=some v0/\W'.cell? ⟨w.heap.size+1,1,none⟩=some v1/\Below w.heap.size w W':=by
 intro W'
 obtain ⟨s0,s1,s2,s3⟩:=h.qb.stored u0 u1 u2 u3
 have g:GB ((((W.setCell ⟨w.heap.size,0,none⟩ u0).setCell ⟨w.heap.size,1,none⟩ u1).setCell ⟨w.heap.size,2,none⟩ u2).setCell ⟨w.heap.size,3,none⟩ u3) (w.heap.size+1) 61:=by
  obtain ⟨x,y,hb⟩:=h.fb
  exact ⟨x,y,by rw [Below.heap_setCell _ _ _ _ (by show _≠_;simp),Below.heap_setCell _ _ _ _ (by show _≠_;simp),Below.heap_setCell _ _ _ _ (by show _≠_;simp),Below.heap_setCell _ _ _ _ (by show _≠_;simp)];exact hb⟩
 obtain ⟨t0,t1⟩:=g.stored v0 v1
 have hc:∀ o v,((((W.setCell ⟨w.heap.size,0,none⟩ u0).setCell ⟨w.heap.size,1,none⟩ u1).setCell ⟨w.heap.size,2,none⟩ u2).setCell ⟨w.heap.size,3,none⟩ u3).cell? ⟨w.heap.size,o,none⟩=some v->W'.cell? ⟨w.heap.size,o,none⟩=some v:=fun o v hv=>by
  show (World.setCell _ _ _).cell? _=_
  rw [zqb _ _ _ _ _ _ (by omega),zqb _ _ _ _ _ _ (by omega)];exact hv
 exact ⟨hc _ _ s0,hc _ _ s1,hc _ _ s2,hc _ _ s3,t0,t1,zqc (zqf h.below (Nat.le_refl _) _ _ _ _) (by omega) _ _⟩
theorem QK.out1 {w W:World} (h:QK w W) (u0 u1 u2 u3 v0 v1:Value) (o:Obj) :
 let W':=((((((W.setCell ⟨w.heap.size,0,none⟩ u0).setCell ⟨w.heap.size,1,none⟩ u1).setCell ⟨w.heap.size,2,none⟩ u2).setCell ⟨w.heap.size,3,none⟩ u3).setCell ⟨w.heap.size+1,0,none⟩ v0).setCell ⟨w.heap.size+1,1,none⟩ v1).alloc o
 W'.cell? ⟨w.heap.size,0,none⟩=some u0/\W'.cell? ⟨w.heap.size,1,none⟩=some u1/\W'.cell? ⟨w.heap.size,2,none⟩=some u2/\W'.cell? ⟨w.heap.size,3,none⟩=some u3/\W'.cell? ⟨w.heap.size+1,0,none⟩=some v0/\W'.cell? ⟨w.heap.size+1,1,none⟩=some v1/\Below w.heap.size w W':=by
 intro W'
 obtain ⟨s0,s1,s2,s3,t0,t1,hB⟩:=h.out u0 u1 u2 u3 v0 v1
 have hk:=zqa ((((((W.setCell ⟨w.heap.size,0,none⟩ u0).setCell ⟨w.heap.size,1,none⟩ u1).setCell ⟨w.heap.size,2,none⟩ u2).setCell ⟨w.heap.size,3,none⟩ u3).setCell ⟨w.heap.size+1,0,none⟩ v0).setCell ⟨w.heap.size+1,1,none⟩ v1) o
 exact ⟨ck hk s0,ck hk s1,ck hk s2,ck hk s3,ck hk t0,ck hk t1,bk hk hB⟩
theorem QK.nr {w W:World} (h:QK w W) {N:Nat}{v:Value}{z:Int} (hz:Nr N W v z) (u0 u1 u2 u3 v0 v1:Value):Nr N ((((((W.setCell ⟨w.heap.size,0,none⟩ u0).setCell ⟨w.heap.size,1,none⟩ u1).setCell ⟨w.heap.size,2,none⟩ u2).setCell ⟨w.heap.size,3,none⟩ u3).setCell ⟨w.heap.size+1,0,none⟩ v0).setCell ⟨w.heap.size+1,1,none⟩ v1) v z:=by
 have g:GB ((((W.setCell ⟨w.heap.size,0,none⟩ u0).setCell ⟨w.heap.size,1,none⟩ u1).setCell ⟨w.heap.size,2,none⟩ u2).setCell ⟨w.heap.size,3,none⟩ u3) (w.heap.size+1) 61:=by
  obtain ⟨x,y,hb⟩:=h.fb
  exact ⟨x,y,by rw [Below.heap_setCell _ _ _ _ (by show _≠_;simp),Below.heap_setCell _ _ _ _ (by show _≠_;simp),Below.heap_setCell _ _ _ _ (by show _≠_;simp),Below.heap_setCell _ _ _ _ (by show _≠_;simp)];exact hb⟩
 exact (hz.qstored h.qb _ _ _ _).gb g (by decide) _ _
theorem rrun_v (s:ByteArray) (a:Nat) (v:Int) (hv:v=a) (w:World) (hs:s.size<=9223372036854775807) (ha:a<=s.size) :
 Calls Tryz.prog 80 #[.string s,.int .i64 v,.int .i64 300] w fun e w'=>((runEnd s a=a/\e=.returned (.tuple #[.int .i64 a,.agg #[.int .i64 1,.int .i64 a]]))\/(a+300<runEnd s a/\e=.returned (.tuple #[.int .i64 (a+300:Nat),.agg #[.int .i64 2,.int .i64 (a+300:Nat)]]))\/(∃ m:Nat,a<m/\m<=a+300/\m<=s.size/\runEnd s a=m/\e=.returned (.tuple #[.int .i64 m,.agg #[.int .i64 0,.int .i64 (-1)]])))/\Below w.heap.size w w':=by
 subst hv;exact rrun_any s a w hs ha
theorem zqu (s:ByteArray) (m c:Nat):(¬ (m:Int)<s.size/\bAt s m c=false)\/(∃ h:m<s.size,(((s[m]'h).toNat:Int) == (c:Int))=true/\bAt s m c=true)\/(∃ h:m<s.size,(((s[m]'h).toNat:Int) == (c:Int))=false/\bAt s m c=false):=by
 by_cases h:m<s.size
 ·by_cases h1:(s[m]'h).toNat=c
  ·exact Or.inr (Or.inl ⟨h,by simp;omega,zql ⟨h,h1⟩⟩)
  ·exact Or.inr (Or.inr ⟨h,by simp;omega,zxy (fun ⟨_,g⟩=>h1 g)⟩)
 ·exact Or.inl ⟨by omega,bAt_end (by omega)⟩
theorem Nr.places {N:Nat}{w:World}{x:Bool}{a:Option Addr}{n c:Nat}{z:Int} (h:Nr N w (.agg #[.bool x,.slice a n c]) z) (z0:0<=z):∃ D,Sl w (.slice a n c) D/\P4 D/\D.length<=N/\v4 D=z/\D.length=n/\(z=0->n=0)/\(z≠0->0<n):=by
 obtain ⟨neg,sl,D,hv,hs,hP,hT,hl,hn,hz⟩:=h
 obtain ⟨rfl,rfl⟩:x=neg/\.slice a n c=sl:=by simpa using hv
 have e:=sign_false hP hT hn hz z0
 have hlen:=hs.nonempty
 refine ⟨D,hs,hP,hl,e,hlen,fun h0 => ?_,fun h0 => ?_⟩
 ·by_cases g:D=[]
  ·rw [<- hlen,g];rfl
  ·have:=v4_pos hP hT g;omega
 ·by_cases g:D=[]
  ·rw [g] at e;exact absurd e.symm (by simpa [v4] using h0)
  ·have:=List.length_pos_iff.2 g;omega
theorem said_none {s:ByteArray}{a:Nat} (ha:atOf s=a) (hr:runEnd s a=a):said s=.inl (1,a):=by unfold said;rw [ha,zxz hr]
theorem said_many {s:ByteArray}{a:Nat} (ha:atOf s=a) (hr:a+300<runEnd s a):said s=.inl (2,a+300):=by unfold said;rw [ha,zka hr]
theorem over_none {s:ByteArray}{neg:Bool}{a m:Nat} (hr:runEnd s (m+1)=m+1):saidOver s neg a m=.inl (1,m+1):=by unfold saidOver;rw [zxz hr]
theorem over_many {s:ByteArray}{neg:Bool}{a m:Nat} (hr:m+1+300<runEnd s (m+1)):saidOver s neg a m=.inl (2,m+1+300):=by unfold saidOver;rw [zka hr]
theorem over_is {s:ByteArray}{neg:Bool}{a m n:Nat} (hr:runEnd s (m+1)=n) (h0:m+1<n) (h1:n<=m+1+300):saidOver s neg a m=saidEnd s n (if dv s (m+1) n=0 then .inl (3,m+1) else .inr (signed neg (dv s a m),dv s (m+1) n)):=by unfold saidOver;rw [zkb h0 h1 hr]
def QRP (s:ByteArray) (e:Ending) (w':World):Prop :=
 (∃ c k:Nat,said s=.inl (c,k)/\1<=c/\c<=3/\e=.returned (.tuple #[.agg #[.bool false,.slice none 0 0,.bool false,.slice none 0 0],.agg #[.int .i64 c,.int .i64 k]])) \/
 (∃ p q v P D,said s=.inr (p,q)/\0<q/\e=.returned (.tuple #[v,.agg #[.int .i64 0,.int .i64 (-1)]])/\Qr 362 w' v P D/\P*q=p*D)
theorem rpower_v (s:ByteArray) (k:Nat) (v:Int) (hv:v=(k+1:Nat)) (w:World) (hs:s.size<=9223372036854775807) (hk:k<s.size) :
 Calls Tryz.prog 85 #[.string s,.int .i64 v] w fun e w'=>PowQ s (expAt s k) (bAt s (k+1) 45) e/\Below w.heap.size w w':=by
 subst hv;exact rpower_any s k w hs hk
def upSaid (num:Int) (pl:Nat) (up:Int):Int×Int:=if 0<up then (num*10 ^ up.toNat,10 ^ pl) else (num,10 ^ pl*10 ^ (-up).toNat)
theorem up_none (num:Int) (pl:Nat):upSaid num pl 0=(num,10 ^ pl):=by unfold upSaid;simp
theorem up_plus (num:Int) (pl:Nat) {x:Int} (h:0<=x):upSaid num pl x=(num*10 ^ x.toNat,10 ^ pl):=by
 unfold upSaid
 split
 ·rfl
 ·obtain rfl:x=0:=by omega
  simp
theorem up_minus (num:Int) (pl:Nat) {x:Int} (h:0<=x):upSaid num pl (-x)=(num,10 ^ pl*10 ^ x.toNat):=by
 unfold upSaid
 rw [if_neg (by omega),Int.neg_neg]
theorem pow_said {s:ByteArray}{k:Nat}{e:Ending} (num:Int) (pl:Nat) (he:ByteAt s k 101) (h:PowQ s (expAt s k) (bAt s (k+1) 45) e) :
 (∃ c t kk:Nat,saidExp s num pl k=.inl (c,kk)/\1<=c/\c<=3/\e=.returned (.tuple #[.int .i64 0,.int .i64 t,.agg #[.int .i64 c,.int .i64 kk]])) \/
 (∃ (m:Nat) (up:Int),saidExp s num pl k=saidEnd s m (.inr (upSaid num pl up))/\m<=s.size /\ -60<=up/\up<=60/\e=.returned (.tuple #[.int .i64 up,.int .i64 m,.agg #[.int .i64 0,.int .i64 (-1)]])):=by
 have hb:=zql he
 have hEl:=expAt_le (bAt_lt hb)
 unfold saidExp
 rw [if_pos hb]
 rcases h with ⟨hr,rfl⟩ | ⟨hr,rfl⟩ | ⟨m,m0,m1,m2,hr,h⟩
 ·exact Or.inl ⟨1,_,_,zxz hr,by decide,by decide,rfl⟩
 ·exact Or.inl ⟨2,_,_,zka hr,by decide,by decide,rfl⟩
 ·rw [zkb m0 m1 hr]
  rcases h with ⟨h1,rfl⟩ | ⟨h1,h2,rfl⟩ | ⟨h1,h2,rfl⟩
  ·exact Or.inl ⟨1,_,m,zjc h1,by decide,by decide,rfl⟩
  ·refine Or.inl ⟨2,_,expAt s k,?_,by decide,by decide,rfl⟩
   rw [zjp (by omega),if_pos h2]
  ·have h0:0<=dv s (expAt s k) m:=by have:=(dv_bound hEl).1;rw [hr] at this;exact this
   refine Or.inr ⟨m,_,?_,m2,?_,?_,rfl⟩
   ·rw [if_neg (by omega)]
    cases bAt s (k+1) 45
    ·rw [if_neg (by decide),if_neg (by decide),up_plus _ _ h0]
    ·rw [if_pos rfl,if_pos rfl,up_minus _ _ h0]
   ·split <;> omega
   ·split <;> omega
theorem sq_keep {w w1 w2:World}{nb db:Nat}{v1 u0 v2:Value} (hb:Below w1.heap.size w1 w2) (h:Below w.heap.size w w1/\w1.cell? ⟨nb,1,none⟩=some v1/\w1.cell? ⟨db,0,none⟩=some u0/\w1.cell? ⟨db,1,none⟩=some v2) :
 Below w.heap.size w w2/\w2.cell? ⟨nb,1,none⟩=some v1/\w2.cell? ⟨db,0,none⟩=some u0/\w2.cell? ⟨db,1,none⟩=some v2 :=
 ⟨bk hb h.1,ck hb h.2.1,ck hb h.2.2.1,ck hb h.2.2.2⟩
theorem sq_set {w w1:World}{nb db:Nat}{v1 u0 v2:Value} (h:Below w.heap.size w w1/\w1.cell? ⟨nb,1,none⟩=some v1/\w1.cell? ⟨db,0,none⟩=some u0/\w1.cell? ⟨db,1,none⟩=some v2) {r o:Nat} (hr:w.heap.size<=r) (h1:nb≠r) (h2:db≠r) (v:Value) :
 Below w.heap.size w (w1.setCell ⟨r,o,none⟩ v)/\(w1.setCell ⟨r,o,none⟩ v).cell? ⟨nb,1,none⟩=some v1/\(w1.setCell ⟨r,o,none⟩ v).cell? ⟨db,0,none⟩=some u0/\(w1.setCell ⟨r,o,none⟩ v).cell? ⟨db,1,none⟩=some v2 :=
 ⟨h.1.setCell (p:=⟨r,o,none⟩) hr v,by rw [zqb _ _ _ _ _ _ (by omega)];exact h.2.1,by rw [zqb _ _ _ _ _ _ (by omega)];exact h.2.2.1,by rw [zqb _ _ _ _ _ _ (by omega)];exact h.2.2.2⟩
theorem sq_q4 {w w1:World}{nb db:Nat}{v1 u0 v2 t0 t1 t2 t3:Value} (h:Below w.heap.size w w1/\w1.cell? ⟨nb,1,none⟩=some v1/\w1.cell? ⟨db,0,none⟩=some u0/\w1.cell? ⟨db,1,none⟩=some v2) (hl:w.heap.size+1<nb) (hm:nb<db) :
 Below w.heap.size w ((((w1.setCell ⟨w.heap.size,0,none⟩ t0).setCell ⟨w.heap.size,1,none⟩ t1).setCell ⟨w.heap.size,2,none⟩ t2).setCell ⟨w.heap.size,3,none⟩ t3)/\((((w1.setCell ⟨w.heap.size,0,none⟩ t0).setCell ⟨w.heap.size,1,none⟩ t1).setCell ⟨w.heap.size,2,none⟩ t2).setCell ⟨w.heap.size,3,none⟩ t3).cell? ⟨nb,1,none⟩=some v1/\((((w1.setCell ⟨w.heap.size,0,none⟩ t0).setCell ⟨w.heap.size,1,none⟩ t1).setCell ⟨w.heap.size,2,none⟩ t2).setCell ⟨w.heap.size,3,none⟩ t3).cell? ⟨db,0,none⟩=some u0/\((((w1.setCell ⟨w.heap.size,0,none⟩ t0).setCell ⟨w.heap.size,1,none⟩ t1).setCell ⟨w.heap.size,2,none⟩ t2).setCell ⟨w.heap.size,3,none⟩ t3).cell? ⟨db,1,none⟩=some v2 :=
 sq_set (sq_set (sq_set (sq_set h (by omega) (by omega) (by omega) _) (by omega) (by omega) (by omega) _) (by omega) (by omega) (by omega) _) (by omega) (by omega) (by omega) _
theorem sq_f2 {w w1:World}{nb db:Nat}{v1 u0 v2 t0 t1:Value} (h:Below w.heap.size w w1/\w1.cell? ⟨nb,1,none⟩=some v1/\w1.cell? ⟨db,0,none⟩=some u0/\w1.cell? ⟨db,1,none⟩=some v2) (hl:w.heap.size+1<nb) (hm:nb<db) :
 Below w.heap.size w ((w1.setCell ⟨w.heap.size+1,0,none⟩ t0).setCell ⟨w.heap.size+1,1,none⟩ t1)/\((w1.setCell ⟨w.heap.size+1,0,none⟩ t0).setCell ⟨w.heap.size+1,1,none⟩ t1).cell? ⟨nb,1,none⟩=some v1/\((w1.setCell ⟨w.heap.size+1,0,none⟩ t0).setCell ⟨w.heap.size+1,1,none⟩ t1).cell? ⟨db,0,none⟩=some u0/\((w1.setCell ⟨w.heap.size+1,0,none⟩ t0).setCell ⟨w.heap.size+1,1,none⟩ t1).cell? ⟨db,1,none⟩=some v2 :=
 sq_set (sq_set h (by omega) (by omega) (by omega) _) (by omega) (by omega) (by omega) _
theorem rq_early (s:ByteArray) (w:World) (hs:s.size<=9223372036854775807) (hh:runEnd s (atOf s)=atOf s\/atOf s+300<runEnd s (atOf s)) :
 Calls Tryz.prog 36 #[.string s,.int .i64 300] w fun e w'=>QRP s e w'/\Below w.heap.size w w':=by
 have HH:=qh hh
 clear hh
 have hal:=atOf_le s
 have h3:(¬ (0:Int)<s.size/\minusOf s=false/\atOf s=0)\/(∃ h:0<s.size,(((s[0]'h).toNat:Int) == 45)=true/\minusOf s=true/\atOf s=1)\/(∃ h:0<s.size,(((s[0]'h).toNat:Int) == 45)=false/\minusOf s=false/\atOf s=0):=by
  rcases zqu s 0 45 with ⟨h0,h1⟩ | ⟨h0,h1,h2⟩ | ⟨h0,h1,h2⟩
  ·exact Or.inl ⟨h0,zqx (fun g=>by have:=zql g;rw [h1] at this;exact absurd this (by decide))⟩
  ·exact Or.inr (Or.inl ⟨h0,h1,zkp (zkh.1 h2)⟩)
  ·exact Or.inr (Or.inr ⟨h0,h1,zqx (fun g=>by have:=zql g;rw [h2] at this;exact absurd this (by decide))⟩)
 obtain ⟨a,HA⟩:∃ a,Hid (atOf s=a):=⟨_,rfl⟩
 obtain ⟨mi,HMI⟩:∃ b,Hid (minusOf s=b):=⟨_,rfl⟩
 rw [show atOf s=a from uh HA] at hal h3
 rw [show minusOf s=mi from uh HMI] at h3
 have H3:=qh h3
 clear h3
 have hst:=QK.start w
 go_enter Tryz.func36,Tryz.ntmps36
 go_upto_region 2 with fail
 obtain ⟨W0,hW0⟩:∃ W0,W0=(w.alloc (.cells #[.bool false,.slice none 0 0,.bool false,.slice none 0 0] 59)).alloc (.cells #[.int .i64 0,.int .i64 0] 61):=⟨_,rfl⟩
 rw [<- hW0] at hst ⊢
 clear hW0
 go_cut [7] (fun b wx=>b=.bool mi/\W0=wx)
 case first =>
  rcases uh H3 with ⟨hz,hm,_⟩ | ⟨hz,h1,hm,_⟩ | ⟨hz,h1,hm,_⟩
  ·go_wp2
   go_meet
   exact ⟨by rw [hm],rfl⟩
  ·have hzi:(0:Int)<s.size:=by omega
   go_wp2
   go_meet
   exact ⟨by rw [hm],rfl⟩
  ·have hzi:(0:Int)<s.size:=by omega
   go_wp2
   go_meet
   exact ⟨by rw [hm],rfl⟩
 case rest =>
 obtain ⟨rfl,rfl⟩:=hcut
 go_upto_if 31 with fail
 have hma:(mi=false/\a=0)\/(mi=true/\a=1):=by
  rcases uh H3 with ⟨_,hm,ha⟩ | ⟨_,_,hm,ha⟩ | ⟨_,_,hm,ha⟩
  ·exact Or.inl ⟨hm,ha⟩
  ·exact Or.inr ⟨hm,ha⟩
  ·exact Or.inl ⟨hm,ha⟩
 go_cut [6,7] (fun v b wx=>v=.int .i64 a/\b=.bool mi/\W0=wx)
 case first =>
  rcases hma with ⟨rfl,rfl⟩ | ⟨rfl,rfl⟩
  ·go_wp2
   go_meet
   exact ⟨rfl,rfl,rfl⟩
  ·go_wp2
   go_meet
   exact ⟨rfl,rfl,rfl⟩
 case rest =>
 obtain ⟨rfl,rfl,rfl⟩:=hcut
 clear hma H3
 go_wp2_with fail
 go_fit (rrun_any s a _ (by omega) hal)
 rintro e W1 ⟨hc,hb1⟩
 have hst1:=hst.keep hb1
 clear hst hb1
 obtain ⟨⟨x0,g0⟩,⟨a0,n0,c0,g1⟩,⟨x1,g2⟩,⟨a1,n1,c1,g3⟩,gf⟩:=hst1.qb.cells
 obtain ⟨⟨y0,k0⟩,⟨y1,k1⟩,kf⟩:=hst1.fb.cells
 have hlt:=hst1.lt
 have l0:w.heap.size<W1.heap.size:=by omega
 rcases hc with ⟨hr,rfl⟩ | ⟨hr,rfl⟩ | ⟨m,m0,m1,m2,hr,rfl⟩
 ·have HSD:=qh (said_none (uh HA) hr)
  clear hr
  go_wp2
  go_region
  all_goals go_wp2
  obtain ⟨t0,t1,t2,t3,t4,t5,hB⟩:=hst1.out1 (.bool false) (.slice none 0 0) (.bool false) (.slice none 0 0) (.int .i64 1) (.int .i64 a) (.cells #[.int .i64 1,.int .i64 a] 61)
  exact bodyPost_ret (v:=.tuple #[.agg #[.bool false,.slice none 0 0,.bool false,.slice none 0 0],.agg #[.int .i64 1,.int .i64 a]]) (by simp [results,Tryz.results36,go_sem,t0,t1,t2,t3,t4,t5]) rfl ⟨Or.inl ⟨1,a,uh HSD,by decide,by decide,rfl⟩,hB.drew⟩
 ·have HSD:=qh (said_many (uh HA) hr)
  clear hr
  go_wp2
  go_region
  all_goals go_wp2
  obtain ⟨t0,t1,t2,t3,t4,t5,hB⟩:=hst1.out1 (.bool false) (.slice none 0 0) (.bool false) (.slice none 0 0) (.int .i64 2) (.int .i64 ((a:Int)+300)) (.cells #[.int .i64 2,.int .i64 ((a:Int)+300)] 61)
  exact bodyPost_ret (v:=.tuple #[.agg #[.bool false,.slice none 0 0,.bool false,.slice none 0 0],.agg #[.int .i64 2,.int .i64 ((a:Int)+300)]]) (by simp [results,Tryz.results36,go_sem,t0,t1,t2,t3,t4,t5]) rfl ⟨Or.inl ⟨2,a+300,uh HSD,by decide,by decide,rfl⟩,hB.drew⟩
 exfalso
 have h9:=uh HH
 rw [show atOf s=a from uh HA,hr] at h9
 omega
end Go.Proofs.YtkdobjmhammhbaaGreatDoor
