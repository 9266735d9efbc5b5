import Derived.Test.YtkdobjmhammhbaaGreatDoorMSA
import Derived.Test.YtkdobjmhammhbaaGreatDoorMR21
namespace Go.Proofs.YtkdobjmhammhbaaGreatDoor
open Go.RowKit
set_option maxHeartbeats 2000000 in
set_option maxRecDepth 8000 in
theorem rten_any (n:Nat) (w:World) (hn:n≤1000) :
   Calls Tryz.prog 86 #[.int .i64 n] w fun e w'=>(∃ v,e=.returned v∧Nr (n+1) w' v (10 ^ n))∧Below w.heap.size w w':=by
 have hbx:=zkr w false none 0 0
 have hk0:=zqa w (.cells #[.bool false,.slice none 0 0] 57)
 go_enter Tryz.func86,Tryz.ntmps86
 go_wp2_with fail
 go_fit (zxy 1 _ (by decide) (by decide))
 rintro e W1 ⟨⟨v1,rfl,hN1⟩,hb1⟩
 obtain ⟨x1,a1,n1,c1,rfl⟩:=hN1.shape
 have hbx1:=hbx.later hb1
 have hk1:=bk hb1 hk0
 have l1:w.heap.size<W1.heap.size:=by obtain ⟨⟨x0,g0⟩,_⟩:=hbx1.cells;exact World.block_lt_of_cell? W1 _ g0
 clear hbx hk0 hb1
 have hA:=zqa W1 (.cells #[.bool x1,.slice a1 n1 c1] 57)
 have hout:=NB.new hN1
 go_wp2_with fail
 go_fit (zxy 10 _ (by decide) (by decide))
 rintro e W2 ⟨⟨v2,rfl,hN2⟩,hb2⟩
 obtain ⟨x2,a2,n2,c2,rfl⟩:=hN2.shape
 have hout2:=(hout.keep hb2).keep (zqa W2 (.cells #[.bool x2,.slice a2 n2 c2] 57))
 have hten:=NB.new hN2
 have l2:W1.heap.size<W2.heap.size:=(hout.keep hb2).lt
 have hbx2:=((hbx1.later hA).later hb2).later (zqa W2 (.cells #[.bool x2,.slice a2 n2 c2] 57))
 have hk2:=bk (zqa W2 (.cells #[.bool x2,.slice a2 n2 c2] 57)) (bk hb2 (bk hA hk1))
 clear hout hbx1 hk1 hA hb2
 go_wp2_with fail
 go_loopg [5] n (fun g iv wr=>∃ i:Nat,g=n - i∧i≤n∧iv=.int .i64 i∧(∃ x a m c P,Hid (P=(10:Int) ^ i)∧NB wr W1.heap.size x a m c (i+1) P)∧NB wr W2.heap.size x2 a2 n2 c2 1 10∧NBox wr w.heap.size∧Below w.heap.size w wr)
 case atStart=>exact ⟨0,rfl,by omega,rfl,⟨_,_,_,_,_,qh (by simp),hout2⟩,hten,hbx2,hk2⟩
 case round =>
   clear hout2 hten hbx2 hk2
   obtain ⟨i,hgk,hi,rfl,⟨x,a,m,c,P,HP,hout⟩,hten,hbx,hk⟩:=hrel
   have e0:=hout.c0
   have e1:=hout.c1
   by_cases hin:i<n
   · have f0:=hten.c0
     have f1:=hten.c1
     have hini:(i:Int)<n:=by omega
     go_wp2_with fail
     go_fit (zks (N:=i+1) (M:=1) _ hout.nr hten.nr (by omega))
     rintro e W3 ⟨⟨v3,rfl,hN3⟩,hb3⟩
     obtain ⟨x3,a3,n3,c3,rfl⟩:=hN3.shape
     have hout3:=hout.keep hb3
     have hten3:=hten.keep hb3
     have hbx3:=hbx.later hb3
     have hk3:=bk hb3 hk
     have HP3:Hid (P*10=(10:Int) ^ (i+1)):=by show _=_;rw [uh HP,Int.pow_succ]
     clear e0 e1 f0 f1 hb3 hout hten hbx hk HP
     have e0:=hout3.c0
     have e1:=hout3.c1
     obtain ⟨_,_,gf⟩:=hout3.box.cells
     go_wp2
     go_roundg (n - (i+1))
     case measure=>omega
     case rel=>exact ⟨i+1,rfl,by omega,by go_num,⟨_,_,_,_,_,HP3,hout3.stored hN3⟩,hten3.beside hout3.box (by omega) _ _,hbx3.beside (by omega) _ _,zqc hk3 (by omega) _ _⟩
   · have hini:¬ (i:Int)<n:=by omega
     obtain rfl:i=n:=by omega
     obtain ⟨⟨x0,g0⟩,⟨a0,n0,c0,g1⟩,gf⟩:=hbx.cells
     go_wp2
     obtain ⟨st0,st1⟩:=hbx.stored (.bool x) (.slice a m c)
     exact bodyPost_ret (v:=.agg #[.bool x,.slice a m c]) (by simp [results,Tryz.results86,go_sem,st0,st1]) rfl ⟨⟨_,rfl,by rw [← uh HP];exact hout.nr.stored hbx _ _⟩,zqc hk (Nat.le_refl _) _ _⟩
def PowQ (s:ByteArray) (E:Nat) (ng:Bool) (e:Ending):Prop :=
 (runEnd s E=E∧e=.returned (.tuple #[.int .i64 0,.int .i64 E,.agg #[.int .i64 1,.int .i64 E]])) ∨
 (E+300<runEnd s E∧e=.returned (.tuple #[.int .i64 0,.int .i64 (E+300:Nat),.agg #[.int .i64 2,.int .i64 (E+300:Nat)]])) ∨
 (∃ m:Nat,E<m∧m≤E+300∧m≤s.size∧runEnd s E=m ∧
   ((m<s.size∧e=.returned (.tuple #[.int .i64 0,.int .i64 m,.agg #[.int .i64 1,.int .i64 m]])) ∨
    (m=s.size∧60<dv s E m∧e=.returned (.tuple #[.int .i64 0,.int .i64 m,.agg #[.int .i64 2,.int .i64 E]])) ∨
    (m=s.size∧dv s E m≤60∧e=.returned (.tuple #[.int .i64 (if ng then - dv s E m else dv s E m),.int .i64 m,.agg #[.int .i64 0,.int .i64 (-1)]]))))
theorem exp_cases (s:ByteArray) (k:Nat) (hk:k<s.size):(s.size=k+1∧expAt s k=k+1∧bAt s (k+1) 45=false)∨(∃ h:k+1<s.size,(((s[k+1]'h).toNat:Int) == 45)=true∧expAt s k=k+2∧bAt s (k+1) 45=true)∨(∃ h:k+1<s.size,(((s[k+1]'h).toNat:Int) == 45)=false∧(((s[k+1]'h).toNat:Int) == 43)=true∧expAt s k=k+2∧bAt s (k+1) 45=false)∨(∃ h:k+1<s.size,(((s[k+1]'h).toNat:Int) == 45)=false∧(((s[k+1]'h).toNat:Int) == 43)=false∧expAt s k=k+1∧bAt s (k+1) 45=false):=by
 by_cases h:k+1<s.size
 · by_cases h1:(s[k+1]'h).toNat=45
   · have e:bAt s (k+1) 45=true:=zqm ⟨h,h1⟩
     exact Or.inr (Or.inl ⟨h,by rw [h1];rfl,by unfold expAt;rw [e,Bool.or_true];rfl,e⟩)
   · have e:bAt s (k+1) 45=false:=zxs (fun ⟨_,g⟩=>h1 g)
     have f1:(((s[k+1]'h).toNat:Int) == 45)=false:=by simp;omega
     by_cases h2:(s[k+1]'h).toNat=43
     · have e2:bAt s (k+1) 43=true:=zqm ⟨h,h2⟩
       exact Or.inr (Or.inr (Or.inl ⟨h,f1,by rw [h2];rfl,by unfold expAt;rw [e2,Bool.true_or];rfl,e⟩))
     · have e2:bAt s (k+1) 43=false:=zxs (fun ⟨_,g⟩=>h2 g)
       have f2:(((s[k+1]'h).toNat:Int) == 43)=false:=by simp;omega
       exact Or.inr (Or.inr (Or.inr ⟨h,f1,f2,by unfold expAt;rw [e,e2];rfl,e⟩))
 · have e:bAt s (k+1) 45=false:=bAt_end (by omega)
   have e2:bAt s (k+1) 43=false:=bAt_end (by omega)
   exact Or.inl ⟨by omega,by unfold expAt;rw [e,e2];rfl,e⟩
theorem GB.stored {w:World}{r:Nat}{T:TypeId} (h:GB w r T) (u u':Value):((w.setCell ⟨r,0,none⟩ u).setCell ⟨r,1,none⟩ u').cell? ⟨r,0,none⟩=some u∧((w.setCell ⟨r,0,none⟩ u).setCell ⟨r,1,none⟩ u').cell? ⟨r,1,none⟩=some u':=by
 obtain ⟨x,y,hb⟩:=h
 refine ⟨?_,?_⟩ <;> simp [World.cell?,World.setCell,Array.getElem?_modify,hb]
theorem fault_out {w W1:World}{T:TypeId} (h:GB W1 w.heap.size T) (hb:Below w.heap.size w W1) (u u':Value) (o:Obj) :
   let W:=((W1.setCell ⟨w.heap.size,0,none⟩ u).setCell ⟨w.heap.size,1,none⟩ u').alloc o
   W.cell? ⟨w.heap.size,0,none⟩=some u∧W.cell? ⟨w.heap.size,1,none⟩=some u'∧Below w.heap.size w W:=by
 intro W
 obtain ⟨s0,s1⟩:=h.stored u u'
 exact ⟨ck (zqa _ o) s0,ck (zqa _ o) s1,bk (zqa _ o) (zqc hb (Nat.le_refl _) _ _)⟩
set_option maxHeartbeats 8000000 in
set_option maxRecDepth 8000 in
theorem rpower_any (s:ByteArray) (k:Nat) (w:World) (hs:s.size≤9223372036854775807) (hk:k<s.size) :
   Calls Tryz.prog 85 #[.string s,.int .i64 (k+1:Nat)] w fun e w'=>PowQ s (expAt s k) (bAt s (k+1) 45) e∧Below w.heap.size w w':=by
 have hE:=expAt_le hk
 have hc:=exp_cases s k hk
 obtain ⟨E,HE⟩:∃ E,Hid (expAt s k=E):=⟨_,rfl⟩
 rw [show expAt s k=E from uh HE] at hc hE ⊢
 obtain ⟨ng,HNG⟩:∃ b,Hid (bAt s (k+1) 45=b):=⟨_,rfl⟩
 rw [show bAt s (k+1) 45=ng from uh HNG] at hc ⊢
 have HC:=qh hc
 clear hc
 have hbx:=gb_new w (.int .i64 0) (.int .i64 0) 61
 have hk0:=zqa w (.cells #[.int .i64 0,.int .i64 0] 61)
 go_enter Tryz.func85,Tryz.ntmps85
 go_upto_region 1 with fail
 obtain ⟨W0,hW0⟩:∃ W0,W0=w.alloc (.cells #[.int .i64 0,.int .i64 0] 61):=⟨_,rfl⟩
 rw [← hW0] at hbx hk0 ⊢
 clear hW0
 go_cut [7] (fun b wx=>b=.bool ng∧W0=wx)
 case first =>
   rcases uh HC with ⟨hz,_,hn⟩ | ⟨hz,h1,_,hn⟩ | ⟨hz,h1,h2,_,hn⟩ | ⟨hz,h1,h2,_,hn⟩
   · have hzi:¬ ((k+1:Nat):Int)<s.size:=by omega
     go_wp2
     go_meet
     exact ⟨by rw [hn],rfl⟩
   · have hzi:((k+1:Nat):Int)<s.size:=by omega
     go_wp2
     go_meet
     exact ⟨by rw [hn],rfl⟩
   · have hzi:((k+1:Nat):Int)<s.size:=by omega
     go_wp2
     go_meet
     exact ⟨by rw [hn],rfl⟩
   · have hzi:((k+1:Nat):Int)<s.size:=by omega
     go_wp2
     go_meet
     exact ⟨by rw [hn],rfl⟩
 case rest =>
   obtain ⟨rfl,rfl⟩:=hcut
   go_upto_region 2 with fail
   go_cut [34] (fun b wx=>b=.bool (decide (E=k+2))∧W0=wx)
   case first =>
     rcases uh HC with ⟨hz,hq,rfl⟩ | ⟨hz,h1,hq,rfl⟩ | ⟨hz,h1,h2,hq,rfl⟩ | ⟨hz,h1,h2,hq,rfl⟩
     · have hzi:¬ ((k+1:Nat):Int)<s.size:=by omega
       go_wp2
       go_meet
       exact ⟨by rw [hq];simp,rfl⟩
     · have hzi:((k+1:Nat):Int)<s.size:=by omega
       go_wp2
       go_meet
       exact ⟨by rw [hq];simp,rfl⟩
     · have hzi:((k+1:Nat):Int)<s.size:=by omega
       go_wp2
       go_meet
       exact ⟨by rw [hq];simp,rfl⟩
     · have hzi:((k+1:Nat):Int)<s.size:=by omega
       go_wp2
       go_meet
       exact ⟨by rw [hq];simp,rfl⟩
   case rest =>
     obtain ⟨rfl,rfl⟩:=hcut
     go_upto_if 34 with fail
     have hE2:E=k+1∨E=k+2:=by
       rcases uh HC with ⟨_,hq,_⟩ | ⟨_,_,hq,_⟩ | ⟨_,_,_,hq,_⟩ | ⟨_,_,_,hq,_⟩
       · exact Or.inl hq
       · exact Or.inr hq
       · exact Or.inr hq
       · exact Or.inl hq
     go_cut [1] (fun v wx=>v=.int .i64 E∧W0=wx)
     case first =>
       rcases hE2 with hq | hq
       · have hd:decide (E=k+2)=false:=by rw [hq];simp
         go_wp2
         go_meet
         exact ⟨by first | (rw [hq];done) | (rw [hq];go_num),rfl⟩
       · have hd:decide (E=k+2)=true:=by rw [hq];simp
         go_wp2
         go_meet
         exact ⟨by first | (rw [hq];done) | (rw [hq];go_num),rfl⟩
     case rest =>
       obtain ⟨rfl,rfl⟩:=hcut
       clear hE2 HC
       go_wp2_with fail
       go_fit (rrun_any s E _ (by omega) hE)
       rintro e W1 ⟨hc,hb1⟩
       have bx1:=hbx.later hb1
       have bk1:=bk hb1 hk0
       obtain ⟨⟨y0,k0⟩,⟨y1,k1⟩,kf⟩:=bx1.cells
       have l0:w.heap.size<W1.heap.size:=World.block_lt_of_cell? W1 _ k0
       clear hb1 hbx hk0
       rcases hc with ⟨hr,rfl⟩ | ⟨hr,rfl⟩ | ⟨m,m0,m1,m2,hr,rfl⟩
       · have HR:=qh hr
         clear hr
         go_wp2
         go_region
         all_goals go_wp2
         obtain ⟨st0,st1,hB⟩:=fault_out bx1 bk1 (.int .i64 1) (.int .i64 E) (.cells #[.int .i64 1,.int .i64 E] 61)
         exact bodyPost_ret (v:=.tuple #[.int .i64 0,.int .i64 E,.agg #[.int .i64 1,.int .i64 E]]) (by simp [results,Tryz.results85,go_sem,st0,st1]) rfl ⟨Or.inl ⟨uh HR,rfl⟩,hB.drew⟩
       · have HR:=qh hr
         clear hr
         go_wp2
         go_region
         all_goals go_wp2
         obtain ⟨st0,st1,hB⟩:=fault_out bx1 bk1 (.int .i64 2) (.int .i64 ((E:Int)+300)) (.cells #[.int .i64 2,.int .i64 ((E:Int)+300)] 61)
         exact bodyPost_ret (v:=.tuple #[.int .i64 0,.int .i64 ((E:Int)+300),.agg #[.int .i64 2,.int .i64 ((E:Int)+300)]]) (by simp [results,Tryz.results85,go_sem,st0,st1]) rfl ⟨Or.inr (Or.inl ⟨uh HR,rfl⟩),hB.drew⟩
       · have HR:=qh hr
         have HD:=qh (runEnd_dig (s:=s) (a:=E))
         rw [show runEnd s E=m from uh HR] at HD
         clear hr
         by_cases hms:m<s.size
         · have hmi:(m:Int)<s.size:=by omega
           go_wp2
           obtain ⟨st0,st1,hB⟩:=fault_out bx1 bk1 (.int .i64 1) (.int .i64 m) (.cells #[.int .i64 0,.int .i64 (-1)] 61)
           exact bodyPost_ret (v:=.tuple #[.int .i64 0,.int .i64 m,.agg #[.int .i64 1,.int .i64 m]]) (by simp [results,Tryz.results85,go_sem,st0,st1]) rfl ⟨Or.inr (Or.inr ⟨m,m0,m1,m2,uh HR,Or.inl ⟨hms,rfl⟩⟩),hB⟩
         · have hmi:¬ (m:Int)<s.size:=by omega
           go_wp2_with fail
           go_loopg [10,11] (m - E) (fun g xv iv wr=>∃ (i:Nat) (x:Int),g=m - i∧E≤i∧i≤m∧iv=.int .i64 i∧xv=.int .i64 x∧0≤x∧x≤700∧Hid ((x≤60∧x=dv s E i)∨(60<x∧60<dv s E i))∧wr=W1.alloc (.cells #[.int .i64 0,.int .i64 (-1)] 61))
           case atStart=>exact ⟨E,0,rfl,Nat.le_refl _,by omega,rfl,rfl,by omega,by omega,Or.inl ⟨by decide,(dv_self s E).symm⟩,rfl⟩
           case round =>
             obtain ⟨i,x,hgk,hi0,hi1,rfl,rfl,hx0,hx1,HX,rfl⟩:=hrel
             by_cases him:i<m
             · have himi:(i:Int)<m:=by omega
               have his:i<s.size:=by omega
               have hisi:(i:Int)<s.size:=by omega
               obtain ⟨_,d1,d2⟩:=uh HD i hi0 him
               have c1:(48:Int)≤((s[i]'his).toNat:Int):=by omega
               have c2:((s[i]'his).toNat:Int)≤57:=by omega
               clear d1 d2
               have HS:=qh (dv_succ hi0 his)
               by_cases hx:x≤60
               · go_wp2
                 go_roundg (m - (i+1))
                 case measure=>omega
                 case rel =>
                   refine ⟨i+1,10*x+(((s[i]'his).toNat:Int) - 48),rfl,by omega,by omega,by go_num,by go_num,by omega,by omega,?_,rfl⟩
                   have h1:=uh HS
                   rcases uh HX with ⟨_,h2⟩ | ⟨h2,_⟩
                   · show _∨_
                     omega
                   · omega
               · go_wp2
                 go_roundg (m - (i+1))
                 case measure=>omega
                 case rel =>
                   refine ⟨i+1,x,rfl,by omega,by omega,by go_num,rfl,hx0,hx1,?_,rfl⟩
                   have h1:=uh HS
                   rcases uh HX with ⟨h2,_⟩ | ⟨_,h2⟩
                   · omega
                   · show _∨_
                     omega
             · have himi:¬ (i:Int)<m:=by omega
               obtain rfl:i=m:=by omega
               by_cases hx:60<x
               · have hdv:60<dv s E i:=by rcases uh HX with ⟨h2,_⟩ | ⟨_,h2⟩ <;> omega
                 have HDV:=qh hdv
                 clear hdv
                 go_wp2
                 obtain ⟨st0,st1,hB⟩:=fault_out bx1 bk1 (.int .i64 2) (.int .i64 E) (.cells #[.int .i64 0,.int .i64 (-1)] 61)
                 exact bodyPost_ret (v:=.tuple #[.int .i64 0,.int .i64 i,.agg #[.int .i64 2,.int .i64 E]]) (by simp [results,Tryz.results85,go_sem,st0,st1]) rfl ⟨Or.inr (Or.inr ⟨i,m0,m1,m2,uh HR,Or.inr (Or.inl ⟨by omega,uh HDV,rfl⟩)⟩),hB⟩
               · have hdv:x=dv s E i:=by rcases uh HX with ⟨_,h2⟩ | ⟨h2,_⟩ <;> omega
                 have HDV:=qh hdv
                 clear hdv
                 cases ng
                 · go_wp2
                   obtain ⟨st0,st1,hB⟩:=fault_out bx1 bk1 (.int .i64 0) (.int .i64 (-1)) (.cells #[.int .i64 0,.int .i64 (-1)] 61)
                   exact bodyPost_ret (v:=.tuple #[.int .i64 x,.int .i64 i,.agg #[.int .i64 0,.int .i64 (-1)]]) (by simp [results,Tryz.results85,go_sem,st0,st1]) rfl ⟨Or.inr (Or.inr ⟨i,m0,m1,m2,uh HR,Or.inr (Or.inr ⟨by omega,by have:=uh HDV;omega,by rw [← uh HDV];rfl⟩)⟩),hB⟩
                 · go_wp2
                   obtain ⟨st0,st1,hB⟩:=fault_out bx1 bk1 (.int .i64 0) (.int .i64 (-1)) (.cells #[.int .i64 0,.int .i64 (-1)] 61)
                   exact bodyPost_ret (v:=.tuple #[.int .i64 (-x),.int .i64 i,.agg #[.int .i64 0,.int .i64 (-1)]]) (by simp [results,Tryz.results85,go_sem,st0,st1]) rfl ⟨Or.inr (Or.inr ⟨i,m0,m1,m2,uh HR,Or.inr (Or.inr ⟨by omega,by have:=uh HDV;omega,by rw [← uh HDV];rfl⟩)⟩),hB⟩
end Go.Proofs.YtkdobjmhammhbaaGreatDoor
