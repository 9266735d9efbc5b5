import Derived.Test.YtkdobjmhammhbaaGreatDoorMA
import Derived.Test.YtkdobjmhammhbaaGreatDoorMShelf
import Derived.Laws.CopyOwn
import Derived.Deep.OwnRows
namespace Go.Proofs.YtkdobjmhammhbaaGreatDoor
set_option maxHeartbeats 1000000
open Go.RowKit
structure Rise (g o:Nat) (W b:List Int) (w:World) (i:Nat) (c:Int) (wr:World) (out:List Int):Prop where
 len:out.length=i
 ws:Ws out
 eq:val out+pw i*c=val (W.take i)+val (b.take i)
 c0:0<=c
 c1:c<=1
 row:Row wr g o (out++W.drop i)
 edit:Edit g o W.length w wr
theorem rise_step {g o:Nat}{W b:List Int}{w wr:World}{i:Nat}{c:Int}{out:List Int} (h:Rise g o W b w i c wr out) (h1:i<W.length) (h2:i<b.length) (hW:Ws W) (hb:Ws b) :
 Rise g o W b w (i+1) ((nth W i+nth b i+c) / 18446744073709551616) (wr.setCell ⟨g,o+i,none⟩ (.int .u64 ((nth W i+nth b i+c) % 18446744073709551616))).drew (out++[(nth W i+nth b i+c) % 18446744073709551616]):=by
 have w1:=hW.get i;have w2:=hb.get i;have c0:=h.c0;have c1:=h.c1;have hl:=h.len
 obtain ⟨w10,w11⟩:=w1;obtain ⟨w20,w21⟩:=w2
 refine ⟨by simp [hl],h.ws.append (Ws.mk (w64_mod _) Ws.nil),raise_round hl h1 h2 h.eq,by omega,by omega,?_,(h.edit.setCell (by omega) (by omega) _).drew⟩
 have:=h.row.set (k:=i) (by simp;omega) ((nth W i+nth b i+c) % 18446744073709551616)
 rw [set_mid hl h1] at this
 exact this
structure Rise2 (g o:Nat) (W:List Int) (S:Int) (w:World) (i:Nat) (c:Int) (wr:World) (out:List Int):Prop where
 len:out.length=i
 ws:Ws out
 eq:val out+pw i*c=val (W.take i)+S
 c0:0<=c
 c1:c<=1
 row:Row wr g o (out++W.drop i)
 edit:Edit g o W.length w wr
theorem rise2_step {g o:Nat}{W:List Int}{S:Int}{w wr:World}{i:Nat}{c:Int}{out:List Int} (h:Rise2 g o W S w i c wr out) (h1:i<W.length) (hW:Ws W) :
 Rise2 g o W S w (i+1) ((nth W i+c) / 18446744073709551616) (wr.setCell ⟨g,o+i,none⟩ (.int .u64 ((nth W i+c) % 18446744073709551616))) (out++[(nth W i+c) % 18446744073709551616]):=by
 have w1:=hW.get i;have c0:=h.c0;have c1:=h.c1;have hl:=h.len
 obtain ⟨w10,w11⟩:=w1
 refine ⟨by simp [hl],h.ws.append (Ws.mk (w64_mod _) Ws.nil),raise_round' hl h1 h.eq,by omega,by omega,?_,h.edit.setCell (by omega) (by omega) _⟩
 have:=h.row.set (k:=i) (by simp;omega) ((nth W i+c) % 18446744073709551616)
 rw [set_mid hl h1] at this
 exact this
theorem raise_any (g o cap gb ob capb n m:Nat) (W b:List Int) (w:World) (hr:Row w g o W) (hrb:Row w gb ob b) (hf:Free w g) (hne:0<m->gb≠g) (hW:Ws W) (hb:Ws b) (hn:W.length=n) (hm:b.length=m) (hmn:m<=n) (hlim:n<=1000000) :
 Calls Tryz.prog 196 #[.slice (some ⟨g,o,none⟩) n cap,.slice (some ⟨gb,ob,none⟩) m capb] w fun e w'=>∃ c out,e=.returned (.int .u64 c)/\0<=c/\c<=1/\out.length=n/\Ws out/\val out+pw n*c=val W+val b/\Row w' g o out/\Edit g o n w w':=by
 have HN:=qh hn
 have HM:=qh hm
 clear hn hm
 go_enter Tryz.func196,Tryz.ntmps196
 go_wp2_with fail
 go_loopw [5,10] (fun c v wr=>∃ (i:Nat) (cc:Int) (out:List Int),i<=m/\v=.int .i64 i/\c=.int .u64 cc/\Rise g o W b w i cc wr out) (fun _ v _=>m - (intOf v).toNat)
 case atStart=>exact ⟨0,0,[],Nat.zero_le _,rfl,rfl,⟨rfl,Ws.nil,by simp [val],by decide,by decide,by simpa using hr,Edit.refl _ _ _ _⟩⟩
 case round =>
  obtain ⟨i,cc,out,hi,rfl,rfl,hR⟩:=hrel
  by_cases hlt:i<m
  ·have hc1:wr.cell? ⟨g,o+i,none⟩=some (.int .u64 (nth W i)):=by
    have:=hR.row i (by have:=hR.len;have:=uh HN;simp;omega)
    rwa [nth_mid hR.len] at this
   have hc2:wr.cell? ⟨gb,ob+i,none⟩=some (.int .u64 (nth b i)):=(hrb.edit hR.edit (hne (by omega))) i (by have:=uh HM;omega)
   have hfr:wr.frozen? ⟨g,o+i,none⟩=false:=(hR.edit.free hf).frozen _
   have hadd:∀ w,(callFunc 221 #[.int .u64 (nth W i),.int .u64 (nth b i),.int .u64 cc]).run Tryz.prog w=_:=fun w=>add64 (nth W i) (nth b i) cc (hW.get i).1 (hb.get i).1 hR.c0 hR.c1 w
   go_wp2_with fail
   go_region
   go_wp2
   go_roundw
   case rel=>exact ⟨i+1,_,_,by omega,by go_num,rfl,rise_step hR (by have:=uh HN;omega) (by have:=uh HM;omega) hW hb⟩
   case measure=>simp [intOf];omega
  ·have him:i=m:=by omega
   have HI:=qh him
   clear him
   have hR2:Rise2 g o W (val b) w i cc wr out:=⟨hR.len,hR.ws,by rw [hR.eq,List.take_of_length_le (l:=b) (by have:=uh HM;omega)],hR.c0,hR.c1,hR.row,hR.edit⟩
   go_wp2_with fail
   obtain ⟨wo,hwo⟩:∃ wo:World,wo=wr:=⟨_,rfl⟩
   subst hwo
   go_loopw [5,7] (fun c v wx=>∃ (j:Nat) (cc:Int) (out:List Int),j<=n/\v=.int .i64 j/\c=.int .u64 cc/\Rise2 g o W (val b) w j cc wx out) (fun _ v _=>n - (intOf v).toNat)
   case atStart=>exact ⟨i,cc,out,by omega,by rw [uh HI],rfl,hR2⟩
   case round =>
    clear hR2 hR HI
    obtain ⟨j,cd,out,hj,rfl,rfl,hS⟩:=hrel
    by_cases hz:cd=0
    ·subst hz
     go_wp2
     go_ret
     refine ⟨0,out++W.drop j,rfl,by decide,by decide,?_,hS.ws.append (hW.drop j),?_,hS.row,?_⟩
     ·have:=hS.len;have:=uh HN;simp;omega
     ·have e:=hS.eq
      have e2:=zxm W j (by have:=uh HN;omega)
      rw [zkc,hS.len]
      omega
     ·have:=hS.edit;rwa [uh HN] at this
    ·have hz':(cd != 0)=true:=by simpa using hz
     by_cases hlt2:j<n
     ·have hc1:wr.cell? ⟨g,o+j,none⟩=some (.int .u64 (nth W j)):=by
       have:=hS.row j (by have:=hS.len;have:=uh HN;simp;omega)
       rwa [nth_mid hS.len] at this
      have hfr:wr.frozen? ⟨g,o+j,none⟩=false:=(hS.edit.free hf).frozen _
      have hadd:∀ w,(callFunc 221 #[.int .u64 (nth W j),.int .u64 0,.int .u64 cd]).run Tryz.prog w=_:=fun w=>add64 (nth W j) 0 cd (hW.get j).1 (by decide) hS.c0 hS.c1 w
      simp only [Int.add_zero] at hadd
      go_wp2
      go_roundw
      case rel=>exact ⟨j+1,_,_,by omega,by go_num,rfl,rise2_step hS (by have:=uh HN;omega) hW⟩
      case measure=>simp [intOf];omega
     ·go_wp2
      go_ret
      refine ⟨cd,out,rfl,hS.c0,hS.c1,?_,hS.ws,?_,?_,?_⟩
      ·have:=hS.len;omega
      ·have e:=hS.eq
       rw [List.take_of_length_le (by have:=uh HN;omega),show j=n by omega] at e
       exact e
      ·have:=hS.row
       rw [List.drop_eq_nil_of_le (by have:=uh HN;omega),List.append_nil] at this
       exact this
      ·have:=hS.edit;rwa [uh HN] at this
structure Fall (g o:Nat) (W:List Int) (S:Int) (w:World) (i:Nat) (c:Int) (wr:World) (out:List Int):Prop where
 len:out.length=i
 ws:Ws out
 eq:val out - pw i*c=val (W.take i) - S
 c0:0<=c
 c1:c<=1
 row:Row wr g o (out++W.drop i)
 edit:Edit g o W.length w wr
theorem fall_step {g o:Nat}{W b:List Int}{w wr:World}{i:Nat}{c:Int}{out:List Int} (h:Fall g o W (val (b.take i)) w i c wr out) (h1:i<W.length) (h2:i<b.length) (hW:Ws W) (hb:Ws b) :
 Fall g o W (val (b.take (i+1))) w (i+1) (bor (nth W i) (nth b i+c)) (wr.setCell ⟨g,o+i,none⟩ (.int .u64 ((nth W i - nth b i - c) % 18446744073709551616))).drew (out++[(nth W i - nth b i - c) % 18446744073709551616]):=by
 have c0:=h.c0;have c1:=h.c1;have hl:=h.len
 refine ⟨by simp [hl],h.ws.append (Ws.mk (w64_mod _) Ws.nil),lower_round hl h1 h2 hW hb c0 c1 h.eq,(bor_01 _ _).1,(bor_01 _ _).2,?_,(h.edit.setCell (by omega) (by omega) _).drew⟩
 have:=h.row.set (k:=i) (by simp;omega) ((nth W i - nth b i - c) % 18446744073709551616)
 rw [set_mid hl h1] at this
 exact this
theorem fall2_step {g o:Nat}{W:List Int}{S:Int}{w wr:World}{i:Nat}{c:Int}{out:List Int} (h:Fall g o W S w i c wr out) (h1:i<W.length) (hW:Ws W) :
 Fall g o W S w (i+1) (bor (nth W i) c) (wr.setCell ⟨g,o+i,none⟩ (.int .u64 ((nth W i - c) % 18446744073709551616))) (out++[(nth W i - c) % 18446744073709551616]):=by
 have c0:=h.c0;have c1:=h.c1;have hl:=h.len
 refine ⟨by simp [hl],h.ws.append (Ws.mk (w64_mod _) Ws.nil),lower_round' hl h1 hW c0 c1 h.eq,(bor_01 _ _).1,(bor_01 _ _).2,?_,h.edit.setCell (by omega) (by omega) _⟩
 have:=h.row.set (k:=i) (by simp;omega) ((nth W i - c) % 18446744073709551616)
 rw [set_mid hl h1] at this
 exact this
theorem no_borrow {W out:List Int}{S c:Int}{n:Nat} (hl:out.length=n) (ho:Ws out) (h:val out - pw n*c=val W - S) (hS:S<=val W) (c0:0<=c):c=0:=by
 by_cases e:c=0
 ·exact e
 ·have h1:=val_lt ho
  have h2:=zkm n
  have h3:pw n*1<=pw n*c:=Int.mul_le_mul_of_nonneg_left (by omega) (by omega)
  rw [hl] at h1
  omega
theorem lower_any (g o cap gb ob capb n m:Nat) (W b:List Int) (w:World) (hr:Row w g o W) (hrb:Row w gb ob b) (hf:Free w g) (hne:0<m->gb≠g) (hW:Ws W) (hb:Ws b) (hn:W.length=n) (hm:b.length=m) (hmn:m<=n) (hlim:n<=1000000) (hle:val b<=val W) :
 Calls Tryz.prog 197 #[.slice (some ⟨g,o,none⟩) n cap,.slice (some ⟨gb,ob,none⟩) m capb] w fun e w'=>∃ out,e=.returned (.tuple #[])/\out.length=n/\Ws out/\val out=val W - val b/\Row w' g o out/\Edit g o n w w':=by
 have HN:=qh hn
 have HM:=qh hm
 have HLE:=qh hle
 clear hn hm hle
 go_enter Tryz.func197,Tryz.ntmps197
 go_wp2_with fail
 go_loopw [4,9] (fun c v wr=>∃ (i:Nat) (cc:Int) (out:List Int),i<=m/\v=.int .i64 i/\c=.int .u64 cc/\Fall g o W (val (b.take i)) w i cc wr out) (fun _ v _=>m - (intOf v).toNat)
 case atStart=>exact ⟨0,0,[],Nat.zero_le _,rfl,rfl,⟨rfl,Ws.nil,by simp [val],by decide,by decide,by simpa using hr,Edit.refl _ _ _ _⟩⟩
 case round =>
  obtain ⟨i,cc,out,hi,rfl,rfl,hR⟩:=hrel
  by_cases hlt:i<m
  ·have hc1:wr.cell? ⟨g,o+i,none⟩=some (.int .u64 (nth W i)):=by
    have:=hR.row i (by have:=hR.len;have:=uh HN;simp;omega)
    rwa [nth_mid hR.len] at this
   have hc2:wr.cell? ⟨gb,ob+i,none⟩=some (.int .u64 (nth b i)):=(hrb.edit hR.edit (hne (by omega))) i (by have:=uh HM;omega)
   have hfr:wr.frozen? ⟨g,o+i,none⟩=false:=(hR.edit.free hf).frozen _
   have hadd:∀ w,(callFunc 222 #[.int .u64 (nth W i),.int .u64 (nth b i),.int .u64 cc]).run Tryz.prog w=_:=fun w=>sub64 (nth W i) (nth b i) cc (hW.get i).1 (hb.get i).1 (hb.get i).2 hR.c0 hR.c1 w
   go_wp2_with fail
   go_region
   go_wp2
   go_roundw
   case rel=>exact ⟨i+1,_,_,by omega,by go_num,rfl,fall_step hR (by have:=uh HN;omega) (by have:=uh HM;omega) hW hb⟩
   case measure=>simp [intOf];omega
  ·have him:i=m:=by omega
   have HI:=qh him
   clear him
   have hR2:Fall g o W (val b) w i cc wr out:=by
    have:=hR
    rwa [List.take_of_length_le (l:=b) (by have:=uh HM;omega)] at this
   go_wp2_with fail
   obtain ⟨wo,hwo⟩:∃ wo:World,wo=wr:=⟨_,rfl⟩
   subst hwo
   go_loopw [4,6] (fun c v wx=>∃ (j:Nat) (cc:Int) (out:List Int),j<=n/\v=.int .i64 j/\c=.int .u64 cc/\Fall g o W (val b) w j cc wx out) (fun _ v _=>n - (intOf v).toNat)
   case atStart=>exact ⟨i,cc,out,by omega,by rw [uh HI],rfl,hR2⟩
   case round =>
    clear hR2 hR HI
    obtain ⟨j,cd,out,hj,rfl,rfl,hS⟩:=hrel
    by_cases hz:cd=0
    ·subst hz
     go_wp2
     go_end0
     refine ⟨out++W.drop j,rfl,?_,hS.ws.append (hW.drop j),?_,hS.row,?_⟩
     ·have:=hS.len;have:=uh HN;simp;omega
     ·have e:=hS.eq
      have e2:=zxm W j (by have:=uh HN;omega)
      rw [zkc,hS.len]
      omega
     ·have:=hS.edit;rwa [uh HN] at this
    ·have hz':(cd != 0)=true:=by simpa using hz
     by_cases hlt2:j<n
     ·have hc1:wr.cell? ⟨g,o+j,none⟩=some (.int .u64 (nth W j)):=by
       have:=hS.row j (by have:=hS.len;have:=uh HN;simp;omega)
       rwa [nth_mid hS.len] at this
      have hfr:wr.frozen? ⟨g,o+j,none⟩=false:=(hS.edit.free hf).frozen _
      have hadd:∀ w,(callFunc 222 #[.int .u64 (nth W j),.int .u64 0,.int .u64 cd]).run Tryz.prog w=_:=fun w=>sub64 (nth W j) 0 cd (hW.get j).1 (by decide) (by decide) hS.c0 hS.c1 w
      simp only [Int.sub_zero,Int.zero_add] at hadd
      go_wp2
      go_roundw
      case rel=>exact ⟨j+1,_,_,by omega,by go_num,rfl,fall2_step hS (by have:=uh HN;omega) hW⟩
      case measure=>simp [intOf];omega
     ·have hd0:cd=0:=by
       have e:=hS.eq
       rw [List.take_of_length_le (by have:=uh HN;omega)] at e
       exact no_borrow hS.len hS.ws e (uh HLE) hS.c0
      exact absurd hd0 hz
theorem mul64 (x y:Int) (hx:W64 x) (hy:W64 y) (w:World) :
 Calls Tryz.prog 182 #[.int .u64 x,.int .u64 y] w fun e w'=>∃ hi lo,e=.returned (.tuple #[.int .u64 hi,.int .u64 lo])/\0<=lo/\lo<18446744073709551616/\0<=hi/\hi<=18446744073709551614/\Hid (lo+18446744073709551616*hi=x*y)/\w=w':=by
 have hb:=prod_bound hx hy
 obtain ⟨x0,x1⟩:=hx
 obtain ⟨y0,y1⟩:=hy
 obtain ⟨a,rfl⟩:=Int.eq_ofNat_of_zero_le x0
 obtain ⟨b,rfl⟩:=Int.eq_ofNat_of_zero_le y0
 refine (Tryz.bits_Mul64 a b (by omega) (by omega) w).mono ?_
 rintro e w' ⟨rfl,rfl⟩
 have e:((a*b:Nat):Int)=(a:Int)*b:=Int.natCast_mul a b
 rw [<- e] at hb
 refine ⟨_,_,rfl,by omega,by omega,by omega,by omega,?_,rfl⟩
 show _=_
 rw [<- e]
 omega
structure Load (g o:Nat) (W b:List Int) (y:Int) (w:World) (i:Nat) (c:Int) (wr:World) (out:List Int):Prop where
 len:out.length=i
 ws:Ws out
 eq:val out+pw i*c=val (W.take i)+val (b.take i)*y
 c0:0<=c
 c1:c<18446744073709551616
 row:Row wr g o (out++W.drop i)
 edit:Edit g o W.length w wr
theorem load_step {g o:Nat}{W b:List Int}{y:Int}{w wr wx:World}{i:Nat}{c u k:Int}{out:List Int} (h:Load g o W b y w i c wr out) (h1:i<W.length) (h2:i<b.length) (hu:W64 u) (hk0:0<=k) (hk:k<18446744073709551616)
 (e:u+18446744073709551616*k=nth W i+nth b i*y+c) (hw:wx=(wr.setCell ⟨g,o+i,none⟩ (.int .u64 u))):Load g o W b y w (i+1) k wx (out++[u]):=by
 subst hw
 have hl:=h.len
 refine ⟨by simp [hl],h.ws.append (Ws.mk hu Ws.nil),raiseTimes_round hl h1 h2 h.eq e,hk0,hk,?_,h.edit.setCell (by omega) (by omega) _⟩
 have:=h.row.set (k:=i) (by simp;omega) u
 rw [set_mid hl h1] at this
 exact this
theorem raiseTimes_any (g o cap gb ob capb n:Nat) (W b:List Int) (y:Int) (w:World) (hr:Row w g o W) (hrb:Row w gb ob b) (hf:Free w g) (hne:0<n->gb≠g) (hW:Ws W) (hb:Ws b) (hy:W64 y) (hn:W.length=n) (hm:b.length=n) (hlim:n<=1000000) :
 Calls Tryz.prog 215 #[.slice (some ⟨g,o,none⟩) n cap,.slice (some ⟨gb,ob,none⟩) n capb,.int .u64 y] w fun e w'=>∃ c out,e=.returned (.int .u64 c)/\W64 c/\out.length=n/\Ws out/\val out+pw n*c=val W+val b*y/\Row w' g o out/\Edit g o n w w':=by
 have HN:=qh hn
 have HM:=qh hm
 clear hn hm
 go_enter Tryz.func215,Tryz.ntmps215
 go_wp2_with fail
 go_loopw [7,14] (fun c v wr=>∃ (i:Nat) (cc:Int) (out:List Int),i<=n/\v=.int .i64 i/\c=.int .u64 cc/\Load g o W b y w i cc wr out) (fun _ v _=>n - (intOf v).toNat)
 case atStart=>exact ⟨0,0,[],Nat.zero_le _,rfl,rfl,⟨rfl,Ws.nil,by simp [val],by decide,by decide,by simpa using hr,Edit.refl _ _ _ _⟩⟩
 case round =>
  obtain ⟨i,cc,out,hi,rfl,rfl,hR⟩:=hrel
  by_cases hlt:i<n
  ·have hc1:wr.cell? ⟨g,o+i,none⟩=some (.int .u64 (nth W i)):=by
    have:=hR.row i (by have:=hR.len;have:=uh HN;simp;omega)
    rwa [nth_mid hR.len] at this
   have hc2:wr.cell? ⟨gb,ob+i,none⟩=some (.int .u64 (nth b i)):=(hrb.edit hR.edit (hne (by omega))) i (by have:=uh HM;omega)
   have hfr:wr.frozen? ⟨g,o+i,none⟩=false:=(hR.edit.free hf).frozen _
   obtain ⟨a0,a1⟩:=hW.get i
   have k0:=hR.c0
   have k1:=hR.c1
   go_wp2_with fail
   refine (mul64 _ _ (hb.get i) hy _).mono ?_
   rintro e w' ⟨h,l,rfl,l0,l1,h0,h1,HE,rfl⟩
   have hadd:∀ w,(callFunc 221 #[.int .u64 l,.int .u64 cc,.int .u64 0]).run Tryz.prog w=_:=fun w=>add64_0 l cc l0 k0 w
   have hadd2:∀ w,(callFunc 221 #[.int .u64 (nth W i),.int .u64 ((l+cc) % 18446744073709551616),.int .u64 0]).run Tryz.prog w=_:=fun w=>add64_0 (nth W i) ((l+cc) % 18446744073709551616) a0 (by omega) w
   go_wp2_with fail
   try go_region
   go_wp2
   go_roundw
   case rel =>
    have e:=uh HE
    have pb:=(prod_bound (hb.get i) hy).2
    rw [<- e] at pb
    rw [IntKind.wrap_u64]
    refine ⟨i+1,_,_,by omega,by go_num,rfl,load_step hR (by have:=uh HN;omega) (by have:=uh HM;omega) (w64_mod _) ?_ ?_ ?_ rfl⟩
    ·omega
    ·omega
    ·rw [<- e];omega
   case measure=>simp [intOf];omega
  ·go_wp2
   go_ret
   refine ⟨cc,out,rfl,⟨hR.c0,hR.c1⟩,?_,hR.ws,?_,?_,?_⟩
   ·have:=hR.len;omega
   ·have e:=hR.eq
    rw [List.take_of_length_le (l:=W) (by have:=uh HN;omega),List.take_of_length_le (l:=b) (by have:=uh HM;omega),show i=n by omega] at e
    exact e
   ·have:=hR.row
    rw [List.drop_eq_nil_of_le (by have:=uh HN;omega),List.append_nil] at this
    exact this
   ·have:=hR.edit;rwa [uh HN] at this
structure Unload (g o:Nat) (W b:List Int) (y:Int) (w:World) (i:Nat) (c:Int) (wr:World) (out:List Int):Prop where
 len:out.length=i
 ws:Ws out
 eq:val out - pw i*c=val (W.take i) - val (b.take i)*y
 c0:0<=c
 c1:c<18446744073709551616
 row:Row wr g o (out++W.drop i)
 edit:Edit g o W.length w wr
theorem unload_step {g o:Nat}{W b:List Int}{y:Int}{w wr wx:World}{i:Nat}{c u k:Int}{out:List Int} (h:Unload g o W b y w i c wr out) (h1:i<W.length) (h2:i<b.length) (hu:W64 u) (hk0:0<=k) (hk:k<18446744073709551616)
 (e:u - 18446744073709551616*k=nth W i - nth b i*y - c) (hw:wx=(wr.setCell ⟨g,o+i,none⟩ (.int .u64 u))):Unload g o W b y w (i+1) k wx (out++[u]):=by
 subst hw
 have hl:=h.len
 refine ⟨by simp [hl],h.ws.append (Ws.mk hu Ws.nil),lowerTimes_round hl h1 h2 h.eq e,hk0,hk,?_,h.edit.setCell (by omega) (by omega) _⟩
 have:=h.row.set (k:=i) (by simp;omega) u
 rw [set_mid hl h1] at this
 exact this
theorem unload_num {h l c x P:Int} (h0:0<=h) (l0:0<=l) (l1:l<18446744073709551616) (c0:0<=c) (c1:c<18446744073709551616) (x0:0<=x) (x1:x<18446744073709551616)
 (e:l+18446744073709551616*h=P) (pb:P<=340282366920938463426481119284349108225) :
 (h+(l+c) / 18446744073709551616+bor x ((l+c) % 18446744073709551616)) % 18446744073709551616=h+(l+c) / 18446744073709551616+bor x ((l+c) % 18446744073709551616) /\
 (x - (l+c) % 18446744073709551616) % 18446744073709551616 - 18446744073709551616*(h+(l+c) / 18446744073709551616+bor x ((l+c) % 18446744073709551616))=x - P - c:=by
 unfold bor;split <;> omega
theorem lowerTimes_any (g o cap gb ob capb n:Nat) (W b:List Int) (y:Int) (w:World) (hr:Row w g o W) (hrb:Row w gb ob b) (hf:Free w g) (hne:0<n->gb≠g) (hW:Ws W) (hb:Ws b) (hy:W64 y) (hn:W.length=n) (hm:b.length=n) (hlim:n<=1000000) :
 Calls Tryz.prog 240 #[.slice (some ⟨g,o,none⟩) n cap,.slice (some ⟨gb,ob,none⟩) n capb,.int .u64 y] w fun e w'=>∃ c out,e=.returned (.int .u64 c)/\W64 c/\out.length=n/\Ws out/\val out - pw n*c=val W - val b*y/\Row w' g o out/\Edit g o n w w':=by
 have HN:=qh hn
 have HM:=qh hm
 clear hn hm
 go_enter Tryz.func240,Tryz.ntmps240
 go_wp2_with fail
 go_loopw [7,14] (fun c v wr=>∃ (i:Nat) (cc:Int) (out:List Int),i<=n/\v=.int .i64 i/\c=.int .u64 cc/\Unload g o W b y w i cc wr out) (fun _ v _=>n - (intOf v).toNat)
 case atStart=>exact ⟨0,0,[],Nat.zero_le _,rfl,rfl,⟨rfl,Ws.nil,by simp [val],by decide,by decide,by simpa using hr,Edit.refl _ _ _ _⟩⟩
 case round =>
  obtain ⟨i,cc,out,hi,rfl,rfl,hR⟩:=hrel
  by_cases hlt:i<n
  ·have hc1:wr.cell? ⟨g,o+i,none⟩=some (.int .u64 (nth W i)):=by
    have:=hR.row i (by have:=hR.len;have:=uh HN;simp;omega)
    rwa [nth_mid hR.len] at this
   have hc2:wr.cell? ⟨gb,ob+i,none⟩=some (.int .u64 (nth b i)):=(hrb.edit hR.edit (hne (by omega))) i (by have:=uh HM;omega)
   have hfr:wr.frozen? ⟨g,o+i,none⟩=false:=(hR.edit.free hf).frozen _
   obtain ⟨a0,a1⟩:=hW.get i
   have k0:=hR.c0
   have k1:=hR.c1
   go_wp2_with fail
   refine (mul64 _ _ (hb.get i) hy _).mono ?_
   rintro e w' ⟨h,l,rfl,l0,l1,h0,h1,HE,rfl⟩
   have hadd:∀ w,(callFunc 221 #[.int .u64 l,.int .u64 cc,.int .u64 0]).run Tryz.prog w=_:=fun w=>add64_0 l cc l0 k0 w
   have hadd2:∀ w,(callFunc 222 #[.int .u64 (nth W i),.int .u64 ((l+cc) % 18446744073709551616),.int .u64 0]).run Tryz.prog w=_:=fun w=>sub64_0 (nth W i) ((l+cc) % 18446744073709551616) a0 (by omega) (by omega) w
   go_wp2_with fail
   try go_region
   go_wp2
   go_roundw
   case rel =>
    have e:=uh HE
    have pb:=(prod_bound (hb.get i) hy).2
    have bb:=bor_01 (nth W i) ((l+cc) % 18446744073709551616)
    obtain ⟨n1,n2⟩:=unload_num h0 l0 l1 k0 k1 a0 a1 e pb
    have m0:=Int.emod_nonneg (h+(l+cc) / 18446744073709551616+bor (nth W i) ((l+cc) % 18446744073709551616)) (show (18446744073709551616:Int)≠0 by decide)
    have m1:=Int.emod_lt_of_pos (h+(l+cc) / 18446744073709551616+bor (nth W i) ((l+cc) % 18446744073709551616)) (show (0:Int)<18446744073709551616 by decide)
    rw [IntKind.wrap_u64,n1]
    rw [n1] at m0 m1
    exact ⟨i+1,_,_,by omega,by go_num,rfl,unload_step hR (by have:=uh HN;omega) (by have:=uh HM;omega) (w64_mod _) m0 m1 n2 (by rw [show (nth W i - (l+cc) % 18446744073709551616) % 18446744073709551616=(nth W i - (l+cc)) % 18446744073709551616 by omega])⟩
   case measure=>simp [intOf];omega
  ·go_wp2
   go_ret
   refine ⟨cc,out,rfl,⟨hR.c0,hR.c1⟩,?_,hR.ws,?_,?_,?_⟩
   ·have:=hR.len;omega
   ·have e:=hR.eq
    rw [List.take_of_length_le (l:=W) (by have:=uh HN;omega),List.take_of_length_le (l:=b) (by have:=uh HM;omega),show i=n by omega] at e
    exact e
   ·have:=hR.row
    rw [List.drop_eq_nil_of_le (by have:=uh HN;omega),List.append_nil] at this
    exact this
   ·have:=hR.edit;rwa [uh HN] at this
theorem info63:(Tryz.prog.info? 200).map (fun i=>(i.zero,i.size,i.bytes))=some (some (.int .u64 0),1,8):=by kernel_rfl
structure Made (g n:Nat) (w w1:World):Prop where
 at_:g=w.heap.size
 below:Below w.heap.size w w1
 row:Row w1 g 0 (List.replicate n 0)
 free:Free w1 g
 size:w1.heap.size=w.heap.size+1
theorem made (n:Nat) (w:World):Made w.heap.size n w (w.alloc (.cells (madeCells #[.int .u64 0] n) 200)):=by
 refine ⟨rfl,(Below.refl _ _).alloc (Nat.le_refl _) _,?_,⟨_,_,heap_alloc_new w _⟩,by simp⟩
 intro k hk
 simp at hk
 rw [World.cell?,heap_alloc_new]
 simp [madeCells,hk,nth,Nat.mod_one]
theorem zqw {ops:Array Oper}{rest:List Oper}{o:Oper}{a:Act}{w:World}{Q:Exit->Act->World->Prop} (hg:o.guard=none) (l c:Operand) (hop:o.op=Op.makeSlice 35 l c)
 (n:Nat) (hn:n<=2000000) (hl:a.eval l=.int .i64 (n:Int)) (hc:a.eval c=.int .i64 (n:Int))
 (hK:∀ g w1,Made g n w w1->wpList Tryz.prog ops Q rest (a.put o.dst (.slice (some ⟨g,0,none⟩) n n)) w1):wpList Tryz.prog ops Q (o :: rest) a w:=by
 obtain ⟨i,hi,hz⟩:=Option.map_eq_some_iff.1 info63
 simp only [Prod.mk.injEq] at hz
 obtain ⟨hz,hs,hb⟩:=hz
 exact wpList_make_row w hg l c 35 hop 200 i (.int .u64 0) Tryz.underlying35 hi hz hs rfl .i64 .i64 n hl hc (by rw [hb];omega) (by omega) (hK _ _ (made n w))
theorem zkd {ops:Array Oper}{rest:List Oper}{o:Oper}{a:Act}{w:World}{Q:Exit->Act->World->Prop} (hgd:o.guard=none) (d s:Operand)
 (ho:o.op=.call { callee:=.builtin .copy,args:=#[d,s],argTypes:=#[35,35] }) (gd od dLen dCap gs os sLen sCap:Nat) (dst src:List Int)
 (hd:a.eval d=.slice (some ⟨gd,od,none⟩) dLen dCap) (hs:a.eval s=.slice (some ⟨gs,os,none⟩) sLen sCap) (hdl:dst.length=dLen) (hsl:src.length=sLen) (hle:sLen<=dLen)
 (hrd:Row w gd od dst) (hrs:Row w gs os src) (hf:Free w gd)
 (h:∀ w',Row w' gd od (src++dst.drop sLen)->Edit gd od dLen w w'->wpList Tryz.prog ops Q rest (a.put o.dst (goInt sLen)) w'):wpList Tryz.prog ops Q (o :: rest) a w:=by
 obtain ⟨cur,t,hg⟩:=hf
 have hsz:(Tryz.prog.info? 200).map (·.size)=some 1:=by
  obtain ⟨i,hi,hz⟩:=Option.map_eq_some_iff.1 info63
  simp only [Prod.mk.injEq] at hz
  rw [hi];simp [hz.2.1]
 by_cases h0:sLen=0
 ·subst h0
  refine wpList_copy_nothing hgd d s _ _ ho 200 Tryz.underlying35 hsz _ _ dLen dCap 0 sCap hd hs (by simp) ?_
  obtain rfl:src=[]:=List.eq_nil_of_length_eq_zero hsl
  exact h w (by simpa using hrd) (Edit.refl _ _ _ _)
 ·have hfit:od+sLen<=cur.size:=by
   have:=hrd (sLen - 1) (by omega)
   simp only [World.cell?,hg] at this
   obtain ⟨hlt,_⟩:=Array.getElem?_eq_some_iff.1 (show cur[od+(sLen - 1)]? = some _ from this)
   omega
  refine wpList_copy_own hgd d s _ _ ho 200 Tryz.underlying35 hsz gd od dLen dCap ⟨gs,os,none⟩ sLen sCap hd hs cur t hg (src.map (Value.int .u64)) ?_ ?_ ?_ ?_ ?_
  ·rw [List.length_map,hsl];exact (Nat.min_eq_left hle).symm
  ·intro j v hj
   simp at hj
   obtain ⟨x,hx,rfl⟩:=hj
   obtain ⟨hlt,hx'⟩:=List.getElem?_eq_some_iff.1 hx
   have:=hrs j hlt
   rw [nth_lt hlt,hx'] at this
   by_cases hj0:j=0
   ·subst hj0;simpa [Addr.add] using this
   ·simpa [Addr.add,hj0] using this
  ·simpa [hsl] using hfit
  ·intro v hv
   simp at hv
   obtain ⟨x,_,rfl⟩:=hv
   rfl
  ·simp only [List.length_map,hsl]
   have hcell:∀ k,(w.setRow gd (cur.toList.take od++(src.map (Value.int .u64)++cur.toList.drop (od+sLen))).toArray).cell? ⟨gd,k,none⟩=if od<=k/\k<od+sLen then some (.int .u64 (nth src (k - od))) else w.cell? ⟨gd,k,none⟩:=by
    intro k
    simp only [World.cell?,setRow_heap w gd cur _ t _ hg,hg]
    simp only [Option.isSome_none,Bool.false_eq_true,if_false,List.getElem?_toArray]
    by_cases hk1:k<od
    ·rw [if_neg (by omega),List.getElem?_append_left (by simp;omega),List.getElem?_take_of_lt hk1];simp
    ·rw [List.getElem?_append_right (by simp;omega)]
     simp only [List.length_take,Array.length_toList,Nat.min_eq_left (show od<=cur.size by omega)]
     by_cases hk2:k<od+sLen
     ·rw [if_pos (by omega),List.getElem?_append_left (by simp;omega)]
      simp [nth,show k - od<src.length by omega]
     ·rw [if_neg (by omega),List.getElem?_append_right (by simp;omega)]
      simp only [List.length_map,hsl,List.getElem?_drop]
      rw [show od+sLen+(k - od - sLen)=k by omega];simp
   refine h _ ?_ ?_
   ·intro k hk
    simp at hk
    rw [hcell]
    by_cases hk2:k<sLen
    ·rw [if_pos (by omega)]
     simp [nth,List.getElem?_append,show k<src.length by omega]
    ·rw [if_neg (by omega),hrd k (by omega)]
     simp [nth,List.getElem?_append,show ¬ k<src.length by omega]
     rw [show sLen+(k - src.length)=k by omega]
   ·refine ⟨rfl,rfl,rfl,by simp,fun k _ hk=>setRow_other w gd k _ hk,fun o' ho' => ?_,fun _=>⟨_,_,setRow_heap w gd cur _ t _ hg⟩⟩
    rw [hcell,if_neg (by omega)]
def Sz (N:Nat) (w:World) (v:Value) (z:Int):Prop:=∃ (g off cap:Nat) (l:List Int),v=.slice (some ⟨g,off,none⟩) l.length cap/\Ws l/\Trim l/\val l=z/\l.length<=N/\l.length<=cap/\cap<=9223372036854775807/\Row w g off l
theorem Sz.later {N:Nat}{w w':World}{v:Value}{z:Int} (h:Sz N w v z) (hb:Below w.heap.size w w'):Sz N w' v z:=by
 obtain ⟨g,off,cap,l,h1,h2,h3,h4,h5,h6,h7,h8⟩:=h
 exact ⟨g,off,cap,l,h1,h2,h3,h4,h5,h6,h7,h8.later hb⟩
theorem Sz.mono {N M:Nat}{w:World}{v:Value}{z:Int} (h:Sz N w v z) (hb:N<=M):Sz M w v z:=by
 obtain ⟨g,off,cap,l,h1,h2,h3,h4,h5,h6,h7,h8⟩:=h
 exact ⟨g,off,cap,l,h1,h2,h3,h4,by omega,h6,h7,h8⟩
theorem Sz.eq {N:Nat}{w:World}{v:Value}{z y:Int} (h:Sz N w v z) (e:z=y):Sz N w v y:=e ▸ h
theorem val_all_zero {l:List Int} (h:∀ k,nth l k=0):val l=0:=by
 induction l with
 | nil=>rfl
 | cons x l ih =>
  have h0:=h 0
  simp [nth] at h0
  have:=ih (fun k=>by have:=h (k+1);simpa [nth] using this)
  simp [val,h0,this]
theorem zkt {l:List Int}{m:Nat} (hm:m<=l.length) (h:∀ k,m<=k->nth l k=0):val (l.take m)=val l:=by
 rw [zxm l m hm,val_all_zero (l:=l.drop m) (fun k=>by have:=h (m+k) (by omega);simpa [nth] using this)];simp
theorem trim_trimmed {l:List Int}{m:Nat} (hm:m<=l.length) (h:m=0\/nth l (m - 1)≠0):Trim (l.take m):=by
 rcases h with h | h
 ·left;simp [h]
 ·by_cases h0:m=0
  ·left;simp [h0]
  ·right
   rw [List.length_take,Nat.min_eq_left hm]
   simpa [nth,List.getElem?_take,show m - 1<m by omega] using h
theorem zje (b off cap n:Nat) (l:List Int) (w:World) (hr:Row w b off l) (hW:Ws l) (hn:l.length=n) (hl:n<=cap) (hcap:cap<=9223372036854775807) :
 Calls Tryz.prog 174 #[.slice (some ⟨b,off,none⟩) n cap] w fun e w'=>∃ v,e=.returned v/\Sz n w v (val l)/\w=w':=by
 subst hn
 refine (trim_any b off cap l w hr hl hcap).mono ?_
 rintro e w' ⟨⟨m,hm,rfl,hz,hne⟩,rfl⟩
 refine ⟨_,rfl,⟨b,off,cap,l.take m,?_,hW.take m,trim_trimmed hm hne,zkt hm hz,by simp;omega,by simp;omega,hcap,hr.take m⟩,rfl⟩
 rw [List.length_take,Nat.min_eq_left hm]
theorem zkx {N M:Nat}{va vb:Value}{x y:Int} (w:World) (hva:Sz N w va x) (hvb:Sz M w vb y) (hle:y<=x) (hlim:N<=900000) :
 Calls Tryz.prog 166 #[va,vb] w fun e w'=>∃ v,e=.returned v/\Sz N w' v (x - y)/\Below w.heap.size w w':=by
 obtain ⟨ga,oa,ca,a,rfl,ha,ta,ea,na,la,lca,hra⟩:=hva
 obtain ⟨gb,ob,cb,b,rfl,hb,tb,eb,nb,lb,lcb,hrb⟩:=hvb
 obtain ⟨n,hn⟩:∃ n,a.length=n:=⟨_,rfl⟩
 obtain ⟨m,hm⟩:∃ m,b.length=m:=⟨_,rfl⟩
 have hmn:m<=n:=by
  by_cases h:m<=n
  ·exact h
  ·have:=zqv ha hb tb (by omega);omega
 rw [hn,hm]
 rw [hn] at na la
 have hgb:m≠0->gb<w.heap.size:=fun h=>hrb.lt (by intro e;subst e;exact h hm.symm)
 have HN:=qh hn
 have HM:=qh hm
 have HA:=qh ea
 have HB:=qh eb
 have HLE:=qh hle
 clear hn hm hle ea eb lb nb
 go_enter Tryz.func166,Tryz.ntmps166
 go_wp2_with (first | (at_make;refine zqw rfl _ _ rfl n (by omega) rfl rfl ?_;intro g w1 hmade) | (refine zkd rfl (.tmp 9) (.tmp 10) rfl g 0 n n ga oa n ca (List.replicate n 0) a rfl rfl (by simp) (uh HN) (Nat.le_refl _) hmade.row (hra.later hmade.below) hmade.free ?_;intro w2 hrow hedit))
 have hrow':Row w2 g 0 a:=by
  have:=hrow
  rwa [List.drop_eq_nil_of_le (by simp),List.append_nil] at this
 have hbw:Below w.heap.size w w2:=hmade.below.trans (hedit.below (by have:=hmade.at_;omega) (by have:=hmade.size;omega))
 have hrb2:Row w2 gb ob b:=hrb.later hbw
 refine (lower_any g 0 n gb ob cb n m a b w2 hrow' hrb2 (hedit.free hmade.free) (fun h=>by have:=hgb (by omega);have:=hmade.at_;omega) ha hb (uh HN) (uh HM) hmn (by omega) (by rw [uh HA,uh HB];exact uh HLE)).mono ?_
 rintro e w3 ⟨out,rfl,lo,wo,eo,ro,ed⟩
 go_wp2_with fail
 refine (zje g 0 n n out w3 ro wo lo (Nat.le_refl _) (by omega)).mono ?_
 rintro e w4 ⟨v,rfl,hsz,rfl⟩
 go_wp2
 go_ret
 refine ⟨_,rfl,(hsz.mono na).eq (by rw [eo,uh HA,uh HB]),hbw.trans (ed.below (by have:=hmade.at_;omega) (by have:=hbw.size;omega))⟩
end Go.Proofs.YtkdobjmhammhbaaGreatDoor
