import Derived.Test.YtkdobjmhammhbaaGreatDoorMC
namespace Go.Proofs.YtkdobjmhammhbaaGreatDoor
set_option maxHeartbeats 2000000
open Go.RowKit
theorem div64_any (hi lo y:Int) (hh:W64 hi) (hl:W64 lo) (hy:W64 y) (hlt:hi<y) (w:World) :
 Calls Tryz.prog 208 #[.int .u64 hi,.int .u64 lo,.int .u64 y] w fun e w'=>e=.returned (.tuple #[.int .u64 ((hi*18446744073709551616+lo) / y),.int .u64 ((hi*18446744073709551616+lo) % y)])/\∃ n,w'=w.drewN n:=by
 have hhi:=hh.1
 by_cases h0:hi=0
 ·subst h0
  refine (div64_low lo y hl hy (by omega) w).mono ?_
  rintro e w' ⟨rfl,h⟩
  exact ⟨by simp,h⟩
 ·obtain ⟨s,hs,hs63,hlo,hup⟩:=lead hy (by omega)
  obtain ⟨c1,c2,c3,c4⟩:=shl_split hl (show s<=64 by omega)
  have p0:=zxu s
  have hhp:hi*2 ^ s<=(y - 1)*2 ^ s:=Int.mul_le_mul_of_nonneg_right (by omega) (by omega)
  rw [Int.sub_mul] at hhp
  have hh0:0<=hi*2 ^ s:=Int.mul_nonneg (by omega) (by omega)
  have eY:IntKind.u64.wrap (y*2 ^ s)=y*2 ^ s:=by rw [IntKind.wrap_u64];omega
  have eH:IntKind.u64.wrap (hi*2 ^ s)=hi*2 ^ s:=by rw [IntKind.wrap_u64];omega
  have eu:bits .or .u64 (IntKind.u64.wrap (hi*2 ^ s)) (lo / 2 ^ (64 - s))=hi*2 ^ s+lo / 2 ^ (64 - s):=by
   rw [eH]
   exact (or_disjoint rfl (by omega) (by omega) c3 c4 (by
    have:=hl.2
    have:(2:Int) ^ s<=2 ^ 63:=by exact_mod_cast Nat.pow_le_pow_right (by decide) hs63
    omega)).1
  have bL:W64 ((lo*2 ^ s) % 18446744073709551616):=w64_mod _
  have bY:W64 (y*2 ^ s):=⟨by omega,hup⟩
  refine (div64_core hi lo y (y*2 ^ s) ((lo*2 ^ s) % 18446744073709551616) (hi*2 ^ s+lo / 2 ^ (64 - s)) (y*2 ^ s / 4294967296) (y*2 ^ s % 4294967296) ((lo*2 ^ s) % 18446744073709551616 / 4294967296) ((lo*2 ^ s) % 18446744073709551616 % 4294967296) s
   (by omega) hlt hy.2 hs hs63 eY rfl (and_low bY) eu (by rw [IntKind.wrap_u64]) rfl (and_low bL) (by omega) (by omega) (by omega) (by omega) (by omega) (by omega) (by omega) (by omega) (by omega) (by omega) hl.1 (by omega) w).mono ?_
  rintro e w' ⟨⟨q1,q0,t,rfl,hD,hE,ht⟩,rfl⟩
  have eN:(hi*18446744073709551616+lo)*2 ^ s=18446744073709551616*(hi*2 ^ s)+lo*2 ^ s:=by grind
  have key:=halves_div (N:=hi*18446744073709551616+lo) (y:=y) (p:=2 ^ s) p0 (show y*2 ^ s / 4294967296*4294967296+y*2 ^ s % 4294967296=y*2 ^ s by omega)
   (by rw [eN];omega) hD (by rw [show y*2 ^ s / 4294967296*4294967296+y*2 ^ s % 4294967296=y*2 ^ s by omega];exact ht) hE
  rw [show y*2 ^ s / 4294967296*4294967296+y*2 ^ s % 4294967296=y*2 ^ s by omega] at key
  exact ⟨ret_two key.1 key.2,0,rfl⟩
theorem div64 (hi lo y:Int) (hh:W64 hi) (hl:W64 lo) (hy:W64 y) (hlt:hi<y) (w:World) :
 Calls Tryz.prog 208 #[.int .u64 hi,.int .u64 lo,.int .u64 y] w fun e w'=>∃ q r,e=.returned (.tuple #[.int .u64 q,.int .u64 r])/\0<=q/\q<18446744073709551616/\0<=r/\r<y/\Hid (q*y+r=hi*18446744073709551616+lo)/\Hid (q=(hi*18446744073709551616+lo) / y)/\∃ n,w'=w.drewN n:=by
 refine (div64_any hi lo y hh hl hy hlt w).mono ?_
 rintro e w' ⟨rfl,h⟩
 have h0:=hh.1;have h1:=hl.1;have h2:=hl.2
 have e:=Int.mul_ediv_add_emod (hi*18446744073709551616+lo) y
 have m0:=Int.emod_nonneg (hi*18446744073709551616+lo) (show y≠0 by omega)
 have m1:=Int.emod_lt_of_pos (hi*18446744073709551616+lo) (show 0<y by omega)
 have q0:0<=(hi*18446744073709551616+lo) / y:=Int.ediv_nonneg (by omega) (by omega)
 have q1:(hi*18446744073709551616+lo) / y<18446744073709551616:=by
  refine Int.ediv_lt_of_lt_mul (by omega) ?_
  have:(hi+1)*18446744073709551616<=y*18446744073709551616:=Int.mul_le_mul_of_nonneg_right (by omega) (by decide)
  rw [Int.mul_comm 18446744073709551616 y];omega
 exact ⟨_,_,rfl,q0,q1,m0,m1,(by show _=_;rw [Int.mul_comm];exact e),rfl,h⟩
structure Cut (g o:Nat) (W:List Int) (y:Int) (w:World) (j:Nat) (r:Int) (wr:World) (qs:List Int):Prop where
 len:qs.length=j
 le:j<=W.length
 ws:Ws qs
 eq:val (W.drop (W.length - j))=val qs*y+r
 r0:0<=r
 r1:r<y
 row:Row wr g o (W.take (W.length - j)++qs)
 edit:Edit g o W.length w wr
theorem cut_step {g o:Nat}{W:List Int}{y:Int}{w wr wx:World}{j k:Nat}{r q r':Int}{qs:List Int} (h:Cut g o W y w j r wr qs) (hk:k+1+j=W.length) (q0:0<=q) (q1:q<18446744073709551616) (r0:0<=r') (r1:r'<y)
 (e:q*y+r'=r*18446744073709551616+nth W k) (hw:∃ m,wx=(wr.setCell ⟨g,o+k,none⟩ (.int .u64 q)).drewN m):Cut g o W y w (j+1) r' wx (q :: qs):=by
 obtain ⟨m,rfl⟩:=hw
 have hl:=h.len
 have e1:W.length - j=k+1:=by omega
 have e2:W.length - (j+1)=k:=by omega
 have hrow:=h.row
 have heq:=h.eq
 rw [e1] at hrow heq
 refine ⟨by simp [hl],by omega,Ws.mk ⟨q0,q1⟩ h.ws,?_,r0,r1,?_,(h.edit.setCell (by omega) (by omega) _).drewN m⟩
 ·rw [e2,zjf W k (by omega),heq,val]
  grind
 ·rw [e2]
  have:=hrow.set (k:=k) (by simp;omega) q
  rw [take_snoc W k (by omega),List.append_assoc,List.set_append_right k q (by simp;omega)] at this
  simp only [List.length_take,Nat.min_eq_left (show k<=W.length by omega),Nat.sub_self,List.cons_append,List.nil_append,List.set_cons_zero] at this
  exact this
theorem divideWord_any (g o cap n:Nat) (W:List Int) (y:Int) (w:World) (hr:Row w g o W) (hf:Free w g) (hW:Ws W) (hy:W64 y) (hy0:0<y) (hn:W.length=n) (hlim:n<=1000000) :
 Calls Tryz.prog 173 #[.slice (some ⟨g,o,none⟩) n cap,.int .u64 y] w fun e w'=>∃ r out,e=.returned (.int .u64 r)/\0<=r/\r<y/\out.length=n/\Ws out/\val W=val out*y+r/\Row w' g o out/\Edit g o n w w':=by
 have HN:=qh hn
 clear hn
 go_enter Tryz.func173,Tryz.ntmps173
 go_wp2_with fail
 go_loopw [5,10] (fun c v wr=>∃ (j:Nat) (r:Int) (qs:List Int),j<=n/\v=.int .i64 j/\c=.int .u64 r/\Cut g o W y w j r wr qs) (fun _ v _=>n - (intOf v).toNat)
 case atStart=>exact ⟨0,0,[],Nat.zero_le _,rfl,rfl,⟨rfl,Nat.zero_le _,Ws.nil,by simp [val],by omega,hy0,by simpa using hr,Edit.refl _ _ _ _⟩⟩
 case round =>
  obtain ⟨j,r,qs,hj,rfl,rfl,hR⟩:=hrel
  by_cases hlt:j<n
  ·have hc1:wr.cell? ⟨g,o+(n - 1 - j),none⟩=some (.int .u64 (nth W (n - 1 - j))):=by
    have e:=uh HN
    have:=hR.row (n - 1 - j) (by have:=hR.len;simp;omega)
    rwa [zqt (by simp;omega),nth_take (by omega)] at this
   have hfr:wr.frozen? ⟨g,o+(n - 1 - j),none⟩=false:=(hR.edit.free hf).frozen _
   go_wp2_with fail
   refine (div64 _ _ _ ⟨hR.r0,by have:=hR.r1;have:=hy.2;omega⟩ (hW.get _) hy hR.r1 _).mono ?_
   rintro e w1 ⟨q,r',rfl,q0,q1,r0,r1,HE,_,m,rfl⟩
   go_wp2
   go_roundw
   case rel=>exact ⟨j+1,r',q :: qs,by omega,by go_num,rfl,cut_step (k:=n - 1 - j) hR (by have:=uh HN;omega) q0 q1 r0 r1 (uh HE) ⟨_,rfl⟩⟩
   case measure=>simp [intOf];omega
  ·have e:=uh HN
   go_wp2
   go_ret
   have hjn:j=W.length:=by omega
   have h1:=hR.eq
   have h2:=hR.row
   rw [hjn,Nat.sub_self] at h1 h2
   refine ⟨r,qs,rfl,hR.r0,hR.r1,by have:=hR.len;omega,hR.ws,by simpa using h1,by simpa using h2,by have:=hR.edit;rwa [e] at this⟩
structure Up (g:Nat) (a:List Int) (s:Nat) (w1:World) (i:Nat) (c:Int) (wr:World) (done:List Int):Prop where
 len:done.length=i
 ws:Ws done
 eq:val done+pw i*c=val (a.take i)*2 ^ s
 c0:0<=c
 c1:c<2 ^ s
 row:Row wr g 0 (done++c :: List.replicate (a.length - i) 0)
 edit:Edit g 0 (a.length+1) w1 wr
theorem two_le (s:Nat) (h:s<=63):(2:Int) ^ s<=9223372036854775808:=by
 have:(2:Nat) ^ s<=2 ^ 63:=Nat.pow_le_pow_right (by decide) h
 have e:((2 ^ s:Nat):Int)=(2:Int) ^ s:=by simp
 rw [<- e];omega
theorem up_step {g s i:Nat}{a done:List Int}{c A:Int}{w1 wr wx:World} (h:Up g a s w1 i c wr done) (hi:i<a.length) (hs:s<=63) (ha:Ws a) (hA:A=(nth a i*2 ^ s) % 18446744073709551616)
 (hw:∃ m,wx=((wr.setCell ⟨g,i,none⟩ (.int .u64 (c+A))).setCell ⟨g,i+1,none⟩ (.int .u64 (nth a i / 2 ^ (64 - s)))).drewN m):Up g a s w1 (i+1) (nth a i / 2 ^ (64 - s)) wx (done++[c+A]):=by
 obtain ⟨m,rfl⟩:=hw
 have hl:=h.len
 have c0:=h.c0;have c1:=h.c1
 obtain ⟨b1,b2,b3,b4⟩:=shl_split (ha.get i) (show s<=64 by omega)
 rw [<- hA] at b2
 have hA0:0<=A:=by rw [hA];omega
 have hA1:c+A<18446744073709551616:=by
  have p0:=zxu s
  have r0:=zxu (64 - s)
  have e:=two_split s (by omega)
  rw [hA,b1]
  have d1:=Int.emod_lt_of_pos (nth a i) r0
  have:nth a i % 2 ^ (64 - s)*2 ^ s<=(2 ^ (64 - s) - 1)*2 ^ s:=Int.mul_le_mul_of_nonneg_right (by omega) (by omega)
  rw [Int.sub_mul,Int.mul_comm (2 ^ (64 - s)) (2 ^ s),e] at this
  omega
 refine ⟨by simp [hl],h.ws.append (Ws.mk ⟨by omega,hA1⟩ Ws.nil),?_,b3,b4,?_,((h.edit.setCell (by omega) (by omega) _).setCell (by omega) (by omega) _).drewN m⟩
 ·rw [zxv,hl,zqh a i hi,zkg]
  have e1:=h.eq
  have e3:pw i*(A+18446744073709551616*(nth a i / 2 ^ (64 - s)))=pw i*(nth a i*2 ^ s):=by rw [b2]
  grind
 ·have r1:=h.row.set (k:=i) (by simp;omega) (c+A)
  rw [Nat.zero_add,List.set_append_right i _ (by omega),hl,Nat.sub_self,List.set_cons_zero] at r1
  have r2:=r1.set (k:=i+1) (by simp;omega) (nth a i / 2 ^ (64 - s))
  rw [Nat.zero_add,List.set_append_right (i+1) _ (by omega),hl,show i+1 - i=1 by omega,show a.length - i=(a.length - (i+1))+1 by omega,List.replicate_succ,List.set_cons_succ,List.set_cons_zero] at r2
  rw [List.append_assoc];exact r2
theorem shiftUp_any (ga oa ca n s:Nat) (a:List Int) (w:World) (hra:Row w ga oa a) (ha:Ws a) (hn:a.length=n) (hs:s<=63) (hlim:n<=900000) :
 Calls Tryz.prog 237 #[.slice (some ⟨ga,oa,none⟩) n ca,.int .i64 s] w fun e w'=>∃ g out,e=.returned (.slice (some ⟨g,0,none⟩) (n+1) (n+1))/\w.heap.size<=g/\out.length=n+1/\Ws out/\val out=val a*2 ^ s/\nth out n<2 ^ s/\Row w' g 0 out/\Free w' g/\Below w.heap.size w w':=by
 have hga:n≠0->ga<w.heap.size:=fun h=>hra.lt (by intro e;subst e;exact h hn.symm)
 have HN:=qh hn
 clear hn
 have s2:min s 64=s:=by omega
 have s3:min (64 - s) 64=64 - s:=by omega
 go_enter Tryz.func237,Tryz.ntmps237
 go_wp2_with (first | (at_make;refine zqw rfl _ _ rfl (n+1) (by omega) rfl rfl ?_;intro g w1 hmade))
 go_loopw [13] (fun v wr=>∃ (i:Nat) (c:Int) (done:List Int),i<=n/\v=.int .i64 i/\Up g a s w1 i c wr done) (fun v _=>n - (intOf v).toNat)
 case atStart =>
  refine ⟨0,0,[],Nat.zero_le _,rfl,⟨rfl,Ws.nil,by simp [val],by decide,zxu s,?_,Edit.refl _ _ _ _⟩⟩
  have:=hmade.row
  rw [List.replicate_succ] at this
  rw [uh HN];exact this
 case round =>
  obtain ⟨i,c,done,hi,rfl,hR⟩:=hrel
  by_cases hlt:i<n
  ·have hgag:ga≠g:=by have:=hga (by omega);have:=hmade.at_;omega
   have hca:wr.cell? ⟨ga,oa+i,none⟩=some (.int .u64 (nth a i)):=((hra.later hmade.below).edit hR.edit hgag) i (by have:=uh HN;omega)
   have hc1:wr.cell? ⟨g,i,none⟩=some (.int .u64 c):=by
    have l:=hR.len;have:=uh HN
    have:=hR.row i (by simp;omega)
    rw [Nat.zero_add,zxj (by omega),l,Nat.sub_self] at this
    exact this
   have hc2:wr.cell? ⟨g,i+1,none⟩=some (.int .u64 0):=by
    have l:=hR.len;have:=uh HN
    have:=hR.row (i+1) (by simp;omega)
    rw [Nat.zero_add,zxj (by omega),l,show i+1 - i=0+1 by omega] at this
    rw [this]
    simp [nth,List.getElem?_replicate]
    split <;> rfl
   have hfr:∀ k,wr.frozen? ⟨g,k,none⟩=false:=(hR.edit.free hmade.free).frozen
   obtain ⟨A,eA⟩:∃ A,IntKind.u64.wrap (nth a i*2 ^ s)=A:=⟨_,rfl⟩
   have hA:=eA
   rw [IntKind.wrap_u64] at hA
   obtain ⟨x0,x1⟩:=ha.get i
   have c0:=hR.c0
   have eO:bits .or .u64 c A=c+A:=by
    have b:=shl_split (ha.get i) (show s<=64 by omega)
    have:=(or_disjoint (A:=A) (C:=c) (M:=nth a i % 2 ^ (64 - s)) (s:=s) (by rw [<- hA];exact b.1) (Int.emod_nonneg _ (by have:=zxu (64 - s);omega)) (by omega) hR.c0 hR.c1 (by have:=hR.c1;have:=two_le s hs;omega)).2
    rw [this,Int.add_comm]
   have HA:=qh hA
   clear hA
   go_wp2_with fail
   go_region
   go_wp2
   go_roundw
   case rel=>exact ⟨i+1,_,_,by omega,by go_num,up_step hR (by have:=uh HN;omega) hs ha (uh HA).symm ⟨1,rfl⟩⟩
   case measure=>simp [intOf];omega
  ·go_wp2
   go_ret
   have e:=uh HN
   have hin:i=a.length:=by omega
   have l:=hR.len
   have hrow:=hR.row
   have heq:=hR.eq
   rw [hin,Nat.sub_self,List.replicate_zero] at hrow
   rw [hin,List.take_length] at heq
   refine ⟨g,done++[c],rfl,by have:=hmade.at_;omega,by simp;omega,hR.ws.append (Ws.mk ⟨hR.c0,by have:=hR.c1;have:=two_le s hs;omega⟩ Ws.nil),?_,?_,hrow,hR.edit.free hmade.free,hmade.below.trans (hR.edit.below (by have:=hmade.at_;omega) (by have:=hmade.size;omega))⟩
   ·rw [zxv,show done.length=a.length by omega];exact heq
   ·rw [zxj (by omega),show n - done.length=0 by omega]
    exact hR.c1
structure Down (g o:Nat) (W:List Int) (s:Nat) (w:World) (i:Nat) (wr:World) (out:List Int):Prop where
 len:out.length=i
 ws:Ws out
 eq:val out*2 ^ s+nth W 0 % 2 ^ s=val (W.take i)+pw i*(nth W i % 2 ^ s)
 row:Row wr g o (out++W.drop i)
 edit:Edit g o W.length w wr
theorem down_word {x y:Int}{s:Nat} (hx:W64 x) (hy:W64 y) (hs:s<=63):bits .or .u64 (x / 2 ^ s) ((y*2 ^ (64 - s)) % 18446744073709551616)=(y*2 ^ (64 - s)) % 18446744073709551616+x / 2 ^ s/\W64 ((y*2 ^ (64 - s)) % 18446744073709551616+x / 2 ^ s) /\
 ((y*2 ^ (64 - s)) % 18446744073709551616+x / 2 ^ s)*2 ^ s+x % 2 ^ s=x+18446744073709551616*(y % 2 ^ s):=by
 obtain ⟨b1,b2,b3,b4⟩:=shl_split (s:=64 - s) hy (by omega)
 rw [show 64 - (64 - s)=s by omega] at b1 b2 b3 b4
 have e:=two_split s (by omega)
 have p0:=zxu s
 have r0:=zxu (64 - s)
 obtain ⟨x0,x1⟩:=hx
 have d:=Int.mul_ediv_add_emod x (2 ^ s)
 have q0:0<=x / 2 ^ s:=Int.ediv_nonneg x0 (by omega)
 have m0:=Int.emod_nonneg y (show (2:Int) ^ s≠0 by omega)
 have m1:=Int.emod_lt_of_pos y p0
 have q1:x / 2 ^ s<2 ^ (64 - s):=by
  refine Int.ediv_lt_of_lt_mul p0 ?_
  rw [Int.mul_comm,e];exact x1
 have q2:y % 2 ^ s*2 ^ (64 - s)<=(2 ^ s - 1)*2 ^ (64 - s):=Int.mul_le_mul_of_nonneg_right (by omega) (by omega)
 rw [Int.sub_mul,e] at q2
 have q3:0<=y % 2 ^ s*2 ^ (64 - s):=Int.mul_nonneg m0 (by omega)
 have q4:y % 2 ^ s*2 ^ (64 - s)*2 ^ s=18446744073709551616*(y % 2 ^ s):=by rw [<- e];grind
 rw [b1]
 refine ⟨(or_disjoint rfl m0 (by omega) q0 q1 (by omega)).2,⟨by omega,by omega⟩,?_⟩
 rw [Int.add_mul,q4,Int.mul_comm (x / 2 ^ s)]
 omega
theorem down_step {g o s i:Nat}{W out:List Int}{u:Int}{w wr wx:World} (h:Down g o W s w i wr out) (hi:i<W.length) (hu:W64 u) (e:u*2 ^ s+nth W i % 2 ^ s=nth W i+18446744073709551616*(nth W (i+1) % 2 ^ s))
 (hw:Row wx g o (out++[u]++W.drop (i+1))) (hed:Edit g o W.length wr wx):Down g o W s w (i+1) wx (out++[u]):=by
 have hl:=h.len
 refine ⟨by simp [hl],h.ws.append (Ws.mk hu Ws.nil),?_,hw,h.edit.trans hed⟩
 rw [zxv,hl,zqh W i hi,zkg]
 have e1:=h.eq
 have e3:pw i*(u*2 ^ s+nth W i % 2 ^ s)=pw i*(nth W i+18446744073709551616*(nth W (i+1) % 2 ^ s)):=by rw [e]
 grind
theorem shiftDown_any (g o cap n s:Nat) (W:List Int) (w:World) (hr:Row w g o W) (hf:Free w g) (hW:Ws W) (hn:W.length=n) (hs:s<=63) (hlim:n<=1000000) :
 Calls Tryz.prog 239 #[.slice (some ⟨g,o,none⟩) n cap,.int .i64 s] w fun e w'=>∃ out,e=.returned (.tuple #[])/\out.length=n/\Ws out/\val out*2 ^ s+nth W 0 % 2 ^ s=val W/\Row w' g o out/\Edit g o n w w':=by
 have HN:=qh hn
 clear hn
 have s2:min s 64=s:=by omega
 have s3:min (64 - s) 64=64 - s:=by omega
 go_enter Tryz.func239,Tryz.ntmps239
 go_wp2_with fail
 go_loopw [7] (fun v wr=>∃ (i:Nat) (out:List Int),i<=n/\v=.int .i64 i/\Down g o W s w i wr out) (fun v _=>n - (intOf v).toNat)
 case atStart=>exact ⟨0,[],Nat.zero_le _,rfl,⟨rfl,Ws.nil,by simp [val,pw],by simpa using hr,Edit.refl _ _ _ _⟩⟩
 case round =>
  obtain ⟨i,out,hi,rfl,hR⟩:=hrel
  by_cases hlt:i<n
  ·have hc1:wr.cell? ⟨g,o+i,none⟩=some (.int .u64 (nth W i)):=by
    have:=hR.row i (by have:=hR.len;have:=uh HN;simp;omega)
    rwa [nth_mid hR.len] at this
   have hfr:∀ k,wr.frozen? ⟨g,k,none⟩=false:=(hR.edit.free hf).frozen
   obtain ⟨x0,x1⟩:=hW.get i
   have rs:Row (wr.setCell ⟨g,o+i,none⟩ (.int .u64 (nth W i / 2 ^ s))) g o (out++[nth W i / 2 ^ s]++W.drop (i+1)):=by
    have:=hR.row.set (k:=i) (by have:=hR.len;have:=uh HN;simp;omega) (nth W i / 2 ^ s)
    rwa [set_mid hR.len (by have:=uh HN;omega)] at this
   by_cases hnext:i+1<n
   ·have hc2:wr.cell? ⟨g,o+i+1,none⟩=some (.int .u64 (nth W (i+1))):=by
     have l:=hR.len;have:=uh HN
     have:=hR.row (i+1) (by simp;omega)
     rw [zxj (by omega),l,nth_drop,show i+(i+1 - i)=i+1 by omega] at this
     exact this
    have hc2':wr.cell? ⟨g,o+(i+1),none⟩=some (.int .u64 (nth W (i+1))):=hc2
    obtain ⟨d1,d2,d3⟩:=down_word (hW.get i) (hW.get (i+1)) hs
    have eA:IntKind.u64.wrap (nth W (i+1)*2 ^ (64 - s))=(nth W (i+1)*2 ^ (64 - s)) % 18446744073709551616:=IntKind.wrap_u64 _
    obtain ⟨u,hu⟩:∃ u,(nth W (i+1)*2 ^ (64 - s)) % 18446744073709551616+nth W i / 2 ^ s=u:=⟨_,rfl⟩
    rw [<- eA] at d1
    rw [hu] at d2 d3
    rw [eA,hu] at d1
    rw [<- eA] at d1
    have D3:=qh d3
    clear d3 hu eA
    go_wp2_with fail
    obtain ⟨w2,hw2⟩:∃ w2,w2=wr.setCell ⟨g,o+i,none⟩ (.int .u64 (nth W i / 2 ^ s)):=⟨_,rfl⟩
    rw [<- hw2]
    rw [<- hw2] at rs
    have g1:w2.cell? ⟨g,o+i,none⟩=some (.int .u64 (nth W i / 2 ^ s)):=by rw [hw2];exact zqd hc1
    have g2:w2.cell? ⟨g,o+(i+1),none⟩=some (.int .u64 (nth W (i+1))):=by rw [hw2,zqb _ _ _ _ _ _ (by omega)];exact hc2
    have g3:∀ k,w2.frozen? ⟨g,k,none⟩=false:=by rw [hw2];exact (zkz (hR.edit.free hf) _ _).frozen
    have ed:Edit g o W.length wr w2:=by rw [hw2];exact (Edit.refl _ _ _ _).setCell (by omega) (by have:=uh HN;omega) _
    clear hw2 hc1 hc2 hc2' hfr
    go_region
    go_wp2
    go_roundw
    case rel =>
     have l:=hR.len;have hN:=uh HN
     refine ⟨i+1,out++[u],by omega,by go_num,down_step hR (by omega) d2 (uh D3) ?_ (ed.setCell (by omega) (by omega) _).drew⟩
     have:=rs.set (k:=i) (by simp;omega) u
     rw [List.append_assoc,List.set_append_right i _ (by omega),l,Nat.sub_self,List.cons_append,List.set_cons_zero] at this
     rw [List.append_assoc];exact this
    case measure=>simp [intOf];omega
   ·have hN:=uh HN
    have hlast:nth W (i+1)=0:=zky (by omega)
    go_wp2
    go_roundw
    case rel =>
     have l:=hR.len
     have p0:=zxu s
     have e:=Int.mul_ediv_add_emod (nth W i) (2 ^ s)
     refine ⟨i+1,out++[nth W i / 2 ^ s],by omega,by go_num,down_step hR (by omega) ⟨Int.ediv_nonneg x0 (by omega),?_⟩ ?_ rs ((Edit.refl _ _ _ _).setCell (by omega) (by omega) _)⟩
     ·exact Int.lt_of_le_of_lt (Int.ediv_le_self _ x0) x1
     ·rw [hlast,Int.mul_comm (nth W i / 2 ^ s)];simp;exact e
    case measure=>simp [intOf];omega
  ·have hN:=uh HN
   go_wp2
   go_end0
   have hin:i=W.length:=by omega
   have h1:=hR.eq
   have h2:=hR.row
   rw [hin,List.drop_length,List.append_nil] at h2
   rw [hin,List.take_length,zky (Nat.le_refl _)] at h1
   refine ⟨out,rfl,by have:=hR.len;omega,hR.ws,by simpa using h1,h2,by have:=hR.edit;rwa [hN] at this⟩
theorem quiet_drew2 {P:Program}{f:FuncId}{args:Array Value}{w:World}{k n:Nat}{v:Value}
 (h:Calls P f args (w.drewN (k+n)) fun e w'=>e=.returned v/\∃ m,w'=(w.drewN (k+n)).drewN m):Calls P f args (w.drewN (k+n)) fun e w''=>e=.returned v/\∃ m,w''=w.drewN (k+m) :=
 h.mono fun _ _ ⟨he,m,hm⟩=>⟨he,n+m,by rw [hm,World.drewN_drewN,Nat.add_assoc]⟩
structure Dig (g o n:Nat) (W b:List Int) (w:World) (d bl:Int) (wr:World) (T:List Int):Prop where
 len:T.length=n+1
 ws:Ws T
 eq:val T - pw (n+1)*bl=val W - val b*d
 b0:0<=bl
 b1:bl<=1
 d0:0<=d
 d1:d<18446744073709551616
 up:val W - val b*d<val b
 row:Row wr g o T
 edit:Edit g o (n+1) w wr
theorem Dig.edit0 {g o n:Nat}{W b:List Int}{w wr:World}{d bl:Int}{T:List Int} (h:Dig g o n W b w d bl wr T):Edit g o (n+1) w wr:=h.edit
theorem dig_pos {g o n:Nat}{W b:List Int}{w wr:World}{d:Int}{T:List Int} (h:Dig g o n W b w d 1 wr T) (_hb:Ws b) (hW:0<=val W:=by exact zqg ‹Ws _›):1<=d:=by
 have h1:=h.eq
 have h2:=val_lt h.ws
 rw [h.len] at h2
 by_cases e:d=0
 ·subst e;omega
 ·have:=h.d0;omega
theorem dig_step {g o n:Nat}{W b:List Int}{w wr w3:World}{d c:Int}{T T':List Int} (h:Dig g o n W b w d 1 wr T) (c0:0<=c) (c1:c<=1) (lT:T'.length=n+1) (wT:Ws T') (eT:val T'+pw (n+1)*c=val T+val b) (rT:Row w3 g o T') (ed:Edit g o (n+1) wr w3) (hd:1<=d) :
 Dig g o n W b w (d - 1) (1 - c) w3 T':=by
 have h1:=h.eq
 have h2:=val_lt h.ws
 rw [h.len] at h2
 have e1:val b*(d - 1)=val b*d - val b:=by grind
 have e2:pw (n+1)*(1 - c)=pw (n+1) - pw (n+1)*c:=by grind
 exact ⟨lT,wT,by rw [e1,e2];omega,by omega,by omega,by omega,by have:=h.d1;omega,by rw [e1];omega,rT,h.edit.trans ed⟩
theorem dig_start {g o n:Nat}{W b out1:List Int}{w w1:World}{dg ms bw:Int} (hn:W.length=n+1) (hW:Ws W) (ms0:0<=ms) (ms1:ms<18446744073709551616) (l1:out1.length=n) (wo1:Ws out1) (e1:val out1 - pw n*ms=val (W.take n) - val b*dg)
 (ro1:Row w1 g o out1) (ed:Edit g o (n+1) w w1) (hc:w1.cell? ⟨g,o+n,none⟩=some (.int .u64 (nth W n))) (ebw:bor (nth W n) ms=bw) (d0:0<=dg) (d1:dg<18446744073709551616) (top:val W<(dg+1)*val b) :
 Dig g o n W b w dg bw (w1.setCell ⟨g,o+n,none⟩ (.int .u64 ((nth W n - ms) % 18446744073709551616))) (out1++[(nth W n - ms) % 18446744073709551616]):=by
 have e2:=zqh W n (by omega)
 rw [List.take_of_length_le (by omega)] at e2
 have e3:=bor_eq (v:=ms) (hW.get n) ms0 (by omega)
 rw [ebw] at e3
 have b01:=bor_01 (nth W n) ms
 rw [ebw] at b01
 refine ⟨by simp [l1],wo1.append (Ws.mk (w64_mod _) Ws.nil),?_,b01.1,b01.2,d0,d1,?_,?_,ed.setCell (by omega) (by omega) _⟩
 ·rw [zxv,l1,zkg,e2]
  generalize (nth W n - ms) % 18446744073709551616=z at *
  have e4:pw n*(z - 18446744073709551616*bw)=pw n*(nth W n - ms):=by rw [e3]
  grind
 ·rw [Int.add_mul,Int.mul_comm dg] at top;omega
 ·refine Row.snoc (n:=n) ?_ l1 (zqd hc)
  intro k hk
  rw [zqb _ _ _ _ _ _ (by omega)]
  exact ro1 k hk
theorem nextDigit_any (g o cap gb ob cb n:Nat) (W b:List Int) (w0:World) (hr:Row w0 g o W) (hrb0:Row w0 gb ob b) (hf0:Free w0 g) (hne0:0<n->gb≠g) (hW:Ws W) (hb:Ws b) (hn:W.length=n+1) (hm:b.length=n) (hn1:1<=n) (hcap:n+1<=cap) (hlim:n<=900000)
 (hbt:0<nth b (n - 1)) (hlt:val (W.drop 1)<val b) :
 Calls Tryz.prog 238 #[.slice (some ⟨g,o,none⟩) (n+1) cap,.slice (some ⟨gb,ob,none⟩) n cb] w0 fun e w'=>∃ d out,e=.returned (.int .u64 d)/\W64 d/\out.length=n+1/\Ws out/\val out=val W - val b*d/\val out<val b/\Row w' g o out/\Edit g o (n+1) w0 w':=by
 have hc0:w0.cell? ⟨g,o+n,none⟩=some (.int .u64 (nth W n)):=hr n (by omega)
 have hc1:w0.cell? ⟨g,o+(n - 1),none⟩=some (.int .u64 (nth W (n - 1))):=hr (n - 1) (by omega)
 have hc2:w0.cell? ⟨gb,ob+(n - 1),none⟩=some (.int .u64 (nth b (n - 1))):=hrb0 (n - 1) (by omega)
 have eW:=zqh W n (by omega)
 have eW1:=zqh W (n - 1) (by omega)
 rw [show n - 1+1=n by omega] at eW1
 rw [List.take_of_length_le (by omega)] at eW
 have eB:=zqh b (n - 1) (by omega)
 rw [show n - 1+1=n by omega,List.take_of_length_le (by omega)] at eB
 have lW:=val_lt (hW.take (n - 1))
 rw [List.length_take,Nat.min_eq_left (by omega)] at lW
 have lB:=zqg (hb.take (n - 1))
 have pp:=zkm (n - 1)
 have pn:pw n=18446744073709551616*pw (n - 1):=by rw [<- zkg,show n - 1+1=n by omega]
 have hbig:val W<18446744073709551616*val b:=by
  have:=zxm W 1 (by omega)
  have h1:=val_lt (hW.take 1)
  rw [List.length_take,Nat.min_eq_left (by omega)] at h1
  rw [show pw 1=18446744073709551616 by simp [pw]] at this h1
  omega
 obtain ⟨wn0,wn1⟩:=hW.get n
 obtain ⟨wm0,wm1⟩:=hW.get (n - 1)
 obtain ⟨bt0,bt1⟩:=hb.get (n - 1)
 have HN:=qh hn
 have HM:=qh hm
 have q1:((n:Int) - 1).toNat=n - 1:=by omega
 by_cases hguess:nth W n<nth b (n - 1)
 ·have htop:∀ d,0<=d->d=(nth W n*18446744073709551616+nth W (n - 1)) / nth b (n - 1)->val W<(d+1)*val b:=by
   intro d hd0 hd
   have:=digit_top (lo:=val (W.take (n - 1))) (P:=pw (n - 1)) (by':=val b) pp hbt hd lW (by rw [eB];omega) hd0
   rw [eW,eW1,pn]
   have e5:pw (n - 1)*(nth W (n - 1)+18446744073709551616*nth W n)=pw (n - 1)*nth W (n - 1)+18446744073709551616*pw (n - 1)*nth W n:=by grind
   omega
  have bh:=hb.get (n - 1)
  have hN0:0<=nth W n*18446744073709551616+nth W (n - 1):=by omega
  obtain ⟨dg,hdg⟩:∃ dg,(nth W n*18446744073709551616+nth W (n - 1)) / nth b (n - 1)=dg:=⟨_,rfl⟩
  have d0:0<=dg:=by rw [<- hdg];exact Int.ediv_nonneg hN0 (by omega)
  have d1:dg<18446744073709551616:=by
   rw [<- hdg]
   refine Int.ediv_lt_of_lt_mul hbt ?_
   have:(nth W n+1)*18446744073709551616<=nth b (n - 1)*18446744073709551616:=Int.mul_le_mul_of_nonneg_right (by omega) (by decide)
   rw [Int.mul_comm 18446744073709551616];omega
  have HTOP:=qh (htop dg d0 hdg.symm)
  clear htop eW eW1 eB lW lB pp pn hbig hn hm hlt bh hN0
  go_enter Tryz.func238,Tryz.ntmps238
  go_wp2_with fail
  go_quiet (fail)
  go_wp2_with fail
  go_quiet ((go_at_call 208;exact quiet_drew2 (div64_any _ _ _ ⟨wn0,wn1⟩ ⟨wm0,wm1⟩ ⟨bt0,bt1⟩ hguess _)))
  go_wp2_with fail
  refine (lowerTimes_any g o cap gb ob cb n (W.take n) b dg _ (by exact hr.take n) (by exact hrb0) (by exact hf0) hne0 (hW.take n) hb ⟨d0,d1⟩ (by have:=uh HN;simp;omega) (uh HM) (by omega)).mono ?_
  rintro e w1 ⟨ms,out1,rfl,hms,l1,wo1,e1,ro1,ed1⟩
  obtain ⟨ms0,ms1⟩:=hms
  have ed1':Edit g o n w0 w1:=⟨ed1.os,ed1.tape,ed1.output,ed1.size,ed1.other,ed1.cell,ed1.free⟩
  clear ed1
  have hwn:w1.cell? ⟨g,o+n,none⟩=some (.int .u64 (nth W n)):=by rw [ed1'.cell (o+n) (by omega)];exact hc0
  have hfn:w1.frozen? ⟨g,o+n,none⟩=false:=(ed1'.free hf0).frozen _
  have hsub:∀ w,(callFunc 222 #[.int .u64 (nth W n),.int .u64 ms,.int .u64 0]).run Tryz.prog w=_:=fun w=>sub64_0 (nth W n) ms wn0 ms0 ms1 w
  obtain ⟨bw,ebw⟩:∃ bw,bor (nth W n) ms=bw:=⟨_,rfl⟩
  rw [ebw] at hsub
  have hstart:=dig_start (b:=b) (dg:=dg) (g:=g) (o:=o) (n:=n) (W:=W) (w:=w0) (w1:=w1) (ms:=ms) (bw:=bw) (out1:=out1) (uh HN) hW ms0 ms1 l1 wo1 e1 ro1 (ed1'.mono (Nat.le_refl _) (by omega)) hwn ebw d0 d1 (uh HTOP)
  have HST:=qh hstart
  clear hstart e1 ebw
  go_wp2_with fail
  go_loopw [6,8] (fun v c wr=>∃ (d bl:Int) (T:List Int),v=.int .u64 d/\c=.int .u64 bl/\Dig g o n W b w0 d bl wr T) (fun v _ _=>(intOf v).toNat)
  case atStart=>exact ⟨dg,bw,_,rfl,rfl,uh HST⟩
  case round =>
   clear HST
   obtain ⟨d,bl,T,rfl,rfl,hD⟩:=hrel
   have y0:=hD.d0
   have y1:=hD.d1
   by_cases hz:bl=0
   ·subst hz
    go_wp2
    go_ret
    exact ⟨d,T,rfl,⟨hD.d0,hD.d1⟩,hD.len,hD.ws,by have:=hD.eq;omega,by have:=hD.eq;have:=hD.up;omega,hD.row,hD.edit⟩
   ·have hbl:bl=1:=by have:=hD.b0;have:=hD.b1;omega
    subst hbl
    have ypos:=dig_pos hD hb
    go_wp2_with fail
    refine (raise_any g o cap gb ob cb (n+1) n T b _ hD.row ((hrb0.edit hD.edit0 (hne0 (by omega)))) (hD.edit.free hf0) (fun h=>hne0 h) hD.ws hb hD.len (uh HM) (by omega) (by omega)).mono ?_
    rintro e w3 ⟨c,T',rfl,c0,c1,lT,wT,eT,rT,edT⟩
    have HE:=qh eT
    clear eT
    go_wp2
    go_roundw
    case rel=>exact ⟨d - 1,1 - c,T',rfl,rfl,dig_step hD c0 c1 lT wT (uh HE) rT edT ypos⟩
    case measure=>simp [intOf];omega
 ·have d0:(0:Int)<=18446744073709551615:=by decide
  have d1:(18446744073709551615:Int)<18446744073709551616:=by decide
  have HTOP:Hid (val W<(18446744073709551615+1)*val b):=hbig
  clear eW eW1 eB lW lB pp pn hbig hn hm hlt
  go_enter Tryz.func238,Tryz.ntmps238
  go_wp2_with fail
  go_quiet (fail)
  go_wp2_with fail
  refine (lowerTimes_any g o cap gb ob cb n (W.take n) b (18446744073709551615:Int) _ (by exact hr.take n) (by exact hrb0) (by exact hf0) hne0 (hW.take n) hb ⟨d0,d1⟩ (by have:=uh HN;simp;omega) (uh HM) (by omega)).mono ?_
  rintro e w1 ⟨ms,out1,rfl,hms,l1,wo1,e1,ro1,ed1⟩
  obtain ⟨ms0,ms1⟩:=hms
  have ed1':Edit g o n w0 w1:=⟨ed1.os,ed1.tape,ed1.output,ed1.size,ed1.other,ed1.cell,ed1.free⟩
  clear ed1
  have hwn:w1.cell? ⟨g,o+n,none⟩=some (.int .u64 (nth W n)):=by rw [ed1'.cell (o+n) (by omega)];exact hc0
  have hfn:w1.frozen? ⟨g,o+n,none⟩=false:=(ed1'.free hf0).frozen _
  have hsub:∀ w,(callFunc 222 #[.int .u64 (nth W n),.int .u64 ms,.int .u64 0]).run Tryz.prog w=_:=fun w=>sub64_0 (nth W n) ms wn0 ms0 ms1 w
  obtain ⟨bw,ebw⟩:∃ bw,bor (nth W n) ms=bw:=⟨_,rfl⟩
  rw [ebw] at hsub
  have hstart:=dig_start (b:=b) (dg:=18446744073709551615) (g:=g) (o:=o) (n:=n) (W:=W) (w:=w0) (w1:=w1) (ms:=ms) (bw:=bw) (out1:=out1) (uh HN) hW ms0 ms1 l1 wo1 e1 ro1 (ed1'.mono (Nat.le_refl _) (by omega)) hwn ebw d0 d1 (uh HTOP)
  have HST:=qh hstart
  clear hstart e1 ebw
  go_wp2_with fail
  go_loopw [6,8] (fun v c wr=>∃ (d bl:Int) (T:List Int),v=.int .u64 d/\c=.int .u64 bl/\Dig g o n W b w0 d bl wr T) (fun v _ _=>(intOf v).toNat)
  case atStart=>exact ⟨(18446744073709551615:Int),bw,_,rfl,rfl,uh HST⟩
  case round =>
   clear HST
   obtain ⟨d,bl,T,rfl,rfl,hD⟩:=hrel
   have y0:=hD.d0
   have y1:=hD.d1
   by_cases hz:bl=0
   ·subst hz
    go_wp2
    go_ret
    exact ⟨d,T,rfl,⟨hD.d0,hD.d1⟩,hD.len,hD.ws,by have:=hD.eq;omega,by have:=hD.eq;have:=hD.up;omega,hD.row,hD.edit⟩
   ·have hbl:bl=1:=by have:=hD.b0;have:=hD.b1;omega
    subst hbl
    have ypos:=dig_pos hD hb
    go_wp2_with fail
    refine (raise_any g o cap gb ob cb (n+1) n T b _ hD.row ((hrb0.edit hD.edit0 (hne0 (by omega)))) (hD.edit.free hf0) (fun h=>hne0 h) hD.ws hb hD.len (uh HM) (by omega) (by omega)).mono ?_
    rintro e w3 ⟨c,T',rfl,c0,c1,lT,wT,eT,rT,edT⟩
    have HE:=qh eT
    clear eT
    go_wp2
    go_roundw
    case rel=>exact ⟨d - 1,1 - c,T',rfl,rfl,dig_step hD c0 c1 lT wT (uh HE) rT edT ypos⟩
    case measure=>simp [intOf];omega
end Go.Proofs.YtkdobjmhammhbaaGreatDoor
