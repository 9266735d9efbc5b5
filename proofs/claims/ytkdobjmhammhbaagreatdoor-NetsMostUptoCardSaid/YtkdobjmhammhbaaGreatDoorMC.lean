import Derived.Test.YtkdobjmhammhbaaGreatDoorMB
import Derived.Deep.RegionHeld3
namespace Go.Proofs.YtkdobjmhammhbaaGreatDoor
set_option maxHeartbeats 4000000
open Go.RowKit
theorem Row.snoc {w:World}{g o n:Nat}{l:List Int}{x:Int} (h:Row w g o l) (hn:l.length=n) (hx:w.cell? ⟨g,o+n,none⟩=some (.int .u64 x)):Row w g o (l++[x]):=by
 intro k hk
 simp at hk
 by_cases e:k<l.length
 ·rw [h k e];simp [nth,List.getElem?_append,e]
 ·have:k=n:=by omega
  subst this
  rw [hx];simp [nth,hn]
theorem sum_core (ga oa ca gb ob cb n m:Nat) (a b:List Int) (w:World) (hra:Row w ga oa a) (hrb:Row w gb ob b) (ha:Ws a) (hb:Ws b) (hn:a.length=n) (hm:b.length=m) (hmn:m<=n) (hlim:n<=900000) :
 Calls Tryz.prog 165 #[.slice (some ⟨ga,oa,none⟩) n ca,.slice (some ⟨gb,ob,none⟩) m cb] w fun e w'=>∃ v,e=.returned v/\Sz (n+1) w' v (val a+val b)/\Below w.heap.size w w':=by
 have hgb:m≠0->gb<w.heap.size:=fun h=>hrb.lt (by intro e;subst e;exact h hm.symm)
 have HN:=qh hn
 have HM:=qh hm
 clear hn hm
 go_enter Tryz.func165,Tryz.ntmps165
 go_wp2_with (first | (at_make;refine zqw rfl _ _ rfl (n+1) (by omega) rfl rfl ?_;intro g w1 hmade) | (refine zkd rfl (.tmp 17) (.tmp 18) rfl g 0 (n+1) (n+1) ga oa n ca (List.replicate (n+1) 0) a rfl rfl (by simp) (uh HN) (Nat.le_succ _) hmade.row (hra.later hmade.below) hmade.free ?_;intro w2 hrow hedit))
 have hrow':Row w2 g 0 a:=by
  have:=hrow.take n
  rwa [List.take_append_of_le_length (by have:=uh HN;omega),List.take_of_length_le (by have:=uh HN;omega)] at this
 have htop:w2.cell? ⟨g,n,none⟩=some (.int .u64 0):=by
  have:=hrow n (by have:=uh HN;simp;omega)
  have e:=uh HN
  simpa [nth,List.getElem?_append,e] using this
 have hbw:Below w.heap.size w w2:=hmade.below.trans (hedit.below (by have:=hmade.at_;omega) (by have:=hmade.size;omega))
 refine (raise_any g 0 (n+1) gb ob cb n m a b w2 hrow' (hrb.later hbw) (hedit.free hmade.free) (fun h=>by have:=hgb (by omega);have:=hmade.at_;omega) ha hb (uh HN) (uh HM) hmn (by omega)).mono ?_
 rintro e w3 ⟨c,out,rfl,c0,c1,lo,wo,eo,ro,ed⟩
 have hc3:w3.cell? ⟨g,n,none⟩=some (.int .u64 0):=by rw [ed.cell n (by omega)];exact htop
 have hf3:w3.frozen? ⟨g,n,none⟩=false:=(ed.free (hedit.free hmade.free)).frozen _
 have HEO:=qh eo
 have HLO:=qh lo
 clear eo lo
 go_wp2_with fail
 have hrow4:Row (w3.setCell ⟨g,n,none⟩ (.int .u64 c)) g 0 (out++[c]):=by
  refine Row.snoc (n:=n) ?_ (uh HLO) (by rw [Nat.zero_add];exact zqd hc3)
  intro k hk
  rw [zqb _ _ _ _ _ _ (by have:=uh HLO;omega)]
  exact ro k hk
 refine (zje g 0 (n+1) (n+1) (out++[c]) _ hrow4 (wo.append (Ws.mk ⟨c0,by omega⟩ Ws.nil)) (by have:=uh HLO;simp;omega) (Nat.le_refl _) (by omega)).mono ?_
 rintro e w5 ⟨v,rfl,hsz,rfl⟩
 go_wp2
 go_ret
 refine ⟨_,rfl,hsz.eq (by rw [zxv,uh HLO];exact uh HEO),(hbw.trans (ed.below (by have:=hmade.at_;omega) (by have:=hbw.size;omega))).setCell (by have:=hmade.at_;show w.heap.size<=g;omega) _⟩
theorem sum_core2 (ga oa ca gb ob cb n m:Nat) (a b:List Int) (w:World) (hra:Row w ga oa a) (hrb:Row w gb ob b) (ha:Ws a) (hb:Ws b) (hn:a.length=n) (hm:b.length=m) (hmn0:m<n) (hlim:n<=900000) :
 Calls Tryz.prog 165 #[.slice (some ⟨gb,ob,none⟩) m cb,.slice (some ⟨ga,oa,none⟩) n ca] w fun e w'=>∃ v,e=.returned v/\Sz (n+1) w' v (val a+val b)/\Below w.heap.size w w':=by
 have hgb:m≠0->gb<w.heap.size:=fun h=>hrb.lt (by intro e;subst e;exact h hm.symm)
 have hmn:m<=n:=Nat.le_of_lt hmn0
 have HN:=qh hn
 have HM:=qh hm
 clear hn hm
 go_enter Tryz.func165,Tryz.ntmps165
 go_wp2_with (first | (at_make;refine zqw rfl _ _ rfl (n+1) (by omega) rfl rfl ?_;intro g w1 hmade) | (refine zkd rfl (.tmp 17) (.tmp 18) rfl g 0 (n+1) (n+1) ga oa n ca (List.replicate (n+1) 0) a rfl rfl (by simp) (uh HN) (Nat.le_succ _) hmade.row (hra.later hmade.below) hmade.free ?_;intro w2 hrow hedit))
 have hrow':Row w2 g 0 a:=by
  have:=hrow.take n
  rwa [List.take_append_of_le_length (by have:=uh HN;omega),List.take_of_length_le (by have:=uh HN;omega)] at this
 have htop:w2.cell? ⟨g,n,none⟩=some (.int .u64 0):=by
  have:=hrow n (by have:=uh HN;simp;omega)
  have e:=uh HN
  simpa [nth,List.getElem?_append,e] using this
 have hbw:Below w.heap.size w w2:=hmade.below.trans (hedit.below (by have:=hmade.at_;omega) (by have:=hmade.size;omega))
 refine (raise_any g 0 (n+1) gb ob cb n m a b w2 hrow' (hrb.later hbw) (hedit.free hmade.free) (fun h=>by have:=hgb (by omega);have:=hmade.at_;omega) ha hb (uh HN) (uh HM) hmn (by omega)).mono ?_
 rintro e w3 ⟨c,out,rfl,c0,c1,lo,wo,eo,ro,ed⟩
 have hc3:w3.cell? ⟨g,n,none⟩=some (.int .u64 0):=by rw [ed.cell n (by omega)];exact htop
 have hf3:w3.frozen? ⟨g,n,none⟩=false:=(ed.free (hedit.free hmade.free)).frozen _
 have HEO:=qh eo
 have HLO:=qh lo
 clear eo lo
 go_wp2_with fail
 have hrow4:Row (w3.setCell ⟨g,n,none⟩ (.int .u64 c)) g 0 (out++[c]):=by
  refine Row.snoc (n:=n) ?_ (uh HLO) (by rw [Nat.zero_add];exact zqd hc3)
  intro k hk
  rw [zqb _ _ _ _ _ _ (by have:=uh HLO;omega)]
  exact ro k hk
 refine (zje g 0 (n+1) (n+1) (out++[c]) _ hrow4 (wo.append (Ws.mk ⟨c0,by omega⟩ Ws.nil)) (by have:=uh HLO;simp;omega) (Nat.le_refl _) (by omega)).mono ?_
 rintro e w5 ⟨v,rfl,hsz,rfl⟩
 go_wp2
 go_ret
 refine ⟨_,rfl,hsz.eq (by rw [zxv,uh HLO];exact uh HEO),(hbw.trans (ed.below (by have:=hmade.at_;omega) (by have:=hbw.size;omega))).setCell (by have:=hmade.at_;show w.heap.size<=g;omega) _⟩
theorem sum_any {N:Nat}{va vb:Value}{x y:Int} (w:World) (hva:Sz N w va x) (hvb:Sz N w vb y) (hlim:N<=900000) :
 Calls Tryz.prog 165 #[va,vb] w fun e w'=>∃ v,e=.returned v/\Sz (N+1) w' v (x+y)/\Below w.heap.size w w':=by
 obtain ⟨ga,oa,ca,a,rfl,ha,ta,ea,na,la,lca,hra⟩:=hva
 obtain ⟨gb,ob,cb,b,rfl,hb,tb,eb,nb,lb,lcb,hrb⟩:=hvb
 by_cases h:b.length<=a.length
 ·refine (sum_core ga oa ca gb ob cb _ _ a b w hra hrb ha hb rfl rfl h (by omega)).mono ?_
  rintro e w' ⟨v,rfl,h1,h2⟩
  exact ⟨v,rfl,(h1.mono (by omega)).eq (by rw [ea,eb]),h2⟩
 ·refine (sum_core2 gb ob cb ga oa ca _ _ b a w hrb hra hb ha rfl rfl (by omega) (by omega)).mono ?_
  rintro e w' ⟨v,rfl,h1,h2⟩
  exact ⟨v,rfl,(h1.mono (by omega)).eq (by rw [ea,eb,Int.add_comm]),h2⟩
theorem edit_cell {g lo n b o:Nat}{v:Value}{w w':World} (h:Edit g lo n w w') (hc:w.cell? ⟨b,o,none⟩=some v) (hne:b≠g):w'.cell? ⟨b,o,none⟩=some v:=by
 rw [World.cell?_of_block (w:=w) (w':=w') (a:=⟨b,o,none⟩) (h.other b (World.block_lt_of_cell? w _ hc) hne)]
 exact hc
structure Grow (g:Nat) (a b:List Int) (w1:World) (i:Nat) (wr:World) (out:List Int):Prop where
 len:out.length=i+b.length
 ws:Ws out
 eq:val out=val (a.take i)*val b
 row:Row wr g 0 (out++List.replicate (a.length - i) 0)
 edit:Edit g 0 (a.length+b.length) w1 wr
theorem nth_pad (out:List Int) (k j:Nat) (h:out.length<=j):nth (out++List.replicate k 0) j=0:=by
 simp only [nth,List.getElem?_append_right h,List.getElem?_replicate]
 split <;> rfl
theorem zqt {a b:List Int}{k:Nat} (h:k<a.length):nth (a++b) k=nth a k:=by simp [nth,List.getElem?_append,h]
theorem zxj {a b:List Int}{k:Nat} (h:a.length<=k):nth (a++b) k=nth b (k - a.length):=by simp [nth,List.getElem?_append_right h]
theorem nth_take {a:List Int}{k m:Nat} (h:k<m):nth (a.take m) k=nth a k:=by simp [nth,h]
theorem nth_drop {a:List Int}{k m:Nat}:nth (a.drop m) k=nth a (m+k):=by simp [nth]
theorem grow_step {g i m:Nat}{a b out out':List Int}{c:Int}{w1 wr w3:World} (h:Grow g a b w1 i wr out) (hi:i<a.length) (hm:b.length=m) (hc:W64 c) (lo:out'.length=m) (wo:Ws out')
 (eo:val out'+pw m*c=val (out.drop i)+val b*nth a i) (ro:Row w3 g i out') (ed:Edit g i m wr w3) (htop:w3.cell? ⟨g,i+m,none⟩=some (.int .u64 0)) :
 Grow g a b w1 (i+1) (w3.setCell ⟨g,i+m,none⟩ (.int .u64 c)) (out.take i++out'++[c]):=by
 have hl:=h.len
 have lt:(out.take i).length=i:=by simp;omega
 refine ⟨by simp;omega,((h.ws.take i).append wo).append (Ws.mk hc Ws.nil),?_,?_,?_⟩
 ·rw [zxv,zkc,List.length_append,lt,lo,pw_add,zqh a i hi]
  have e1:=zxm out i (by omega)
  have e2:=h.eq
  have e3:pw i*(val out'+pw m*c)=pw i*(val (out.drop i)+val b*nth a i):=by rw [eo]
  grind
 ·intro k hk
  simp at hk
  rw [Nat.zero_add]
  by_cases k1:k<i
  ·rw [zqb _ _ _ _ _ _ (by omega),ed.cell k (by omega)]
   have:=h.row k (by simp;omega)
   rw [Nat.zero_add] at this
   rw [this,zqt (by omega),zqt (by simp;omega),zqt (by simp;omega),zqt (by omega),nth_take k1]
  by_cases k2:k<i+m
  ·rw [zqb _ _ _ _ _ _ (by omega)]
   have:=ro (k - i) (by omega)
   rw [show i+(k - i)=k by omega] at this
   rw [this,zqt (by simp;omega),zqt (by simp;omega),zxj (by omega),lt]
  by_cases k3:k=i+m
  ·subst k3
   rw [zqd htop,zqt (by simp;omega),zxj (by simp;omega)]
   simp [nth,lt,lo]
  ·rw [zqb _ _ _ _ _ _ (by omega),ed.cell k (by omega)]
   have:=h.row k (by simp;omega)
   rw [Nat.zero_add] at this
   rw [this,nth_pad _ _ _ (by omega),nth_pad _ _ _ (by simp;omega)]
 ·exact (h.edit.trans (ed.mono (by omega) (by omega))).setCell (by omega) (by omega) _
theorem product_any {N M:Nat}{va vb:Value}{x y:Int} (w:World) (hva:Sz N w va x) (hvb:Sz M w vb y) (hlim:N+M<=900000) :
 Calls Tryz.prog 181 #[va,vb] w fun e w'=>∃ v,e=.returned v/\Sz (N+M) w' v (x*y)/\Below w.heap.size w w':=by
 obtain ⟨ga,oa,ca,a,rfl,ha,ta,ea,na,la,lca,hra⟩:=hva
 obtain ⟨gb,ob,cb,b,rfl,hb,tb,eb,nb,lb,lcb,hrb⟩:=hvb
 obtain ⟨n,hn⟩:∃ n,a.length=n:=⟨_,rfl⟩
 obtain ⟨m,hm⟩:∃ m,b.length=m:=⟨_,rfl⟩
 have hga:n≠0->ga<w.heap.size:=fun h=>hra.lt (by intro e;subst e;exact h hn.symm)
 have hgb:m≠0->gb<w.heap.size:=fun h=>hrb.lt (by intro e;subst e;exact h hm.symm)
 rw [hn,hm]
 rw [hn] at na la
 rw [hm] at nb lb
 have HN:=qh hn
 have HM:=qh hm
 have HA:=qh ea
 have HB:=qh eb
 clear hn hm ea eb
 go_enter Tryz.func181,Tryz.ntmps181
 go_wp2_with (first | (at_make;refine zqw rfl _ _ rfl (n+m) (by omega) rfl rfl ?_;intro g w1 hmade))
 go_loopw [15] (fun v wr=>∃ (i:Nat) (out:List Int),i<=n/\v=.int .i64 i/\Grow g a b w1 i wr out) (fun v _=>n - (intOf v).toNat)
 case atStart =>
  refine ⟨0,List.replicate m 0,Nat.zero_le _,rfl,⟨by have:=uh HM;simp;omega,?_,by simp [val,val_replicate],?_,Edit.refl _ _ _ _⟩⟩
  ·intro x hx
   rw [List.eq_of_mem_replicate hx];exact ⟨by decide,by decide⟩
  ·have:=hmade.row
   rw [uh HN,Nat.sub_zero,List.replicate_append_replicate,Nat.add_comm m n];exact this
 case round =>
  obtain ⟨i,out,hi,rfl,hR⟩:=hrel
  by_cases hlt:i<n
  ·have hca:wr.cell? ⟨ga,oa+i,none⟩=some (.int .u64 (nth a i)):=((hra.later hmade.below).edit hR.edit (by have:=hga (by omega);have:=hmade.at_;omega)) i (by have:=uh HN;omega)
   have hbelow:Below w.heap.size w wr:=hmade.below.trans (hR.edit.below (by have:=hmade.at_;omega) (by have:=hmade.size;omega))
   have hrb':Row wr gb ob b:=hrb.later hbelow
   have hmid:Row wr g i (out.drop i):=by
    have:=(hR.row.take (i+m)).drop i
    rw [Nat.zero_add,List.take_append_of_le_length (by have:=hR.len;have:=uh HM;omega),List.take_of_length_le (by have:=hR.len;have:=uh HM;omega)] at this
    exact this
   have hfree:Free wr g:=hR.edit.free hmade.free
   have hne:0<m->gb≠g:=fun h=>by have:=hgb (by omega);have:=hmade.at_;omega
   have hgag:ga≠g:=by have:=hga (by omega);have:=hmade.at_;omega
   have htop:wr.cell? ⟨g,i+m,none⟩=some (.int .u64 0):=by
    have l1:=hR.len;have l2:=uh HM;have l3:=uh HN
    have:=hR.row (i+m) (by simp;omega)
    rw [Nat.zero_add] at this
    rw [this]
    rw [nth_pad _ _ _ (by omega)]
   have q1:IntKind.i64.wrap ((i:Int)+(m:Int))=(i:Int)+(m:Int):=by rw [IntKind.wrap_i64];omega
   have q2:((i:Int)+(m:Int)).toNat=i+m:=by omega
   have q3:(0:Int)<=(i:Int):=by omega
   have q4:(i:Int)<=(i:Int)+(m:Int):=by omega
   have q5:(i:Int)+(m:Int)<=(n:Int)+(m:Int):=by omega
   have q6:(i:Int)+(m:Int)<(n:Int)+(m:Int):=by omega
   have q7:(0:Int)<=(i:Int)+(m:Int):=by omega
   have q8:i+m<=n+m:=by omega
   have q9:i<=n+m:=by omega
   have q10:(i:Int)<(n:Int):=by omega
   have q11:¬ n+m=i:=by omega
   go_wp2_with fail
   go_region_held3 (fun w'=>w'.cell? ⟨ga,oa+i,none⟩=some (.int .u64 (nth a i))) (first | exact hca | exact hca3 | exact (zqb _ _ _ _ _ _ (fun h=>hgag h.1)).trans hca3) ((go_at_call 215;go_fit (raiseTimes_any g i (n+m - i) gb ob cb m (out.drop i) b (nth a i) wr.drew hmid hrb' hfree hne (hR.ws.drop i) hb (ha.get i) (by have:=hR.len;have:=uh HM;simp;omega) (uh HM) (by omega));rintro e w3 ⟨c,out',rfl,hc,lo,wo,eo,ro,ed⟩;have hca3:w3.cell? ⟨ga,oa+i,none⟩=some (.int .u64 (nth a i)):=edit_cell ed hca hgag;have hc3:w3.cell? ⟨g,i+m,none⟩=some (.int .u64 0):=(ed.cell (i+m) (by omega)).trans htop;have hf3:w3.frozen? ⟨g,i+m,none⟩=false:=(ed.free hfree).frozen _;have HP:=qh (And.intro hc (And.intro lo eo));clear hc lo eo))
   go_wp2
   go_roundw
   case rel =>
    obtain ⟨hc,lo,eo⟩:=uh HP
    exact ⟨i+1,_,by omega,by go_num,grow_step hR (by have:=uh HN;omega) (uh HM) hc lo wo eo ro ed.undrew hc3⟩
   case measure=>simp [intOf];omega
  ·go_wp2_with fail
   have hrow:Row wr g 0 out:=by
    have:=hR.row
    rwa [uh HN,show n - i=0 by omega,List.replicate_zero,List.append_nil] at this
   refine (zje g 0 (n+m) (n+m) out wr hrow hR.ws (by have:=hR.len;have:=uh HM;omega) (Nat.le_refl _) (by omega)).mono ?_
   rintro e w5 ⟨v,rfl,hsz,rfl⟩
   go_wp2
   go_ret
   refine ⟨_,rfl,(hsz.mono (by omega)).eq ?_,hmade.below.trans (hR.edit.below (by have:=hmade.at_;omega) (by have:=hmade.size;omega))⟩
   rw [hR.eq,List.take_of_length_le (by have:=uh HN;omega),uh HA,uh HB]
theorem two_split (s:Nat) (h:s<=64):(2:Int) ^ s*2 ^ (64 - s)=18446744073709551616:=by
 rw [<- Int.pow_add,show s+(64 - s)=64 by omega];decide
theorem zxu (s:Nat):(0:Int)<2 ^ s:=Int.pow_pos (by decide)
theorem shl_split {x:Int}{s:Nat} (hx:W64 x) (h:s<=64):(x*2 ^ s) % 18446744073709551616=x % 2 ^ (64 - s)*2 ^ s/\(x*2 ^ s) % 18446744073709551616+18446744073709551616*(x / 2 ^ (64 - s))=x*2 ^ s/\0<=x / 2 ^ (64 - s)/\x / 2 ^ (64 - s)<2 ^ s:=by
 obtain ⟨x0,x1⟩:=hx
 have e:=two_split s h
 have p0:=zxu s
 have r0:=zxu (64 - s)
 generalize (2:Int) ^ s=p at *
 generalize (2:Int) ^ (64 - s)=r at *
 have d:=Int.mul_ediv_add_emod x r
 have d0:=Int.emod_nonneg x (show r≠0 by omega)
 have d1:=Int.emod_lt_of_pos x r0
 have q0:0<=x / r:=Int.ediv_nonneg x0 (by omega)
 generalize hq:x / r=q at *
 generalize hm:x % r=m at *
 have h1:x*p=m*p+18446744073709551616*q:=by rw [<- d,<- e];grind
 have h2:0<=m*p:=Int.mul_nonneg d0 (by omega)
 have h3:m*p<=(r - 1)*p:=Int.mul_le_mul_of_nonneg_right (by omega) (by omega)
 have h4:(r - 1)*p=18446744073709551616 - p:=by rw [<- e];grind
 have h5:(x*p) % 18446744073709551616=m*p:=by rw [h1];omega
 refine ⟨h5,by rw [h5];omega,q0,?_⟩
 by_cases g:q<p
 ·exact g
 ·have:r*p<=r*q:=Int.mul_le_mul_of_nonneg_left (by omega) (by omega)
  rw [Int.mul_comm r p,e] at this
  omega
theorem or_disjoint {A C M:Int}{s:Nat} (hA:A=M*2 ^ s) (hM:0<=M) (hA1:A<18446744073709551616) (hC:0<=C) (hC1:C<2 ^ s) (hC2:C<18446744073709551616):bits .or .u64 A C=A+C/\bits .or .u64 C A=A+C:=by
 obtain ⟨m,rfl⟩:=Int.eq_ofNat_of_zero_le hM
 obtain ⟨c,rfl⟩:=Int.eq_ofNat_of_zero_le hC
 have hA':A=((m*2 ^ s:Nat):Int):=by rw [hA];simp
 subst hA'
 have hc:c<2 ^ s:=by
  have:((2 ^ s:Nat):Int)=(2:Int) ^ s:=by simp
  omega
 have e:m*2 ^ s ||| c=m*2 ^ s+c:=by
  have:=Nat.shiftLeft_add_eq_or_of_lt hc m
  rw [Nat.shiftLeft_eq] at this
  exact this.symm
 have e':c ||| m*2 ^ s=m*2 ^ s+c:=by rw [Nat.or_comm];exact e
 constructor
 ·have h1:=bits_or_u64_nat (m*2 ^ s) c (by omega) (by omega)
  rw [e] at h1;rw [h1];simp
 ·have h2:=bits_or_u64_nat c (m*2 ^ s) (by omega) (by omega)
  rw [e'] at h2;rw [h2];simp
theorem and_low {x:Int} (hx:W64 x):bits .and .u64 x 4294967295=x % 4294967296:=by
 obtain ⟨x0,x1⟩:=hx
 obtain ⟨a,rfl⟩:=Int.eq_ofNat_of_zero_le x0
 have h:=bits_and_u64_nat a 4294967295 (by omega) (by omega)
 have e:a &&& 4294967295=a % 4294967296:=Nat.and_two_pow_sub_one_eq_mod a 32
 rw [e] at h
 rw [show ((4294967295:Nat):Int)=4294967295 from rfl] at h
 rw [h];omega
theorem lead {y:Int} (hy:W64 y) (h0:0<y):∃ s:Nat,64 - (Lib.bitLen y.toNat:Int)=s/\s<=63/\9223372036854775808<=y*2 ^ s/\y*2 ^ s<18446744073709551616:=by
 obtain ⟨y0,y1⟩:=hy
 obtain ⟨a,rfl⟩:=Int.eq_ofNat_of_zero_le y0
 have b:=Lib.bitLenAux_bounds 64 a (by omega) (by omega)
 have ble:=Lib.bitLen_le a 64 (by omega) (by omega)
 change 1<=Lib.bitLen a/\2 ^ (Lib.bitLen a - 1)<=a/\a<2 ^ Lib.bitLen a at b
 rw [Int.toNat_natCast]
 generalize Lib.bitLen a=k at *
 obtain ⟨b1,b2,b3⟩:=b
 refine ⟨64 - k,by omega,by omega,?_,?_⟩
 ·have e:2 ^ (k - 1)*2 ^ (64 - k)=2 ^ 63:=by rw [<- Nat.pow_add,show k - 1+(64 - k)=63 by omega]
  have:2 ^ (k - 1)*2 ^ (64 - k)<=a*2 ^ (64 - k):=Nat.mul_le_mul_right _ b2
  rw [e] at this
  have g:((a*2 ^ (64 - k):Nat):Int)=(a:Int)*2 ^ (64 - k):=by simp
  rw [<- g];omega
 ·have e:2 ^ k*2 ^ (64 - k)=2 ^ 64:=by rw [<- Nat.pow_add,show k+(64 - k)=64 by omega]
  have:a*2 ^ (64 - k)<2 ^ k*2 ^ (64 - k):=Nat.mul_lt_mul_of_pos_right b3 (Nat.pow_pos (by decide))
  rw [e] at this
  have g:((a*2 ^ (64 - k):Nat):Int)=(a:Int)*2 ^ (64 - k):=by simp
  rw [<- g];omega
theorem div64_low (lo y:Int) (hl:W64 lo) (hy:W64 y) (hy0:0<y) (w:World) :
 Calls Tryz.prog 208 #[.int .u64 0,.int .u64 lo,.int .u64 y] w fun e w'=>e=.returned (.tuple #[.int .u64 (lo / y),.int .u64 (lo % y)])/\∃ n,w'=w.drewN n:=by
 obtain ⟨l0,l1⟩:=hl
 obtain ⟨y0,y1⟩:=hy
 have hy1:(y == 0)=false:=by simp;omega
 go_enter Tryz.func208,Tryz.ntmps208
 go_wp2_with fail
 go_quiet (fail)
 go_wp2
 go_ret2
 exact ⟨rfl,_,rfl⟩
theorem wrapped3 {a b c k1 k2 k3 t:Int} (h0:0<=a*4294967296+b - c) (h1:a*4294967296+b - c<18446744073709551616) (e1:IntKind.u64.wrap (a*4294967296)=k1) (e2:IntKind.u64.wrap (k1+b)=k2) (e3:IntKind.u64.wrap c=k3) (e4:IntKind.u64.wrap (k2 - k3)=t):t=a*4294967296+b - c:=by
 rw [IntKind.wrap_u64] at e1 e2 e3 e4
 omega
theorem half_p {y1 y0 u n q r:Int} (h:Half y1 y0 u n q r) (hq:q<4294967296):0<=q*y0/\q*y0<18446744073709551616:=by
 refine ⟨Int.mul_nonneg h.q0 h.y0lo,?_⟩
 have h1:q*y0<=4294967295*y0:=Int.mul_le_mul_of_nonneg_right (by omega) h.y0lo
 have:=h.y0hi
 omega
theorem ret_two {a b a' b':Int} (h:a=a') (h':b=b'):Ending.returned (.tuple #[.int .u64 a,.int .u64 b])=.returned (.tuple #[.int .u64 a',.int .u64 b']):=by rw [h,h']
theorem prep {Y y1 y0 u n1 n0 Q:Int} (hD:Done y1 y0 u n1 Q) (hY:Y=y1*4294967296+y0) (by1:2147483648<=y1) (by1':y1<4294967296) (by0:0<=y0) (by0':y0<4294967296) (bn0:0<=n0) (bn0':n0<4294967296) :
 ∃ k1 k2 k3 t q m r,IntKind.u64.wrap (u*4294967296)=k1/\IntKind.u64.wrap (k1+n1)=k2/\IntKind.u64.wrap (Q*Y)=k3/\IntKind.u64.wrap (k2 - k3)=t/\Hid (t=u*4294967296+n1 - Q*Y)/\0<=t/\t<18446744073709551616/\Hid (t / y1=q)/\IntKind.u64.wrap (t / y1*y1)=m/\0<=m/\m<=t/\t - m=r/\Half y1 y0 t n0 q r:=by
 obtain ⟨k1,e1⟩:∃ k1,IntKind.u64.wrap (u*4294967296)=k1:=⟨_,rfl⟩
 obtain ⟨k2,e2⟩:∃ k2,IntKind.u64.wrap (k1+n1)=k2:=⟨_,rfl⟩
 obtain ⟨k3,e3⟩:∃ k3,IntKind.u64.wrap (Q*Y)=k3:=⟨_,rfl⟩
 obtain ⟨t,e4⟩:∃ t,IntKind.u64.wrap (k2 - k3)=t:=⟨_,rfl⟩
 have hr:=hD.rest
 rw [<- hY] at hr
 have ht:=wrapped3 hr.1 (by omega) e1 e2 e3 e4
 have hH:=half_start by1 by1' by0 by0' (show 0<=t by omega) (show t<y1*4294967296+y0 by omega) bn0 bn0'
 have m0:0<=t / y1*y1:=Int.mul_nonneg hH.q0 (by omega)
 have m1:=hH.eq
 have m2:=hH.r0
 refine ⟨k1,k2,k3,t,t / y1,t / y1*y1,_,e1,e2,e3,e4,ht,by omega,by omega,rfl,?_,m0,by omega,rfl,hH⟩
 rw [IntKind.wrap_u64];omega
theorem prep2 {Y y1 y0 t n0 Q:Int} (hD:Done y1 y0 t n0 Q) (hY:Y=y1*4294967296+y0) (by1':y1<4294967296) (by0':y0<4294967296) :
 ∃ k4 k5 k6 R,IntKind.u64.wrap (t*4294967296)=k4/\IntKind.u64.wrap (k4+n0)=k5/\IntKind.u64.wrap (Q*Y)=k6/\IntKind.u64.wrap (k5 - k6)=R/\Hid (R=t*4294967296+n0 - Q*Y)/\0<=R/\R<18446744073709551616:=by
 obtain ⟨k1,e1⟩:∃ k1,IntKind.u64.wrap (t*4294967296)=k1:=⟨_,rfl⟩
 obtain ⟨k2,e2⟩:∃ k2,IntKind.u64.wrap (k1+n0)=k2:=⟨_,rfl⟩
 obtain ⟨k3,e3⟩:∃ k3,IntKind.u64.wrap (Q*Y)=k3:=⟨_,rfl⟩
 obtain ⟨R,e4⟩:∃ R,IntKind.u64.wrap (k2 - k3)=R:=⟨_,rfl⟩
 have hr:=hD.rest
 rw [<- hY] at hr
 have ht:=wrapped3 hr.1 (by omega) e1 e2 e3 e4
 exact ⟨k1,k2,k3,R,e1,e2,e3,e4,ht,by omega,by omega⟩
theorem half_q1 {y1 y0 u n q r:Int} (h:Half y1 y0 u n q r) (ht:4294967296*r+n<q*y0):1<=q:=by
 by_cases e:q=0
 ·subst e;have:=h.r0;have:=h.nlo;omega
 ·have:=h.q0;omega
theorem div64_core (hi lo y Y L u y1 y0 n1 n0:Int) (s:Nat) (hh0:0<hi) (hlt:hi<y) (hyt:y<18446744073709551616) (hs:64 - (Lib.bitLen y.toNat:Int)=s) (hs63:s<=63)
 (eY:IntKind.u64.wrap (y*2 ^ s)=Y) (ey1:Y / 4294967296=y1) (ey0:bits .and .u64 Y 4294967295=y0) (eu:bits .or .u64 (IntKind.u64.wrap (hi*2 ^ s)) (lo / 2 ^ (64 - s))=u)
 (eL:IntKind.u64.wrap (lo*2 ^ s)=L) (en1:L / 4294967296=n1) (en0:bits .and .u64 L 4294967295=n0)
 (by1:2147483648<=y1) (by1':y1<4294967296) (by0:0<=y0) (by0':y0<4294967296) (bu:0<=u) (bu':u<y1*4294967296+y0) (bn1:0<=n1) (bn1':n1<4294967296) (bn0:0<=n0) (bn0':n0<4294967296) (_bl:0<=lo) (hYY:Y=y1*4294967296+y0) (w:World) :
 Calls Tryz.prog 208 #[.int .u64 hi,.int .u64 lo,.int .u64 y] w fun e w'=>(∃ q1 q0 t,e=.returned (.tuple #[.int .u64 (q1*4294967296+q0),.int .u64 ((t*4294967296+n0 - q0*Y) / 2 ^ s)])/\Done y1 y0 u n1 q1/\Done y1 y0 t n0 q0/\t=u*4294967296+n1 - q1*Y)/\w=w':=by
 have hy1:(y == 0)=false:=by simp;omega
 have hh1:(hi == 0)=false:=by simp;omega
 have HS:=qh hs
 have HY:=qh hYY
 clear hs hYY
 have s1:IntKind.u64.wrap (s:Int)=s:=by rw [IntKind.wrap_u64];omega
 have s2:min s 64=s:=by omega
 obtain ⟨q,eq⟩:∃ q,u / y1=q:=⟨_,rfl⟩
 obtain ⟨r,er⟩:∃ r,u - q*y1=r:=⟨_,rfl⟩
 have hhalf:Half y1 y0 u n1 q r:=by rw [<- er,<- eq];exact half_start by1 by1' by0 by0' bu bu' bn1 bn1'
 obtain ⟨m,em⟩:∃ m,q*y1=m:=⟨_,rfl⟩
 have b1:0<=m:=by have:=hhalf.q0;rw [<- em];exact Int.mul_nonneg this (by omega)
 have em':IntKind.u64.wrap (q*y1)=m:=by rw [IntKind.wrap_u64];have:=hhalf.eq;have:=hhalf.r0;omega
 have em2:u - m=r:=by rw [<- em];exact er
 have b2:m<=u:=by have:=hhalf.r0;omega
 clear er em
 have q0':=hhalf.q0
 have q1':=hhalf.qhi
 go_enter Tryz.func208,Tryz.ntmps208
 go_wp2_with fail
 refine (Tryz.bits_LeadingZeros64 y _ (by omega) (by omega)).mono ?_
 rintro e w1 ⟨rfl,rfl⟩
 rw [uh HS]
 go_wp2_with fail
 go_loop [15,16] (fun v v'=>∃ q r:Int,v=.int .u64 q/\v'=.int .u64 r/\Half y1 y0 u n1 q r) (fun v _=>(intOf v).toNat)
 case atStart=>exact ⟨q,r,by rw [eq],rfl,hhalf⟩
 case round =>
  clear eq em' em2 b1 b2 q0' q1' hhalf
  obtain ⟨q,r,rfl,rfl,hH⟩:=hrel
  have a1:=hH.q0
  have a2:=hH.qhi
  have a3:=hH.r0
  have a4:=hH.rhi
  by_cases hq:4294967296<=q
  ·by_cases hb:r+y1<4294967296
   ·go_wp2
    go_round
    case rel=>exact ⟨q - 1,r+y1,rfl,rfl,zja hH (Or.inl hq) hb⟩
    case measure=>simp [intOf];omega
   ·have hD:=zkn hH (Or.inl hq) (by omega)
    obtain ⟨k1,k2,k3,t,qq,mm,rr,e1,e2,e3,e4,HT1,t0,t1,HQ,em,mm0,mm1,er,hH2⟩:=prep (n0:=n0) hD (uh HY) by1 by1' by0 by0' bn0 bn0'
    have x1:=hD.q0
    have x2:=hD.qhi
    go_wp2_with fail
    go_loop [18,16] (fun v v'=>∃ q r:Int,v=.int .u64 q/\v'=.int .u64 r/\Half y1 y0 t n0 q r) (fun v _=>(intOf v).toNat)
    case atStart=>exact ⟨qq,rr,by rw [uh HQ],rfl,hH2⟩
    case round =>
     clear e1 e2 e3 e4 em mm0 mm1 er hH2
     obtain ⟨qc,rc,rfl,rfl,hJ⟩:=hrel
     have c1:=hJ.q0
     have c2:=hJ.qhi
     have c3:=hJ.r0
     have c4:=hJ.rhi
     by_cases hq2:4294967296<=qc
     ·by_cases hb2:rc+y1<4294967296
      ·go_wp2
       go_round
       case rel=>exact ⟨qc - 1,rc+y1,rfl,rfl,zja hJ (Or.inl hq2) hb2⟩
       case measure=>simp [intOf];omega
      ·have hE:=zkn hJ (Or.inl hq2) (by omega)
       obtain ⟨k4,k5,k6,R,f1,f2,f3,f4,HR,R0,R1⟩:=prep2 hE (uh HY) by1' by0'
       have z1:=hE.q0
       have z2:=hE.qhi
       go_wp2
       go_ret2
       exact ⟨⟨_,_,t,ret_two rfl (by rw [<- uh HR]),hD,hE,uh HT1⟩,rfl⟩
     ·obtain ⟨p,ep⟩:∃ p,qc*y0=p:=⟨_,rfl⟩
      have hp:=half_p hJ (by omega)
      rw [ep] at hp
      obtain ⟨p0,p1⟩:=hp
      have ep':IntKind.u64.wrap (qc*y0)=p:=by rw [IntKind.wrap_u64];omega
      by_cases ht:4294967296*rc+n0<p
      ·have ht':4294967296*rc+n0<qc*y0:=by omega
       have HT:=qh ht'
       have c5:=half_q1 hJ ht'
       clear ep ht'
       by_cases hb2:rc+y1<4294967296
       ·go_wp2
        go_round
        case rel=>exact ⟨qc - 1,rc+y1,rfl,rfl,zja hJ (Or.inr (uh HT)) hb2⟩
        case measure=>simp [intOf];omega
       ·have hE:=zkn hJ (Or.inr (uh HT)) (by omega)
        obtain ⟨k4,k5,k6,R,f1,f2,f3,f4,HR,R0,R1⟩:=prep2 hE (uh HY) by1' by0'
        have z1:=hE.q0
        have z2:=hE.qhi
        go_wp2
        go_ret2
        exact ⟨⟨_,_,t,ret_two rfl (by rw [<- uh HR]),hD,hE,uh HT1⟩,rfl⟩
      ·have hE:=half_done hJ (by omega) (by omega)
       obtain ⟨k4,k5,k6,R,f1,f2,f3,f4,HR,R0,R1⟩:=prep2 hE (uh HY) by1' by0'
       have z1:=hE.q0
       have z2:=hE.qhi
       clear ep
       go_wp2
       go_ret2
       exact ⟨⟨_,_,t,ret_two rfl (by rw [<- uh HR]),hD,hE,uh HT1⟩,rfl⟩
  ·obtain ⟨p,ep⟩:∃ p,q*y0=p:=⟨_,rfl⟩
   have hp:=half_p hH (by omega)
   rw [ep] at hp
   obtain ⟨p0,p1⟩:=hp
   have ep':IntKind.u64.wrap (q*y0)=p:=by rw [IntKind.wrap_u64];omega
   by_cases ht:4294967296*r+n1<p
   ·have ht':4294967296*r+n1<q*y0:=by omega
    have HT:=qh ht'
    have a5:=half_q1 hH ht'
    clear ep ht'
    by_cases hb:r+y1<4294967296
    ·go_wp2
     go_round
     case rel=>exact ⟨q - 1,r+y1,rfl,rfl,zja hH (Or.inr (uh HT)) hb⟩
     case measure=>simp [intOf];omega
    ·have hD:=zkn hH (Or.inr (uh HT)) (by omega)
     obtain ⟨k1,k2,k3,t,qq,mm,rr,e1,e2,e3,e4,HT1,t0,t1,HQ,em,mm0,mm1,er,hH2⟩:=prep (n0:=n0) hD (uh HY) by1 by1' by0 by0' bn0 bn0'
     have x1:=hD.q0
     have x2:=hD.qhi
     go_wp2_with fail
     go_loop [18,16] (fun v v'=>∃ q r:Int,v=.int .u64 q/\v'=.int .u64 r/\Half y1 y0 t n0 q r) (fun v _=>(intOf v).toNat)
     case atStart=>exact ⟨qq,rr,by rw [uh HQ],rfl,hH2⟩
     case round =>
      clear e1 e2 e3 e4 em mm0 mm1 er hH2
      obtain ⟨qc,rc,rfl,rfl,hJ⟩:=hrel
      have c1:=hJ.q0
      have c2:=hJ.qhi
      have c3:=hJ.r0
      have c4:=hJ.rhi
      by_cases hq2:4294967296<=qc
      ·by_cases hb2:rc+y1<4294967296
       ·go_wp2
        go_round
        case rel=>exact ⟨qc - 1,rc+y1,rfl,rfl,zja hJ (Or.inl hq2) hb2⟩
        case measure=>simp [intOf];omega
       ·have hE:=zkn hJ (Or.inl hq2) (by omega)
        obtain ⟨k4,k5,k6,R,f1,f2,f3,f4,HR,R0,R1⟩:=prep2 hE (uh HY) by1' by0'
        have z1:=hE.q0
        have z2:=hE.qhi
        go_wp2
        go_ret2
        exact ⟨⟨_,_,t,ret_two rfl (by rw [<- uh HR]),hD,hE,uh HT1⟩,rfl⟩
      ·obtain ⟨p,ep⟩:∃ p,qc*y0=p:=⟨_,rfl⟩
       have hp:=half_p hJ (by omega)
       rw [ep] at hp
       obtain ⟨p0,p1⟩:=hp
       have ep':IntKind.u64.wrap (qc*y0)=p:=by rw [IntKind.wrap_u64];omega
       by_cases ht:4294967296*rc+n0<p
       ·have ht':4294967296*rc+n0<qc*y0:=by omega
        have HT:=qh ht'
        have c5:=half_q1 hJ ht'
        clear ep ht'
        by_cases hb2:rc+y1<4294967296
        ·go_wp2
         go_round
         case rel=>exact ⟨qc - 1,rc+y1,rfl,rfl,zja hJ (Or.inr (uh HT)) hb2⟩
         case measure=>simp [intOf];omega
        ·have hE:=zkn hJ (Or.inr (uh HT)) (by omega)
         obtain ⟨k4,k5,k6,R,f1,f2,f3,f4,HR,R0,R1⟩:=prep2 hE (uh HY) by1' by0'
         have z1:=hE.q0
         have z2:=hE.qhi
         go_wp2
         go_ret2
         exact ⟨⟨_,_,t,ret_two rfl (by rw [<- uh HR]),hD,hE,uh HT1⟩,rfl⟩
       ·have hE:=half_done hJ (by omega) (by omega)
        obtain ⟨k4,k5,k6,R,f1,f2,f3,f4,HR,R0,R1⟩:=prep2 hE (uh HY) by1' by0'
        have z1:=hE.q0
        have z2:=hE.qhi
        clear ep
        go_wp2
        go_ret2
        exact ⟨⟨_,_,t,ret_two rfl (by rw [<- uh HR]),hD,hE,uh HT1⟩,rfl⟩
   ·have hD:=half_done hH (by omega) (by omega)
    clear ep
    obtain ⟨k1,k2,k3,t,qq,mm,rr,e1,e2,e3,e4,HT1,t0,t1,HQ,em,mm0,mm1,er,hH2⟩:=prep (n0:=n0) hD (uh HY) by1 by1' by0 by0' bn0 bn0'
    have x1:=hD.q0
    have x2:=hD.qhi
    go_wp2_with fail
    go_loop [18,16] (fun v v'=>∃ q r:Int,v=.int .u64 q/\v'=.int .u64 r/\Half y1 y0 t n0 q r) (fun v _=>(intOf v).toNat)
    case atStart=>exact ⟨qq,rr,by rw [uh HQ],rfl,hH2⟩
    case round =>
     clear e1 e2 e3 e4 em mm0 mm1 er hH2
     obtain ⟨qc,rc,rfl,rfl,hJ⟩:=hrel
     have c1:=hJ.q0
     have c2:=hJ.qhi
     have c3:=hJ.r0
     have c4:=hJ.rhi
     by_cases hq2:4294967296<=qc
     ·by_cases hb2:rc+y1<4294967296
      ·go_wp2
       go_round
       case rel=>exact ⟨qc - 1,rc+y1,rfl,rfl,zja hJ (Or.inl hq2) hb2⟩
       case measure=>simp [intOf];omega
      ·have hE:=zkn hJ (Or.inl hq2) (by omega)
       obtain ⟨k4,k5,k6,R,f1,f2,f3,f4,HR,R0,R1⟩:=prep2 hE (uh HY) by1' by0'
       have z1:=hE.q0
       have z2:=hE.qhi
       go_wp2
       go_ret2
       exact ⟨⟨_,_,t,ret_two rfl (by rw [<- uh HR]),hD,hE,uh HT1⟩,rfl⟩
     ·obtain ⟨p,ep⟩:∃ p,qc*y0=p:=⟨_,rfl⟩
      have hp:=half_p hJ (by omega)
      rw [ep] at hp
      obtain ⟨p0,p1⟩:=hp
      have ep':IntKind.u64.wrap (qc*y0)=p:=by rw [IntKind.wrap_u64];omega
      by_cases ht:4294967296*rc+n0<p
      ·have ht':4294967296*rc+n0<qc*y0:=by omega
       have HT:=qh ht'
       have c5:=half_q1 hJ ht'
       clear ep ht'
       by_cases hb2:rc+y1<4294967296
       ·go_wp2
        go_round
        case rel=>exact ⟨qc - 1,rc+y1,rfl,rfl,zja hJ (Or.inr (uh HT)) hb2⟩
        case measure=>simp [intOf];omega
       ·have hE:=zkn hJ (Or.inr (uh HT)) (by omega)
        obtain ⟨k4,k5,k6,R,f1,f2,f3,f4,HR,R0,R1⟩:=prep2 hE (uh HY) by1' by0'
        have z1:=hE.q0
        have z2:=hE.qhi
        go_wp2
        go_ret2
        exact ⟨⟨_,_,t,ret_two rfl (by rw [<- uh HR]),hD,hE,uh HT1⟩,rfl⟩
      ·have hE:=half_done hJ (by omega) (by omega)
       obtain ⟨k4,k5,k6,R,f1,f2,f3,f4,HR,R0,R1⟩:=prep2 hE (uh HY) by1' by0'
       have z1:=hE.q0
       have z2:=hE.qhi
       clear ep
       go_wp2
       go_ret2
       exact ⟨⟨_,_,t,ret_two rfl (by rw [<- uh HR]),hD,hE,uh HT1⟩,rfl⟩
end Go.Proofs.YtkdobjmhammhbaaGreatDoor
