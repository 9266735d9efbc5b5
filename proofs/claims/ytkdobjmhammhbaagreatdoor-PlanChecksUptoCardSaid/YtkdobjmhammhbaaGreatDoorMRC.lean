import Derived.Test.YtkdobjmhammhbaaGreatDoorMRA
namespace Go.Proofs.YtkdobjmhammhbaaGreatDoor
open Go.RowKit
theorem GB.other {w:World}{r q:Nat}{T:TypeId} (h:GB w r T) (hne:r≠q) (u u':Value):GB ((w.setCell ⟨q,0,none⟩ u).setCell ⟨q,1,none⟩ u') r T:=by
 obtain ⟨x,y,h⟩:=h
 exact ⟨x,y,by rw [Below.heap_setCell _ _ _ _ hne,Below.heap_setCell _ _ _ _ hne];exact h⟩
theorem four_stores {W:World}{p q:Nat}{T U:TypeId} (h0:GB W p T) (h1:GB W q U) (hne:p≠q) (x y u v:Value) :
   let wf:=(((W.setCell ⟨p,0,none⟩ x).setCell ⟨p,1,none⟩ y).setCell ⟨q,0,none⟩ u).setCell ⟨q,1,none⟩ v
   wf.cell? ⟨p,0,none⟩=some x∧wf.cell? ⟨p,1,none⟩=some y∧wf.cell? ⟨q,0,none⟩=some u∧wf.cell? ⟨q,1,none⟩=some v:=by
 intro wf
 obtain ⟨⟨a0,c0⟩,⟨a1,c1⟩,_⟩:=h0.cells
 obtain ⟨⟨b0,d0⟩,⟨b1,d1⟩,_⟩:=h1.cells
 refine ⟨?_,?_,?_,?_⟩
 · show (World.setCell _ _ _).cell? _=_
   rw [zqb _ _ _ _ _ _ (by omega),zqb _ _ _ _ _ _ (by omega),zqb _ _ _ _ _ _ (by omega)]
   exact zqd c0
 · show (World.setCell _ _ _).cell? _=_
   rw [zqb _ _ _ _ _ _ (by omega),zqb _ _ _ _ _ _ (by omega)]
   exact zqd (u:=a1) (by rw [zqb _ _ _ _ _ _ (by omega)];exact c1)
 · show (World.setCell _ _ _).cell? _=_
   rw [zqb _ _ _ _ _ _ (by omega)]
   exact zqd (u:=b0) (by rw [zqb _ _ _ _ _ _ (by omega),zqb _ _ _ _ _ _ (by omega)];exact d0)
 · show (World.setCell _ _ _).cell? _=_
   exact zqd (u:=b1) (by rw [zqb _ _ _ _ _ _ (by omega),zqb _ _ _ _ _ _ (by omega),zqb _ _ _ _ _ _ (by omega)];exact d1)
theorem Sl.shape {w:World}{sl:Value}{D:List Int} (h:Sl w sl D):∃ a n c,sl=.slice a n c:=by
 rcases h with ⟨rfl,_⟩ | ⟨b,cap,rfl,_⟩ <;> exact ⟨_,_,_,rfl⟩
theorem sign_false {neg:Bool}{D:List Int}{z:Int} (hP:P4 D) (hT:Trim D) (hn:D=[]→neg=false) (hz:z=if neg then - v4 D else v4 D) (h0:0≤z):v4 D=z:=by
 cases neg
 · simpa using hz.symm
 · exfalso
   by_cases h:D=[]
   · exact absurd (hn h) (by decide)
   · have:=v4_pos hP hT h
     simp at hz
     omega
theorem Nr.congr {N:Nat}{w:World}{v:Value}{z y:Int} (h:Nr N w v z) (e:z=y):Nr N w v y:=e ▸ h
theorem v4_lt {l:List Int} (h:P4 l):v4 l<10000 ^ l.length:=by
 induction l with
 | nil=>simp [v4]
 | cons d l ih =>
   have h1:=h d (List.mem_cons_self ..)
   have h2:=ih (fun x hx=>h x (List.mem_cons_of_mem _ hx))
   simp only [v4,List.length_cons,Int.pow_succ];omega
theorem v4_ge {l:List Int} (h:P4 l) (t:Trim l) (hl:l≠[]):10000 ^ (l.length - 1)≤v4 l:=by
 have e:l=l.take (l.length - 1)++[nth l (l.length - 1)]:=by
   have hp:0<l.length:=List.length_pos_iff.2 hl
   have:=List.take_append_getElem (l:=l) (i:=l.length - 1) (by omega)
   rw [show l.length - 1+1=l.length by omega,List.take_length] at this
   unfold nth
   rw [List.getElem?_eq_getElem (by omega)]
   exact this.symm
 have hn:=h.nth (l.length - 1)
 have ht:=t.resolve_left hl
 have hq:P4 (l.take (l.length - 1)):=fun d hd=>h d (List.mem_of_mem_take hd)
 have hv:v4 l=v4 (l.take (l.length - 1))+10000 ^ (l.length - 1)*nth l (l.length - 1):=by
   conv=>lhs;rw [e,zkx]
   rw [List.length_take,Nat.min_eq_left (by omega)]
   simp [v4]
 have h1:=zqp hq
 have h2:(0:Int)<10000 ^ (l.length - 1):=Int.pow_pos (by decide)
 have h3:(10000:Int) ^ (l.length - 1)*1≤10000 ^ (l.length - 1)*nth l (l.length - 1):=Int.mul_le_mul_of_nonneg_left (by omega) (by omega)
 omega
theorem p4_mono {a b:Nat} (h:a≤b):(10000:Int) ^ a≤10000 ^ b:=by
 have:(10000:Nat) ^ a≤10000 ^ b:=Nat.pow_le_pow_right (by decide) h
 have e1:((10000 ^ a:Nat):Int)=(10000:Int) ^ a:=by simp
 have e2:((10000 ^ b:Nat):Int)=(10000:Int) ^ b:=by simp
 rw [← e1,← e2];omega
theorem v4_shorter {a b:List Int} (ha:P4 a) (hb:P4 b) (tb:Trim b) (h:a.length<b.length):v4 a<v4 b:=by
 have h1:=v4_lt ha
 have h2:=v4_ge hb tb (fun e=>by rw [e] at h;simp at h)
 have h3:=p4_mono (show a.length≤b.length - 1 by omega)
 omega
theorem sgn_lin {p x y d:Int} (x0:0≤x) (x1:x<p) (y0:0≤y) (y1:y<p) (hd:d≠0):sgn (x - y+p*d)=sgn d:=by
 rcases Int.lt_or_gt_of_ne hd with h | h
 · have:p*d≤p*(-1):=Int.mul_le_mul_of_nonneg_left (by omega) (by omega)
   rw [zql h,zql (by omega)]
 · have:p*1≤p*d:=Int.mul_le_mul_of_nonneg_left (by omega) (by omega)
   rw [zqk h,zqk (by omega)]
theorem size_done {a b:List Int} (ha:P4 a) (hb:P4 b) {k:Nat} (hl:a.length=b.length) (hk:k<a.length) (he:a.drop (k+1)=b.drop (k+1)) (hne:nth a k≠nth b k):sgn (nth a k - nth b k)=sgn (v4 a - v4 b):=by
 have e1:v4 a=v4 (a.take k)+10000 ^ k*(nth a k+10000*v4 (a.drop (k+1))):=by
   conv=>lhs;rw [← List.take_append_drop k a,zkx]
   rw [List.length_take,Nat.min_eq_left (by omega),v4_drop hk]
 have e2:v4 b=v4 (b.take k)+10000 ^ k*(nth b k+10000*v4 (b.drop (k+1))):=by
   conv=>lhs;rw [← List.take_append_drop k b,zkx]
   rw [List.length_take,Nat.min_eq_left (by omega),v4_drop (by omega)]
 have ht1:P4 (a.take k):=fun d hd=>ha d (List.mem_of_mem_take hd)
 have ht2:P4 (b.take k):=fun d hd=>hb d (List.mem_of_mem_take hd)
 have b1:=v4_lt ht1
 have b2:=v4_lt ht2
 rw [List.length_take,Nat.min_eq_left (by omega)] at b1 b2
 have e:v4 a - v4 b=v4 (a.take k) - v4 (b.take k)+10000 ^ k*(nth a k - nth b k):=by
   rw [e1,e2,he,Int.mul_add,Int.mul_add,Int.mul_sub];omega
 rw [e,sgn_lin (zqp ht1) b1 (zqp ht2) b2 (by omega)]
set_option maxHeartbeats 1000000 in
theorem size_same (ba ca bb cb n:Nat) (a b:List Int) (w:World) (hra:RowI w ba a) (hrb:RowI w bb b) (ha:P4 a) (hb:P4 b) (hla:a.length=n) (hlb:b.length=n) (hn:n≤1000000) :
   Calls Tryz.prog 156 #[.slice (some ⟨ba,0,none⟩) n ca,.slice (some ⟨bb,0,none⟩) n cb] w fun e w'=>e=.returned (.int .i64 (sgn (v4 a - v4 b)))∧Below w.heap.size w w':=by
 have HA:=qh ha
 have HB:=qh hb
 clear ha hb
 go_enter Tryz.func156,Tryz.ntmps156
 go_wp2_with fail
 go_loopw [5] (fun v wr=>∃ k:Nat,k≤n∧v=.int .i64 ((k:Int) - 1)∧Hid (a.drop k=b.drop k)∧∃ q,wr=w.drewN q) (fun v _=>(intOf v+1).toNat)
 case atStart=>exact ⟨n,Nat.le_refl _,rfl,by show _=_;rw [List.drop_eq_nil_of_le (by omega),List.drop_eq_nil_of_le (by omega)],0,rfl⟩
 case round =>
   obtain ⟨k,hk,rfl,HE,q,rfl⟩:=hrel
   by_cases hk0:k=0
   · subst hk0
     have hab:v4 a - v4 b=0:=by
       have:=uh HE
       simp only [List.drop_zero] at this
       rw [this];omega
     have HAB:=qh hab
     clear hab
     go_wp2
     go_ret
     exact ⟨by rw [uh HAB];rfl,zqi (Below.refl _ _) _⟩
   · have hca:=hra (k - 1) (by omega)
     have hcb:=hrb (k - 1) (by omega)
     have hki:(0:Int)≤(k:Int) - 1:=by omega
     have hkt:((k:Int) - 1).toNat=k - 1:=by omega
     have hkn:k - 1<n:=by omega
     obtain ⟨x,hx⟩:∃ x,nth a (k - 1)=x:=⟨_,rfl⟩
     obtain ⟨y,hy⟩:∃ y,nth b (k - 1)=y:=⟨_,rfl⟩
     rw [hx] at hca
     rw [hy] at hcb
     have HX:=qh hx
     have HY:=qh hy
     clear hx hy
     have HE':Hid (a.drop (k - 1+1)=b.drop (k - 1+1)):=by rw [show k - 1+1=k by omega];exact HE
     by_cases hlt:x<y
     · have HS:Hid (sgn (v4 a - v4 b) = -1):=by
         show _=_
         rw [← size_done (uh HA) (uh HB) (by omega) (k:=k - 1) (by omega) (uh HE') (by rw [uh HX,uh HY];omega),uh HX,uh HY]
         exact zql (by omega)
       go_wp2_with fail
       go_quiet (fail)
       go_wp2
       go_ret
       exact ⟨by rw [uh HS];rfl,zqi (zqi (Below.refl _ _) _) _⟩
     · by_cases hgt:y<x
       · have HS:Hid (sgn (v4 a - v4 b)=1):=by
           show _=_
           rw [← size_done (uh HA) (uh HB) (by omega) (k:=k - 1) (by omega) (uh HE') (by rw [uh HX,uh HY];omega),uh HX,uh HY]
           exact zqk (by omega)
         go_wp2_with fail
         go_quiet (fail)
         go_wp2_with fail
         go_quiet (fail)
         go_wp2
         go_ret
         exact ⟨by rw [uh HS];rfl,(by first | exact zqi (zqi (zqi (Below.refl _ _) _) _) _ | exact zqi (zqi (Below.refl _ _) _) _ | exact zqi (Below.refl _ _) _)⟩
       · have hxy:x=y:=by omega
         have HXY:=qh hxy
         clear hxy
         go_wp2_with fail
         go_quiet (fail)
         go_wp2_with fail
         go_quiet (fail)
         go_wp2
         go_roundw
         case rel =>
           refine ⟨k - 1,by omega,by go_num,?_,_,rfl⟩
           show _=_
           rw [List.drop_eq_getElem_cons (show k - 1<a.length by omega),List.drop_eq_getElem_cons (show k - 1<b.length by omega),uh HE']
           have h1:a[k - 1]'(by omega)=x:=by have:=uh HX;unfold nth at this;rw [List.getElem?_eq_getElem (by omega)] at this;exact this
           have h2:b[k - 1]'(by omega)=y:=by have:=uh HY;unfold nth at this;rw [List.getElem?_eq_getElem (by omega)] at this;exact this
           rw [h1,h2,uh HXY]
         case measure=>simp [intOf];omega
set_option maxHeartbeats 1000000 in
theorem size_other (x y:Option Addr) (m n ca cb:Nat) (w:World) (hne:m≠n) (_hm:m≤1000000) (_hn:n≤1000000) :
   Calls Tryz.prog 156 #[.slice x m ca,.slice y n cb] w fun e w'=>e=.returned (.int .i64 (sgn ((m:Int) - n)))∧w'=w:=by
 have h1:((m:Int) == n)=false:=by simp;omega
 go_enter Tryz.func156,Tryz.ntmps156
 by_cases hlt:(m:Int)<n
 · have HS:Hid (sgn ((m:Int) - n) = -1):=zql (by omega)
   go_wp2
   go_ret
   exact ⟨by rw [uh HS];rfl,rfl⟩
 · have HS:Hid (sgn ((m:Int) - n)=1):=zqk (by omega)
   go_wp2
   go_ret
   exact ⟨by rw [uh HS];rfl,rfl⟩
set_option maxHeartbeats 1000000 in
theorem size_nil (x y:Option Addr) (ca cb:Nat) (w:World) :
   Calls Tryz.prog 156 #[.slice x 0 ca,.slice y 0 cb] w fun e w'=>e=.returned (.int .i64 0)∧w'=w:=by
 go_enter Tryz.func156,Tryz.ntmps156
 go_wp2_with fail
 refine wp_loop_rounds 1 ?_
 rw [rounds_succ]
 go_wp2
 go_ret
 exact ⟨rfl,rfl⟩
theorem rsize_any {sa sb:Value}{a b:List Int} (w:World) (h1:Sl w sa a) (h2:Sl w sb b) (ha:P4 a) (hb:P4 b) (ta:Trim a) (tb:Trim b) (la:a.length≤100000) (lb:b.length≤100000) :
   Calls Tryz.prog 156 #[sa,sb] w fun e w'=>e=.returned (.int .i64 (sgn (v4 a - v4 b)))∧Below w.heap.size w w':=by
 by_cases hl:a.length=b.length
 · by_cases h0:a.length=0
   · have e1:=List.eq_nil_of_length_eq_zero h0
     have e2:b=[]:=List.eq_nil_of_length_eq_zero (by omega)
     subst e1;subst e2
     have z1:∃ x c,sa=.slice x 0 c:=by rcases h1 with ⟨rfl,_⟩ | ⟨g,c,rfl,_⟩ <;> exact ⟨_,_,rfl⟩
     have z2:∃ x c,sb=.slice x 0 c:=by rcases h2 with ⟨rfl,_⟩ | ⟨g,c,rfl,_⟩ <;> exact ⟨_,_,rfl⟩
     obtain ⟨x,c,rfl⟩:=z1
     obtain ⟨y,d,rfl⟩:=z2
     exact (size_nil x y c d w).mono fun e w' ⟨h,hw⟩=>⟨h,hw ▸ Below.refl _ _⟩
   · rcases h1 with ⟨rfl,e⟩ | ⟨g,c,rfl,_,_,r1,_⟩
     · rw [e] at h0;simp at h0
     · rcases h2 with ⟨rfl,e⟩ | ⟨g2,c2,rfl,_,_,r2,_⟩
       · rw [e] at hl;exact absurd hl h0
       · rw [← hl];exact size_same g c g2 c2 a.length a b w r1 r2 ha hb rfl hl.symm (by omega)
 · have z1:∃ x c,sa=.slice x a.length c:=by rcases h1 with ⟨rfl,rfl⟩ | ⟨g,c,rfl,_⟩ <;> exact ⟨_,_,rfl⟩
   have z2:∃ x c,sb=.slice x b.length c:=by rcases h2 with ⟨rfl,rfl⟩ | ⟨g,c,rfl,_⟩ <;> exact ⟨_,_,rfl⟩
   obtain ⟨x,c,rfl⟩:=z1
   obtain ⟨y,d,rfl⟩:=z2
   refine (size_other x y a.length b.length c d w hl (by omega) (by omega)).mono ?_
   rintro e w' ⟨rfl,h⟩
   refine ⟨?_,h ▸ Below.refl _ _⟩
   rcases Nat.lt_or_gt_of_ne hl with h' | h'
   · have:=v4_shorter ha hb tb h'
     rw [zql (by omega),zql (by omega)]
   · have:=v4_shorter hb ha ta h'
     rw [zqk (by omega),zqk (by omega)]
set_option maxHeartbeats 1000000 in
theorem rcmp_any {N M:Nat}{v u:Value}{z o:Int} (w:World) (hz:Nr N w v z) (ho:Nr M w u o) (hN:N≤100000) (hM:M≤100000) :
   Calls Tryz.prog 92 #[v,u] w fun e w'=>e=.returned (.int .i64 (sgn (z - o)))∧Below w.heap.size w w':=by
 obtain ⟨na,sa,A,rfl,hsa,hPa,hTa,hla,hna,rfl⟩:=hz
 obtain ⟨nb,sb,B,rfl,hsb,hPb,hTb,hlb,hnb,rfl⟩:=ho
 obtain ⟨a1,n1,c1,e1⟩:=hsa.shape
 obtain ⟨a2,n2,c2,e2⟩:=hsb.shape
 have pa:=zqp hPa
 have pb:=zqp hPb
 have qa:na=true→0<v4 A:=fun h=>v4_pos hPa hTa (fun e=>by rw [hna e] at h;cases h)
 have qb:nb=true→0<v4 B:=fun h=>v4_pos hPb hTb (fun e=>by rw [hnb e] at h;cases h)
 have k1:=zqa w (.cells #[.bool na,sa] 57)
 have k2:=zqa (w.alloc (.cells #[.bool na,sa] 57)) (.cells #[.bool nb,sb] 57)
 have HK:=qh (bk k2 k1)
 have HC:=qh (ck k2 (show (w.alloc (.cells #[.bool na,sa] 57)).cell? ⟨w.heap.size,0,none⟩=some (.bool na) by rw [zqe rfl];rfl))
 have HSA:=qh ((hsa.later k1).later k2)
 have HSB:=qh ((hsb.later k1).later k2)
 subst e1
 subst e2
 clear hsa hsb k1 k2
 obtain ⟨R,HR⟩:∃ R,Hid (sgn ((if na then -v4 A else v4 A) - (if nb then -v4 B else v4 B))=R):=⟨_,rfl⟩
 rw [show sgn ((if na then -v4 A else v4 A) - (if nb then -v4 B else v4 B))=R from uh HR]
 go_enter Tryz.func92,Tryz.ntmps92
 cases na <;> cases nb
 · go_wp2_with fail
   go_fit (rsize_any _ (uh HSA) (uh HSB) hPa hPb hTa hTb (by omega) (by omega))
   rintro e W1 ⟨rfl,hb1⟩
   have hB:=bk hb1 (uh HK)
   have d0:=ck hb1 (uh HC)
   go_wp2
   go_ret
   exact ⟨zqx (by have h:=uh HR;simpa using h),hB⟩
 · have HS:Hid (R=1):=by
     have h:=uh HR
     simp only [if_true,Bool.false_eq_true,if_false] at h
     show _=_
     rw [← h];exact zqk (by have:=qb rfl;omega)
   go_wp2
   go_ret
   exact ⟨zqx (uh HS).symm,uh HK⟩
 · have HS:Hid (R = -1):=by
     have h:=uh HR
     simp only [if_true,Bool.false_eq_true,if_false] at h
     show _=_
     rw [← h];exact zql (by have:=qa rfl;omega)
   go_wp2
   go_ret
   exact ⟨zqx (uh HS).symm,uh HK⟩
 · go_wp2_with fail
   go_fit (rsize_any _ (uh HSA) (uh HSB) hPa hPb hTa hTb (by omega) (by omega))
   rintro e W1 ⟨rfl,hb1⟩
   have hB:=bk hb1 (uh HK)
   have d0:=ck hb1 (uh HC)
   have HS:Hid (-sgn (v4 A - v4 B)=R):=by
     have h:=uh HR
     simp only [if_true] at h
     show _=_
     rw [← h]
     rcases zqo (v4 A - v4 B) with ⟨a,b,c⟩ | ⟨a,b,c⟩ | ⟨a,b,c⟩
     · rw [b,zqk (by omega)];rfl
     · rw [b,zxe (by omega)];rfl
     · rw [b,zql (by omega)]
   have r0:-1≤sgn (v4 A - v4 B):=by rcases zqo (v4 A - v4 B) with ⟨a,b,c⟩ | ⟨a,b,c⟩ | ⟨a,b,c⟩ <;> omega
   have r1:sgn (v4 A - v4 B)≤1:=by rcases zqo (v4 A - v4 B) with ⟨a,b,c⟩ | ⟨a,b,c⟩ | ⟨a,b,c⟩ <;> omega
   go_wp2
   go_ret
   exact ⟨zqx (uh HS),hB⟩
end Go.Proofs.YtkdobjmhammhbaaGreatDoor
