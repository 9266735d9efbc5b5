import Derived.Test.YtkifiolkfdicoaaGreatDoorMK3
namespace Go.Proofs.YtkifiolkfdicoaaGreatDoor
open Go.RowKit
def cden:List (Int×Int)→List (Int×Int)→Int
 | x :: a,y :: b=>x.2*y.2*cden a b
 | _,_=>1
def cnum:List (Int×Int)→List (Int×Int)→Int
 | x :: a,y :: b=>x.1*y.1*cden a b+x.2*y.2*cnum a b
 | _,_=>0
theorem cden_snoc {a b:List (Int×Int)} (h:a.length=b.length) (x y:Int×Int):cden (a++[x]) (b++[y])=cden a b*(x.2*y.2):=by
 induction a generalizing b with
 | nil =>
   cases b with
   | nil=>simp [cden]
   | cons _ _=>simp at h
 | cons u a ih =>
   cases b with
   | nil=>simp at h
   | cons v b =>
     simp at h
     simp only [List.cons_append,cden,ih h]
     grind
theorem cnum_snoc {a b:List (Int×Int)} (h:a.length=b.length) (x y:Int×Int):cnum (a++[x]) (b++[y])=cnum a b*(x.2*y.2)+x.1*y.1*cden a b:=by
 induction a generalizing b with
 | nil =>
   cases b with
   | nil=>simp [cnum,cden]
   | cons _ _=>simp at h
 | cons u a ih =>
   cases b with
   | nil=>simp at h
   | cons v b =>
     simp at h
     simp only [List.cons_append,cnum,cden,ih h,cden_snoc h]
     grind
def Und (B:Int) (x:Int×Int):Prop:=0<x.2∧x.2≤B ∧ -B≤x.1∧x.1≤B
theorem mul_abs {x y B C:Int} (hx:-B≤x∧x≤B) (hy:-C≤y∧y≤C) (hB:0≤B) (hC:0≤C):-(B*C)≤x*y∧x*y≤B*C:=by
 have h1:x.natAbs*y.natAbs≤B.natAbs*C.natAbs:=Nat.mul_le_mul (by omega) (by omega)
 rw [← Int.natAbs_mul,← Int.natAbs_mul] at h1
 have:0≤B*C:=Int.mul_nonneg hB hC
 omega
theorem cden_und {B:Int} (hB:0<B) {a b:List (Int×Int)} (ha:∀ x ∈ a,Und B x) (hb:∀ x ∈ b,Und B x) (h:a.length=b.length):0<cden a b∧cden a b≤(B*B) ^ a.length ∧ -((a.length:Int)*(B*B) ^ a.length)≤cnum a b∧cnum a b≤(a.length:Int)*(B*B) ^ a.length:=by
 induction a generalizing b with
 | nil =>
   cases b with
   | nil=>simp [cden,cnum]
   | cons _ _=>simp at h
 | cons u a ih =>
   cases b with
   | nil=>simp at h
   | cons v b =>
     simp at h
     obtain ⟨h1,h2,h3,h4⟩:=ih (fun x hx=>ha x (by simp [hx])) (fun x hx=>hb x (by simp [hx])) h
     obtain ⟨u0,u1,u2,u3⟩:=ha u (by simp)
     obtain ⟨v0,v1,v2,v3⟩:=hb v (by simp)
     have hBB:0<B*B:=Int.mul_pos hB hB
     have hP:0<(B*B) ^ a.length:=Int.pow_pos hBB
     have d1:0<u.2*v.2:=Int.mul_pos u0 v0
     have d2:=mul_abs (x:=u.2) (y:=v.2) (B:=B) (C:=B) (by omega) (by omega) (by omega) (by omega)
     have n1:=mul_abs (x:=u.1) (y:=v.1) (B:=B) (C:=B) (by omega) (by omega) (by omega) (by omega)
     have e1:=mul_abs (x:=u.2*v.2) (y:=cden a b) (B:=B*B) (C:=(B*B) ^ a.length) (by omega) (by omega) (by omega) (by omega)
     have e2:=mul_abs (x:=u.1*v.1) (y:=cden a b) (B:=B*B) (C:=(B*B) ^ a.length) (by omega) (by omega) (by omega) (by omega)
     have hnn:0≤(a.length:Int)*(B*B) ^ a.length:=Int.mul_nonneg (by omega) (by omega)
     have e3:=mul_abs (x:=u.2*v.2) (y:=cnum a b) (B:=B*B) (C:=(a.length:Int)*(B*B) ^ a.length) (by omega) (by omega) (by omega) (by omega)
     have hp:(B*B) ^ (a.length+1)=B*B*(B*B) ^ a.length:=by rw [Int.pow_succ,Int.mul_comm]
     have hq:((a.length+1:Nat):Int)*(B*B) ^ (a.length+1)=B*B*((a.length:Int)*(B*B) ^ a.length)+B*B*(B*B) ^ a.length:=by rw [hp,Int.natCast_add,Int.add_mul];grind
     have hd0:0<u.2*v.2*cden a b:=Int.mul_pos d1 h1
     simp only [cden,cnum,List.length_cons]
     rw [hq,hp]
     refine ⟨hd0,by omega,by omega,by omega⟩
theorem low_le {P D z o:Int} (o0:0<o) (D0:0<D) (hg:Int.gcd P D=1) (h:P*o=z*D):D≤o∧P.natAbs≤z.natAbs:=by
 have h1:D∣o:=by
   have h2:D∣P*o:=⟨z,by rw [h,Int.mul_comm]⟩
   exact dvd_cop h2 hg
 have hD:=Int.le_of_dvd o0 h1
 refine ⟨hD,?_⟩
 have h3:P.natAbs*o.natAbs=z.natAbs*D.natAbs:=by rw [← Int.natAbs_mul,← Int.natAbs_mul,h]
 rcases Nat.lt_or_ge z.natAbs P.natAbs with h4 | h4
 · exfalso
   have h5:z.natAbs*D.natAbs<P.natAbs*o.natAbs:=by
     have h6:z.natAbs*D.natAbs≤z.natAbs*o.natAbs:=Nat.mul_le_mul_left _ (by omega)
     have h7:z.natAbs*o.natAbs<P.natAbs*o.natAbs:=Nat.mul_lt_mul_of_pos_right h4 (by omega)
     omega
   omega
 · exact h4
set_option maxHeartbeats 4000000 in
set_option maxRecDepth 8000 in
theorem widthOf_any {N:Nat}{v:Value}{L:List (List (Int×Int))} (w:World) (h:Rows 1 (LE 4 (RE N)) w v L) (hl:L.length≤100000000) (hl2:∀ r ∈ L,r.length≤100000000) :
   Calls Tryz.prog 143 #[v] w fun e w'=>((isTab L∧e=.returned (.tuple #[.int .i64 (wide L:Nat),.bool true]))∨(¬ isTab L∧e=.returned (.tuple #[.int .i64 0,.bool false])))∧Below w.heap.size w w':=by
 obtain ⟨sa,sc,rfl⟩:=h.shape
 have HR:=qh h
 have HL2:=qh hl2
 clear h hl2
 go_enter Tryz.func143,Tryz.ntmps143
 by_cases h0:L=[]
 · subst h0
   go_wp2
   exact bodyPost_ret (v:=.tuple #[.int .i64 0,.bool true]) (by simp [results,Tryz.results143,go_sem]) rfl ⟨Or.inl ⟨⟨by simp,by simp [wide],by simp⟩,rfl⟩,Below.refl _ _⟩
 have hlp:0<L.length:=List.length_pos_iff.2 h0
 have hli:((L.length:Int) == 0)=false:=by simp;omega
 have hlp':(0:Int)<(L.length:Int):=by omega
 obtain ⟨q,hq⟩:∃ s,L[0]? = some s:=⟨L[0],by simp [hlp]⟩
 obtain ⟨b,o,rfl,cs,_,hcs,u,rfl,hru⟩:=(uh HR).at hq
 have c0:w.cell? ⟨b,o,none⟩=some u:=by simpa using hcs 0 _ rfl
 obtain ⟨ua,uc,rfl⟩:=hru.shape
 have HW:=qh (wide_at hq)
 have HQL:=qh (uh HL2 q (List.mem_of_getElem? hq))
 clear hq hcs hru h0
 by_cases h4:(40:Int)<(L.length:Int)
 · go_wp2
   exact bodyPost_ret (v:=.tuple #[.int .i64 0,.bool false]) (by simp [results,Tryz.results143,go_sem]) rfl ⟨Or.inr ⟨fun ht=>by have:=ht.1;omega,rfl⟩,Below.refl _ _⟩
 by_cases h5:(40:Int)<(q.length:Int)
 · go_wp2
   exact bodyPost_ret (v:=.tuple #[.int .i64 0,.bool false]) (by simp [results,Tryz.results143,go_sem]) rfl ⟨Or.inr ⟨fun ht=>by have:=ht.2.1;rw [uh HW] at this;omega,rfl⟩,Below.refl _ _⟩
 go_wp2_with fail
 go_loopg [23] L.length (fun gk iv wr=>∃ (i:Nat),i≤L.length∧gk=L.length - i∧iv=.int .i64 (i:Int)∧wr=w∧Hid (∀ r ∈ L.take i,r.length=q.length))
 case atStart=>exact ⟨0,by omega,by omega,rfl,rfl,qh (by simp)⟩
 case round =>
   obtain ⟨i,hi,hgk,rfl,rfl,HN⟩:=hrel
   by_cases hil:i<L.length
   · obtain ⟨r,hr⟩:∃ s,L[i]? = some s:=⟨L[i],by simp [hil]⟩
     obtain ⟨b',o',hbo,cs,_,hcs,u,rfl,hru⟩:=(uh HR).at hr
     obtain ⟨rfl,rfl⟩:b=b'∧o=o':=by simpa using hbo
     have c1:wr.cell? ⟨b,o+i,none⟩=some u:=by simpa using hcs 0 _ rfl
     obtain ⟨va,vc,rfl⟩:=hru.shape
     have HS:=qh hr
     have HM:=qh (List.mem_of_getElem? hr)
     have hil':(i:Int)<(L.length:Int):=by omega
     clear hr hcs hru hbo
     by_cases hne:r.length=q.length
     · have hd:((r.length:Int) != (q.length:Int))=false:=by simp;omega
       go_wp2
       go_roundg (L.length - (i+1))
       case measure=>omega
       case rel=>exact ⟨i+1,by omega,rfl,by go_num,rfl,qh (all_next (uh HS) (uh HN) hne)⟩
     · have hd:((r.length:Int) != (q.length:Int))=true:=by simp;omega
       go_wp2
       exact bodyPost_ret (v:=.tuple #[.int .i64 0,.bool false]) (by simp [results,Tryz.results143,go_sem]) rfl ⟨Or.inr ⟨fun ht=>hne (by rw [ht.2.2 r (uh HM),uh HW]),rfl⟩,Below.refl _ _⟩
   · obtain rfl:i=L.length:=by omega
     go_wp2
     refine bodyPost_ret (v:=.tuple #[.int .i64 (q.length:Int),.bool true]) (by simp [results,Tryz.results143,go_sem]) rfl ⟨Or.inl ⟨⟨by omega,by rw [uh HW];omega,?_⟩,by rw [uh HW]⟩,Below.refl _ _⟩
     rw [uh HW]
     have:=uh HN
     rw [List.take_length] at this
     exact this
def colOf (c:Nat) (L:List (List (Int×Int))):List (Int×Int):=L.map fun r=>r.getD c (0,1)
theorem tk_mono {a b:Nat} (h:a≤b):(10000:Int) ^ a≤10000 ^ b:=by
 obtain ⟨c,rfl⟩:=Nat.le.dest h
 rw [Int.pow_add]
 have h1:(0:Int)<10000 ^ a:=Int.pow_pos (by decide)
 have h2:(0:Int)<10000 ^ c:=Int.pow_pos (by decide)
 have:(10000:Int) ^ a*1≤10000 ^ a*10000 ^ c:=Int.mul_le_mul_of_nonneg_left (by omega) (by omega)
 omega
def Smm (r c:List (Int×Int)) (k:Nat) (S E:Int):Prop:=0<E∧Int.gcd S E=1∧S*cden (r.take k) (c.take k)=cnum (r.take k) (c.take k)*E
theorem Smm.next {r c:List (Int×Int)}{k:Nat}{S E P D P' D':Int}{x y:Int×Int} (h:Smm r c k S E) (hx:r[k]? = some x) (hy:c[k]? = some y) (hlen:c.length=r.length) (_x0:0<x.2) (_y0:0<y.2) (h1:P*(x.2*y.2)=x.1*y.1*D) (D0:0<D) (h2:P'*(E*D)=(S*D+P*E)*D') (D0':0<D') (hg:Int.gcd P' D'=1):Smm r c (k+1) P' D':=by
 obtain ⟨E0,_,h3⟩:=h
 refine ⟨D0',hg,?_⟩
 have hl:(r.take k).length=(c.take k).length:=by rw [List.length_take,List.length_take,hlen]
 rw [tkn hx,tkn hy,cden_snoc hl,cnum_snoc hl]
 refine Int.eq_of_mul_eq_mul_right (show E*D≠0 from Int.ne_of_gt (Int.mul_pos E0 D0)) ?_
 grind
theorem Smm.fits {r c:List (Int×Int)}{k:Nat}{S E:Int}{N:Nat} (h:Smm r c k S E) (hr:∀ x ∈ r,Und (10000 ^ N) x) (hc:∀ x ∈ c,Und (10000 ^ N) x) (hlen:c.length=r.length) (hk:k≤6):-10000 ^ (12*N+1)<S∧S<10000 ^ (12*N+1)∧E<10000 ^ (12*N+1):=by
 have hl:(r.take k).length=(c.take k).length:=by rw [List.length_take,List.length_take,hlen]
 have B0:(0:Int)<10000 ^ N:=Int.pow_pos (by decide)
 obtain ⟨b1,b2,b3,b4⟩:=cden_und B0 (fun x hx=>hr x (List.mem_of_mem_take hx)) (fun x hx=>hc x (List.mem_of_mem_take hx)) hl
 obtain ⟨e1,e2⟩:=low_le b1 h.1 h.2.1 h.2.2
 have hk':(r.take k).length≤6:=by rw [List.length_take];omega
 have p1:(((10000:Int) ^ N*10000 ^ N) ^ (r.take k).length)≤10000 ^ (12*N):=by
   rw [← Int.pow_add,← Int.pow_mul]
   exact tk_mono (by have:(N+N)*(r.take k).length≤(N+N)*6:=Nat.mul_le_mul_left _ hk';omega)
 have p0:(0:Int)<10000 ^ (12*N):=Int.pow_pos (by decide)
 have p2:((r.take k).length:Int)*((10000:Int) ^ N*10000 ^ N) ^ (r.take k).length≤6*10000 ^ (12*N):=Int.mul_le_mul (by omega) p1 (Int.le_of_lt (Int.pow_pos (Int.mul_pos B0 B0))) (by decide)
 rw [Int.pow_succ]
 omega
structure In3 (W1:World) (N K bs:Nat) (S E:Int) (x1:Bool) (x2:Option Addr) (x3 x4:Nat) (x5:Bool) (x6:Option Addr) (x7 x8:Nat) (ab ao i:Nat) (ra:Option Addr) (n rc rb ro k:Nat) (p1:Bool) (p2:Option Addr) (p3 p4:Nat) (p5:Bool) (p6:Option Addr) (p7 p8 bb bo:Nat) (qa:Option Addr) (m qc qb qo j:Nat) (u1:Bool) (u2:Option Addr) (u3 u4:Nat) (u5:Bool) (u6:Option Addr) (u7 u8:Nat) (x y:Int×Int) (w':World):Prop where
 below:Below W1.heap.size W1 w'
 s:QB w' bs x1 x2 x3 x4 x5 x6 x7 x8 K S E
 cs:w'.cell? ⟨ab,ao+i,none⟩=some (.slice ra n rc)∧w'.cell? ⟨rb,ro+k*4,none⟩=some (.bool p1)∧w'.cell? ⟨rb,ro+k*4+1,none⟩=some (.slice p2 p3 p4)∧w'.cell? ⟨rb,ro+k*4+2,none⟩=some (.bool p5)∧w'.cell? ⟨rb,ro+k*4+3,none⟩=some (.slice p6 p7 p8)∧w'.cell? ⟨bb,bo+k,none⟩=some (.slice qa m qc)∧w'.cell? ⟨qb,qo+j*4,none⟩=some (.bool u1)∧w'.cell? ⟨qb,qo+j*4+1,none⟩=some (.slice u2 u3 u4)∧w'.cell? ⟨qb,qo+j*4+2,none⟩=some (.bool u5)∧w'.cell? ⟨qb,qo+j*4+3,none⟩=some (.slice u6 u7 u8)
 x:Qr N w' (.agg #[.bool p1,.slice p2 p3 p4,.bool p5,.slice p6 p7 p8]) x.1 x.2
 y:Qr N w' (.agg #[.bool u1,.slice u2 u3 u4,.bool u5,.slice u6 u7 u8]) y.1 y.2
 lt:rb<W1.heap.size∧qb<W1.heap.size∧ab<W1.heap.size∧bb<W1.heap.size
theorem In3.keep {W1:World}{N K bs:Nat}{S E:Int}{x1:Bool}{x2:Option Addr}{x3 x4:Nat}{x5:Bool}{x6:Option Addr}{x7 x8:Nat}{ab ao i:Nat}{ra:Option Addr}{n rc rb ro k:Nat}{p1:Bool}{p2:Option Addr}{p3 p4:Nat}{p5:Bool}{p6:Option Addr}{p7 p8 bb bo:Nat}{qa:Option Addr}{m qc qb qo j:Nat}{u1:Bool}{u2:Option Addr}{u3 u4:Nat}{u5:Bool}{u6:Option Addr}{u7 u8:Nat}{x y:Int×Int}{w1 w2:World} (h:In3 W1 N K bs S E x1 x2 x3 x4 x5 x6 x7 x8 ab ao i ra n rc rb ro k p1 p2 p3 p4 p5 p6 p7 p8 bb bo qa m qc qb qo j u1 u2 u3 u4 u5 u6 u7 u8 x y w1) (hb:Below w1.heap.size w1 w2):In3 W1 N K bs S E x1 x2 x3 x4 x5 x6 x7 x8 ab ao i ra n rc rb ro k p1 p2 p3 p4 p5 p6 p7 p8 bb bo qa m qc qb qo j u1 u2 u3 u4 u5 u6 u7 u8 x y w2:=by
 obtain ⟨h1,h2,⟨c0,c1,c2,c3,c4,c5,c6,c7,c8,c9⟩,h4,h5,h6⟩:=h
 exact ⟨bk hb h1,h2.keep hb,⟨ck hb c0,ck hb c1,ck hb c2,ck hb c3,ck hb c4,ck hb c5,ck hb c6,ck hb c7,ck hb c8,ck hb c9⟩,h4.later hb,h5.later hb,h6⟩
theorem In3.drew {W1:World}{N K bs:Nat}{S E:Int}{x1:Bool}{x2:Option Addr}{x3 x4:Nat}{x5:Bool}{x6:Option Addr}{x7 x8:Nat}{ab ao i:Nat}{ra:Option Addr}{n rc rb ro k:Nat}{p1:Bool}{p2:Option Addr}{p3 p4:Nat}{p5:Bool}{p6:Option Addr}{p7 p8 bb bo:Nat}{qa:Option Addr}{m qc qb qo j:Nat}{u1:Bool}{u2:Option Addr}{u3 u4:Nat}{u5:Bool}{u6:Option Addr}{u7 u8:Nat}{x y:Int×Int}{w1:World} (h:In3 W1 N K bs S E x1 x2 x3 x4 x5 x6 x7 x8 ab ao i ra n rc rb ro k p1 p2 p3 p4 p5 p6 p7 p8 bb bo qa m qc qb qo j u1 u2 u3 u4 u5 u6 u7 u8 x y w1):In3 W1 N K bs S E x1 x2 x3 x4 x5 x6 x7 x8 ab ao i ra n rc rb ro k p1 p2 p3 p4 p5 p6 p7 p8 bb bo qa m qc qb qo j u1 u2 u3 u4 u5 u6 u7 u8 x y w1.drew:=h.keep (Below.refl _ _).drew
theorem In3.put {W1:World}{N K bs:Nat}{S E:Int}{x1:Bool}{x2:Option Addr}{x3 x4:Nat}{x5:Bool}{x6:Option Addr}{x7 x8:Nat}{ab ao i:Nat}{ra:Option Addr}{n rc rb ro k:Nat}{p1:Bool}{p2:Option Addr}{p3 p4:Nat}{p5:Bool}{p6:Option Addr}{p7 p8 bb bo:Nat}{qa:Option Addr}{m qc qb qo j:Nat}{u1:Bool}{u2:Option Addr}{u3 u4:Nat}{u5:Bool}{u6:Option Addr}{u7 u8:Nat}{x y:Int×Int}{w1:World}{q:Nat} (h:In3 W1 N K bs S E x1 x2 x3 x4 x5 x6 x7 x8 ab ao i ra n rc rb ro k p1 p2 p3 p4 p5 p6 p7 p8 bb bo qa m qc qb qo j u1 u2 u3 u4 u5 u6 u7 u8 x y w1) (hq:W1.heap.size≤q) (v0 v1 v2 v3:Value):let w':=(((w1.setCell ⟨q,0,none⟩ v0).setCell ⟨q,1,none⟩ v1).setCell ⟨q,2,none⟩ v2).setCell ⟨q,3,none⟩ v3
   w'.cell? ⟨ab,ao+i,none⟩=some (.slice ra n rc)∧w'.cell? ⟨rb,ro+k*4,none⟩=some (.bool p1)∧w'.cell? ⟨rb,ro+k*4+1,none⟩=some (.slice p2 p3 p4)∧w'.cell? ⟨rb,ro+k*4+2,none⟩=some (.bool p5)∧w'.cell? ⟨rb,ro+k*4+3,none⟩=some (.slice p6 p7 p8)∧w'.cell? ⟨bb,bo+k,none⟩=some (.slice qa m qc)∧w'.cell? ⟨qb,qo+j*4,none⟩=some (.bool u1)∧w'.cell? ⟨qb,qo+j*4+1,none⟩=some (.slice u2 u3 u4)∧w'.cell? ⟨qb,qo+j*4+2,none⟩=some (.bool u5)∧w'.cell? ⟨qb,qo+j*4+3,none⟩=some (.slice u6 u7 u8):=by
 intro w'
 have hc:∀ b o v,b<W1.heap.size→w1.cell? ⟨b,o,none⟩=some v→w'.cell? ⟨b,o,none⟩=some v:=fun b o v hb hv=>by
   show (World.setCell _ _ _).cell? _=_
   rw [zqb _ _ _ _ _ _ (by omega),zqb _ _ _ _ _ _ (by omega),zqb _ _ _ _ _ _ (by omega),zqb _ _ _ _ _ _ (by omega)]
   exact hv
 obtain ⟨_,_,⟨c0,c1,c2,c3,c4,c5,c6,c7,c8,c9⟩,_,_,l1,l2,l3,l4⟩:=h
 exact ⟨hc _ _ _ l3 c0,hc _ _ _ l1 c1,hc _ _ _ l1 c2,hc _ _ _ l1 c3,hc _ _ _ l1 c4,hc _ _ _ l4 c5,hc _ _ _ l2 c6,hc _ _ _ l2 c7,hc _ _ _ l2 c8,hc _ _ _ l2 c9⟩
def Tab (t:TypeId) (w:World) (g n:Nat) (f:Nat→Value):Prop:=∃ cur,w.heap[g]? = some (.cells cur t (0,0))∧cur.size=n∧∀ i,i<n→cur[i]? = some (f i)
theorem Tab.later {t:TypeId}{w w':World}{g n:Nat}{f:Nat→Value} (h:Tab t w g n f) (hb:Below w.heap.size w w'):Tab t w' g n f:=by
 obtain ⟨cur,h1,h2,h3⟩:=h
 exact ⟨cur,by rw [hb.block g (Array.getElem?_eq_some_iff.1 h1).1];exact h1,h2,h3⟩
theorem Tab.cell {t:TypeId}{w:World}{g n i:Nat}{f:Nat→Value} (h:Tab t w g n f) (hi:i<n):w.cell? ⟨g,i,none⟩=some (f i):=by
 obtain ⟨cur,h1,h2,h3⟩:=h
 exact zqn h1 (h3 i hi)
theorem Tab.free {t:TypeId}{w:World}{g n:Nat}{f:Nat→Value} (h:Tab t w g n f) (o:Nat):w.frozen? ⟨g,o,none⟩=false:=by
 obtain ⟨cur,h1,_⟩:=h
 simp [World.frozen?,h1]
theorem Tab.lt {t:TypeId}{w:World}{g n:Nat}{f:Nat→Value} (h:Tab t w g n f):g<w.heap.size:=by
 obtain ⟨cur,h1,_⟩:=h
 exact (Array.getElem?_eq_some_iff.1 h1).1
theorem Tab.set {t:TypeId}{w:World}{g n i:Nat}{f:Nat→Value} (h:Tab t w g n f) (hi:i<n) (v:Value):Tab t (w.setCell ⟨g,i,none⟩ v) g n (fun j=>if j=i then v else f j):=by
 obtain ⟨cur,h1,h2,h3⟩:=h
 refine ⟨_,zkh h1 v,by simp [h2],fun j hj => ?_⟩
 rw [Array.getElem?_setIfInBounds]
 by_cases hji:j=i
 · subst hji
   rw [if_pos rfl,if_pos (by omega)]
   simp
 · rw [if_neg (Ne.symm hji),h3 j hj]
   simp [hji]
theorem Tab.new {t:TypeId} (w:World) (n:Nat) (z:Value):Tab t (w.alloc (.cells (madeCells #[z] n) t)) w.heap.size n (fun _=>z):=by
 refine ⟨_,heap_alloc_new w _,size_madeCells _ _,fun i hi => ?_⟩
 simp [madeCells,hi,Nat.mod_one]
theorem table_start {N:Nat} (w:World) (q n:Nat) :
   let w2:=(w.alloc (.cells (madeCells #[.int .i64 0,.slice none 0 0,.int .i64 0,.slice none 0 0] (q*4)) 52)).alloc (.cells (madeCells #[.slice none 0 0] n) 118)
   Below w.heap.size w w2∧Fill NoWord 4 (RE N) 52 w2 w.heap.size q []∧Tab 118 w2 (w.heap.size+1) n (fun _=>.slice none 0 0):=by
 intro w2
 have k1:=zqa w (.cells (madeCells #[.int .i64 0,.slice none 0 0,.int .i64 0,.slice none 0 0] (q*4)) 52)
 have k2:=zqa (w.alloc (.cells (madeCells #[.int .i64 0,.slice none 0 0,.int .i64 0,.slice none 0 0] (q*4)) 52)) (.cells (madeCells #[.slice none 0 0] n) 118)
 have h1:=Fill.new (k:=4) (E:=RE N) (t:=52) w (z:=#[.int .i64 0,.slice none 0 0,.int .i64 0,.slice none 0 0]) q zk_r (by decide)
 have h2:=Tab.new (t:=118) (w.alloc (.cells (madeCells #[.int .i64 0,.slice none 0 0,.int .i64 0,.slice none 0 0] (q*4)) 52)) n (.slice none 0 0)
 rw [show (w.alloc (.cells (madeCells #[.int .i64 0,.slice none 0 0,.int .i64 0,.slice none 0 0] (q*4)) 52)).heap.size=w.heap.size+1 by simp] at h2
 exact ⟨bk k2 k1,h1.later (RE.stays _ _ nww) k2,h2⟩
theorem Fill.nil_aside {α:Type}{K:Value→Prop}{k:Nat}{E:World→List Value → α → Prop}{t:TypeId}{w:World}{g n g':Nat} (h:Fill K k E t w g n []) (hne:g≠g') (o:Nat) (v:Value):Fill K k E t (w.setCell ⟨g',o,none⟩ v) g n []:=by
 obtain ⟨cur,h1,h2,h3,h4,_⟩:=h
 exact ⟨cur,by rw [Below.heap_setCell _ _ _ _ hne];exact h1,h2,h3,h4,fun i x hx=>by simp at hx⟩
theorem wrap_mul {n m q:Nat} (h:q≤1000) (hq:q=n*m):wrap64 ((n:Int)*(m:Int))=(q:Int):=by
 have:(n:Int)*(m:Int)=(q:Int):=by rw [hq,Int.natCast_mul]
 rw [this]
 unfold wrap64
 omega
set_option maxHeartbeats 4000000 in
set_option maxRecDepth 8000 in
theorem table_any {N n m:Nat} (w:World) (hn:n≤6) (hm:m≤6) :
   Calls Tryz.prog 147 #[.int .i64 (n:Nat),.int .i64 (m:Nat)] w fun e w'=>(∃ (g1 g2:Nat) (A:Nat→Option Addr),e=.returned (.slice (some ⟨g2,0,none⟩) n n)∧w.heap.size≤g1∧w.heap.size≤g2∧g1≠g2∧(∀ i,i<n→0<m→A i=some ⟨g1,i*m*4,none⟩)∧Fill NoWord 4 (RE N) 52 w' g1 (n*m) []∧Tab 118 w' g2 n (fun i=>.slice (A i) 0 m))∧Below w.heap.size w w':=by
 obtain ⟨q,hq⟩:∃ q,q=n*m:=⟨_,rfl⟩
 have hq36:q≤36:=by rw [hq];exact Nat.mul_le_mul hn hm
 rw [← hq]
 have HQ:=qh hq
 have hmk:=run_make_k (P:=Tryz.prog) 118 52 _ 4 64 Tryz.underlying118 info_r .i64 .i64 q (by omega) (by omega)
 have hmk2:=run_make_k (P:=Tryz.prog) 92 118 _ 1 24 Tryz.underlying92 info_rs .i64 .i64 n (by omega) (by omega)
 have hwm:wrap64 ((n:Int)*(m:Int))=(q:Int):=wrap_mul (by omega) hq
 clear hq
 go_enter Tryz.func147,Tryz.ntmps147
 go_wp2_with fail
 go_loopg [15] n (fun gk iv wr=>∃ (i:Nat) (f:Nat→Value),i≤n∧gk=n - i∧iv=.int .i64 (i:Int)∧Hid (Below w.heap.size w wr)∧Hid (Fill NoWord 4 (RE N) 52 wr w.heap.size q [])∧Hid (Tab 118 wr (w.heap.size+1) n f∧∀ k,k<i→∃ a,f k=.slice a 0 m∧(0<m→a=some ⟨w.heap.size,k*m*4,none⟩)))
 case atStart=>exact ⟨0,fun _=>.slice none 0 0,by omega,by omega,rfl,qh (table_start (N:=N) w q n).1,qh (table_start w q n).2.1,qh ⟨(table_start (N:=N) w q n).2.2,fun k hk=>by omega⟩⟩
 case round =>
   obtain ⟨i,f,hi,hgk,rfl,HB,HF,HT⟩:=hrel
   by_cases hil:i<n
   · obtain ⟨p1,hp1⟩:∃ p,p=i*m:=⟨_,rfl⟩
     obtain ⟨p2,hp2⟩:∃ p,p=(i+1)*m:=⟨_,rfl⟩
     have hp12:p2=p1+m:=by rw [hp1,hp2,Nat.add_mul];omega
     have hp2q:p2≤q:=by rw [hp2,uh HQ];exact Nat.mul_le_mul_right _ hil
     have k1:(p1:Int)≤(p2:Int):=by omega
     have k2:(p2:Int)≤(q:Int):=by omega
     have k3:(p1:Int)≤(q:Int):=by omega
     have hil':(i:Int)<(n:Int):=by omega
     have w1:wrap64 ((i:Int)*(m:Int))=(p1:Int):=wrap_mul (by omega) hp1
     have w2:wrap64 (((i:Int)+1)*(m:Int))=(p2:Int):=by rw [show ((i:Int)+1)=((i+1:Nat):Int) by omega];exact wrap_mul (by omega) hp2
     have e1:=(uh HT).1.cell hil
     have gf:=(uh HT).1.free
     have HP:=qh (And.intro hp1 (And.intro hp2 hp12))
     clear hp1 hp2 hp12 hp2q hmk hmk2 hwm
     go_wp2_with fail
     all_goals
       go_roundg (n - (i+1))
       case measure=>clear w1 w2;omega
       case rel =>
         obtain ⟨hp1,hp2,hp12⟩:=uh HP
         clear w1 w2
         have hmm:p2 - p1=m:=by omega
         refine ⟨i+1,_,by omega,rfl,by go_num,qh ((uh HB).setCell (p:=⟨w.heap.size+1,i,none⟩) (by show w.heap.size≤w.heap.size+1;omega) _),qh ((uh HF).nil_aside (by omega) _ _),qh ⟨(uh HT).1.set hil _,fun k hk => ?_⟩⟩
         by_cases hki:k=i
         · subst hki
           rw [if_pos rfl]
           first
             | exact ⟨_,by rw [hmm],fun _=>by rw [hp1]⟩
             | exact ⟨_,by rw [show m=0 by omega],fun h=>by omega⟩
         · rw [if_neg hki]
           exact (uh HT).2 k (by omega)
   · obtain rfl:i=n:=by omega
     clear hil hi hgk
     go_wp2
     go_ret
     obtain ⟨hT,hf⟩:=uh HT
     refine ⟨⟨w.heap.size,w.heap.size+1,fun i=>match f i with | .slice a _ _=>a | _=>none,rfl,Nat.le_refl _,by omega,by omega,?_,uh HF,?_⟩,uh HB⟩
     · intro k hk hm0
       obtain ⟨a,e1,e2⟩:=hf k hk
       simp only [e1]
       exact e2 hm0
     · obtain ⟨cur,h1,h2,h3⟩:=hT
       refine ⟨cur,h1,h2,fun k hk => ?_⟩
       obtain ⟨a,e1,e2⟩:=hf k hk
       rw [h3 k hk,e1]
       simp only [e1]
end Go.Proofs.YtkifiolkfdicoaaGreatDoor
