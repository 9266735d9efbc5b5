import Derived.Test.YtkdobjmhammhbaaGreatDoorMQB
namespace Go.Proofs.YtkdobjmhammhbaaGreatDoor
open Go.RowKit
structure R1 (w:World) (x:Int) (a:Option Addr) (n c:Nat) (y:Int) (b:Option Addr) (m k:Nat) (wr:World):Prop where
 below:Below w.heap.size w wr
 c0:wr.cell? ⟨w.heap.size,0,none⟩=some (.int .i64 x)
 c1:wr.cell? ⟨w.heap.size,1,none⟩=some (.slice a n c)
 c2:wr.cell? ⟨w.heap.size,2,none⟩=some (.int .i64 y)
 c3:wr.cell? ⟨w.heap.size,3,none⟩=some (.slice b m k)
theorem R1.keep {w wr w1:World}{x y:Int}{a b:Option Addr}{n c m k:Nat} (h:R1 w x a n c y b m k wr) (hb:Below wr.heap.size wr w1):R1 w x a n c y b m k w1 :=
 ⟨bk hb h.below,ck hb h.c0,ck hb h.c1,ck hb h.c2,ck hb h.c3⟩
theorem R1.start (w:World) (x y:Int) (a b:Option Addr) (n c m k:Nat):R1 w x a n c y b m k (w.alloc (.cells #[.int .i64 x,.slice a n c,.int .i64 y,.slice b m k] 39)) :=
 ⟨zqa w _,by rw [nc rfl];rfl,by rw [nc rfl];rfl,by rw [nc rfl];rfl,by rw [nc rfl];rfl⟩
theorem R1.lt {w wr:World}{x y:Int}{a b:Option Addr}{n c m k:Nat} (h:R1 w x a n c y b m k wr):w.heap.size<wr.heap.size:=World.block_lt_of_cell? wr _ h.c0
set_option maxHeartbeats 1000000 in
theorem zki {N:Nat}{v:Value}{p d:Int} (w:World) (h:Rr N w v p d) :
   Calls Tryz.prog 65 #[v] w fun e w'=>e=.returned (.bool (decide (d=1)))∧Below w.heap.size w w':=by
 obtain ⟨x,a,n,c,y,b,m,k,e,rfl,h2,h3,d0,hg,hd⟩:=h
 have hst:=R1.start w x y a b n c m k
 have HD:Hid ((sgn e == 0)=decide (d=1)):=by
   show _=_
   rw [sgn_eq_zero]
   congr 1
   exact propext ⟨fun h=>by omega,fun h=>by omega⟩
 go_enter Tryz.func65,Tryz.ntmps65
 go_wp2_with fail
 obtain ⟨W0,hW0⟩:∃ W0,W0=w.alloc (.cells #[.int .i64 x,.slice a n c,.int .i64 y,.slice b m k] 39):=⟨_,rfl⟩
 rw [← hW0] at hst ⊢
 clear hW0
 go_fit (sign_zr _ (h3.later hst.below))
 rintro e W1 ⟨rfl,hb1⟩
 have hst:=hst.keep hb1
 clear hb1
 go_wp2
 go_ret
 exact ⟨ret_bool (uh HD),hst.below⟩
theorem decDigits_short {u k:Nat} (hk:1≤k) (h:(u:Int)<10 ^ k):(Lib.decDigits u).length≤k:=by
 rcases Nat.eq_zero_or_pos u with rfl | hp
 · rw [Lib.decDigits,dif_pos (by decide)];simpa using hk
 · have h3:=decDigits_head hp
   have h4:=decDigits_dec u
   have h5:=decDigits_dig u
   cases hl:Lib.decDigits u with
   | nil=>simp
   | cons a t =>
     rw [hl] at h3 h4 h5
     have ha:=h5 a (List.mem_cons_self ..)
     have ha48:a.toNat≠48:=fun e=>h3 (by rw [show a=48 from UInt8.toNat.inj e];rfl)
     have e:dec (a :: t)=((a.toNat:Int) - 48)*10 ^ t.length+dec t:=by
       rw [show a :: t=[a]++t from rfl,dec_append]
       simp [dec]
     have ht:=(dec_bound (l:=t) (fun c hc=>h5 c (List.mem_cons_of_mem _ hc))).1
     rcases Nat.lt_or_ge t.length k with hlt | hge
     · simp only [List.length_cons];omega
     · exfalso
       have hm:=zxf hge
       have:(1:Int)*10 ^ t.length≤((a.toNat:Int) - 48)*10 ^ t.length:=Int.mul_le_mul_of_nonneg_right (by omega) (Int.le_of_lt (Int.pow_pos (by decide)))
       omega
theorem pw_ten (N:Nat):pw N≤(10:Int) ^ (20*N):=by
 induction N with
 | zero=>simp [pw]
 | succ N ih =>
   rw [zxn,Nat.mul_add,Int.pow_add]
   have h1:(0:Int)<10 ^ (20*N):=Int.pow_pos (by decide)
   have h2:(10:Int) ^ (20*1)=100000000000000000000:=by decide
   rw [h2];omega
theorem itoa_short {z:Int}{k:Nat} (hk:1≤k) (h0:-10 ^ k<z) (h1:z<10 ^ k):(Lib.itoa z).length≤k+1:=by
 rw [Lib.itoa]
 split
 · have:=decDigits_short (u:=z.natAbs) hk (by omega)
   simp;omega
 · have:=decDigits_short (u:=z.toNat) hk (by omega)
   omega
theorem Zr.abs {N:Nat}{w:World}{v:Value}{z:Int} (h:Zr N w v z):-(10:Int) ^ (20*N+20)<z∧z<10 ^ (20*N+20):=by
 have hp:(10:Int) ^ (20*N+20)=10 ^ (20*N)*100000000000000000000:=by rw [Int.pow_add];rfl
 have h1:(0:Int)<10 ^ (20*N):=Int.pow_pos (by decide)
 have h2:=pw_ten N
 rcases h with ⟨_,h3,h4⟩ | ⟨s,b,off,cap,l,_,hs,hw,_,_,rfl,hl,_⟩
 · omega
 · have h3:=zjn hw
   have h4:=zqg hw
   have h5:=pw_mono hl
   rcases hs with rfl | rfl <;> omega
theorem Zr.short {N:Nat}{w:World}{v:Value}{z:Int} (h:Zr N w v z):(⟨(Lib.itoa z).toArray⟩:ByteArray).size≤20*N+21:=by
 have:=itoa_short (k:=20*N+20) (by omega) h.abs.1 h.abs.2
 show (Lib.itoa z).toArray.size≤_
 simp;omega
def qtext (p d:Int):ByteArray:=if d=1 then ⟨(Lib.itoa p).toArray⟩ else ⟨(Lib.itoa p).toArray⟩++⟨#[47]⟩++⟨(Lib.itoa d).toArray⟩
def Qr (N:Nat) (w:World) (v:Value) (p d:Int):Prop:=∃ x a n c y b m k,v=.agg #[.bool x,.slice a n c,.bool y,.slice b m k]∧Nr N w (.agg #[.bool x,.slice a n c]) p∧Nr N w (.agg #[.bool y,.slice b m k]) d∧0<d∧Int.gcd p d=1
theorem Qr.later {N:Nat}{w w':World}{v:Value}{p d:Int} (h:Qr N w v p d) (hb:Below w.heap.size w w'):Qr N w' v p d:=by
 obtain ⟨x,a,n,c,y,b,m,k,h1,h2,h3,h4⟩:=h
 exact ⟨x,a,n,c,y,b,m,k,h1,h2.later hb,h3.later hb,h4⟩
theorem Qr.mono {N M:Nat}{w:World}{v:Value}{p d:Int} (h:Qr N w v p d) (hM:N≤M):Qr M w v p d:=by
 obtain ⟨x,a,n,c,y,b,m,k,h1,h2,h3,h4⟩:=h
 exact ⟨x,a,n,c,y,b,m,k,h1,h2.mono hM,h3.mono hM,h4⟩
theorem Qr.shape {N:Nat}{w:World}{v:Value}{p d:Int} (h:Qr N w v p d):∃ x a n c y b m k,v=.agg #[.bool x,.slice a n c,.bool y,.slice b m k]:=by
 obtain ⟨x,a,n,c,y,b,m,k,h1,_⟩:=h
 exact ⟨_,_,_,_,_,_,_,_,h1⟩
def QBox (w:World) (r:Nat):Prop:=∃ x a n c y b m k,w.heap[r]? = some (.cells #[.bool x,.slice a n c,.bool y,.slice b m k] 59 (0,0))
theorem zkl (w:World) (x:Bool) (a:Option Addr) (n c:Nat) (y:Bool) (b:Option Addr) (m k:Nat):QBox (w.alloc (.cells #[.bool x,.slice a n c,.bool y,.slice b m k] 59)) w.heap.size:=⟨_,_,_,_,_,_,_,_,heap_alloc_new w _⟩
theorem QBox.later {w w':World}{r:Nat} (h:QBox w r) (hb:Below w.heap.size w w'):QBox w' r:=by
 obtain ⟨x,a,n,c,y,b,m,k,h⟩:=h
 exact ⟨x,a,n,c,y,b,m,k,by rw [hb.block r (Array.getElem?_eq_some_iff.1 h).1];exact h⟩
theorem QBox.cells {w:World}{r:Nat} (h:QBox w r):(∃ x,w.cell? ⟨r,0,none⟩=some (.bool x))∧(∃ a n c,w.cell? ⟨r,1,none⟩=some (.slice a n c))∧(∃ x,w.cell? ⟨r,2,none⟩=some (.bool x))∧(∃ a n c,w.cell? ⟨r,3,none⟩=some (.slice a n c))∧(∀ o,w.frozen? ⟨r,o,none⟩=false):=by
 obtain ⟨x,a,n,c,y,b,m,k,h⟩:=h
 exact ⟨⟨x,by simp [World.cell?,h]⟩,⟨a,n,c,by simp [World.cell?,h]⟩,⟨y,by simp [World.cell?,h]⟩,⟨b,m,k,by simp [World.cell?,h]⟩,fun o=>by simp [World.frozen?,h]⟩
theorem QBox.lt {w:World}{r:Nat} (h:QBox w r):r<w.heap.size:=by
 obtain ⟨x,a,n,c,y,b,m,k,h⟩:=h
 exact (Array.getElem?_eq_some_iff.1 h).1
theorem Sl.qstored {w:World}{sl:Value}{D:List Int}{r:Nat} (h:Sl w sl D) (hb:QBox w r) (u0 u1 u2 u3:Value):Sl ((((w.setCell ⟨r,0,none⟩ u0).setCell ⟨r,1,none⟩ u1).setCell ⟨r,2,none⟩ u2).setCell ⟨r,3,none⟩ u3) sl D:=by
 rcases h with h | ⟨b,cap,h1,h2,h3,h4,cur,h5⟩
 · exact Or.inl h
 · have hne:b≠r:=by
     rintro rfl
     obtain ⟨x,a,n,c,y,b',m,k,hq⟩:=hb
     rw [hq] at h5
     have:=(Obj.cells.inj (Option.some.inj h5)).2.1
     exact absurd this (by decide)
   refine Or.inr ⟨b,cap,h1,h2,h3,fun k hk => ?_,cur,?_⟩
   · rw [zqb _ _ _ _ _ _ (by omega),zqb _ _ _ _ _ _ (by omega),zqb _ _ _ _ _ _ (by omega),zqb _ _ _ _ _ _ (by omega)];exact h4 k hk
   · rw [Below.heap_setCell _ _ _ _ hne,Below.heap_setCell _ _ _ _ hne,Below.heap_setCell _ _ _ _ hne,Below.heap_setCell _ _ _ _ hne];exact h5
theorem Nr.qstored {N:Nat}{w:World}{v:Value}{z:Int}{r:Nat} (h:Nr N w v z) (hb:QBox w r) (u0 u1 u2 u3:Value):Nr N ((((w.setCell ⟨r,0,none⟩ u0).setCell ⟨r,1,none⟩ u1).setCell ⟨r,2,none⟩ u2).setCell ⟨r,3,none⟩ u3) v z:=by
 obtain ⟨neg,sl,D,h1,h2,h3⟩:=h
 exact ⟨neg,sl,D,h1,h2.qstored hb _ _ _ _,h3⟩
theorem QBox.stored {w:World}{r:Nat} (h:QBox w r) (u0 u1 u2 u3:Value):let w':=(((w.setCell ⟨r,0,none⟩ u0).setCell ⟨r,1,none⟩ u1).setCell ⟨r,2,none⟩ u2).setCell ⟨r,3,none⟩ u3
   w'.cell? ⟨r,0,none⟩=some u0∧w'.cell? ⟨r,1,none⟩=some u1∧w'.cell? ⟨r,2,none⟩=some u2∧w'.cell? ⟨r,3,none⟩=some u3:=by
 intro w'
 obtain ⟨⟨x,c0⟩,⟨a,n,c,c1⟩,⟨y,c2⟩,⟨b,m,k,c3⟩,_⟩:=h.cells
 refine ⟨?_,?_,?_,?_⟩
 · show (World.setCell _ _ _).cell? _=_
   rw [zqb _ _ _ _ _ _ (by omega),zqb _ _ _ _ _ _ (by omega),zqb _ _ _ _ _ _ (by omega)];exact zqe c0
 · show (World.setCell _ _ _).cell? _=_
   rw [zqb _ _ _ _ _ _ (by omega),zqb _ _ _ _ _ _ (by omega)]
   exact zqe (u:=.slice a n c) (by rw [zqb _ _ _ _ _ _ (by omega)];exact c1)
 · show (World.setCell _ _ _).cell? _=_
   rw [zqb _ _ _ _ _ _ (by omega)]
   exact zqe (u:=.bool y) (by rw [zqb _ _ _ _ _ _ (by omega),zqb _ _ _ _ _ _ (by omega)];exact c2)
 · show (World.setCell _ _ _).cell? _=_
   exact zqe (u:=.slice b m k) (by rw [zqb _ _ _ _ _ _ (by omega),zqb _ _ _ _ _ _ (by omega),zqb _ _ _ _ _ _ (by omega)];exact c3)
theorem QBox.beside {w:World}{b q:Nat} (h:QBox w b) (hne:b≠q) (u u':Value):QBox ((w.setCell ⟨q,0,none⟩ u).setCell ⟨q,1,none⟩ u') b:=by
 obtain ⟨x,a,n,c,y,b',m,k,h⟩:=h
 exact ⟨x,a,n,c,y,b',m,k,by rw [Below.heap_setCell _ _ _ _ hne,Below.heap_setCell _ _ _ _ hne];exact h⟩
structure OvK (w:World) (x1:Bool) (a1:Option Addr) (n1 c1:Nat) (x2:Bool) (a2:Option Addr) (n2 c2 N:Nat) (z o:Int) (W:World):Prop where
 below:Below w.heap.size w W
 a:NB W w.heap.size x1 a1 n1 c1 N z
 b:NB W (w.heap.size+1) x2 a2 n2 c2 N o
 q:QBox W (w.heap.size+2)
theorem OvK.keep {w:World}{x1:Bool}{a1:Option Addr}{n1 c1:Nat}{x2:Bool}{a2:Option Addr}{n2 c2 N:Nat}{z o:Int}{W W':World} (h:OvK w x1 a1 n1 c1 x2 a2 n2 c2 N z o W) (hb:Below W.heap.size W W'):OvK w x1 a1 n1 c1 x2 a2 n2 c2 N z o W' :=
 ⟨bk hb h.below,h.a.keep hb,h.b.keep hb,h.q.later hb⟩
theorem OvK.start {w:World}{x1:Bool}{a1:Option Addr}{n1 c1:Nat}{x2:Bool}{a2:Option Addr}{n2 c2 N:Nat}{z o:Int} (hz:Nr N w (.agg #[.bool x1,.slice a1 n1 c1]) z) (ho:Nr N w (.agg #[.bool x2,.slice a2 n2 c2]) o):OvK w x1 a1 n1 c1 x2 a2 n2 c2 N z o (((w.alloc (.cells #[.bool x1,.slice a1 n1 c1] 57)).alloc (.cells #[.bool x2,.slice a2 n2 c2] 57)).alloc (.cells #[.bool false,.slice none 0 0,.bool false,.slice none 0 0] 59)):=by
 have k3:=zqa ((w.alloc (.cells #[.bool x1,.slice a1 n1 c1] 57)).alloc (.cells #[.bool x2,.slice a2 n2 c2] 57)) (.cells #[.bool false,.slice none 0 0,.bool false,.slice none 0 0] 59)
 refine ⟨bk k3 (zqf w _ _),((NB.new hz).keep (zqa _ _)).keep k3,(NB.second ho).keep k3,?_⟩
 have:=zkl ((w.alloc (.cells #[.bool x1,.slice a1 n1 c1] 57)).alloc (.cells #[.bool x2,.slice a2 n2 c2] 57)) false none 0 0 false none 0 0
 simpa using this
theorem div_exact {z g q r p:Int} (h:z=q*g+r) (r0:0≤r) (r1:r<iabs g) (e:z=p*g) (g0:0<g):q=p:=by
 have:=euclid_one (q:=p) (r:=0) (o:=g) (z:=z) (by omega) (by omega) (by unfold iabs;split <;> omega) h r0 r1
 exact this.1.symm
theorem part_small {p g z:Int}{M:Int} (e:z=p*g) (g0:0<g) (h0:-M<z) (h1:z<M):-M<p∧p<M:=by
 rcases Int.lt_or_le p 0 with h | h
 · have:p*g≤p*1:=Int.mul_le_mul_of_nonpos_left (Int.le_of_lt h) (by omega)
   omega
 · have:p*1≤p*g:=Int.mul_le_mul_of_nonneg_left (by omega) h
   omega
set_option maxHeartbeats 4000000 in
set_option maxRecDepth 8000 in
theorem over_any {N:Nat}{v u:Value}{z o:Int} (w:World) (hz:Nr N w v z) (ho:Nr N w u o) (ho0:o≠0) (hN:N≤80000) :
   Calls Tryz.prog 83 #[v,u] w fun e w'=>(∃ v p d,e=.returned v∧Qr N w' v p d∧p*o=z*d)∧Below w.heap.size w w':=by
 obtain ⟨x1,a1,n1,c1,rfl⟩:=hz.shape
 obtain ⟨x2,a2,n2,c2,rfl⟩:=ho.shape
 have hK:=OvK.start hz ho
 have hsg:=hK.b.nr.sign
 go_enter Tryz.func83,Tryz.ntmps83
 rcases hsg with ⟨rfl,hneg⟩ | ⟨rfl,hpos⟩
 · go_wp2_with fail
   obtain ⟨W0,hW0⟩:∃ W0,W0=((w.alloc (.cells #[.bool x1,.slice a1 n1 c1] 57)).alloc (.cells #[.bool true,.slice a2 n2 c2] 57)).alloc (.cells #[.bool false,.slice none 0 0,.bool false,.slice none 0 0] 59):=⟨_,rfl⟩
   rw [← hW0] at hK ⊢
   clear hW0
   go_fit (rneg_any _ hK.a.nr)
   rintro e W1 ⟨⟨v1,rfl,hN1⟩,hb1⟩
   obtain ⟨x3,a3,n3,c3,rfl⟩:=hN1.shape
   have hK:=hK.keep hb1
   obtain ⟨⟨f0,g0⟩,⟨f1,f2,f3,g1⟩,gf⟩:=hK.a.box.cells
   have l0:=hK.a.lt
   have hK1:OvK w x3 a3 n3 c3 true a2 n2 c2 N (-z) o ((W1.setCell ⟨w.heap.size,0,none⟩ (.bool x3)).setCell ⟨w.heap.size,1,none⟩ (.slice a3 n3 c3)) :=
     ⟨zqc hK.below (Nat.le_refl _) _ _,hK.a.stored hN1,hK.b.beside hK.a.box (by omega) _ _,hK.q.beside (by omega) _ _⟩
   have e3:=hK1.b.c0
   have e4:=hK1.b.c1
   clear hb1 hN1 hK
   go_wp2_with fail
   obtain ⟨W2,hW2⟩:∃ W2,W2=(W1.setCell ⟨w.heap.size,0,none⟩ (.bool x3)).setCell ⟨w.heap.size,1,none⟩ (.slice a3 n3 c3):=⟨_,rfl⟩
   rw [← hW2] at hK1 ⊢
   clear hW2 e3 e4 g0 g1 gf l0
   go_fit (rneg_any _ hK1.b.nr)
   rintro e W3 ⟨⟨v3,rfl,hN3⟩,hb3⟩
   obtain ⟨x4,a4,n4,c4,rfl⟩:=hN3.shape
   have hK:=hK1.keep hb3
   obtain ⟨⟨f0,g0⟩,⟨f1,f2,f3,g1⟩,gf⟩:=hK.b.box.cells
   have l0:=hK.b.lt
   have hK3:OvK w x3 a3 n3 c3 x4 a4 n4 c4 N (-z) (-o) ((W3.setCell ⟨w.heap.size+1,0,none⟩ (.bool x4)).setCell ⟨w.heap.size+1,1,none⟩ (.slice a4 n4 c4)) :=
     ⟨zqc hK.below (by omega) _ _,hK.a.beside hK.b.box (by omega) _ _,hK.b.stored hN3,hK.q.beside (by omega) _ _⟩
   have e1:=hK3.a.c0
   have e2:=hK3.a.c1
   have e3:=hK3.b.c0
   have e4:=hK3.b.c1
   clear hb3 hN3 hK hK1
   go_wp2_with fail
   obtain ⟨W4,hW4⟩:∃ W4,W4=(W3.setCell ⟨w.heap.size+1,0,none⟩ (.bool x4)).setCell ⟨w.heap.size+1,1,none⟩ (.slice a4 n4 c4):=⟨_,rfl⟩
   rw [← hW4] at hK3 ⊢
   clear hW4 e1 e2 e3 e4 g0 g1 gf l0
   have hK:=hK3
   clear hK3
   obtain ⟨g,p',d',hg,g0,ep,ed,d0,hgc⟩:=zks (p:=(-z)) (d:=(-o)) (by omega)
   have HE:=qh (And.intro ep ed)
   have HGC:=qh hgc
   have hab:=part_small ep g0 hK.a.nr.abs.1 hK.a.nr.abs.2
   have hdb:=part_small ed g0 hK.b.nr.abs.1 hK.b.nr.abs.2
   have HAB:=qh (And.intro hab hdb)
   clear ep ed hgc hab hdb
   have e1:=hK.a.c0
   have e2:=hK.a.c1
   have e3:=hK.b.c0
   have e4:=hK.b.c1
   go_fit (rgcd_any (N:=N) _ hK.a.nr hK.b.nr (by omega))
   rintro e W5 ⟨⟨v5,rfl,hN5⟩,hb5⟩
   obtain ⟨x5,a5,n5,c5,rfl⟩:=hN5.shape
   rw [← hg] at hN5
   have k5:=zqa W5 (.cells #[.bool x5,.slice a5 n5 c5] 57)
   have hG:=NB.new hN5
   have hK:=(hK.keep hb5).keep k5
   have HG0:=qh g0
   clear hb5 k5 hN5 e1 e2 e3 e4 hg g0
   have e1:=hK.a.c0
   have e2:=hK.a.c1
   have e3:=hG.c0
   have e4:=hG.c1
   go_wp2_with fail
   obtain ⟨W6,hW6⟩:∃ W6,W6=W5.alloc (.cells #[.bool x5,.slice a5 n5 c5] 57):=⟨_,rfl⟩
   rw [← hW6] at hK hG ⊢
   clear hW6 e1 e2 e3 e4
   go_fit (rdivMod_any (N:=N) _ hK.a.nr hG.nr (by omega))
   rintro e W7 ⟨hd7,hb7⟩
   obtain ⟨x7,a7,n7,c7,x8,a8,n8,c8,q7,r7,rfl,hN7,hN8,hq7⟩:=dm_doc hd7
   obtain ⟨hn0,hq7,hr0,hr1⟩:=hq7.resolve_left (fun h=>by have:=uh HG0;omega)
   obtain rfl:=div_exact hq7 hr0 hr1 (uh HE).1 (uh HG0)
   have hN7:=hN7.fit (uh HAB).1.1 (uh HAB).1.2
   have k7:=zqf W7 (.cells #[.bool x7,.slice a7 n7 c7] 57) (.cells #[.bool x8,.slice a8 n8 c8] 57)
   have hP:=(NB.new hN7).keep (zqa _ (.cells #[.bool x8,.slice a8 n8 c8] 57))
   have hK:=(hK.keep hb7).keep k7
   have hG:=(hG.keep hb7).keep k7
   have hd0:(!decide (g=0))=true:=by have:=uh HG0;simp;omega
   have HR7:=qh hq7
   clear hb7 k7 hd7 hN8 hn0 hr0 hr1 hq7 hN7
   have e1:=hK.b.c0
   have e2:=hK.b.c1
   have e3:=hG.c0
   have e4:=hG.c1
   go_wp2_with fail
   obtain ⟨W8,hW8⟩:∃ W8,W8=(W7.alloc (.cells #[.bool x7,.slice a7 n7 c7] 57)).alloc (.cells #[.bool x8,.slice a8 n8 c8] 57):=⟨_,rfl⟩
   rw [← hW8] at hK hG hP ⊢
   clear hW8 e1 e2 e3 e4
   go_fit (rdivMod_any (N:=N) _ hK.b.nr hG.nr (by omega))
   rintro e W9 ⟨hd9,hb9⟩
   obtain ⟨x9,a9,n9,c9,y1,y2,y3,y4,q9,r9,rfl,hN9,hN10,hq9⟩:=dm_doc hd9
   obtain ⟨hn0,hq9,hr0,hr1⟩:=hq9.resolve_left (fun h=>by have:=uh HG0;omega)
   obtain rfl:=div_exact hq9 hr0 hr1 (uh HE).2 (uh HG0)
   have hN9:=hN9.fit (uh HAB).2.1 (uh HAB).2.2
   have k9:=zqf W9 (.cells #[.bool x9,.slice a9 n9 c9] 57) (.cells #[.bool y1,.slice y2 y3 y4] 57)
   have hD:=(NB.new hN9).keep (zqa _ (.cells #[.bool y1,.slice y2 y3 y4] 57))
   have hK:=(hK.keep hb9).keep k9
   have hP:=(hP.keep hb9).keep k9
   have HR9:=qh hq9
   clear hb9 k9 hd9 hN10 hn0 hr0 hr1 hq9 hN9 hG
   have e1:=hP.c0
   have e2:=hP.c1
   have e3:=hD.c0
   have e4:=hD.c1
   obtain ⟨⟨f0,g0'⟩,⟨f1,f2,f3,g1⟩,⟨f4,g2⟩,⟨f5,f6,f7,g3⟩,gf⟩:=hK.q.cells
   have hlt:=hK.q.lt
   go_wp2
   obtain ⟨st0,st1,st2,st3⟩:=hK.q.stored (.bool x7) (.slice a7 n7 c7) (.bool x9) (.slice a9 n9 c9)
   refine bodyPost_ret (v:=.agg #[.bool x7,.slice a7 n7 c7,.bool x9,.slice a9 n9 c9]) (by simp [results,Tryz.results83,go_sem,st0,st1,st2,st3]) rfl ⟨⟨_,q7,q9,rfl,⟨_,_,_,_,_,_,_,_,rfl,hP.nr.qstored hK.q _ _ _ _,hD.nr.qstored hK.q _ _ _ _,d0,uh HGC⟩,?_⟩,zqd hK.below (by omega) _ _ _ _⟩
   obtain ⟨h1,h2⟩:=uh HE
   rw [show o = -(q9*g) by omega,show z = -(q7*g) by omega,Int.mul_neg,Int.neg_mul,Int.mul_assoc,Int.mul_comm q9 g]
 · go_wp2_with fail
   obtain ⟨W0,hW0⟩:∃ W0,W0=((w.alloc (.cells #[.bool x1,.slice a1 n1 c1] 57)).alloc (.cells #[.bool false,.slice a2 n2 c2] 57)).alloc (.cells #[.bool false,.slice none 0 0,.bool false,.slice none 0 0] 59):=⟨_,rfl⟩
   rw [← hW0] at hK ⊢
   clear hW0
   obtain ⟨g,p',d',hg,g0,ep,ed,d0,hgc⟩:=zks (p:=z) (d:=o) (by omega)
   have HE:=qh (And.intro ep ed)
   have HGC:=qh hgc
   have hab:=part_small ep g0 hK.a.nr.abs.1 hK.a.nr.abs.2
   have hdb:=part_small ed g0 hK.b.nr.abs.1 hK.b.nr.abs.2
   have HAB:=qh (And.intro hab hdb)
   clear ep ed hgc hab hdb
   have e1:=hK.a.c0
   have e2:=hK.a.c1
   have e3:=hK.b.c0
   have e4:=hK.b.c1
   go_fit (rgcd_any (N:=N) _ hK.a.nr hK.b.nr (by omega))
   rintro e W5 ⟨⟨v5,rfl,hN5⟩,hb5⟩
   obtain ⟨x5,a5,n5,c5,rfl⟩:=hN5.shape
   rw [← hg] at hN5
   have k5:=zqa W5 (.cells #[.bool x5,.slice a5 n5 c5] 57)
   have hG:=NB.new hN5
   have hK:=(hK.keep hb5).keep k5
   have HG0:=qh g0
   clear hb5 k5 hN5 e1 e2 e3 e4 hg g0
   have e1:=hK.a.c0
   have e2:=hK.a.c1
   have e3:=hG.c0
   have e4:=hG.c1
   go_wp2_with fail
   obtain ⟨W6,hW6⟩:∃ W6,W6=W5.alloc (.cells #[.bool x5,.slice a5 n5 c5] 57):=⟨_,rfl⟩
   rw [← hW6] at hK hG ⊢
   clear hW6 e1 e2 e3 e4
   go_fit (rdivMod_any (N:=N) _ hK.a.nr hG.nr (by omega))
   rintro e W7 ⟨hd7,hb7⟩
   obtain ⟨x7,a7,n7,c7,x8,a8,n8,c8,q7,r7,rfl,hN7,hN8,hq7⟩:=dm_doc hd7
   obtain ⟨hn0,hq7,hr0,hr1⟩:=hq7.resolve_left (fun h=>by have:=uh HG0;omega)
   obtain rfl:=div_exact hq7 hr0 hr1 (uh HE).1 (uh HG0)
   have hN7:=hN7.fit (uh HAB).1.1 (uh HAB).1.2
   have k7:=zqf W7 (.cells #[.bool x7,.slice a7 n7 c7] 57) (.cells #[.bool x8,.slice a8 n8 c8] 57)
   have hP:=(NB.new hN7).keep (zqa _ (.cells #[.bool x8,.slice a8 n8 c8] 57))
   have hK:=(hK.keep hb7).keep k7
   have hG:=(hG.keep hb7).keep k7
   have hd0:(!decide (g=0))=true:=by have:=uh HG0;simp;omega
   have HR7:=qh hq7
   clear hb7 k7 hd7 hN8 hn0 hr0 hr1 hq7 hN7
   have e1:=hK.b.c0
   have e2:=hK.b.c1
   have e3:=hG.c0
   have e4:=hG.c1
   go_wp2_with fail
   obtain ⟨W8,hW8⟩:∃ W8,W8=(W7.alloc (.cells #[.bool x7,.slice a7 n7 c7] 57)).alloc (.cells #[.bool x8,.slice a8 n8 c8] 57):=⟨_,rfl⟩
   rw [← hW8] at hK hG hP ⊢
   clear hW8 e1 e2 e3 e4
   go_fit (rdivMod_any (N:=N) _ hK.b.nr hG.nr (by omega))
   rintro e W9 ⟨hd9,hb9⟩
   obtain ⟨x9,a9,n9,c9,y1,y2,y3,y4,q9,r9,rfl,hN9,hN10,hq9⟩:=dm_doc hd9
   obtain ⟨hn0,hq9,hr0,hr1⟩:=hq9.resolve_left (fun h=>by have:=uh HG0;omega)
   obtain rfl:=div_exact hq9 hr0 hr1 (uh HE).2 (uh HG0)
   have hN9:=hN9.fit (uh HAB).2.1 (uh HAB).2.2
   have k9:=zqf W9 (.cells #[.bool x9,.slice a9 n9 c9] 57) (.cells #[.bool y1,.slice y2 y3 y4] 57)
   have hD:=(NB.new hN9).keep (zqa _ (.cells #[.bool y1,.slice y2 y3 y4] 57))
   have hK:=(hK.keep hb9).keep k9
   have hP:=(hP.keep hb9).keep k9
   have HR9:=qh hq9
   clear hb9 k9 hd9 hN10 hn0 hr0 hr1 hq9 hN9 hG
   have e1:=hP.c0
   have e2:=hP.c1
   have e3:=hD.c0
   have e4:=hD.c1
   obtain ⟨⟨f0,g0'⟩,⟨f1,f2,f3,g1⟩,⟨f4,g2⟩,⟨f5,f6,f7,g3⟩,gf⟩:=hK.q.cells
   have hlt:=hK.q.lt
   go_wp2
   obtain ⟨st0,st1,st2,st3⟩:=hK.q.stored (.bool x7) (.slice a7 n7 c7) (.bool x9) (.slice a9 n9 c9)
   refine bodyPost_ret (v:=.agg #[.bool x7,.slice a7 n7 c7,.bool x9,.slice a9 n9 c9]) (by simp [results,Tryz.results83,go_sem,st0,st1,st2,st3]) rfl ⟨⟨_,q7,q9,rfl,⟨_,_,_,_,_,_,_,_,rfl,hP.nr.qstored hK.q _ _ _ _,hD.nr.qstored hK.q _ _ _ _,d0,uh HGC⟩,?_⟩,zqd hK.below (by omega) _ _ _ _⟩
   obtain ⟨h1,h2⟩:=uh HE
   rw [h2]
   conv=>rhs;rw [h1]
   rw [Int.mul_assoc,Int.mul_comm q9 g]
structure K1 (w:World) (x:Bool) (a:Option Addr) (n c:Nat) (y:Bool) (b:Option Addr) (m k:Nat) (wr:World):Prop where
 below:Below w.heap.size w wr
 c0:wr.cell? ⟨w.heap.size,0,none⟩=some (.bool x)
 c1:wr.cell? ⟨w.heap.size,1,none⟩=some (.slice a n c)
 c2:wr.cell? ⟨w.heap.size,2,none⟩=some (.bool y)
 c3:wr.cell? ⟨w.heap.size,3,none⟩=some (.slice b m k)
theorem K1.keep {w wr w1:World}{x y:Bool}{a b:Option Addr}{n c m k:Nat} (h:K1 w x a n c y b m k wr) (hb:Below wr.heap.size wr w1):K1 w x a n c y b m k w1 :=
 ⟨bk hb h.below,ck hb h.c0,ck hb h.c1,ck hb h.c2,ck hb h.c3⟩
theorem K1.start (w:World) (x y:Bool) (a b:Option Addr) (n c m k:Nat):K1 w x a n c y b m k (w.alloc (.cells #[.bool x,.slice a n c,.bool y,.slice b m k] 59)) :=
 ⟨zqa w _,by rw [nc rfl];rfl,by rw [nc rfl];rfl,by rw [nc rfl];rfl,by rw [nc rfl];rfl⟩
theorem Nr.short {N:Nat}{w:World}{v:Value}{z:Int} (h:Nr N w v z):(⟨(Lib.itoa z).toArray⟩:ByteArray).size≤4*N+5:=by
 have h4:(10000:Int) ^ N≤10 ^ (4*N+4):=by
   have e:(10:Int) ^ (4*N+4)=10000 ^ N*10000:=by
     rw [Int.pow_add,Int.pow_mul];rfl
   have:=p4_pos N
   omega
 have h5:=h.abs
 have:=itoa_short (z:=z) (k:=4*N+4) (by omega) (by omega) (by omega)
 show (Lib.itoa z).toArray.size≤_
 simp;omega
theorem dvd_cop {d p d':Int} (h:d∣p*d') (hg:Int.gcd p d=1):d∣d':=by
 rw [← Int.natAbs_dvd_natAbs] at h ⊢
 rw [Int.natAbs_mul] at h
 exact Nat.Coprime.dvd_of_dvd_mul_left (by rw [Nat.coprime_comm];exact hg) h
theorem lowest_one {p d p' d' z o:Int} (ho:o≠0) (h:p*o=z*d) (h':p'*o=z*d') (d0:0<d) (d0':0<d') (hg:Int.gcd p d=1) (hg':Int.gcd p' d'=1):p=p'∧d=d':=by
 have e:p*d'=p'*d:=by
   have h1:(p*d')*o=(p'*d)*o:=by
     rw [Int.mul_right_comm p,h,Int.mul_right_comm p',h',Int.mul_right_comm]
   exact Int.eq_of_mul_eq_mul_right ho h1
 have hd:d∣d':=by
   have:d∣p*d':=⟨p',by rw [e,Int.mul_comm]⟩
   exact dvd_cop this hg
 have hd':d'∣d:=by
   have:d'∣p'*d:=⟨p,by rw [← e,Int.mul_comm]⟩
   exact dvd_cop this hg'
 have hdd:d=d':=Int.dvd_antisymm (by omega) (by omega) hd hd'
 subst hdd
 exact ⟨Int.eq_of_mul_eq_mul_right (by omega) e,rfl⟩
set_option maxHeartbeats 1000000 in
theorem rqsign_any {N:Nat}{v:Value}{p d:Int} (w:World) (h:Qr N w v p d) :
   Calls Tryz.prog 37 #[v] w fun e w'=>e=.returned (.int .i64 (sgn p))∧Below w.heap.size w w':=by
 obtain ⟨x,a,n,c,y,b,m,k,rfl,h2,h3,d0,hg⟩:=h
 have hst:=K1.start w x y a b n c m k
 go_enter Tryz.func37,Tryz.ntmps37
 go_wp2_with fail
 obtain ⟨W0,hW0⟩:∃ W0,W0=w.alloc (.cells #[.bool x,.slice a n c,.bool y,.slice b m k] 59):=⟨_,rfl⟩
 rw [← hW0] at hst ⊢
 clear hW0
 obtain ⟨hB,e0,e1,e2,e3⟩:=hst
 go_wp2_with fail
 go_fit (rsign_any _ (h2.later hB))
 rintro e W1 ⟨rfl,hb1⟩
 have hB1:=bk hb1 hB
 go_wp2
 go_ret
 first | exact hB1 | exact ⟨rfl,hB1⟩
theorem kq1 {w w1 w2:World}{v0 v1 v2 v3:Value}{b:Nat} (hb:Below w1.heap.size w1 w2) (h:Below w.heap.size w w1∧w1.cell? ⟨b,0,none⟩=some v0∧w1.cell? ⟨b,1,none⟩=some v1∧w1.cell? ⟨b,2,none⟩=some v2∧w1.cell? ⟨b,3,none⟩=some v3):Below w.heap.size w w2∧w2.cell? ⟨b,0,none⟩=some v0∧w2.cell? ⟨b,1,none⟩=some v1∧w2.cell? ⟨b,2,none⟩=some v2∧w2.cell? ⟨b,3,none⟩=some v3:=by
 obtain ⟨h0,h1,h2,h3,h4⟩:=h
 exact ⟨bk hb h0,ck hb h1,ck hb h2,ck hb h3,ck hb h4⟩
theorem kq1_store {w w1:World}{r b:Nat}{v0 v1 v2 v3 u0 u1 u2 u3:Value} (h:Below w.heap.size w w1∧w1.cell? ⟨b,0,none⟩=some v0∧w1.cell? ⟨b,1,none⟩=some v1∧w1.cell? ⟨b,2,none⟩=some v2∧w1.cell? ⟨b,3,none⟩=some v3) (hr:w.heap.size≤r) (hb:b≠r) :
   let w2:=(((w1.setCell ⟨r,0,none⟩ u0).setCell ⟨r,1,none⟩ u1).setCell ⟨r,2,none⟩ u2).setCell ⟨r,3,none⟩ u3
   Below w.heap.size w w2∧w2.cell? ⟨b,0,none⟩=some v0∧w2.cell? ⟨b,1,none⟩=some v1∧w2.cell? ⟨b,2,none⟩=some v2∧w2.cell? ⟨b,3,none⟩=some v3:=by
 intro w2
 obtain ⟨k1,k3,k4,k5,k6⟩:=h
 have hc:∀ o v,w1.cell? ⟨b,o,none⟩=some v→w2.cell? ⟨b,o,none⟩=some v:=fun o v hv=>by
   show (World.setCell _ _ _).cell? _=_
   rw [zqb _ _ _ _ _ _ (by omega),zqb _ _ _ _ _ _ (by omega),zqb _ _ _ _ _ _ (by omega),zqb _ _ _ _ _ _ (by omega)]
   exact hv
 exact ⟨zqd k1 hr _ _ _ _,hc _ _ k3,hc _ _ k4,hc _ _ k5,hc _ _ k6⟩
set_option maxHeartbeats 4000000 in
set_option maxRecDepth 4000 in
theorem rqneg_any {N:Nat}{v:Value}{p d:Int} (w:World) (h:Qr N w v p d) :
   Calls Tryz.prog 93 #[v] w fun e w'=>(∃ v,e=.returned v∧Qr N w' v (-p) d)∧Below w.heap.size w w':=by
 obtain ⟨x,a,n,c,y,b,m,k,rfl,h2,h3,d0,hg⟩:=h
 have hst:=(K1.start w x y a b n c m k).keep (zqa _ (.cells #[.bool false,.slice none 0 0,.bool false,.slice none 0 0] 59))
 have hq:=zkl (w.alloc (.cells #[.bool x,.slice a n c,.bool y,.slice b m k] 59)) false none 0 0 false none 0 0
 rw [show (w.alloc (.cells #[.bool x,.slice a n c,.bool y,.slice b m k] 59)).heap.size=w.heap.size+1 by simp] at hq
 go_enter Tryz.func93,Tryz.ntmps93
 go_wp2_with fail
 obtain ⟨W0,hW0⟩:∃ W0,W0=(w.alloc (.cells #[.bool x,.slice a n c,.bool y,.slice b m k] 59)).alloc (.cells #[.bool false,.slice none 0 0,.bool false,.slice none 0 0] 59):=⟨_,rfl⟩
 rw [← hW0] at hst hq ⊢
 clear hW0
 obtain ⟨hB,e0,e1,e2,e3⟩:=hst
 go_wp2_with fail
 go_region_held3 (fun w'=>Below w.heap.size w w'∧w'.cell? ⟨w.heap.size,0,none⟩=some (.bool x)∧w'.cell? ⟨w.heap.size,1,none⟩=some (.slice a n c)∧w'.cell? ⟨w.heap.size,2,none⟩=some (.bool y)∧w'.cell? ⟨w.heap.size,3,none⟩=some (.slice b m k))
   (first | exact ⟨hB.drew,e0,e1,e2,e3⟩ | exact uh S1 | exact kq1_store (uh S1) (by omega) (by omega))
   (first | (go_at_call 145;go_fit (rneg_any _ (h2.later hB.drew));rintro e W1 ⟨⟨v1,rfl,hN1⟩,hb1⟩;obtain ⟨u1,a1,n1,c1,rfl⟩:=hN1.shape;have S1:=qh (kq1 hb1 ⟨hB.drew,e0,e1,e2,e3⟩);have hbx:=hq.later (w:=W0.drew) hb1;obtain ⟨⟨j0,g0⟩,⟨j1,j2,j3,g1⟩,⟨j4,g2⟩,⟨j5,j6,j7,g3⟩,gf⟩:=hbx.cells;have hlt:=hbx.lt))
 have hB:=(uh S1).1
 have hbx:=hq.later (w:=W0.drew) hb1
 go_wp2
 obtain ⟨st0,st1,st2,st3⟩:=hbx.stored (.bool u1) (.slice a1 n1 c1) (.bool y) (.slice b m k)
 exact bodyPost_ret (v:=.agg #[.bool u1,.slice a1 n1 c1,.bool y,.slice b m k]) (by simp [results,Tryz.results93,go_sem,st0,st1,st2,st3]) rfl ⟨⟨_,rfl,⟨_,_,_,_,_,_,_,_,rfl,hN1.qstored hbx _ _ _ _,(h3.later hB).qstored hbx _ _ _ _,d0,by rw [Int.neg_gcd];exact hg⟩⟩,zqd hB (by omega) _ _ _ _⟩
set_option maxHeartbeats 1000000 in
set_option maxRecDepth 8000 in
theorem rsmall_zero (w:World) :
   Calls Tryz.prog 82 #[.int .i64 0] w fun e w'=>(∃ v,e=.returned v∧Nr 0 w' v 0)∧Below w.heap.size w w':=by
 have hbx:=zjc w false none 0 0
 have hk0:=zqa w (.cells #[.bool false,.slice none 0 0] 57)
 go_enter Tryz.func82,Tryz.ntmps82
 go_wp2_with fail
 go_loopg [0,4] 0 (fun k nv dv wr=>nv=.int .i64 0∧dv=.slice none 0 0∧Below w.heap.size w wr∧NBox wr w.heap.size)
 case atStart=>exact ⟨rfl,rfl,hk0,hbx⟩
 case round =>
   obtain ⟨rfl,rfl,hB,hbx1⟩:=hrel
   obtain ⟨⟨x0,g0⟩,⟨a0,n0,c0,g1⟩,gf⟩:=hbx1.cells
   have hlt:w.heap.size<wr.heap.size:=World.block_lt_of_cell? wr _ g0
   go_wp2
   obtain ⟨st0,st1⟩:=hbx1.stored (.bool false) (.slice none 0 0)
   exact bodyPost_ret (v:=.agg #[.bool false,.slice none 0 0]) (by simp [results,Tryz.results82,go_sem,st0,st1]) rfl ⟨⟨_,rfl,nr_zero _⟩,zqc hB (Nat.le_refl _) _ _⟩
set_option maxHeartbeats 4000000 in
set_option maxRecDepth 4000 in
theorem rint_of {N:Nat}{i:Int} (w:World) (hs:∀ w:World,Calls Tryz.prog 82 #[.int .i64 i] w fun e w'=>(∃ v,e=.returned v∧Nr N w' v i)∧Below w.heap.size w w') :
   Calls Tryz.prog 39 #[.int .i64 i] w fun e w'=>(∃ v,e=.returned v∧Qr (N+1) w' v i 1)∧Below w.heap.size w w':=by
 have hB:=zqa w (.cells #[.bool false,.slice none 0 0,.bool false,.slice none 0 0] 59)
 have hq:=zkl w false none 0 0 false none 0 0
 go_enter Tryz.func39,Tryz.ntmps39
 go_wp2_with fail
 obtain ⟨W0,hW0⟩:∃ W0,W0=w.alloc (.cells #[.bool false,.slice none 0 0,.bool false,.slice none 0 0] 59):=⟨_,rfl⟩
 rw [← hW0] at hB hq ⊢
 clear hW0
 go_fit (hs _)
 rintro e W1 ⟨⟨v1,rfl,hN1⟩,hb1⟩
 obtain ⟨u1,a1,n1,c1,rfl⟩:=hN1.shape
 have hB:=bk hb1 hB
 have hq:=hq.later hb1
 clear hb1
 go_wp2_with fail
 go_fit (zxw 1 _ (by decide) (by decide))
 rintro e W2 ⟨⟨v2,rfl,hN2⟩,hb2⟩
 obtain ⟨u2,a2,n2,c2,rfl⟩:=hN2.shape
 have hB:=bk hb2 hB
 have hbx:=hq.later hb2
 have hN1:=hN1.later hb2
 clear hb2
 obtain ⟨⟨j0,g0⟩,⟨j1,j2,j3,g1⟩,⟨j4,g2⟩,⟨j5,j6,j7,g3⟩,gf⟩:=hbx.cells
 have hlt:=hbx.lt
 go_wp2
 obtain ⟨st0,st1,st2,st3⟩:=hbx.stored (.bool u1) (.slice a1 n1 c1) (.bool u2) (.slice a2 n2 c2)
 exact bodyPost_ret (v:=.agg #[.bool u1,.slice a1 n1 c1,.bool u2,.slice a2 n2 c2]) (by simp [results,Tryz.results39,go_sem,st0,st1,st2,st3]) rfl ⟨⟨_,rfl,⟨_,_,_,_,_,_,_,_,rfl,(hN1.mono (by omega)).qstored hbx _ _ _ _,(hN2.mono (by omega)).qstored hbx _ _ _ _,by decide,by simp⟩⟩,zqd hB (by omega) _ _ _ _⟩
theorem rint_zero (w:World):Calls Tryz.prog 39 #[.int .i64 0] w fun e w'=>(∃ v,e=.returned v∧Qr 1 w' v 0 1)∧Below w.heap.size w w':=rint_of (N:=0) w rsmall_zero
structure Chn (a0 b0 c0 d0 n m ln lm a b c d:Int):Prop where
 n0:0≤n
 m0:0≤m
 ln0:0≤ln
 lm0:0≤lm
 det:n*lm - ln*m=1∨n*lm - ln*m = -1
 same:(n*a+ln*b=a0∧m*a+lm*b=b0∧n*c+ln*d=c0∧m*c+lm*d=d0)∨(n*a+ln*b=c0∧m*a+lm*b=d0∧n*c+ln*d=a0∧m*c+lm*d=b0)
theorem Chn.start (a b c d:Int):Chn a b c d 1 0 0 1 a b c d:=⟨by decide,by decide,by decide,by decide,Or.inl (by decide),Or.inl ⟨by omega,by omega,by omega,by omega⟩⟩
theorem chn_r1 {n ln a b k r:Int} (h:a=r+b*k):(k*n+ln)*b+n*r=n*a+ln*b:=by rw [h];grind
theorem chn_r2 {n m ln lm k:Int}:(k*n+ln)*m - n*(k*m+lm) = -(n*lm - ln*m):=by grind
theorem Chn.step {a0 b0 c0 d0 n m ln lm a b c d:Int} (h:Chn a0 b0 c0 d0 n m ln lm a b c d) (k0:0≤a / b) (hk:a / b=c / d):Chn a0 b0 c0 d0 (a / b*n+ln) (a / b*m+lm) n m d (c % d) b (a % b):=by
 have h3:=(Int.emod_add_mul_ediv a b).symm
 have g3:=(Int.emod_add_mul_ediv c d).symm
 rw [← hk] at g3
 have e1:=Int.mul_nonneg k0 h.n0
 have e2:=Int.mul_nonneg k0 h.m0
 have:=h.ln0
 have:=h.lm0
 refine ⟨by omega,by omega,h.n0,h.m0,?_,?_⟩
 · have e:=chn_r2 (n:=n) (m:=m) (ln:=ln) (lm:=lm) (k:=a / b)
   rcases h.det with d | d <;> omega
 · rw [chn_r1 h3,chn_r1 h3,chn_r1 g3,chn_r1 g3]
   rcases h.same with ⟨q1,q2,q3,q4⟩ | ⟨q1,q2,q3,q4⟩
   · exact Or.inr ⟨q3,q4,q1,q2⟩
   · exact Or.inl ⟨q3,q4,q1,q2⟩
theorem Chn.small {a0 b0 c0 d0 n m ln lm a b c d M:Int} (h:Chn a0 b0 c0 d0 n m ln lm a b c d) (a1:0<a) (b1:0<b) (ha:a0≤M) (hb:b0≤M) (hc:c0≤M) (hd:d0≤M):n≤M∧m≤M∧ln≤M∧lm≤M∧n*(a / b)≤M∧m*(a / b)≤M:=by
 obtain ⟨h1,h2,h3,h4,-,hs⟩:=h
 have key:∀ x y X:Int,0≤x→0≤y→x*a+y*b=X→X≤M→x≤M∧y≤M∧x*(a / b)≤M:=by
   intro x y X hx hy he hX
   have k1:x*1≤x*a:=Int.mul_le_mul_of_nonneg_left (by omega) hx
   have k2:y*1≤y*b:=Int.mul_le_mul_of_nonneg_left (by omega) hy
   have k3:a / b≤a:=Int.ediv_le_self _ (by omega)
   have k4:x*(a / b)≤x*a:=Int.mul_le_mul_of_nonneg_left k3 hx
   exact ⟨by omega,by omega,by omega⟩
 rcases hs with ⟨q1,q2,_,_⟩ | ⟨q1,q2,_,_⟩
 · obtain ⟨a1,a2,a3⟩:=key _ _ _ h1 h3 q1 ha
   obtain ⟨b1,b2,b3⟩:=key _ _ _ h2 h4 q2 hb
   exact ⟨a1,b1,a2,b2,a3,b3⟩
 · obtain ⟨a1,a2,a3⟩:=key _ _ _ h1 h3 q1 hc
   obtain ⟨b1,b2,b3⟩:=key _ _ _ h2 h4 q2 hd
   exact ⟨a1,b1,a2,b2,a3,b3⟩
end Go.Proofs.YtkdobjmhammhbaaGreatDoor
