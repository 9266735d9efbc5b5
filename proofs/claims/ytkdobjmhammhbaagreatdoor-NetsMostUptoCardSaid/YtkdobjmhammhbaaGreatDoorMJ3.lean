import Derived.Test.YtkdobjmhammhbaaGreatDoorMEA
import Derived.Test.YtkdobjmhammhbaaGreatDoorMJ1
namespace Go.Proofs.YtkdobjmhammhbaaGreatDoor
set_option maxHeartbeats 16000000
set_option maxRecDepth 8000
open Go.RowKit
theorem coded3 (A:Nat->Addr) (w:World) (k:Nat) (hk:k<10) (hS:Sents w A) :
 Calls Tryz.prog 18 #[.iface 324 (.pointer (some (A k))),.int .i64 ((k:Int)+1)] w fun e w'=>e=.returned (.bool true)/\Below w.heap.size w w':=by
 go_enter Tryz.func18,Tryz.ntmps18
 go_wp2_with fail
 go_fit (code_any A _ k hk hS)
 rintro e w1 ⟨rfl,hb1⟩
 go_wp2
 go_ret
 exact ⟨rfl,hb1⟩
theorem code_nil (w:World):Calls Tryz.prog 38 #[.nilIface] w fun e w'=>e=.returned (.tuple #[.int .i64 0,.int .i64 (-1)])/\Below w.heap.size w w':=by
 go_enter Tryz.func38,Tryz.ntmps38
 go_wp2
 exact bodyPost_ret (v:=.tuple #[.int .i64 0,.int .i64 (-1)]) (by simp [results,Tryz.results38,go_sem]) rfl ⟨rfl,Below.refl _ _⟩
theorem coded3_nil (w:World) :
 Calls Tryz.prog 18 #[.nilIface,.int .i64 0] w fun e w'=>e=.returned (.bool true)/\Below w.heap.size w w':=by
 go_enter Tryz.func18,Tryz.ntmps18
 go_wp2_with fail
 go_fit (code_nil _)
 rintro e w1 ⟨rfl,hb1⟩
 go_wp2
 go_ret
 exact ⟨rfl,hb1⟩
def errV (A:Nat->Addr) (e:Int):Value:=if e=2 then .iface 324 (.pointer (some (A 1))) else if e=4 then .iface 324 (.pointer (some (A 3))) else .nilIface
theorem coded_err (A:Nat->Addr) (w:World) {e:Int} (he:e=0\/e=2\/e=4) (hS:Sents w A) :
 Calls Tryz.prog 18 #[errV A e,.int .i64 e] w fun e w'=>e=.returned (.bool true)/\Below w.heap.size w w':=by
 rcases he with rfl | rfl | rfl
 ·exact coded3_nil w
 ·exact coded3 A w 1 (by decide) hS
 ·exact coded3 A w 3 (by decide) hS
theorem sgn_nil {x:Int}:sgn x=0↔x=0:=by rcases zqo x with ⟨h,e,_⟩ | ⟨h,e,_⟩ | ⟨h,e,_⟩ <;> omega
def mv (x:Int×Int×Int×Int) (f:Int) (a:List Int):List Int:=(a.set x.1.toNat (a.getD x.1.toNat 0+f)).set x.2.1.toNat ((a.set x.1.toNat (a.getD x.1.toNat 0+f)).getD x.2.1.toNat 0 - f)
def mvs (L:List (Int×Int×Int×Int)) (F:List Int) (a:List Int):Nat->List Int
 | 0=>a
 | i+1=>match L[i]?,F[i]? with
  | some x,some f=>mv x f (mvs L F a i)
  | _,_=>mvs L F a i
theorem mvs_next {L:List (Int×Int×Int×Int)}{F a:List Int}{i:Nat}{x:Int×Int×Int×Int}{f:Int} (hx:L[i]? = some x) (hf:F[i]? = some f):mvs L F a (i+1)=mv x f (mvs L F a i):=by simp [mvs,hx,hf]
theorem mv_len (x:Int×Int×Int×Int) (f:Int) (a:List Int):(mv x f a).length=a.length:=by simp [mv]
theorem mvs_len (L:List (Int×Int×Int×Int)) (F a:List Int) (i:Nat):(mvs L F a i).length=a.length:=by
 induction i with
 | zero=>rfl
 | succ i ih =>
  rw [mvs]
  split
  ·rw [mv_len,ih]
  ·exact ih
theorem getD_set' (a:List Int) (i j:Nat) (v:Int) (hi:i<a.length):(a.set i v).getD j 0=if i=j then v else a.getD j 0:=by
 rw [List.getD_eq_getElem?_getD,List.getD_eq_getElem?_getD,List.getElem?_set]
 split
 ·rename_i h;subst h;simp
 ·rfl
theorem mv_at {x:Int×Int×Int×Int}{f:Int}{a:List Int} (h1:x.1.toNat<a.length) (h2:x.2.1.toNat<a.length) (j:Nat):(mv x f a).getD j 0=a.getD j 0+(if x.1.toNat=j then f else 0) - (if x.2.1.toNat=j then f else 0):=by
 unfold mv
 rw [getD_set' _ _ _ _ (by simpa using h2),getD_set' _ _ _ _ h1,getD_set' _ _ _ _ h1]
 by_cases e1:x.1.toNat=j <;> by_cases e2:x.2.1.toNat=j
 ·rw [if_pos e2,if_pos (by omega),if_pos e1,if_pos e2,e1]
 ·rw [if_neg e2,if_pos e1,if_pos e1,if_neg e2,e1];omega
 ·rw [if_pos e2,if_neg (by omega),if_neg e1,if_pos e2,e2];omega
 ·rw [if_neg e2,if_neg e1,if_neg e1,if_neg e2];omega
theorem mvs_ins {L:List (Int×Int×Int×Int)}{F a:List Int}{B:Int}{n:Nat} (hL:∀ x ∈ L,¬ badArc n x) (ha:a.length=n) (hB:0<=B) (h0:∀ j,-B<=a.getD j 0/\a.getD j 0<=B) (hF:∀ f ∈ F,-B<=f/\f<=B) (i:Nat):∀ j,-((2*i+1)*B)<=(mvs L F a i).getD j 0/\(mvs L F a i).getD j 0<=(2*i+1)*B:=by
 induction i with
 | zero=>intro j;have:=h0 j;simpa [mvs] using this
 | succ i ih =>
  intro j
  have h1:=ih j
  have e:(2*((i+1:Nat):Int)+1)*B=(2*(i:Int)+1)*B+2*B:=by
   rw [Int.natCast_add];grind
  rw [e]
  cases hx:L[i]? with
  | none=>simp only [mvs,hx];omega
  | some x =>
   cases hf:F[i]? with
   | none=>simp only [mvs,hx,hf];omega
   | some f =>
    have hg:=hL x (List.mem_of_getElem? hx)
    have:=hF f (List.mem_of_getElem? hf)
    unfold badArc at hg
    rw [mvs_next hx hf,mv_at (by rw [mvs_len];omega) (by rw [mvs_len];omega)]
    split <;> split <;> omega
theorem mv_bound {B:Int}{i:Nat} (hB:0<=B) (hi:i<=300):(2*(i:Int)+1)*B<=601*B:=Int.mul_le_mul_of_nonneg_right (by omega) hB
def Raw (K:Value->Prop) (t:TypeId) (w:World) (g m:Nat):Prop:=∃ cur,w.heap[g]? = some (.cells cur t (0,0))/\cur.size=m/\∀ u ∈ cur.toList,K u
theorem Raw.store {K:Value->Prop}{t:TypeId}{w:World}{g m o:Nat}{v:Value} (h:Raw K t w g m) (hv:K v):Raw K t (w.setCell ⟨g,o,none⟩ v) g m/\Chg K t w (w.setCell ⟨g,o,none⟩ v):=by
 obtain ⟨cur,h1,h2,h3⟩:=h
 refine ⟨⟨_,setCell_block h1 v,by simp [h2],fun u hu => ?_⟩,setCell_chg (o:=o) h1 h3 v⟩
 obtain ⟨i,hi⟩:=List.getElem?_of_mem hu
 rw [Array.getElem?_toList,Array.getElem?_setIfInBounds] at hi
 split at hi
 ·split at hi
  ·obtain rfl:v=u:=by simpa using hi
   exact hv
  ·cases hi
 ·exact h3 u (by rw [<- Array.mem_def];exact Array.mem_of_getElem? hi)
theorem Fill.raw {α:Type}{K:Value->Prop}{k:Nat}{E:World->List Value -> α -> Prop}{t:TypeId}{w:World}{g n:Nat}{L:List α} (h:Fill K k E t w g n L):Raw K t w g (n*k):=by
 obtain ⟨cur,h1,h2,h3,_⟩:=h
 exact ⟨cur,h1,h2,h3⟩
theorem Fill.at {α:Type}{K:Value->Prop}{k:Nat}{E:World->List Value -> α -> Prop}{t:TypeId}{w:World}{g n i:Nat}{L:List α}{x:α} (h:Fill K k E t w g n L) (hx:L[i]? = some x):∃ cs,cs.length=k/\(∀ j u,cs[j]? = some u->w.cell? ⟨g,i*k+j,none⟩=some u)/\E w cs x:=by
 obtain ⟨cur,h1,h2,h3,h4,h5⟩:=h
 obtain ⟨cs,hl,hcs,he⟩:=h5 i x hx
 exact ⟨cs,hl,fun j u hu=>zku h1 (hcs j u hu),he⟩
theorem Raw.fill {α:Type}{K:Value->Prop}{k:Nat}{E:World->List Value -> α -> Prop}{t:TypeId}{w:World}{g n:Nat}{L:List α} (h:Raw K t w g (n*k)) (hn:L.length<=n) (hx:∀ i x,L[i]? = some x->∃ cs,cs.length=k/\(∀ j u,cs[j]? = some u->w.cell? ⟨g,i*k+j,none⟩=some u)/\E w cs x):Fill K k E t w g n L:=by
 obtain ⟨cur,h1,h2,h3⟩:=h
 refine ⟨cur,h1,h2,h3,hn,fun i x hi => ?_⟩
 obtain ⟨cs,hl,hcs,he⟩:=hx i x hi
 exact ⟨cs,hl,fun j u hu=>by simpa [World.cell?,h1] using hcs j u hu,he⟩
theorem Fill.len {α:Type}{K:Value->Prop}{k:Nat}{E:World->List Value -> α -> Prop}{t:TypeId}{w:World}{g n:Nat}{L:List α} (h:Fill K k E t w g n L):L.length<=n:=by
 obtain ⟨cur,h1,h2,h3,h4,_⟩:=h
 exact h4
theorem Fill.set4 {α:Type}{K:Value->Prop}{E:World->List Value -> α -> Prop}{t:TypeId}{w:World}{g n i:Nat}{L:List α}{u0 u1 u2 u3:Value}{x:α} (h:Fill K 4 E t w g n L) (hE:Stays K t E) (hi:i<L.length) (hk:∀ u ∈ [u0,u1,u2,u3],K u) (he:E w [u0,u1,u2,u3] x) :
 Fill K 4 E t ((((w.setCell ⟨g,i*4,none⟩ u0).setCell ⟨g,i*4+1,none⟩ u1).setCell ⟨g,i*4+2,none⟩ u2).setCell ⟨g,i*4+3,none⟩ u3) g n (L.set i x):=by
 have hl:=h.len
 obtain ⟨a0,e0⟩:=h.cell (o:=i*4) (by omega)
 obtain ⟨a1,e1⟩:=h.cell (o:=i*4+1) (by omega)
 obtain ⟨a2,e2⟩:=h.cell (o:=i*4+2) (by omega)
 obtain ⟨a3,e3⟩:=h.cell (o:=i*4+3) (by omega)
 obtain ⟨r0,c0⟩:=h.raw.store (o:=i*4) (hk u0 (by simp))
 obtain ⟨r1,c1⟩:=r0.store (o:=i*4+1) (hk u1 (by simp))
 obtain ⟨r2,c2⟩:=r1.store (o:=i*4+2) (hk u2 (by simp))
 obtain ⟨r3,c3⟩:=r2.store (o:=i*4+3) (hk u3 (by simp))
 have hc:=((c0.trans c1).trans c2).trans c3
 refine r3.fill (by simpa using hl) fun j y hy => ?_
 rw [List.getElem?_set] at hy
 by_cases hji:i=j
 ·subst hji
  rw [if_pos rfl,if_pos hi] at hy
  obtain rfl:=Option.some.inj hy
  refine ⟨_,rfl,fun k u hu => ?_,hE _ _ _ _ he hc⟩
  match k,hu with
  | 0,hu =>
   obtain rfl:u0=u:=by simpa using hu
   rw [Nat.add_zero,zqb _ _ _ _ _ _ (by omega),zqb _ _ _ _ _ _ (by omega),zqb _ _ _ _ _ _ (by omega)]
   exact zqd e0
  | 1,hu =>
   obtain rfl:u1=u:=by simpa using hu
   rw [zqb _ _ _ _ _ _ (by omega),zqb _ _ _ _ _ _ (by omega)]
   exact zqd (by rw [zqb _ _ _ _ _ _ (by omega)];exact e1)
  | 2,hu =>
   obtain rfl:u2=u:=by simpa using hu
   rw [zqb _ _ _ _ _ _ (by omega)]
   exact zqd (by rw [zqb _ _ _ _ _ _ (by omega),zqb _ _ _ _ _ _ (by omega)];exact e2)
  | 3,hu =>
   obtain rfl:u3=u:=by simpa using hu
   exact zqd (by rw [zqb _ _ _ _ _ _ (by omega),zqb _ _ _ _ _ _ (by omega),zqb _ _ _ _ _ _ (by omega)];exact e3)
 ·rw [if_neg hji] at hy
  obtain ⟨cs,hcl,hcs,hex⟩:=h.at hy
  refine ⟨cs,hcl,fun k u hu => ?_,hE _ _ _ _ hex hc⟩
  have hk4:k<4:=by rw [<- hcl];exact (List.getElem?_eq_some_iff.1 hu).1
  rw [zqb _ _ _ _ _ _ (by omega),zqb _ _ _ _ _ _ (by omega),zqb _ _ _ _ _ _ (by omega),zqb _ _ _ _ _ _ (by omega)]
  exact hcs k u hu
theorem Fill.q4 {N:Nat}{D:Int}{K:Value->Prop}{t:TypeId}{w:World}{g n i:Nat}{L:List Int}{s:Int} (h:Fill K 4 (QsE N D) t w g n L) (hx:L[i]? = some s):∃ y,Q4 w g (i*4) y/\Qs N D w (vq y) s:=by
 obtain ⟨cs,_,hcs,h1⟩:=h.at hx
 obtain ⟨y,rfl,hy⟩:=h1.sh
 exact ⟨y,⟨by simpa using hcs 0 _ rfl,hcs 1 _ rfl,hcs 2 _ rfl,hcs 3 _ rfl⟩,hy⟩
theorem zxs (N:Nat) (D:Int):Stays NoInt 59 (QsE N D):=QsE.stays N D NoInt (by decide)
theorem getD_some {a:List Int}{i:Nat}{s:Int} (h:a[i]? = some s):a.getD i 0=s:=by rw [List.getD_eq_getElem?_getD,h];rfl
theorem rleft_any {K N n:Nat}{T D B:Int}{v fv:Value}{L:List (Int×Int×Int×Int)}{F:List Int} (w:World) (hBg:Big K N T) (hD:Dn T D) (h:Rows 10 (ArE (QsE N D)) w v L) (hf:Rows 4 (QsE N D) w fv F) (hlen:F.length=L.length) (hn:∀ x ∈ L,¬ badArc n x) (hl:L.length<=300) (h60:n<=60) (hF:∀ f ∈ F,-B<=f/\f<=B) (hB:0<=B) (hT:1000*B<T) :
 Calls Tryz.prog 44 #[.int .i64 (n:Int),v,fv] w fun e w'=>(∃ v,e=.returned v/\Rows 4 (QsE N D) w' v (mvs L F (List.replicate n 0) L.length))/\Below w.heap.size w w':=by
 obtain ⟨sa,sc,rfl⟩:=h.shape
 obtain ⟨ta,tc,rfl⟩:=hf.shape
 have hbd:∀ i,i<=300->∀ j,-(601*B)<=(mvs L F (List.replicate n 0) i).getD j 0/\(mvs L F (List.replicate n 0) i).getD j 0<=601*B:=fun i hi j=>by
  have h1:=mvs_ins (i:=i) (a:=List.replicate n 0) hn (by simp) hB (fun j=>by rw [List.getD_eq_getElem?_getD,List.getElem?_replicate];split <;> simp <;> omega) hF j
  have:=mv_bound hB hi
  omega
 have HBD:=qh (And.intro hbd hF)
 have HT:=qh (And.intro hB hT)
 have HG:=qh (And.intro hBg hD)
 have HR:=qh h
 have HF:=qh hf
 have HNB:=qh hn
 clear h hf hn hBg hD hT hbd hF hB
 obtain ⟨m,hm⟩:∃ m,m=L.length:=⟨_,rfl⟩
 rw [<- hm] at HR hl hlen ⊢
 rw [hlen] at HF ⊢
 have HM:=qh (And.intro hm hlen)
 clear hm hlen
 have hmk:=zjk (P:=Tryz.prog) 52 59 _ 4 64 Tryz.underlying52 info_q .i64 .i64 n (by omega) (by omega)
 go_enter Tryz.func44,Tryz.ntmps44
 obtain ⟨g,hg⟩:∃ g,g=w.heap.size:=⟨_,rfl⟩
 have hgw:w.heap.size<=g:=by omega
 have HGW:=qh hgw
 have hf0:Fill NoInt 4 (QsE N D) 59 (w.alloc (.cells (madeCells (Value.agg #[.bool false,.slice none 0 0,.bool false,.slice none 0 0]).cells (n*4)) 59)) w.heap.size n []:=Fill.new _ _ zk_q (by decide)
 have HF0:=qh hf0
 have HB0:=qh (zqa w (.cells (madeCells (Value.agg #[.bool false,.slice none 0 0,.bool false,.slice none 0 0]).cells (n*4)) 59))
 rw [<- hg] at HF0
 clear hf0 hgw
 go_upto_region 3 with fail
 rw [<- hg]
 clear hg hmk
 go_loopg [8] n (fun gk iv wr=>∃ i:Nat,i<=n/\gk=n - i/\iv=.int .i64 (i:Int)/\Hid (Below w.heap.size w wr)/\Hid (Fill NoInt 4 (QsE N D) 59 wr g n (List.replicate i 0)))
 case atStart=>exact ⟨0,by omega,by omega,rfl,HB0,HF0⟩
 case round =>
  clear HB0 HF0
  obtain ⟨i,hi,hgk,rfl,HB,HV⟩:=hrel
  by_cases hil:i<n
  ·have hil':(i:Int)<(n:Int):=by omega
   have him:(i:Int)+1<=1000:=by omega
   go_wp2_with fail
   go_fit (qs_zero (D:=D) _ (uh HG).1)
   rintro e W1 ⟨⟨v0,rfl,hv0⟩,B1⟩
   obtain ⟨x0,rfl⟩:=hv0.sh
   have HV:=qh ((uh HV).later (zxs N D) B1)
   have HB:=qh (bk B1 (uh HB))
   obtain ⟨u0,h0⟩:=(uh HV).cell (o:=i*4) (by omega)
   obtain ⟨u1,h1⟩:=(uh HV).cell (o:=i*4+1) (by omega)
   obtain ⟨u2,h2⟩:=(uh HV).cell (o:=i*4+2) (by omega)
   obtain ⟨u3,h3⟩:=(uh HV).cell (o:=i*4+3) (by omega)
   have f0:=(uh HV).free (i*4)
   have f1:=(uh HV).free (i*4+1)
   have f2:=(uh HV).free (i*4+2)
   have f3:=(uh HV).free (i*4+3)
   have hlt:=(uh HV).lt
   clear B1
   go_wp2
   go_roundg (n - (i+1))
   case measure=>omega
   case rel =>
    have hp:=(uh HV).put4 (u0:=.bool x0.a) (u1:=.slice x0.b x0.c x0.d) (u2:=.bool x0.e) (u3:=.slice x0.f x0.g x0.h) (x:=(0:Int)) (zxs N D) (by simpa using hil) (kd_q _ _ _ _ _ _ _ _) ⟨_,_,_,_,_,_,_,_,rfl,hv0⟩
    rw [List.length_replicate] at hp
    exact ⟨i+1,by omega,rfl,by go_num,qh (zkv (uh HB) (uh HGW) _ _ _ _),qh (by rw [List.replicate_succ'];exact hp.1)⟩
  ·obtain rfl:n=i:=by omega
   clear hil hi hgk
   go_upto_region 7 with fail
   go_loopg [9] m (fun gk iv w2=>∃ i:Nat,i<=m/\gk=m - i/\iv=.int .i64 (i:Int)/\Hid (Below w.heap.size w w2)/\Hid (Fill NoInt 4 (QsE N D) 59 w2 g n (mvs L F (List.replicate n 0) i)))
   case atStart=>exact ⟨0,by omega,by omega,rfl,HB,HV⟩
   case round =>
    clear HB HV
    obtain ⟨i,hi,hgk,rfl,HB,HV⟩:=hrel
    by_cases hil:i<m
    ·obtain ⟨⟨fr,to',cp,co⟩,hx⟩:∃ x,L[i]? = some x:=⟨L[i]'(by have:=uh HM;omega),by simp⟩
     obtain ⟨f,hf⟩:∃ x,F[i]? = some x:=⟨F[i]'(by have:=uh HM;omega),by simp⟩
     have hg:=uh HNB _ (List.mem_of_getElem? hx)
     obtain ⟨q1,q2,q3,q4,q5⟩:0<=fr/\fr<n/\0<=to'/\to'<n/\0<=cp:=by unfold badArc at hg;simp only at hg;omega
     obtain ⟨k,rfl⟩:∃ f:Nat,fr=(f:Int):=⟨fr.toNat,by omega⟩
     obtain ⟨t,rfl⟩:∃ f:Nat,to'=(f:Int):=⟨to'.toNat,by omega⟩
     obtain ⟨b,o,_,_,rfl,⟨c0,c1,_⟩,_⟩:=(uh HR).qarc hx
     obtain ⟨b',o',u,rfl,d,hu⟩:=(uh HF).qnum hf
     simp only at c0 c1
     have HC:=qh (And.intro c0 (And.intro c1 (And.intro d hu)))
     have HX:=qh (And.intro hx hf)
     obtain ⟨a,ha⟩:∃ a,a=mvs L F (List.replicate n 0) i:=⟨_,rfl⟩
     have hal:a.length=n:=by rw [ha,mvs_len,List.length_replicate]
     have hab:=(uh HBD).1 i (by omega)
     rw [<- ha] at HV hab
     have hfb:=(uh HBD).2 f (List.mem_of_getElem? hf)
     have HA:=qh (And.intro ha (And.intro hal (And.intro hab hfb)))
     obtain ⟨s,hs⟩:∃ s,a[k]? = some s:=⟨a[k]'(by omega),by simp⟩
     have hsb:=hab k
     rw [getD_some hs] at hsb
     have HI1:=qh (show Ins T (s+f) by have:=uh HT;unfold Ins;omega)
     obtain ⟨y,hy4,hyq⟩:=(uh HV).q4 hs
     have HY:=qh hyq
     have HS:=qh hs
     clear hx hf hg c0 c1 d hu ha hal hab hfb hs hsb hyq
     have c0:=ck (uh HB) (uh HC).1
     obtain ⟨d0,d1,d2,d3⟩:=(uh HC).2.2.1.keep (uh HB)
     obtain ⟨y0,y1,y2,y3⟩:=hy4
     have hil':(i:Int)<(m:Int):=by omega
     have him:(i:Int)+1<=1000:=by omega
     go_upto_region 9 with fail
     go_cut [] (fun wx=>Hid (Below w.heap.size w wx)/\Hid (Fill NoInt 4 (QsE N D) 59 wx g n (a.set k (s+f))))
     case first =>
      go_region_with (first
       | (go_at_call 40;go_fit (qs_add _ (uh HG).1 (uh HG).2 ((uh HY).later (Below.refl _ _).drew) (((uh HC).2.2.2.later (uh HB)).later (Below.refl _ _).drew) (uh HI1));rintro e W1 ⟨⟨v1,rfl,hv1⟩,B1⟩;obtain ⟨z1,rfl⟩:=hv1.sh;have HB:=qh (bk B1 (uh HB).drew);have HV:=qh (((uh HV).later (zxs N D) (Below.refl _ _).drew).later (zxs N D) B1);have c0:=ck (uh HB) (uh HC).1;obtain ⟨u0,h0⟩:=(uh HV).cell (o:=k*4) (by omega);obtain ⟨u1,h1⟩:=(uh HV).cell (o:=k*4+1) (by omega);obtain ⟨u2,h2⟩:=(uh HV).cell (o:=k*4+2) (by omega);obtain ⟨u3,h3⟩:=(uh HV).cell (o:=k*4+3) (by omega);have f0:=(uh HV).free (k*4);have f1:=(uh HV).free (k*4+1);have f2:=(uh HV).free (k*4+2);have f3:=(uh HV).free (k*4+3);have hlt:=(uh HV).lt;clear B1 d0 d1 d2 d3 y0 y1 y2 y3))
      all_goals
       go_wp2
       go_meet
       exact ⟨qh (zkv (uh HB) (uh HGW) _ _ _ _),qh ((uh HV).set4 (zxs N D) (by have:=uh HA;omega) (kd_q _ _ _ _ _ _ _ _) ⟨_,_,_,_,_,_,_,_,rfl,hv1⟩)⟩
     case rest =>
      obtain ⟨HB,HV⟩:=hcut
      obtain ⟨Z,rfl⟩:∃ X,X=wc:=⟨_,rfl⟩
      clear HY c0 d0 d1 d2 d3 y0 y1 y2 y3
      obtain ⟨a2,ha2⟩:∃ a2,a2=a.set k (s+f):=⟨_,rfl⟩
      rw [<- ha2] at HV
      have hal2:a2.length=n:=by rw [ha2,List.length_set];exact (uh HA).2.1
      obtain ⟨s2,hs2⟩:∃ s,a2[t]? = some s:=⟨a2[t]'(by omega),by simp⟩
      have hsb2:-(602*B)<=s2/\s2<=602*B:=by
       have h1:=getD_set' a k t (s+f) (by have:=uh HA;omega)
       rw [<- ha2,getD_some hs2] at h1
       have h2:=(uh HA).2.2.1 t
       have h3:=(uh HA).2.2.1 k
       have h4:=(uh HA).2.2.2
       rw [getD_some (uh HS)] at h3
       have:=uh HT
       rw [h1]
       split <;> omega
      have HI10:=qh (show Ins T (s2 - f) by have:=uh HT;have:=(uh HA).2.2.2;unfold Ins;omega)
      obtain ⟨y',hy4,hyq⟩:=(uh HV).q4 hs2
      have HY:=qh hyq
      have HA2:=qh (And.intro ha2 (And.intro hal2 hs2))
      clear ha2 hal2 hs2 hsb2 hyq
      have c0:=ck (uh HB) (uh HC).2.1
      obtain ⟨d0,d1,d2,d3⟩:=(uh HC).2.2.1.keep (uh HB)
      obtain ⟨y0,y1,y2,y3⟩:=hy4
      go_upto_region 10 with fail
      have HNX:=qh (show a2.set t (s2 - f)=mvs L F (List.replicate n 0) (i+1) by
       rw [mvs_next (uh HX).1 (uh HX).2,<- (uh HA).1,mv]
       simp only [Int.toNat_natCast]
       rw [getD_some (uh HS),<- (uh HA2).1,getD_some (uh HA2).2.2])
      go_region_with (first
       | (go_at_call 47;go_fit (qs_sub _ (uh HG).1 (uh HG).2 ((uh HY).later (Below.refl _ _).drew) (((uh HC).2.2.2.later (uh HB)).later (Below.refl _ _).drew) (uh HI10));rintro e W1 ⟨⟨v1,rfl,hv1⟩,B1⟩;obtain ⟨z1,rfl⟩:=hv1.sh;have HB:=qh (bk B1 (uh HB).drew);have HV:=qh (((uh HV).later (zxs N D) (Below.refl _ _).drew).later (zxs N D) B1);have c0:=ck (uh HB) (uh HC).2.1;obtain ⟨u0,h0⟩:=(uh HV).cell (o:=t*4) (by omega);obtain ⟨u1,h1⟩:=(uh HV).cell (o:=t*4+1) (by omega);obtain ⟨u2,h2⟩:=(uh HV).cell (o:=t*4+2) (by omega);obtain ⟨u3,h3⟩:=(uh HV).cell (o:=t*4+3) (by omega);have f0:=(uh HV).free (t*4);have f1:=(uh HV).free (t*4+1);have f2:=(uh HV).free (t*4+2);have f3:=(uh HV).free (t*4+3);have hlt:=(uh HV).lt;clear B1 d0 d1 d2 d3 y0 y1 y2 y3))
      all_goals
       go_wp2
       go_roundg (m - (i+1))
       case measure=>omega
       case rel=>exact ⟨i+1,by omega,rfl,by go_num,qh (zkv (uh HB) (uh HGW) _ _ _ _),qh (by rw [<- uh HNX];exact (uh HV).set4 (zxs N D) (by have:=uh HA2;omega) (kd_q _ _ _ _ _ _ _ _) ⟨_,_,_,_,_,_,_,_,rfl,hv1⟩)⟩
    ·obtain rfl:m=i:=by omega
     clear hil hi hgk
     go_wp2
     go_ret
     exact ⟨⟨_,rfl,by have:=(uh HV).rows (by rw [mvs_len,List.length_replicate]) (by unfold maxLen;omega);exact this⟩,uh HB⟩
def hsum (side:List Bool) (S:List Int):Int:=((side.zip S).map fun p=>if p.1=true then p.2 else 0).sum
structure Sh (w:World) (N:Nat) (D:Int) (g gc:Nat) (fa:Option Addr) (fn fc:Nat) (pa:Option Addr) (pn pc:Nat) (x y:F8 Bool) (s:Int) (wr:World):Prop where
 below:Below w.heap.size w wr
 p1:wr.cell? ⟨g,1,none⟩=some (.slice fa fn fc)
 p2:wr.cell? ⟨g,2,none⟩=some (.slice pa pn pc)
 c:Q4 wr g 4 x
 acc:QX N (D*D) wr gc y s
 ne:g<gc
 gw:w.heap.size<=g
theorem Sh.keep {w:World}{N:Nat}{D:Int}{g gc:Nat}{fa:Option Addr}{fn fc:Nat}{pa:Option Addr}{pn pc:Nat}{x y:F8 Bool}{s:Int}{w1 w2:World} (h:Sh w N D g gc fa fn fc pa pn pc x y s w1) (hb:Below w1.heap.size w1 w2):Sh w N D g gc fa fn fc pa pn pc x y s w2:=⟨bk hb h.below,ck hb h.p1,ck hb h.p2,h.c.keep hb,h.acc.keep hb,h.ne,h.gw⟩
theorem QX.beside {N:Nat}{D s:Int}{w:World}{q r:Nat}{x:F8 Bool} (h:QX N D w r x s) (hq:QBox w q) (hne:r≠q) (u0 u1 u2 u3:Value):QX N D ((((w.setCell ⟨q,0,none⟩ u0).setCell ⟨q,1,none⟩ u1).setCell ⟨q,2,none⟩ u2).setCell ⟨q,3,none⟩ u3) r x s :=
 ⟨zxe (o:=0) h.c0 hne _ _ _ _,zxe (o:=0) h.c1 hne _ _ _ _,zxe (o:=0) h.c2 hne _ _ _ _,zxe (o:=0) h.c3 hne _ _ _ _,h.box.aside hne _ _ _ _,h.q.stored hq _ _ _ _⟩
theorem Q4.put {w:World}{b o g p:Nat}{x:F8 Bool} (h:Q4 w b o x) (hne:b≠g) (u0 u1 u2 u3:Value):Q4 ((((w.setCell ⟨g,p,none⟩ u0).setCell ⟨g,p+1,none⟩ u1).setCell ⟨g,p+2,none⟩ u2).setCell ⟨g,p+3,none⟩ u3) b o x:=⟨zxe h.1 hne _ _ _ _,zxe h.2.1 hne _ _ _ _,zxe h.2.2.1 hne _ _ _ _,zxe h.2.2.2 hne _ _ _ _⟩
theorem Sh.beside {w:World}{N:Nat}{D:Int}{g gc q:Nat}{fa:Option Addr}{fn fc:Nat}{pa:Option Addr}{pn pc:Nat}{x y:F8 Bool}{s:Int}{w1:World} (h:Sh w N D g gc fa fn fc pa pn pc x y s w1) (hq:QBox w1 q) (hgt:gc<q) (u0 u1 u2 u3:Value):Sh w N D g gc fa fn fc pa pn pc x y s ((((w1.setCell ⟨q,0,none⟩ u0).setCell ⟨q,1,none⟩ u1).setCell ⟨q,2,none⟩ u2).setCell ⟨q,3,none⟩ u3):=by
 have h1:=h.ne
 have h2:=h.gw
 exact ⟨zqf h.below (by omega) _ _ _ _,zxe (o:=0) h.p1 (by omega) _ _ _ _,zxe (o:=0) h.p2 (by omega) _ _ _ _,h.c.put (p:=0) (by omega) _ _ _ _,h.acc.beside hq (by omega) _ _ _ _,h1,h2⟩
theorem Sh.put {w:World}{N:Nat}{D:Int}{g gc:Nat}{fa:Option Addr}{fn fc:Nat}{pa:Option Addr}{pn pc:Nat}{x y z:F8 Bool}{s t:Int}{w1:World} (h:Sh w N D g gc fa fn fc pa pn pc x y s w1) (hz:Qs N (D*D) w1 (vq z) t):Sh w N D g gc fa fn fc pa pn pc x z t ((((w1.setCell ⟨gc,0,none⟩ (.bool z.a)).setCell ⟨gc,1,none⟩ (.slice z.b z.c z.d)).setCell ⟨gc,2,none⟩ (.bool z.e)).setCell ⟨gc,3,none⟩ (.slice z.f z.g z.h)):=by
 have h1:=h.ne
 have h2:=h.gw
 exact ⟨zqf h.below (by omega) _ _ _ _,zxe (o:=0) h.p1 (by omega) _ _ _ _,zxe (o:=0) h.p2 (by omega) _ _ _ _,h.c.put (p:=0) (by omega) _ _ _ _,QX.put h.acc.box hz,h1,h2⟩
structure ShB (T B:Int) (L:List (Int×Int×Int×Int)) (S F P:List Int):Prop where
 l:∀ x ∈ L,(-B<=x.2.2.1/\x.2.2.1<=B) /\ -B<=x.2.2.2/\x.2.2.2<=B
 s:∀ f ∈ S,-B<=f/\f<=B
 f:∀ f ∈ F,-B<=f/\f<=B
 p:∀ f ∈ P,-B<=f/\f<=B
 b:0<=B
 t:1000*B<T
 u:1000*(B*B)<T
theorem ShB.prod {T B:Int}{L:List (Int×Int×Int×Int)}{S F P:List Int} (h:ShB T B L S F P) {x:Int×Int×Int×Int}{f:Int} (hx:x ∈ L) (hf:f ∈ F):-(B*B)<=x.2.2.2*f/\x.2.2.2*f<=B*B:=mul_abs (h.l x hx).2 (h.f f hf) h.b h.b
theorem ShB.sum {T B:Int}{L:List (Int×Int×Int×Int)}{S F P:List Int} (h:ShB T B L S F P) (hl:L.length<=300) (i:Nat):Ins T (((L.zip F).take i).map fun p=>p.1.2.2.2*p.2).sum :=
 sum_take i (B:=B*B) (fun p hp=>h.prod (List.of_mem_zip hp).1 (List.of_mem_zip hp).2) (Int.mul_nonneg h.b h.b) (by
  have:=h.u
  have h2:((L.zip F).length:Int)*(B*B)<=300*(B*B):=Int.mul_le_mul_of_nonneg_right (by rw [List.length_zip];omega) (Int.mul_nonneg h.b h.b)
  have:=Int.mul_nonneg h.b h.b
  omega)
theorem zke (a n:Int) (w:World):Calls Tryz.prog 55 #[.int .i64 a,.int .i64 n] w fun e w'=>e=.returned (.bool (decide (0<=a/\a<n)))/\w'=w:=by
 go_enter Tryz.func55,Tryz.ntmps55
 by_cases h:0<=a
 ·by_cases h2:a<n
  ·rw [decide_eq_true (show 0<=a/\a<n by omega)]
   go_wp2
   go_ret
   exact ⟨rfl,rfl⟩
  ·rw [decide_eq_false (show ¬ (0<=a/\a<n) by omega)]
   go_wp2
   go_ret
   exact ⟨rfl,rfl⟩
 ·rw [decide_eq_false (show ¬ (0<=a/\a<n) by omega)]
  go_wp2
  go_ret
  exact ⟨rfl,rfl⟩
theorem arc_new (w:World) (f t:Int) (y z:F8 Int):let w1:=w.alloc (.cells #[.int .i64 f,.int .i64 t,.int .i64 y.a,.slice y.b y.c y.d,.int .i64 y.e,.slice y.f y.g y.h,.int .i64 z.a,.slice z.b z.c z.d,.int .i64 z.e,.slice z.f z.g z.h] 93)
 w1.cell? ⟨w.heap.size,0,none⟩=some (.int .i64 f)/\w1.cell? ⟨w.heap.size,1,none⟩=some (.int .i64 t)/\R4 w1 w.heap.size 2 y/\R4 w1 w.heap.size 6 z:=by
 intro w1
 have h:∀ k u,(#[Value.int .i64 f,.int .i64 t,.int .i64 y.a,.slice y.b y.c y.d,.int .i64 y.e,.slice y.f y.g y.h,.int .i64 z.a,.slice z.b z.c z.d,.int .i64 z.e,.slice z.f z.g z.h])[k]? = some u->w1.cell? ⟨w.heap.size,k,none⟩=some u:=fun k u hu=>by show (World.alloc _ _).cell? _=_;rw [zqe rfl];exact hu
 exact ⟨h 0 _ rfl,h 1 _ rfl,⟨h 2 _ rfl,h 3 _ rfl,h 4 _ rfl,h 5 _ rfl⟩,⟨h 6 _ rfl,h 7 _ rfl,h 8 _ rfl,h 9 _ rfl⟩⟩
theorem nvalid_any {A:Nat->Addr}{K:Nat}{D n:Int}{v:Value}{L:List (Int×Int×Int×Int)} (w:World) (hS:Sents w A) (D0:0<D) (h:Rows 10 (ArE (RsE K D)) w v L) :
 Calls Tryz.prog 54 #[.int .i64 n,v] w fun e w'=>e=.returned (errV A (netV n L))/\Below w.heap.size w w':=by
 obtain ⟨sa,sc,rfl⟩:=h.shape
 have hsm:=h.small
 unfold maxLen at hsm
 have HR:=qh h
 have HD:=qh D0
 have HS:=qh hS
 have e2:=hS.h1
 have e4:=hS.h3
 clear h D0 hS
 go_enter Tryz.func54,Tryz.ntmps54
 by_cases h1:n<1
 ·go_wp2
  go_ret
  exact ⟨by rw [zjm (Or.inl h1)];rfl,Below.refl _ _⟩
 by_cases h2:60<n
 ·go_wp2
  go_ret
  exact ⟨by rw [zjm (Or.inr (Or.inl h2))];rfl,Below.refl _ _⟩
 by_cases h3:(300:Int)<(L.length:Int)
 ·go_wp2
  go_ret
  exact ⟨by rw [zjm (Or.inr (Or.inr (by omega)))];rfl,Below.refl _ _⟩
 have HN:=qh (show ¬ (n<1\/60<n\/300<L.length) by omega)
 clear e2 e4
 go_wp2_with fail
 go_loopg [21] L.length (fun gk iv wr=>∃ i:Nat,i<=L.length/\gk=L.length - i/\iv=.int .i64 (i:Int)/\Hid (∀ y ∈ L.take i,¬ badArc n y)/\Hid (Below w.heap.size w wr))
 case atStart=>exact ⟨0,by omega,by omega,rfl,qh (by simp),qh (Below.refl _ _)⟩
 case round =>
  obtain ⟨i,hi,hgk,rfl,HA,HB⟩:=hrel
  by_cases hil:i<L.length
  ·obtain ⟨⟨fr,to',cp,co⟩,hx⟩:∃ x,L[i]? = some x:=⟨L[i],by simp [hil]⟩
   obtain ⟨b,o,y,z,rfl,⟨c0,c1,c2,c3⟩,⟨hy,_⟩,_⟩:=(uh HR).rarc hx
   simp only at c0 c1 hy
   have c0:=ck (uh HB) c0
   have c1:=ck (uh HB) c1
   obtain ⟨d0,d1,d2,d3⟩:=c2.keep (uh HB)
   obtain ⟨f0,f1,f2,f3⟩:=c3.keep (uh HB)
   have HY:=qh (hy.later (uh HB))
   have HX:=qh hx
   have hil':(i:Int)<(L.length:Int):=by omega
   have him:(i:Int)+1<=1000:=by omega
   obtain ⟨V,hV⟩:∃ V,V=wr.alloc (.cells #[.int .i64 fr,.int .i64 to',.int .i64 y.a,.slice y.b y.c y.d,.int .i64 y.e,.slice y.f y.g y.h,.int .i64 z.a,.slice z.b z.c z.d,.int .i64 z.e,.slice z.f z.g z.h] 93):=⟨_,rfl⟩
   obtain ⟨q,hq⟩:∃ q,q=wr.heap.size:=⟨_,rfl⟩
   have hn:=arc_new wr fr to' y z
   have kn:=zqa wr (.cells #[.int .i64 fr,.int .i64 to',.int .i64 y.a,.slice y.b y.c y.d,.int .i64 y.e,.slice y.f y.g y.h,.int .i64 z.a,.slice z.b z.c z.d,.int .i64 z.e,.slice z.f z.g z.h] 93)
   simp only [<- hV,<- hq] at hn
   rw [<- hV] at kn
   have BB:=qh (bk kn (uh HB))
   have HY:=qh ((uh HY).later kn)
   clear hx hy c2 c3 kn
   go_upto_region 6 with fail
   rw [<- hV,<- hq]
   obtain ⟨m0,m1,⟨m2,m3,m4,m5⟩,_⟩:=hn
   clear hV hq c0 c1 d0 d1 d2 d3 f0 f1 f2 f3
   have HM:=qh (List.mem_of_getElem? (uh HX))
   have e4:=((uh HS).later (uh BB)).h3
   by_cases g1:0<=fr/\fr<n
   rotate_left
   ·have FIN:=qh (netV_bad (n:=n) (uh HN) (uh HM) (by unfold badArc;simp only;omega))
    go_wp2_with fail
    go_fit (zke _ _ _)
    rintro e W1 ⟨rfl,rfl⟩
    rw [decide_eq_false g1]
    go_wp2
    go_ret
    exact ⟨by rw [uh FIN];rfl,uh BB⟩
   by_cases g2:0<=to'/\to'<n
   rotate_left
   ·have FIN:=qh (netV_bad (n:=n) (uh HN) (uh HM) (by unfold badArc;simp only;omega))
    go_wp2_with fail
    go_fit (zke _ _ _)
    rintro e W1 ⟨rfl,rfl⟩
    rw [decide_eq_true g1]
    go_wp2_with fail
    go_fit (zke _ _ _)
    rintro e W1 ⟨rfl,rfl⟩
    rw [decide_eq_false g2]
    go_wp2
    go_ret
    exact ⟨by rw [uh FIN];rfl,uh BB⟩
   go_wp2_with fail
   go_fit (zke _ _ _)
   rintro e W1 ⟨rfl,rfl⟩
   rw [decide_eq_true g1]
   go_wp2_with fail
   go_fit (zke _ _ _)
   rintro e W1 ⟨rfl,rfl⟩
   rw [decide_eq_true g2]
   go_wp2_with fail
   go_fit (rs_sign _ (uh HD) (uh HY))
   rintro e W1 ⟨rfl,B1⟩
   have BB:=qh (bk B1 (uh BB))
   have e4:=((uh HS).later (uh BB)).h3
   clear m0 m1 m2 m3 m4 m5 B1
   obtain ⟨sg,hsg⟩:∃ s,s=sgn cp:=⟨_,rfl⟩
   have hs:=@sgn_lt cp
   rw [<- hsg] at hs ⊢
   by_cases g3:sg<0
   ·have FIN:=qh (netV_bad (n:=n) (uh HN) (uh HM) (by unfold badArc;simp only;omega))
    clear hs hsg
    go_wp2
    go_ret
    exact ⟨by rw [uh FIN];rfl,uh BB⟩
   ·have HG:=qh (show ¬ badArc n (fr,to',cp,co) by unfold badArc;simp only;omega)
    clear hs hsg
    go_wp2
    go_roundg (L.length - (i+1))
    case measure=>omega
    case rel=>exact ⟨i+1,by omega,rfl,by go_num,qh (all_take (uh HA) (uh HX) (uh HG)),BB⟩
  ·obtain rfl:i=L.length:=by omega
   clear hil hi hgk
   go_wp2
   go_ret
   refine ⟨?_,uh HB⟩
   have:=uh HA
   rw [List.take_length] at this
   rw [netV_good (uh HN) this]
   rfl
theorem netV_codes (n:Int) (L:List (Int×Int×Int×Int)):netV n L=0\/netV n L=2\/netV n L=4:=by
 unfold netV
 split
 ·exact Or.inr (Or.inl rfl)
 ·split
  ·exact Or.inr (Or.inr rfl)
  ·exact Or.inl rfl
theorem RsE.kinds {N:Nat}{D:Int} (w:World) (cs:List Value) (x:Int) (h:RsE N D w cs x):∀ u ∈ cs,NoWord u:=by
 obtain ⟨x1,x2,x3,x4,x5,x6,x7,x8,rfl,_⟩:=h
 exact kd_r _ _ _ _ _ _ _ _
theorem rse_stays (K:Nat) (D:Int):Stays NoWord 39 (RsE K D):=RsE.stays K D _ nww
structure PlnR (w:World) (pg:Nat) (nn:Bool) (fa:Option Addr) (fn fc:Nat) (pa:Option Addr) (pn pc:Nat) (sa:Option Addr) (sn sc:Nat) (x:F8 Int):Prop where
 c0:w.cell? ⟨pg,0,none⟩=some (.bool nn)
 c1:w.cell? ⟨pg,1,none⟩=some (.slice fa fn fc)
 c2:w.cell? ⟨pg,2,none⟩=some (.slice pa pn pc)
 c3:w.cell? ⟨pg,3,none⟩=some (.slice sa sn sc)
 c4:R4 w pg 4 x
theorem PlnR.keep {w w1:World}{pg:Nat}{nn:Bool}{fa:Option Addr}{fn fc:Nat}{pa:Option Addr}{pn pc:Nat}{sa:Option Addr}{sn sc:Nat}{x:F8 Int} (h:PlnR w pg nn fa fn fc pa pn pc sa sn sc x) (hb:Below w.heap.size w w1):PlnR w1 pg nn fa fn fc pa pn pc sa sn sc x:=⟨ck hb h.c0,ck hb h.c1,ck hb h.c2,ck hb h.c3,h.c4.keep hb⟩
end Go.Proofs.YtkdobjmhammhbaaGreatDoor
