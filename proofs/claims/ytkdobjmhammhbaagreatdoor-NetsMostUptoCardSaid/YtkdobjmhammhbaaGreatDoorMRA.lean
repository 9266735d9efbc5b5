import Derived.Test.YtkdobjmhammhbaaGreatDoorMH
namespace Go.Proofs.YtkdobjmhammhbaaGreatDoor
set_option maxHeartbeats 1000000
set_option maxRecDepth 8000
open Go.RowKit
def v4:List Int->Int
 | []=>0
 | d :: l=>d+10000*v4 l
def P4 (l:List Int):Prop:=∀ d ∈ l,0<=d/\d<10000
theorem P4.nth {l:List Int} (h:P4 l) (k:Nat):0<=nth l k/\nth l k<10000:=by
 unfold Proofs.YtkdobjmhammhbaaGreatDoor.nth
 cases e:l[k]? with
 | none=>simp
 | some d=>exact h d (List.mem_of_getElem? e)
theorem zjb (a b:List Int):v4 (a++b)=v4 a+10000 ^ a.length*v4 b:=by
 induction a with
 | nil=>simp [v4]
 | cons d l ih=>simp only [List.cons_append,v4,ih,List.length_cons,Int.pow_succ,Int.mul_add];rw [Int.mul_comm (10000 ^ l.length) 10000,Int.mul_assoc];omega
theorem zqr {l:List Int} (h:P4 l):0<=v4 l:=by
 induction l with
 | nil=>simp [v4]
 | cons d l ih =>
  have h1:=h d (List.mem_cons_self ..)
  have h2:=ih (fun x hx=>h x (List.mem_cons_of_mem _ hx))
  simp only [v4];omega
theorem v4_drop {l:List Int}{k:Nat} (hk:k<l.length):v4 (l.drop k)=nth l k+10000*v4 (l.drop (k+1)):=by
 rw [List.drop_eq_getElem_cons hk]
 simp [v4,nth,hk]
theorem v4_take {l:List Int}{m:Nat} (hz:∀ k,m<=k->nth l k=0):v4 (l.take m)=v4 l:=by
 induction l generalizing m with
 | nil=>simp
 | cons d l ih =>
  cases m with
  | zero =>
   have h0:d=0:=by have:=hz 0 (Nat.le_refl _);simpa [nth] using this
   have h1:=ih (m:=0) (fun k _=>by have:=hz (k+1) (Nat.zero_le _);simpa [nth] using this)
   simp only [List.take_zero,v4] at h1 ⊢
   omega
  | succ m =>
   have h1:=ih (m:=m) (fun k hk=>by have:=hz (k+1) (by omega);simpa [nth] using this)
   simp only [List.take_succ_cons,v4,h1]
theorem v4_pos {l:List Int} (h:P4 l) (t:Trim l) (hl:l≠[]):0<v4 l:=by
 have e:l=l.take (l.length - 1)++[nth l (l.length - 1)]:=by
  have hp:0<l.length:=List.length_pos_iff.2 hl
  have:=List.take_append_getElem (l:=l) (i:=l.length - 1) (by omega)
  rw [show l.length - 1+1=l.length by omega,List.take_length] at this
  unfold nth
  rw [List.getElem?_eq_getElem (by omega)]
  exact this.symm
 have hn:=h.nth (l.length - 1)
 have ht:=t.resolve_left hl
 have hq:P4 (l.take (l.length - 1)):=fun d hd=>h d (List.mem_of_mem_take hd)
 rw [e,zjb]
 have h1:=zqr hq
 have h2:(0:Int)<10000 ^ (l.take (l.length - 1)).length:=Int.pow_pos (by decide)
 have h3:0<nth l (l.length - 1):=by omega
 have h4:=Int.mul_pos h2 h3
 simp only [v4,Int.mul_zero,Int.add_zero]
 omega
def dg (n:Int):UInt8:=UInt8.ofNat (48+n.toNat)
theorem dg_toNat {n:Int} (h0:0<=n) (h1:n<=9):((dg n).toNat:Int)=48+n:=by
 unfold dg
 rw [UInt8.toNat_ofNat_of_lt' (show 48+n.toNat<256 by omega)]
 omega
theorem dg_nat {n:Int} (h0:0<=n) (h1:n<=9):48<=(dg n).toNat/\(dg n).toNat<=57:=by
 have:=dg_toNat h0 h1;omega
def four (x:Int):List UInt8:=[dg (x / 1000),dg (x / 100 % 10),dg (x / 10 % 10),dg (x % 10)]
theorem four_dig {x:Int} (h0:0<=x) (h1:x<10000):Dig10 (four x):=by
 intro c hc
 simp only [four,List.mem_cons,List.mem_nil_iff,or_false] at hc
 rcases hc with rfl | rfl | rfl | rfl <;> exact dg_nat (by omega) (by omega)
theorem four_dec {x:Int} (h0:0<=x) (h1:x<10000):dec (four x)=x:=by
 simp only [four,dec,List.foldl]
 rw [dg_toNat (n:=x / 1000) (by omega) (by omega),dg_toNat (n:=x / 100 % 10) (by omega) (by omega),dg_toNat (n:=x / 10 % 10) (by omega) (by omega),dg_toNat (n:=x % 10) (by omega) (by omega)]
 omega
theorem dec_unique':∀ (n:Nat) (l:List UInt8),l.length=n->Dig10 l->l≠[]->l.head? ≠ some 48->Lib.decDigits (dec l).toNat=l:=by
 intro n
 induction n with
 | zero=>intro l hl _ hne _;exact absurd (List.eq_nil_of_length_eq_zero hl) hne
 | succ n ih =>
  intro l hl h hne h0
  have e:l=l.take n++[l[n]]:=by
   rw [<- List.take_succ_eq_append_getElem (by omega),List.take_of_length_le (by omega)]
  have hc:=h l[n] (List.getElem_mem _)
  have hd':Dig10 (l.take n):=fun d hd=>h d (List.mem_of_mem_take hd)
  obtain ⟨c,hcc⟩:∃ c,l[n]=c:=⟨_,rfl⟩
  rw [hcc] at hc e
  by_cases hn:n=0
  ·subst hn
   have e1:l=[c]:=by simpa using e
   have hc0:c≠48:=by
    intro e2;apply h0;rw [e1,e2];rfl
   have hc1:c.toNat≠48:=fun e3=>hc0 (UInt8.toNat.inj (by simpa using e3))
   rw [e1]
   have hv:(dec [c]).toNat=c.toNat - 48:=by simp [dec];omega
   rw [hv,Lib.decDigits,dif_pos (by omega)]
   rw [show 48+(c.toNat - 48)=c.toNat by omega,UInt8.ofNat_toNat]
  ·have hl':(l.take n).length=n:=by simp;omega
   have hne':l.take n≠[]:=by
    intro e2;rw [e2] at hl';simp at hl';omega
   have hh:(l.take n).head? = l.head? := by
    cases l with
    | nil=>simp at hl
    | cons a l=>cases n with
     | zero=>exact absurd rfl hn
     | succ n=>simp
   have ih':=ih (l.take n) hl' hd' hne' (by rw [hh];exact h0)
   have hb:=zjo hd'
   have hp:0<dec (l.take n):=by
    rcases Int.lt_or_eq_of_le hb.1 with hlt | heq
    ·exact hlt
    ·rw [<- heq] at ih'
     have:l.take n=[48]:=by rw [<- ih',Int.toNat_zero,Lib.decDigits,dif_pos (by decide)];rfl
     exfalso;apply h0;rw [<- hh,this];rfl
   rw [e,dec_snoc]
   have hv:(dec (l.take n)*10+((c.toNat:Int) - 48)).toNat=(dec (l.take n)).toNat*10+(c.toNat - 48):=by omega
   rw [hv,Lib.decDigits,dif_neg (by omega)]
   rw [show ((dec (l.take n)).toNat*10+(c.toNat - 48)) / 10=(dec (l.take n)).toNat by omega,show ((dec (l.take n)).toNat*10+(c.toNat - 48)) % 10=c.toNat - 48 by omega,ih',show 48+(c.toNat - 48)=c.toNat by omega,UInt8.ofNat_toNat]
theorem dec_unique {l:List UInt8} (h:Dig10 l) (hne:l≠[]) (h0:l.head? ≠ some 48):Lib.decDigits (dec l).toNat=l:=dec_unique' _ l rfl h hne h0
def RowI (w:World) (b:Nat) (l:List Int):Prop:=∀ k,k<l.length->w.cell? ⟨b,k,none⟩=some (.int .i64 (nth l k))
theorem rtrim_any (b cap:Nat) (l:List Int) (w:World) (hr:RowI w b l) (hl:l.length<=cap) (hcap:cap<=9223372036854775807) :
 Calls Tryz.prog 148 #[.slice (some ⟨b,0,none⟩) l.length cap] w fun e w'=>(∃ m,m<=l.length/\e=.returned (.slice (some ⟨b,0,none⟩) m cap)/\(∀ k,m<=k->nth l k=0)/\(m=0\/nth l (m - 1)≠0))/\w'=w:=by
 go_enter Tryz.func148,Tryz.ntmps148
 go_wp2_with fail
 go_loop [3] (fun v=>∃ m:Nat,m<=l.length/\v=.int .i64 m/\Hid (∀ k,m<=k->nth l k=0)) (fun v=>(intOf v).toNat)
 case atStart=>exact ⟨l.length,Nat.le_refl _,rfl,fun k hk=>zky hk⟩
 case round =>
  obtain ⟨m,hm,rfl,HZ⟩:=hrel
  by_cases hm0:m=0
  ·subst hm0
   go_wp2
   go_ret
   exact ⟨⟨0,Nat.zero_le _,rfl,uh HZ,Or.inl rfl⟩,rfl⟩
  ·have hc:=hr (m - 1) (by omega)
   have hmi:(0:Int)<m:=by omega
   have hmt:((m:Int) - 1).toNat=m - 1:=by omega
   have hmc:((m - 1:Nat):Int)=(m:Int) - 1:=by omega
   by_cases hx:nth l (m - 1)=0
   ·have HX:=qh hx
    rw [hx] at hc
    clear hx
    go_wp2
    go_round
    case rel =>
     refine ⟨m - 1,by omega,by go_num,fun k hk => ?_⟩
     by_cases e:k=m - 1
     ·rw [e];exact uh HX
     ·exact uh HZ k (by omega)
    case measure=>simp [intOf];omega
   ·go_wp2
    go_ret
    exact ⟨⟨m,hm,rfl,uh HZ,Or.inr hx⟩,rfl⟩
theorem rtrim_nil (w:World):Calls Tryz.prog 148 #[.slice none 0 0] w fun e w'=>e=.returned (.slice none 0 0)/\w'=w:=by
 go_enter Tryz.func148,Tryz.ntmps148
 go_wp2_with fail
 refine wp_loop_rounds 1 ?_
 rw [rounds_succ]
 go_wp2
 go_ret
 exact ⟨rfl,rfl⟩
def Sl (w:World) (sl:Value) (D:List Int):Prop :=
 (sl=.slice none 0 0/\D=[])\/∃ b cap,sl=.slice (some ⟨b,0,none⟩) D.length cap/\D.length<=cap/\cap<=maxLen/\RowI w b D/\∃ cur,w.heap[b]? = some (.cells cur 3 (0,0))
def Nr (N:Nat) (w:World) (v:Value) (z:Int):Prop :=
 ∃ neg sl D,v=.agg #[.bool neg,sl]/\Sl w sl D/\P4 D/\Trim D/\D.length<=N/\(D=[]->neg=false)/\z=if neg then - v4 D else v4 D
theorem RowI.lt {w:World}{b:Nat}{l:List Int} (h:RowI w b l) (hl:l≠[]):b<w.heap.size :=
 World.block_lt_of_cell? w _ (h 0 (List.length_pos_iff.2 hl))
theorem RowI.later {w w':World}{b:Nat}{l:List Int} (h:RowI w b l) (hb:Below w.heap.size w w'):RowI w' b l:=fun k hk=>ck hb (h k hk)
theorem Sl.later {w w':World}{sl:Value}{D:List Int} (h:Sl w sl D) (hb:Below w.heap.size w w'):Sl w' sl D:=by
 rcases h with h | ⟨b,cap,h1,h2,h3,h4,cur,h5⟩
 ·exact Or.inl h
 ·exact Or.inr ⟨b,cap,h1,h2,h3,h4.later hb,cur,by rw [hb.block b (Array.getElem?_eq_some_iff.1 h5).1];exact h5⟩
theorem Nr.later {N:Nat}{w w':World}{v:Value}{z:Int} (h:Nr N w v z) (hb:Below w.heap.size w w'):Nr N w' v z:=by
 obtain ⟨neg,sl,D,h1,h2,h3⟩:=h
 exact ⟨neg,sl,D,h1,h2.later hb,h3⟩
def NBox (w:World) (r:Nat):Prop:=∃ x a n c,w.heap[r]? = some (.cells #[.bool x,.slice a n c] 57 (0,0))
theorem NBox.cells {w:World}{r:Nat} (h:NBox w r):(∃ x,w.cell? ⟨r,0,none⟩=some (.bool x))/\(∃ a n c,w.cell? ⟨r,1,none⟩=some (.slice a n c))/\(∀ o,w.frozen? ⟨r,o,none⟩=false):=by
 obtain ⟨x,a,n,c,h⟩:=h
 exact ⟨⟨x,by simp [World.cell?,h]⟩,⟨a,n,c,by simp [World.cell?,h]⟩,fun o=>by simp [World.frozen?,h]⟩
theorem RowI.notBox {w:World}{b r:Nat}{l:List Int} (hr:RowI w b l) (hl:l≠[]) (h:NBox w r):b≠r:=by
 intro e
 subst e
 obtain ⟨x,a,n,c,h⟩:=h
 have:=hr 0 (List.length_pos_iff.2 hl)
 simp [World.cell?,h] at this
theorem RowI.stored {w:World}{b r:Nat}{l:List Int} (hr:RowI w b l) (h:l≠[]->b≠r) (u u':Value):RowI ((w.setCell ⟨r,0,none⟩ u).setCell ⟨r,1,none⟩ u') b l:=by
 intro k hk
 have hne:=h (List.length_pos_iff.1 (by omega))
 rw [zqb _ _ _ _ _ _ (by omega),zqb _ _ _ _ _ _ (by omega)]
 exact hr k hk
theorem NBox.stored {w:World}{r:Nat} (h:NBox w r) (u u':Value):((w.setCell ⟨r,0,none⟩ u).setCell ⟨r,1,none⟩ u').cell? ⟨r,0,none⟩=some u/\((w.setCell ⟨r,0,none⟩ u).setCell ⟨r,1,none⟩ u').cell? ⟨r,1,none⟩=some u':=by
 obtain ⟨⟨x,h0⟩,⟨a,n,c,h1⟩,_⟩:=h.cells
 constructor
 ·rw [zqb _ _ _ _ _ _ (by omega)];exact zqd h0
 ·exact zqd (u:=.slice a n c) (by rw [zqb _ _ _ _ _ _ (by omega)];exact h1)
theorem zji (w:World) (x:Bool) (a:Option Addr) (n c:Nat):NBox (w.alloc (.cells #[.bool x,.slice a n c] 57)) w.heap.size:=⟨_,_,_,_,heap_alloc_new w _⟩
theorem NBox.later {w w':World}{r:Nat} (h:NBox w r) (hb:Below w.heap.size w w'):NBox w' r:=by
 obtain ⟨x,a,n,c,h⟩:=h
 exact ⟨x,a,n,c,by rw [hb.block r (Array.getElem?_eq_some_iff.1 h).1];exact h⟩
def GB (w:World) (r:Nat) (T:TypeId):Prop:=∃ x y,w.heap[r]? = some (.cells #[x,y] T (0,0))
theorem GB.cells {w:World}{r:Nat}{T:TypeId} (h:GB w r T):(∃ x,w.cell? ⟨r,0,none⟩=some x)/\(∃ y,w.cell? ⟨r,1,none⟩=some y)/\(∀ o,w.frozen? ⟨r,o,none⟩=false):=by
 obtain ⟨x,y,h⟩:=h
 exact ⟨⟨x,by simp [World.cell?,h]⟩,⟨y,by simp [World.cell?,h]⟩,fun o=>by simp [World.frozen?,h]⟩
theorem GB.later {w w':World}{r:Nat}{T:TypeId} (h:GB w r T) (hb:Below w.heap.size w w'):GB w' r T:=by
 obtain ⟨x,y,h⟩:=h
 exact ⟨x,y,by rw [hb.block r (Array.getElem?_eq_some_iff.1 h).1];exact h⟩
theorem gb_new (w:World) (x y:Value) (T:TypeId):GB (w.alloc (.cells #[x,y] T)) w.heap.size T:=⟨_,_,heap_alloc_new w _⟩
theorem NBox.gb {w:World}{r:Nat} (h:NBox w r):GB w r 57:=by
 obtain ⟨x,a,n,c,h⟩:=h
 exact ⟨_,_,h⟩
theorem Sl.gb {w:World}{sl:Value}{D:List Int}{r:Nat}{T:TypeId} (h:Sl w sl D) (hb:GB w r T) (hT:T≠3) (u u':Value):Sl ((w.setCell ⟨r,0,none⟩ u).setCell ⟨r,1,none⟩ u') sl D:=by
 rcases h with h | ⟨b,cap,h1,h2,h3,h4,cur,h5⟩
 ·exact Or.inl h
 ·have hne:b≠r:=by
   rintro rfl
   obtain ⟨x,y,h⟩:=hb
   rw [h5] at h
   simp at h
   exact hT h.2.symm
  exact Or.inr ⟨b,cap,h1,h2,h3,h4.stored (fun _=>hne) _ _,cur,by rw [Below.heap_setCell _ _ _ _ hne,Below.heap_setCell _ _ _ _ hne];exact h5⟩
theorem Sl.stored {w:World}{sl:Value}{D:List Int}{r:Nat} (h:Sl w sl D) (hb:NBox w r) (u u':Value):Sl ((w.setCell ⟨r,0,none⟩ u).setCell ⟨r,1,none⟩ u') sl D:=h.gb hb.gb (by decide) u u'
theorem trim_take {l:List Int}{m:Nat} (hm:m<=l.length) (h:m=0\/nth l (m - 1)≠0):Trim (l.take m):=by
 rcases h with rfl | h
 ·exact Or.inl (by simp)
 ·by_cases hm0:m=0
  ·subst hm0;exact Or.inl (by simp)
  ·refine Or.inr ?_
   rw [List.length_take,Nat.min_eq_left hm]
   unfold nth at h ⊢
   rw [List.getElem?_take,if_pos (by omega)];exact h
theorem made_some (neg:Bool) (b cap:Nat) (l:List Int) (w:World) (hr:RowI w b l) (hl:l.length<=cap) (hcap:cap<=9223372036854775807) :
 Calls Tryz.prog 84 #[.bool neg,.slice (some ⟨b,0,none⟩) l.length cap] w fun e w'=>(∃ m,m<=l.length/\e=.returned (.agg #[.bool (neg && decide (0<m)),.slice (some ⟨b,0,none⟩) m cap])/\(∀ k,m<=k->nth l k=0)/\(m=0\/nth l (m - 1)≠0))/\Below w.heap.size w w':=by
 have hal:=zqa w (.cells #[.bool false,.slice none 0 0] 57)
 have hbx:=zji w false none 0 0
 go_enter Tryz.func84,Tryz.ntmps84
 go_wp2_with fail
 go_fit (rtrim_any b cap l _ (hr.later hal) hl hcap)
 rintro e W1 ⟨⟨m,hm,rfl,hz,ht⟩,rfl⟩
 have HZ:=qh hz
 have HT:=qh ht
 obtain ⟨⟨x0,g0⟩,⟨a0,n0,c0,g1⟩,gf⟩:=hbx.cells
 clear hz ht
 cases neg
 ·go_wp2
  exact bodyPost_ret (v:=.agg #[.bool false,.slice (some ⟨b,0,none⟩) m cap]) (by simp [results,Tryz.results84,go_sem]) rfl ⟨⟨m,hm,rfl,uh HZ,uh HT⟩,zqa w _⟩
 ·by_cases hm0:0<m
  ·have hmi:(0:Int)<m:=by omega
   go_wp2
   exact bodyPost_ret (v:=.agg #[.bool true,.slice (some ⟨b,0,none⟩) m cap]) (by simp [results,Tryz.results84,go_sem]) rfl ⟨⟨m,hm,by simp [hm0],uh HZ,uh HT⟩,zqa w _⟩
  ·have hmi:¬ (0:Int)<m:=by omega
   go_wp2
   exact bodyPost_ret (v:=.agg #[.bool false,.slice (some ⟨b,0,none⟩) m cap]) (by simp [results,Tryz.results84,go_sem]) rfl ⟨⟨m,hm,by simp [hm0],uh HZ,uh HT⟩,zqa w _⟩
theorem made_nil (neg:Bool) (w:World) :
 Calls Tryz.prog 84 #[.bool neg,.slice none 0 0] w fun e w'=>e=.returned (.agg #[.bool false,.slice none 0 0])/\Below w.heap.size w w':=by
 have hal:=zqa w (.cells #[.bool false,.slice none 0 0] 57)
 have hbx:=zji w false none 0 0
 go_enter Tryz.func84,Tryz.ntmps84
 go_wp2_with fail
 go_fit (rtrim_nil _)
 rintro e W1 ⟨rfl,rfl⟩
 obtain ⟨⟨x0,g0⟩,⟨a0,n0,c0,g1⟩,gf⟩:=hbx.cells
 cases neg
 ·go_wp2
  exact bodyPost_ret (v:=.agg #[.bool false,.slice none 0 0]) (by simp [results,Tryz.results84,go_sem]) rfl ⟨rfl,zqa w _⟩
 ·go_wp2
  exact bodyPost_ret (v:=.agg #[.bool false,.slice none 0 0]) (by simp [results,Tryz.results84,go_sem]) rfl ⟨rfl,zqa w _⟩
theorem zks (neg:Bool) (sl:Value) (D:List Int) (N:Nat) (w:World) (hs:Sl w sl D) (hD:P4 D) (hN:D.length<=N) :
 Calls Tryz.prog 84 #[.bool neg,sl] w fun e w'=>(∃ v,e=.returned v/\Nr N w' v (if neg then - v4 D else v4 D))/\Below w.heap.size w w':=by
 rcases hs with ⟨rfl,rfl⟩ | ⟨b,cap,rfl,h2,h3,h4,cur,h5⟩
 ·refine (made_nil neg w).mono ?_
  rintro e w' ⟨rfl,hb⟩
  exact ⟨⟨_,rfl,false,_,[],rfl,Or.inl ⟨rfl,rfl⟩,hD,Or.inl rfl,hN,fun _=>rfl,by cases neg <;> simp [v4]⟩,hb⟩
 ·refine (made_some neg b cap D w h4 h2 (by unfold maxLen at h3;omega)).mono ?_
  rintro e w' ⟨⟨m,hm,rfl,hz,ht⟩,hb⟩
  refine ⟨⟨_,rfl,_,_,D.take m,rfl,Or.inr ⟨b,cap,by rw [List.length_take,Nat.min_eq_left hm],by rw [List.length_take];omega,h3,fun k hk => ?_,cur,by rw [hb.block b (Array.getElem?_eq_some_iff.1 h5).1];exact h5⟩,fun d hd=>hD d (List.mem_of_mem_take hd),trim_take hm ht,by rw [List.length_take];omega,fun he => ?_,?_⟩,hb⟩
  ·rw [List.length_take] at hk
   rw [(h4.later hb) k (by omega)]
   unfold nth
   rw [List.getElem?_take,if_pos (by omega)]
  ·have:m=0:=by
    have h0:(D.take m).length=0:=by rw [he];rfl
    rw [List.length_take,Nat.min_eq_left hm] at h0;exact h0
   simp [this]
  ·rw [v4_take hz]
   by_cases hm0:0<m
   ·simp [hm0]
   ·have:m=0:=by omega
    have hv:v4 D=0:=by rw [<- v4_take hz,this];simp [v4]
    simp [this,hv]
theorem info_int:(Tryz.prog.info? 3).map (fun i=>(i.zero,i.size,i.bytes))=some (some (.int .i64 0),1,8):=by kernel_rfl
theorem sl_own {w:World}{base:Nat}{v:Value}{D:List Int} (h:w.ownsRow base 3 1 v D.length (D.map (Value.int .i64))):Sl w v D:=by
 obtain ⟨h0,⟨rfl,h2⟩ | ⟨g,cap,cur,rfl,h3,h4,h5,h6,h7,h8⟩⟩:=h
 ·exact Or.inl ⟨rfl,List.eq_nil_of_length_eq_zero h2⟩
 ·refine Or.inr ⟨g,cap,rfl,h5,h6,fun k hk => ?_,cur,h4⟩
  have e:cur[k]? = (cur.toList.take (D.length*1))[k]? := by
   rw [List.getElem?_take,if_pos (by omega)];simp
  simp only [World.cell?,h4]
  rw [e,h8]
  simp [nth,hk]
theorem zqz {w:World}{base:Nat}{v:Value}{n:Nat}{xs:List Value} (h:w.ownsRow base 3 1 v n xs):∃ a k c,v=.slice a k c:=by
 obtain ⟨_,⟨rfl,_⟩ | ⟨g,cap,cur,rfl,_⟩⟩:=h
 ·exact ⟨_,_,_,rfl⟩
 ·exact ⟨_,_,_,rfl⟩
theorem nth_snoc (l:List Int) (x:Int):nth (l++[x]) l.length=x:=by simp [nth]
theorem grow_keep {w wr w1:World}{v:Value}{o:Obj}{n:Nat}{xs:List Value} (hb:Below w.heap.size w wr) (hbx:NBox wr w.heap.size) (hown:wr.ownsRow (w.heap.size+1) 3 1 v n xs) (hg:(wr.alloc o).grownBy w1 v.ownBlock):Below w.heap.size w w1/\NBox w1 w.heap.size:=by
 have hlt:=hown.lt
 have hsz:w.heap.size<wr.heap.size:=by
  obtain ⟨⟨x0,g0⟩,_⟩:=hbx.cells
  exact World.block_lt_of_cell? wr _ g0
 refine ⟨((hb.alloc hb.size o).grown hg (by have:=hb.size;simp only [World.alloc,Array.size_push];omega) (fun k hk=>by have:=(hlt k hk).1;omega)),?_⟩
 obtain ⟨x,a,n,c,h⟩:=hbx
 refine ⟨x,a,n,c,?_⟩
 rw [hg.block _ (by simp;omega) (fun e=>by have:=(hlt _ e.symm).1;omega),Below.heap_alloc _ _ _ hsz]
 exact h
structure TxK (w0:World) (D:List Int) (k:Nat) (s:ByteArray) (wr:World):Prop where
 below:Below w0.heap.size w0 wr
 dig:Dig10 s.data.toList
 num:dec s.data.toList=v4 (D.drop k)
 len:s.size=4*(D.length - k)
theorem TxK.step {w0 wr w1:World}{D:List Int}{k:Nat}{s:ByteArray} (h:TxK w0 D k s wr) (hk:0<k) (hl:k<=D.length) (hD:P4 D) (hb:Below wr.heap.size wr w1):TxK w0 D (k - 1) (s++⟨(four (nth D (k - 1))).toArray⟩) w1:=by
 have hp:=hD.nth (k - 1)
 have e:(s++⟨(four (nth D (k - 1))).toArray⟩:ByteArray).data.toList=s.data.toList++four (nth D (k - 1)):=by simp
 refine ⟨bk hb h.below,?_,?_,?_⟩
 ·rw [e]
  intro c hc
  rcases List.mem_append.1 hc with hc | hc
  ·exact h.dig c hc
  ·exact four_dig hp.1 hp.2 c hc
 ·rw [e,zkf,h.num,four_dec hp.1 hp.2,v4_drop (show k - 1<D.length by omega),show k - 1+1=k by omega]
  rw [show (four (nth D (k - 1))).length=4 from rfl,show (10:Int) ^ 4=10000 by decide]
  omega
 ·rw [ByteArray.size_append,h.len]
  show 4*(D.length - k)+4=_
  omega
theorem digit_any (c:Nat) (w:World) :
 Calls Tryz.prog 144 #[.int .u8 c] w fun e w'=>e=.returned (.bool (decide (48<=c/\c<=57)))/\w'=w:=by
 go_enter Tryz.func144,Tryz.ntmps144
 by_cases h0:(48:Int)<=c
 ·by_cases h1:(c:Int)<=57
  ·go_wp2
   go_ret
   exact ⟨ret_bool (by simp;omega),rfl⟩
  ·go_wp2
   go_ret
   exact ⟨ret_bool (by simp;omega),rfl⟩
 ·go_wp2
  go_ret
  exact ⟨ret_bool (by simp;omega),rfl⟩
def DigAt (s:ByteArray) (j:Nat):Prop:=∃ h:j<s.size,48<=(s[j]'h).toNat/\(s[j]'h).toNat<=57
theorem digits_any (s:ByteArray) (at':Nat) (w:World) (hs:s.size<=9223372036854775807) (ha:at'<=s.size) :
 Calls Tryz.prog 80 #[.string s,.int .i64 at',.int .i64 300] w fun e w'=>(∃ (m:Nat) (code pl:Int),e=.returned (.tuple #[.int .i64 m,.agg #[.int .i64 code,.int .i64 pl]])/\at'<=m/\m<=s.size/\m<=at'+300/\(∀ j,at'<=j->j<m->DigAt s j) /\
  ((code=2/\pl=m/\m=at'+300/\DigAt s m)\/(code=1/\pl=at'/\m=at'/\¬ DigAt s m)\/(code=0/\pl = -1/\at'<m/\¬ DigAt s m)))/\Below w.heap.size w w':=by
 go_enter Tryz.func80,Tryz.ntmps80
 go_wp2_with fail
 go_loop [8] (fun v=>∃ m:Nat,at'<=m/\m<=s.size/\m<=at'+300/\v=.int .i64 m/\Hid (∀ j,at'<=j->j<m->DigAt s j)) (fun v=>s.size - (intOf v).toNat)
 case atStart=>exact ⟨at',Nat.le_refl _,ha,by omega,rfl,fun j h1 h2=>by omega⟩
 case round =>
  obtain ⟨m,hm0,hm1,hm2,rfl,HJ⟩:=hrel
  by_cases hlt:m<s.size
  ·have hlti:(m:Int)<s.size:=by omega
   by_cases hd:48<=(s[m]'hlt).toNat/\(s[m]'hlt).toNat<=57
   ·have HDG:Hid (DigAt s m):=⟨hlt,hd⟩
    have hdec:decide (48<=(s[m]'hlt).toNat/\(s[m]'hlt).toNat<=57)=true:=by simp only [decide_eq_true_eq];exact hd
    have HDEC:=qh hdec
    clear hd hdec
    by_cases h300:m=at'+300
    ·have h3:((m:Int) - at' == 300)=true:=by simp;omega
     have H300:=qh h300
     clear h300
     go_wp2_with fail
     go_fit (digit_any (s[m]'hlt).toNat _)
     rintro e w1 ⟨rfl,rfl⟩
     rw [uh HDEC]
     go_wp2
     exact bodyPost_ret (v:=.tuple #[.int .i64 m,.agg #[.int .i64 2,.int .i64 m]]) (by simp [results,Tryz.results80,go_sem]) rfl ⟨⟨m,2,_,rfl,hm0,hm1,hm2,uh HJ,Or.inl ⟨rfl,rfl,uh H300,uh HDG⟩⟩,zqa w _⟩
    ·have h3:((m:Int) - at' == 300)=false:=by simp;omega
     have H300:=qh h300
     clear h300
     go_wp2_with fail
     go_fit (digit_any (s[m]'hlt).toNat _)
     rintro e w1 ⟨rfl,rfl⟩
     rw [uh HDEC]
     go_wp2
     go_round
     case rel =>
      refine ⟨m+1,by omega,by omega,by have:=uh H300;omega,by go_num,fun j h1 h2 => ?_⟩
      by_cases e:j=m
      ·rw [e];exact uh HDG
      ·exact uh HJ j h1 (by omega)
     case measure=>simp [intOf];omega
   ·have HND:Hid (¬ DigAt s m):=fun ⟨_,h⟩=>hd h
    have hdec:decide (48<=(s[m]'hlt).toNat/\(s[m]'hlt).toNat<=57)=false:=by simp only [decide_eq_false_iff_not];exact hd
    have HDEC:=qh hdec
    clear hd hdec
    by_cases hq:m=at'
    ·have hqi:((m:Int) == at')=true:=by simp [hq]
     have HQ:=qh hq
     clear hq
     go_wp2_with fail
     go_fit (digit_any (s[m]'hlt).toNat _)
     rintro e w1 ⟨rfl,rfl⟩
     rw [uh HDEC]
     go_wp2
     exact bodyPost_ret (v:=.tuple #[.int .i64 m,.agg #[.int .i64 1,.int .i64 at']]) (by simp [results,Tryz.results80,go_sem]) rfl ⟨⟨m,1,_,rfl,hm0,hm1,hm2,uh HJ,Or.inr (Or.inl ⟨rfl,rfl,uh HQ,uh HND⟩)⟩,zqa w _⟩
    ·have hqi:((m:Int) == at')=false:=by simp;omega
     have HQ:=qh hq
     clear hq
     go_wp2_with fail
     go_fit (digit_any (s[m]'hlt).toNat _)
     rintro e w1 ⟨rfl,rfl⟩
     rw [uh HDEC]
     go_wp2
     exact bodyPost_ret (v:=.tuple #[.int .i64 m,.agg #[.int .i64 0,.int .i64 (-1)]]) (by simp [results,Tryz.results80,go_sem]) rfl ⟨⟨m,0,_,rfl,hm0,hm1,hm2,uh HJ,Or.inr (Or.inr ⟨rfl,rfl,by have:=uh HQ;omega,uh HND⟩)⟩,zqa w _⟩
  ·have HND:Hid (¬ DigAt s m):=fun ⟨h,_⟩=>hlt h
   have hlti:¬ (m:Int)<s.size:=by omega
   by_cases hq:m=at'
   ·have hqi:((m:Int) == at')=true:=by simp [hq]
    have HQ:=qh hq
    clear hq
    go_wp2
    exact bodyPost_ret (v:=.tuple #[.int .i64 m,.agg #[.int .i64 1,.int .i64 at']]) (by simp [results,Tryz.results80,go_sem]) rfl ⟨⟨m,1,_,rfl,hm0,hm1,hm2,uh HJ,Or.inr (Or.inl ⟨rfl,rfl,uh HQ,uh HND⟩)⟩,zqa w _⟩
   ·have hqi:((m:Int) == at')=false:=by simp;omega
    have HQ:=qh hq
    clear hq
    go_wp2
    exact bodyPost_ret (v:=.tuple #[.int .i64 m,.agg #[.int .i64 0,.int .i64 (-1)]]) (by simp [results,Tryz.results80,go_sem]) rfl ⟨⟨m,0,_,rfl,hm0,hm1,hm2,uh HJ,Or.inr (Or.inr ⟨rfl,rfl,by have:=uh HQ;omega,uh HND⟩)⟩,zqa w _⟩
theorem Nr.stored {N:Nat}{w:World}{v:Value}{z:Int}{r:Nat} (h:Nr N w v z) (hb:NBox w r) (u u':Value):Nr N ((w.setCell ⟨r,0,none⟩ u).setCell ⟨r,1,none⟩ u') v z:=by
 obtain ⟨neg,sl,D,h1,h2,h3⟩:=h
 exact ⟨neg,sl,D,h1,h2.stored hb _ _,h3⟩
theorem Nr.shape {N:Nat}{w:World}{v:Value}{z:Int} (h:Nr N w v z):∃ x a n c,v=.agg #[.bool x,.slice a n c]:=by
 obtain ⟨neg,sl,D,rfl,h2,h3⟩:=h
 rcases h2 with ⟨rfl,_⟩ | ⟨b,cap,rfl,_⟩ <;> exact ⟨_,_,_,_,rfl⟩
theorem Nr.gb {N:Nat}{w:World}{v:Value}{z:Int}{r:Nat}{T:TypeId} (h:Nr N w v z) (hb:GB w r T) (hT:T≠3) (u u':Value):Nr N ((w.setCell ⟨r,0,none⟩ u).setCell ⟨r,1,none⟩ u') v z:=by
 obtain ⟨neg,sl,D,h1,h2,h3⟩:=h
 exact ⟨neg,sl,D,h1,h2.gb hb hT _ _,h3⟩
def seg (l:List UInt8) (t j:Int):List UInt8:=(l.take j.toNat).drop (t - 4).toNat
theorem seg_dig {l:List UInt8} (h:Dig10 l) (t j:Int):Dig10 (seg l t j):=fun c hc=>h c (List.mem_of_mem_take (List.mem_of_mem_drop hc))
theorem seg_next {l:List UInt8}{t j:Int} (h0:0<=j) (h1:t - 4<=j) (h2:j.toNat<l.length):seg l t (j+1)=seg l t j++[l[j.toNat]]:=by
 unfold seg
 rw [show (j+1).toNat=j.toNat+1 by omega,List.take_succ_eq_append_getElem h2,List.drop_append_of_le_length (by rw [List.length_take];omega)]
theorem seg_bound {l:List UInt8} (h:Dig10 l) {t j:Int} (h2:j<=t) (hl:t<=l.length):0<=dec (seg l t j)/\dec (seg l t j)<10000:=by
 have hb:=zjo (seg_dig h t j)
 have hlen:(seg l t j).length<=4:=by
  unfold seg
  rw [List.length_drop,List.length_take];omega
 refine ⟨hb.1,Int.lt_of_lt_of_le hb.2 ?_⟩
 exact Int.le_trans (zxk hlen) (by decide)
theorem seg_whole {l:List UInt8}{t:Int} (h0:0<t) (hl:t<=l.length):dec (l.take t.toNat)=dec (seg l t t)+10000*dec (l.take (t - 4).toNat):=by
 unfold seg
 by_cases h4:t<4
 ·rw [show (t - 4).toNat=0 by omega];simp [dec]
 ·have e:l.take t.toNat=l.take (t - 4).toNat++(l.take t.toNat).drop (t - 4).toNat:=by
   conv=>lhs;rw [<- List.take_append_drop (t - 4).toNat (l.take t.toNat)]
   rw [List.take_take,Nat.min_eq_left (by omega)]
  have hlen:((l.take t.toNat).drop (t - 4).toNat).length=4:=by
   rw [List.length_drop,List.length_take];omega
  conv=>lhs;rw [e,zkf,hlen]
  rw [show (10:Int) ^ 4=10000 by decide]
  omega
structure FigK (l:List UInt8) (w:World) (t:Int) (v:Value) (D:List Int) (wr:World):Prop where
 own:wr.ownsRow (w.heap.size+1) 3 1 v D.length (D.map (Value.int .i64))
 places:P4 D
 sum:dec l=v4 D+10000 ^ D.length*dec (l.take t.toNat)
 count:4*(D.length:Int)+t=l.length
 below:Below w.heap.size w wr
 box:NBox wr w.heap.size
theorem FigK.step {l:List UInt8}{w wr w1:World}{t:Int}{v v':Value}{D:List Int}{o:Obj}{y:Int} (h:FigK l w t v D wr) (hd:Dig10 l) (h0:0<t) (hy:y=dec (seg l t t))
 (hown:w1.ownsRow (w.heap.size+1) 3 1 v' (D.length+1) (D.map (Value.int .i64)++[.int .i64 y])) (hg:(wr.alloc o).grownBy w1 v.ownBlock):FigK l w (t - 4) v' (D++[y]) w1:=by
 have hc:=h.count
 obtain ⟨k1,k2⟩:=grow_keep h.below h.box h.own hg
 have hb:=seg_bound hd (Int.le_refl t) (by omega)
 refine ⟨by simpa using hown,?_,?_,?_,k1,k2⟩
 ·intro d hd'
  rcases List.mem_append.1 hd' with hd' | hd'
  ·exact h.places d hd'
  ·have:d=y:=by simpa using hd'
   subst this;rw [hy];exact hb
 ·rw [zjb,h.sum,List.length_append,Int.pow_add,seg_whole h0 (by omega),<- hy]
  simp only [v4,List.length_cons,List.length_nil,Int.mul_zero,Int.add_zero,Int.mul_add]
  rw [show (10000:Int) ^ (0+1)=10000 by decide,Int.mul_assoc]
  omega
 ·rw [List.length_append];simp only [List.length_cons,List.length_nil];omega
theorem zxl {N:Nat} (s:ByteArray) (w:World) (hs:s.size<=4*N) (hN:N<=100000) (hd:Dig10 s.data.toList) :
 Calls Tryz.prog 81 #[.string s] w fun e w'=>(∃ v,e=.returned v/\Nr N w' v (dec s.data.toList))/\Below w.heap.size w w':=by
 obtain ⟨i0,hi,hz0,hz1,hz2⟩:=info_parts info_int
 have hsl:s.data.toList.length=s.size:=by rw [Array.length_toList];rfl
 have HD:=qh hd
 have HSL:=qh hsl
 clear hd hsl
 have hal:=zqa w (.cells #[.bool false,.slice none 0 0] 57)
 have hbx:=zji w false none 0 0
 go_enter Tryz.func81,Tryz.ntmps81
 go_wp2_with fail
 go_loopw [3,4] (fun v x wr=>∃ (t:Int) (D:List Int),x=.int .i64 t /\ -3<=t/\t<=s.size/\FigK s.data.toList w t v D wr) (fun _ x _=>(intOf x).toNat)
 case atStart =>
  refine ⟨s.size,[],rfl,by omega,by omega,World.ownsRow_nil _ _ _ _,fun d hd=>(by simp at hd),?_,by rw [uh HSL];simp,hal,hbx⟩
  rw [Int.toNat_natCast,List.take_of_length_le (by have:=uh HSL;omega)]
  simp [v4]
 case round =>
  obtain ⟨t,D,rfl,ht0,ht1,hk⟩:=hrel
  clear hal hbx
  obtain ⟨va,vn,vc,rfl⟩:=zqz hk.own
  by_cases htp:0<t
  ·go_wp2_with fail
   go_loop [5,6] (fun x i=>∃ (j y:Int),i=.int .i64 j/\x=.int .i64 y/\t - 4<=j/\j<=t/\Hid (y=dec (seg s.data.toList t j))) (fun _ i=>(t - intOf i).toNat)
   case atStart=>exact ⟨t - 4,0,by go_num,rfl,by omega,by omega,(by
    show _=_
    unfold seg
    rw [List.drop_eq_nil_of_le (by rw [List.length_take];omega)]
    rfl)⟩
   case round =>
    obtain ⟨j,y,rfl,rfl,hj0,hj1,HY⟩:=hrel
    have hyb:=seg_bound (uh HD) hj1 (by have:=uh HSL;omega)
    rw [<- uh HY] at hyb
    have hy0:=hyb.1
    have hy1:=hyb.2
    clear hyb
    by_cases hjt:j<t
    ·by_cases hj:0<=j
     ·obtain ⟨m,rfl⟩:∃ m:Nat,j=m:=⟨j.toNat,by omega⟩
      have hms:m<s.size:=by omega
      have hc:=uh HD (s[m]'hms) (by
       have:s[m]'hms=s.data.toList[m]'(by have:=uh HSL;omega):=rfl
       rw [this];exact List.getElem_mem _)
      have c1:(48:Int)<=((s[m]'hms).toNat:Int):=by omega
      have c2:((s[m]'hms).toNat:Int)<=57:=by omega
      clear hc
      go_wp2
      go_round
      case rel =>
       refine ⟨m+1,_,by go_num,rfl,by omega,by omega,?_⟩
       show _=_
       rw [seg_next hj hj0 (by have:=uh HSL;rw [Int.toNat_natCast];omega),dec_snoc,<- uh HY]
       simp only [Int.toNat_natCast]
       have:s.data.toList[m]'(by have:=uh HSL;omega)=s[m]'hms:=rfl
       rw [this];omega
      case measure=>simp [intOf];omega
     ·go_wp2
      go_round
      case rel =>
       refine ⟨j+1,y,by go_num,rfl,by omega,by omega,?_⟩
       show _=_
       rw [uh HY]
       unfold seg
       rw [show (j+1).toNat=j.toNat by omega]
      case measure=>simp [intOf];omega
    ·obtain rfl:j=t:=by omega
     go_wp2_with (at_builtin;refine wpList_append_own _ rfl _ _ 55 rfl (w.heap.size+1) 3 i0 (.int .i64 0) 1 8 Tryz.underlying55 hi hz0 hz1 hz2 rfl (by decide) _ _ _ rfl (hk.own.alloc _) ⟨wr.heap.size,0,none⟩ 1 1 [.int .i64 y] rfl rfl ?c1 ?c2 ?c3 ?c4 ?c5 ?_)
     case c2=>rfl
     case c3=>have:=hk.count;have:=uh HSL;unfold maxLen;omega
     case c4=>have:=hk.count;have:=uh HSL;omega
     case c5=>exact hk.below.size
     ·intro v' w1 hown' hgrow _
      have R:=hk.step (uh HD) htp (uh HY) hown' hgrow
      clear hown' hgrow hk
      go_wp2
      go_roundw
      case rel=>exact ⟨j - 4,_,by go_num,by omega,by omega,R⟩
      case measure=>simp [intOf];omega
  ·obtain ⟨⟨x0,g0⟩,⟨a0,n0,c0,g1⟩,gf⟩:=hk.box.cells
   have hsl:=sl_own hk.own
   go_wp2_with fail
   go_fit (zks false _ D N _ hsl hk.places (by have:=hk.count;have:=uh HSL;omega))
   rintro e w1 ⟨⟨v1,rfl,hNr⟩,hb1⟩
   obtain ⟨y1,a1,n1,c1,hv⟩:=hNr.shape
   subst hv
   have hbx1:=hk.box.later hb1
   have hbl:=bk hb1 hk.below
   have HV:Hid (dec s.data.toList=if false=true then -v4 D else v4 D):=by
    show _=_
    have:=hk.sum
    rw [show t.toNat=0 by omega] at this
    simp [dec] at this ⊢
    exact this
   clear g0 g1 gf hb1 hk hsl
   obtain ⟨⟨x0,g0⟩,⟨a0,n0,c0,g1⟩,gf⟩:=hbx1.cells
   go_wp2
   obtain ⟨s0,s1⟩:=hbx1.stored (.bool y1) (.slice a1 n1 c1)
   exact bodyPost_ret (v:=.agg #[.bool y1,.slice a1 n1 c1]) (by simp [results,Tryz.results81,go_sem,s0,s1]) rfl ⟨⟨_,rfl,by rw [uh HV];exact hNr.stored hbx1 _ _⟩,zqc hbl (Nat.le_refl _) _ _⟩
def atOf (s:ByteArray):Nat:=if minusOf s then 1 else 0
theorem minus_some {s:ByteArray} (hs:0<s.size):minusOf s=((s[0]'hs).toNat == 45):=by
 obtain ⟨⟨l⟩⟩:=s
 cases l with
 | nil=>simp [ByteArray.size] at hs
 | cons c l =>
  show Lib.hasPrefix (c :: l) [45]=(c.toNat == 45)
  simp only [Lib.hasPrefix]
  by_cases h:c=45
  ·subst h;simp
  ·have:c.toNat≠45:=fun e=>h (UInt8.toNat.inj (by simpa using e))
   rw [show (c.toNat == 45)=false by simpa using this]
   simp only [List.isPrefixOf,Bool.and_true,beq_eq_false_iff_ne]
   exact fun e=>h e.symm
theorem minus_none {s:ByteArray} (hs:s.size=0):minusOf s=false:=by
 obtain ⟨⟨l⟩⟩:=s
 cases l with
 | nil=>rfl
 | cons c l=>simp [ByteArray.size] at hs
theorem atOf_le (s:ByteArray):atOf s<=s.size:=by
 unfold atOf
 by_cases h:s.size=0
 ·rw [minus_none h];simp
 ·split <;> omega
theorem digitsOf_list (s:ByteArray):(digitsOf s).data.toList=s.data.toList.drop (atOf s):=by
 unfold digitsOf atOf minusOf Lib.trimPrefix
 split <;> simp
theorem digitsOf_len (s:ByteArray):(digitsOf s).size=s.size - atOf s:=by
 rw [Lib.size_eq,digitsOf_list,List.length_drop,Array.length_toList];rfl
end Go.Proofs.YtkdobjmhammhbaaGreatDoor
