import Derived.Test.YtkdobjmhammhbaaGreatDoorMK1
namespace Go.Proofs.YtkdobjmhammhbaaGreatDoor
open Go.RowKit
def num (s:ByteArray):Option (Int×Int):=match said s with
 | .inr (p,q)=>if 0<q then some (p / (Int.gcd p q:Int),q / (Int.gcd p q:Int)) else none
 | .inl _=>none
theorem num_low {p q P D:Int} (hq:0<q) (hE:P*q=p*D) (D0:0<D) (hg:Int.gcd P D=1):(p / (Int.gcd p q:Int),q / (Int.gcd p q:Int))=(P,D):=by
 have g0:0<Int.gcd p q:=Int.gcd_pos_of_ne_zero_right p (by omega)
 obtain ⟨p',hp⟩:=Int.gcd_dvd_left (a:=p) (b:=q)
 obtain ⟨q',hq'⟩:=Int.gcd_dvd_right (a:=p) (b:=q)
 have hgi:(0:Int)<(Int.gcd p q:Int):=by omega
 have e1:p / (Int.gcd p q:Int)=p':=by rw [hp];rw [← hp];exact Int.ediv_eq_of_eq_mul_right (by omega) hp
 have e2:q / (Int.gcd p q:Int)=q':=Int.ediv_eq_of_eq_mul_right (by omega) hq'
 have h3:Int.gcd p' q'=1:=by
   have h:=Int.gcd_mul_left (Int.gcd p q:Int) p' q'
   rw [← hp,← hq',Int.natAbs_natCast] at h
   exact (Nat.eq_of_mul_eq_mul_left g0 (by rw [← h,Nat.mul_one])).symm
 have q0:0<q':=by
   rcases Int.lt_or_le 0 q' with h | h
   · exact h
   · have:(Int.gcd p q:Int)*q'≤(Int.gcd p q:Int)*0:=Int.mul_le_mul_of_nonneg_left h (by omega)
     omega
 obtain ⟨a,b⟩:=lowest_one (p:=p') (d:=q') (p':=P) (d':=D) (z:=p) (o:=q) (by omega) (by grind) hE q0 D0 h3 hg
 rw [e1,e2,a,b]
def allOf {α β:Type} (f:α → Option β):List α → Option (List β)
 | []=>some []
 | s :: l=>match f s,allOf f l with
   | some x,some L=>some (x :: L)
   | _,_=>none
theorem allOf_snoc {α β:Type}{f:α → Option β}{l:List α}{s:α}{L:List β}{x:β} (h:allOf f l=some L) (hs:f s=some x):allOf f (l++[s])=some (L++[x]):=by
 induction l generalizing L with
 | nil=>simp [allOf] at h;subst h;simp [allOf,hs]
 | cons t l ih =>
   simp only [allOf] at h
   split at h
   · rename_i y M hy hM
     obtain rfl:y :: M=L:=by simpa using h
     simp [allOf,hy,ih hM]
   · cases h
theorem allOf_none {α β:Type}{f:α → Option β}{l:List α}{s:α}{i:Nat} (h:l[i]? = some s) (hs:f s=none):allOf f l=none:=by
 induction l generalizing i with
 | nil=>simp at h
 | cons t l ih =>
   rcases i with _ | i
   · simp at h;subst h;simp [allOf,hs]
   · simp at h
     simp only [allOf,ih h]
     split <;> simp_all
theorem allOf_len {α β:Type}{f:α → Option β}{l:List α}{L:List β} (h:allOf f l=some L):L.length=l.length:=by
 induction l generalizing L with
 | nil=>simp [allOf] at h;subst h;rfl
 | cons t l ih =>
   simp only [allOf] at h
   split at h
   · rename_i y M hy hM
     obtain rfl:y :: M=L:=by simpa using h
     simp [ih hM]
   · cases h
theorem allOf_at {α β:Type}{f:α → Option β}{l:List α}{L:List β}{i:Nat}{s:α} (h:allOf f l=some L) (hs:l[i]? = some s):∃ x,L[i]? = some x∧f s=some x:=by
 induction l generalizing L i with
 | nil=>simp at hs
 | cons t l ih =>
   simp only [allOf] at h
   split at h
   · rename_i y M hy hM
     obtain rfl:y :: M=L:=by simpa using h
     rcases i with _ | i
     · simp at hs;subst hs;exact ⟨y,rfl,hy⟩
     · simp at hs;simpa using ih hM hs
   · cases h
def nums (l:List ByteArray):Option (List (Int×Int)):=allOf num l
theorem QRP.num {s:ByteArray}{e:Ending}{w':World} (h:QRP s e w'):∃ j1 j2 j3 j4 j5 j6 j7 j8 code pl,e=.returned (.tuple #[.agg #[.bool j1,.slice j2 j3 j4,.bool j5,.slice j6 j7 j8],.agg #[.int .i64 code,.int .i64 pl]]) ∧
   Hid ((0<code∧num s=none)∨(code=0∧∃ x,num s=some x∧Qr 362 w' (.agg #[.bool j1,.slice j2 j3 j4,.bool j5,.slice j6 j7 j8]) x.1 x.2)):=by
 rcases h with ⟨c,k,hs,c1,c3,rfl⟩ | ⟨p,q,v,P,D,hs,hq,rfl,hQ,hE⟩
 · exact ⟨_,_,_,_,_,_,_,_,_,_,rfl,Or.inl ⟨by omega,by unfold Go.Proofs.YtkdobjmhammhbaaGreatDoor.num;rw [hs]⟩⟩
 · have hQ0:=hQ
   obtain ⟨j1,j2,j3,j4,j5,j6,j7,j8,rfl,_,_,d0,hg⟩:=hQ
   exact ⟨_,_,_,_,_,_,_,_,_,_,rfl,Or.inr ⟨rfl,(P,D),by unfold Go.Proofs.YtkdobjmhammhbaaGreatDoor.num;rw [hs];simp only;rw [if_pos hq,num_low hq hE d0 hg],hQ0⟩⟩
theorem RdP.num {s:ByteArray}{A:Nat→Addr}{e:Ending}{w':World}{x:Int×Int} (h:RdP s A e w') (hs:Go.Proofs.YtkdobjmhammhbaaGreatDoor.num s=some x):∃ v,e=.returned (.tuple #[v,.nilIface])∧Rr 78 w' v x.1 x.2:=by
 rcases h with ⟨c,k,pb,h,_⟩ | ⟨p,q,v,P,D,h,hq,he,hR,hE⟩
 · unfold Go.Proofs.YtkdobjmhammhbaaGreatDoor.num at hs;rw [h] at hs;cases hs
 · have hR0:=hR
   obtain ⟨_,_,_,_,_,_,_,_,_,_,_,_,d0,hg,_⟩:=hR
   unfold Go.Proofs.YtkdobjmhammhbaaGreatDoor.num at hs
   rw [h] at hs
   simp only at hs
   rw [if_pos hq,num_low hq hE d0 hg] at hs
   obtain rfl:(P,D)=x:=by simpa using hs
   exact ⟨v,he,hR0⟩
def NumsP (l:List ByteArray) (e:Ending) (w':World):Prop :=
 (nums l=none∧e=.returned (.tuple #[.slice none 0 0,.bool false]))∨∃ L v,nums l=some L∧e=.returned (.tuple #[v,.bool true])∧Rows 4 (QE 362) w' v L
theorem tkn {α:Type}{l:List α}{i:Nat}{x:α} (h:l[i]? = some x):l.take (i+1)=l.take i++[x]:=by rw [List.take_add_one,h];rfl
theorem info_q:(Tryz.prog.info? 59).map (fun i=>(i.zero,i.size,i.bytes))=some (some (.agg #[.bool false,.slice none 0 0,.bool false,.slice none 0 0]),4,64):=by kernel_rfl
theorem kd_q (x1:Bool) (x2:Option Addr) (x3 x4:Nat) (x5:Bool) (x6:Option Addr) (x7 x8:Nat):∀ u ∈ [Value.bool x1,.slice x2 x3 x4,.bool x5,.slice x6 x7 x8],NoInt u:=by
 intro u hu k x
 simp at hu
 rcases hu with rfl | rfl | rfl | rfl <;> simp
theorem one_q (x1:Bool) (x2:Option Addr) (x3 x4:Nat) (x5:Bool) (x6:Option Addr) (x7 x8:Nat):∀ u ∈ [Value.bool x1,.slice x2 x3 x4,.bool x5,.slice x6 x7 x8],u.oneCell'=true:=by
 intro u hu
 simp at hu
 rcases hu with rfl | rfl | rfl | rfl <;> rfl
theorem zk_q:∀ u ∈ (Value.agg #[.bool false,.slice none 0 0,.bool false,.slice none 0 0]).cells.toList,NoInt u:=kd_q false none 0 0 false none 0 0
set_option maxHeartbeats 4000000 in
set_option maxRecDepth 8000 in
theorem rnumbers_hi {v:Value}{l:List ByteArray} (w:World) (h:Rows 1 TE w v l) (hl:l.length≤100000000) :
   Calls Tryz.prog 13 #[v] w fun e w'=>(NumsP l e w'∧∀ u b,e=.returned (.tuple #[u,.bool b])→Hi w.heap.size u)∧Below w.heap.size w w':=by
 obtain ⟨sa,sc,rfl⟩:=h.shape
 have HR:=qh h
 clear h
 go_enter Tryz.func13,Tryz.ntmps13
 go_wp2_with fail
 go_loopg [4,5] l.length (fun gk ov iv wr=>∃ (i:Nat) (L:List (Int×Int)),i≤l.length∧gk=l.length - i∧iv=.int .i64 (i:Int)∧Hid (nums (l.take i)=some L)∧Hid (Below w.heap.size w wr)∧Hid (OwnR NoInt 4 (QE 362) 59 wr w.heap.size ov L))
 case atStart=>exact ⟨0,[],by omega,by omega,rfl,by show nums (l.take 0)=some [];simp [nums,allOf],qh (Below.refl _ _),qh (OwnR.nil _ _ _ _ _ _)⟩
 case round =>
   obtain ⟨i,L,hi,hgk,rfl,HN,HB,HO⟩:=hrel
   obtain ⟨oa,oc,rfl⟩:=(uh HO).slice
   have HLL:=qh (allOf_len (uh HN))
   by_cases hil:i<l.length
   · obtain ⟨s,hs⟩:∃ s,l[i]? = some s:=⟨l[i],by simp [hil]⟩
     obtain ⟨b,o,rfl,cs,_,hcs,hte⟩:=(uh HR).at hs
     obtain ⟨rfl,hsz⟩:=hte
     have c0:wr.cell? ⟨b,o+i,none⟩=some (.string s):=ck (uh HB) (by simpa using hcs 0 _ rfl)
     have HS:=qh hs
     have HSZ:Hid (s.size≤9223372036854775807):=qh (by unfold maxLen at hsz;omega)
     have hil':(i:Int)<(l.length:Int):=by omega
     have him:(i:Int)+1≤100000000:=by omega
     clear hs hcs hsz
     go_wp2_with fail
     go_fit (rqread_any s _ (uh HSZ))
     rintro e W1 ⟨hc,B1⟩
     obtain ⟨a1,a2,a3,a4,a5,a6,a7,a8,ac,ap,rfl,HA⟩:=hc.num
     clear hc
     have k1:=zqa W1 (.cells #[.bool a1,.slice a2 a3 a4,.bool a5,.slice a6 a7 a8] 59)
     have k2:=zqa (W1.alloc (.cells #[.bool a1,.slice a2 a3 a4,.bool a5,.slice a6 a7 a8] 59)) (.cells #[.int .i64 ac,.int .i64 ap] 61)
     have ca:=qh (c4_keep k2 (c4_new (w:=W1) (.bool a1) (.slice a2 a3 a4) (.bool a5) (.slice a6 a7 a8) 59))
     have fa:((W1.alloc (.cells #[.bool a1,.slice a2 a3 a4,.bool a5,.slice a6 a7 a8] 59)).alloc (.cells #[.int .i64 ac,.int .i64 ap] 61)).cell? ⟨W1.heap.size+1,0,none⟩=some (.int .i64 ac):=by rw [zqe (by simp)];rfl
     have KA:=qh (bk k2 k1)
     have BB:=qh (bk (bk (bk k2 k1) B1) (uh HB))
     have HO:=qh (((uh HO).later (QE.stays _ _ (by decide)) B1).later (QE.stays _ _ (by decide)) (uh KA))
     clear k1 k2 B1 c0 HB
     rcases uh HA with ⟨hca,hnn⟩ | ⟨rfl,x,hx,hQ⟩
     · have HNN:=qh hnn
       clear hnn
       go_wp2
       exact bodyPost_ret (v:=.tuple #[.slice none 0 0,.bool false]) (by simp [results,Tryz.results13,go_sem]) rfl ⟨⟨Or.inl ⟨allOf_none (uh HS) (uh HNN),rfl⟩,fun u b e=>by simp at e;rw [← e.1];exact fun _ _ _ _ e=>by cases e⟩,uh BB⟩
     · have qa:=qh (hQ.later (uh KA))
       have HX:=qh hx
       clear hx hQ HA
       obtain ⟨r0,r1,r2,r3⟩:=uh ca
       obtain ⟨V1,hV1⟩:∃ V,V=(W1.alloc (.cells #[.bool a1,.slice a2 a3 a4,.bool a5,.slice a6 a7 a8] 59)).alloc (.cells #[.int .i64 0,.int .i64 ap] 61):=⟨_,rfl⟩
       rw [← hV1] at BB HO qa fa r0 r1 r2 r3
       go_upto_region 8 with fail
       rw [← hV1]
       have hbs:w.heap.size≤V1.heap.size:=(uh BB).size
       have hLn:L.length≤100000000:=by have:=uh HLL;rw [this,List.length_take];omega
       clear hV1
       go_wp2_with (at_builtin;refine wpList_pushE rfl _ _ _ rfl Tryz.underlying52 info_q rfl (by decide) (by decide) zk_q (QE.stays _ _ (by decide)) w.heap.size _ rfl (uh HO) [.bool a1,.slice a2 a3 a4,.bool a5,.slice a6 a7 a8] rfl (one_q _ _ _ _ _ _ _ _) (kd_q _ _ _ _ _ _ _ _) ⟨_,_,_,_,_,_,_,_,rfl,uh qa⟩ rfl rfl hLn hbs ?_;intro ov' Z1 hO1 hc1 hgr1 hge1)
       go_roundg (l.length - (i+1))
       case measure=>omega
       case rel=>exact ⟨i+1,L++[x],by omega,rfl,by go_num,qh (by rw [tkn (uh HS)];exact allOf_snoc (uh HN) (uh HX)),qh ((bk (zqa _ _) (uh BB)).grown hgr1 (bk (zqa _ _) (uh BB)).size hge1),qh hO1⟩
   · obtain rfl:i=l.length:=by omega
     clear hil hi hgk
     go_wp2
     exact bodyPost_ret (v:=.tuple #[.slice oa L.length oc,.bool true]) (by simp [results,Tryz.results13,go_sem]) rfl ⟨⟨Or.inr ⟨L,_,by have:=uh HN;rw [List.take_length] at this;exact this,rfl,(uh HO).rows⟩,fun u b e=>by simp at e;rw [← e.1];exact (uh HO).hi (Nat.le_refl _)⟩,uh HB⟩
theorem rnumbers_any {v:Value}{l:List ByteArray} (w:World) (h:Rows 1 TE w v l) (hl:l.length≤100000000) :
   Calls Tryz.prog 13 #[v] w fun e w'=>NumsP l e w'∧Below w.heap.size w w':=(rnumbers_hi w h hl).mono fun _ _ h=>⟨h.1.1,h.2⟩
theorem QE.other {N:Nat} (w:World) (cs:List Value) (x:Int×Int) (h:QE N w cs x):∃ u ∈ cs,¬ IsSl u:=by
 obtain ⟨x1,x2,x3,x4,x5,x6,x7,x8,rfl,_⟩:=h
 exact ⟨.bool x1,by simp,fun ⟨_,_,_,h⟩=>by cases h⟩
structure Env (A:Nat→Addr) (w:World):Prop where
 e1:w.cell? ⟨1,0,none⟩=some (.iface 324 (.pointer (some (A 0))))
 e2:w.cell? ⟨2,0,none⟩=some (.iface 324 (.pointer (some (A 1))))
 e3:w.cell? ⟨3,0,none⟩=some (.iface 324 (.pointer (some (A 2))))
 t64:Tab64 w
theorem Env.later {A:Nat→Addr}{w w':World} (h:Env A w) (hb:Below w.heap.size w w'):Env A w':=⟨ck hb h.e1,ck hb h.e2,ck hb h.e3,h.t64.later hb⟩
theorem kd_r (x1:Int) (x2:Option Addr) (x3 x4:Nat) (x5:Int) (x6:Option Addr) (x7 x8:Nat):∀ u ∈ [Value.int .i64 x1,.slice x2 x3 x4,.int .i64 x5,.slice x6 x7 x8],NoWord u:=by
 intro u hu x
 simp at hu
 rcases hu with rfl | rfl | rfl | rfl <;> simp
theorem one_r (x1:Int) (x2:Option Addr) (x3 x4:Nat) (x5:Int) (x6:Option Addr) (x7 x8:Nat):∀ u ∈ [Value.int .i64 x1,.slice x2 x3 x4,.int .i64 x5,.slice x6 x7 x8],u.oneCell'=true:=by
 intro u hu
 simp at hu
 rcases hu with rfl | rfl | rfl | rfl <;> rfl
theorem zk_r:∀ u ∈ (Value.agg #[.int .i64 0,.slice none 0 0,.int .i64 0,.slice none 0 0]).cells.toList,NoWord u:=kd_r 0 none 0 0 0 none 0 0
theorem nww (x:Int):¬ NoWord (.int .u64 x):=fun h=>h x rfl
theorem info_r:(Tryz.prog.info? 39).map (fun i=>(i.zero,i.size,i.bytes))=some (some (.agg #[.int .i64 0,.slice none 0 0,.int .i64 0,.slice none 0 0]),4,64):=by kernel_rfl
theorem RE.other {N:Nat} (w:World) (cs:List Value) (x:Int×Int) (h:RE N w cs x):∃ u ∈ cs,¬ IsSl u:=by
 obtain ⟨x1,x2,x3,x4,x5,x6,x7,x8,rfl,_⟩:=h
 exact ⟨.int .i64 x1,by simp,fun ⟨_,_,_,h⟩=>by cases h⟩
set_option maxHeartbeats 4000000 in
set_option maxRecDepth 8000 in
theorem pnumber_any {A:Nat→Addr}{x:Int×Int} (s:ByteArray) (w:World) (hA:Env A w) (hs:s.size≤9223372036854775807) (hx:num s=some x) :
   Calls Tryz.prog 10 #[.string s] w fun e w'=>(∃ v,e=.returned (.tuple #[v,.bool true])∧Rr 78 w' v x.1 x.2)∧Below w.heap.size w w':=by
 have kn:=zqa w (.cells #[.int .i64 0,.slice none 0 0,.int .i64 0,.slice none 0 0] 39)
 have HA:=qh (hA.later kn)
 have HX:=qh hx
 have hq:=zjc w 0 none 0 0 0 none 0 0
 have HQ:=qh hq
 have HB:=qh kn
 clear kn hA hx hq
 go_enter Tryz.func10,Tryz.ntmps10
 go_wp2_with fail
 go_fit (qread_any s A _ hs (uh HA).t64 (uh HA).e1 (uh HA).e2 (uh HA).e3)
 rintro e W1 ⟨hc,B1⟩
 obtain ⟨v,rfl,hR⟩:=hc.num (uh HX)
 obtain ⟨x1,x2,x3,x4,x5,x6,x7,x8,rfl⟩:=hR.shape
 have k1:=zqa W1 (.cells #[.int .i64 x1,.slice x2 x3 x4,.int .i64 x5,.slice x6 x7 x8] 39)
 obtain ⟨c0,c1,c2,c3⟩:=c4_new (w:=W1) (.int .i64 x1) (.slice x2 x3 x4) (.int .i64 x5) (.slice x6 x7 x8) 39
 have hbx:=((uh HQ).later B1).later k1
 have BB:=qh (bk k1 (bk B1 (uh HB)))
 have HR:=qh (hR.later k1)
 clear hc hR B1
 go_upto_region 2 with fail
 obtain ⟨V1,hV1⟩:∃ V1,V1=W1.alloc (.cells #[.int .i64 x1,.slice x2 x3 x4,.int .i64 x5,.slice x6 x7 x8] 39):=⟨_,rfl⟩
 rw [← hV1] at c0 c1 c2 c3 hbx BB HR ⊢
 clear hV1 HA HX HQ HB
 obtain ⟨⟨j0,g0⟩,⟨j1,j2,j3,g1⟩,⟨j4,g2⟩,⟨j5,j6,j7,g3⟩,gf⟩:=hbx.cells
 have hxlt:=hbx.lt
 go_region
 all_goals
   go_wp2
   obtain ⟨st0,st1,st2,st3⟩:=hbx.stored (.int .i64 x1) (.slice x2 x3 x4) (.int .i64 x5) (.slice x6 x7 x8)
   exact bodyPost_ret (v:=.tuple #[.agg #[.int .i64 x1,.slice x2 x3 x4,.int .i64 x5,.slice x6 x7 x8],.bool true]) (by simp [results,Tryz.results10,go_sem,st0,st1,st2,st3]) rfl ⟨⟨_,rfl,show Rr 78 (World.drew _) _ _ _ from (uh HR).rstored hbx _ _ _ _⟩,(zqf (uh BB) (Nat.le_refl _) _ _ _ _).drew⟩
set_option maxHeartbeats 4000000 in
set_option maxRecDepth 8000 in
theorem pnumbers_hi {A:Nat→Addr}{v:Value}{l:List ByteArray}{M:List (Int×Int)} (w:World) (hA:Env A w) (h:Rows 1 TE w v l) (hl:l.length≤100000000) (hM:nums l=some M) :
   Calls Tryz.prog 9 #[v] w fun e w'=>(∃ v,e=.returned (.tuple #[v,.bool true])∧Rows 4 (RE 78) w' v M∧Hi w.heap.size v)∧Below w.heap.size w w':=by
 obtain ⟨sa,sc,rfl⟩:=h.shape
 have HR:=qh h
 have HM:=qh hM
 have HA:=qh hA
 clear h hM hA
 go_enter Tryz.func9,Tryz.ntmps9
 go_wp2_with fail
 go_loopg [4,11] l.length (fun gk ov iv wr=>∃ (i:Nat) (L:List (Int×Int)),i≤l.length∧gk=l.length - i∧iv=.int .i64 (i:Int)∧Hid (nums (l.take i)=some L)∧Hid (Below w.heap.size w wr)∧Hid (OwnR NoWord 4 (RE 78) 39 wr w.heap.size ov L))
 case atStart=>exact ⟨0,[],by omega,by omega,rfl,by show nums (l.take 0)=some [];simp [nums,allOf],qh (Below.refl _ _),qh (OwnR.nil _ _ _ _ _ _)⟩
 case round =>
   obtain ⟨i,L,hi,hgk,rfl,HN,HB,HO⟩:=hrel
   obtain ⟨oa,oc,rfl⟩:=(uh HO).slice
   have HLL:=qh (allOf_len (uh HN))
   by_cases hil:i<l.length
   · obtain ⟨s,hs⟩:∃ s,l[i]? = some s:=⟨l[i],by simp [hil]⟩
     obtain ⟨b,o,rfl,cs,_,hcs,hte⟩:=(uh HR).at hs
     obtain ⟨rfl,hsz⟩:=hte
     have c0:wr.cell? ⟨b,o+i,none⟩=some (.string s):=ck (uh HB) (by simpa using hcs 0 _ rfl)
     obtain ⟨x,_,hx⟩:=allOf_at (uh HM) hs
     have HX:=qh hx
     have HS:=qh hs
     have HSZ:Hid (s.size≤9223372036854775807):=qh (by unfold maxLen at hsz;omega)
     have hil':(i:Int)<(l.length:Int):=by omega
     have him:(i:Int)+1≤100000000:=by omega
     clear hs hcs hsz hx
     go_wp2_with fail
     go_fit (pnumber_any s _ ((uh HA).later (uh HB)) (uh HSZ) (uh HX))
     rintro e W1 ⟨⟨v,rfl,hR⟩,B1⟩
     obtain ⟨a1,a2,a3,a4,a5,a6,a7,a8,rfl⟩:=hR.shape
     have k1:=zqa W1 (.cells #[.int .i64 a1,.slice a2 a3 a4,.int .i64 a5,.slice a6 a7 a8] 39)
     obtain ⟨r0,r1,r2,r3⟩:=c4_new (w:=W1) (.int .i64 a1) (.slice a2 a3 a4) (.int .i64 a5) (.slice a6 a7 a8) 39
     have BB:=qh (bk k1 (bk B1 (uh HB)))
     have HO:=qh (((uh HO).later (RE.stays _ _ nww) B1).later (RE.stays _ _ nww) k1)
     have qa:=qh (hR.later k1)
     clear k1 B1 c0 HB hR
     obtain ⟨V1,hV1⟩:∃ V,V=W1.alloc (.cells #[.int .i64 a1,.slice a2 a3 a4,.int .i64 a5,.slice a6 a7 a8] 39):=⟨_,rfl⟩
     rw [← hV1] at BB HO qa r0 r1 r2 r3
     go_upto_region 8 with fail
     rw [← hV1]
     have hbs:w.heap.size≤V1.heap.size:=(uh BB).size
     have hLn:L.length≤100000000:=by have:=uh HLL;rw [this,List.length_take];omega
     clear hV1
     go_wp2_with (at_builtin;refine wpList_pushE rfl _ _ _ rfl Tryz.underlying32 info_r rfl (by decide) (by decide) zk_r (RE.stays _ _ nww) w.heap.size _ rfl (uh HO) [.int .i64 a1,.slice a2 a3 a4,.int .i64 a5,.slice a6 a7 a8] rfl (one_r _ _ _ _ _ _ _ _) (kd_r _ _ _ _ _ _ _ _) ⟨_,_,_,_,_,_,_,_,rfl,uh qa⟩ rfl rfl hLn hbs ?_;intro ov' Z1 hO1 hc1 hgr1 hge1)
     go_roundg (l.length - (i+1))
     case measure=>omega
     case rel=>exact ⟨i+1,L++[x],by omega,rfl,by go_num,qh (by rw [tkn (uh HS)];exact allOf_snoc (uh HN) (uh HX)),qh ((bk (zqa _ _) (uh BB)).grown hgr1 (bk (zqa _ _) (uh BB)).size hge1),qh hO1⟩
   · obtain rfl:i=l.length:=by omega
     clear hil hi hgk
     go_wp2
     exact bodyPost_ret (v:=.tuple #[.slice oa L.length oc,.bool true]) (by simp [results,Tryz.results9,go_sem]) rfl ⟨⟨_,rfl,by have h1:=uh HN;rw [List.take_length,uh HM] at h1;obtain rfl:M=L:=(by simpa using h1);exact (uh HO).rows,(uh HO).hi (Nat.le_refl _)⟩,uh HB⟩
theorem pnumbers_any {A:Nat→Addr}{v:Value}{l:List ByteArray}{M:List (Int×Int)} (w:World) (hA:Env A w) (h:Rows 1 TE w v l) (hl:l.length≤100000000) (hM:nums l=some M) :
   Calls Tryz.prog 9 #[v] w fun e w'=>(∃ v,e=.returned (.tuple #[v,.bool true])∧Rows 4 (RE 78) w' v M)∧Below w.heap.size w w':=(pnumbers_hi w hA h hl hM).mono fun _ _ ⟨⟨v,h1,h2,_⟩,h3⟩=>⟨⟨v,h1,h2⟩,h3⟩
theorem mul_abs {x y B C:Int} (hx:-B≤x∧x≤B) (hy:-C≤y∧y≤C) (hB:0≤B) (hC:0≤C):-(B*C)≤x*y∧x*y≤B*C:=by
 have h1:x.natAbs*y.natAbs≤B.natAbs*C.natAbs:=Nat.mul_le_mul (by omega) (by omega)
 rw [← Int.natAbs_mul,← Int.natAbs_mul] at h1
 have:0≤B*C:=Int.mul_nonneg hB hC
 omega
theorem low_le {P D z o:Int} (o0:0<o) (D0:0<D) (hg:Int.gcd P D=1) (h:P*o=z*D):D≤o∧P.natAbs≤z.natAbs:=by
 have h1:D∣o:=by
   have h2:D∣P*o:=⟨z,by rw [h,Int.mul_comm]⟩
   exact dvd_cop h2 hg
 have hD:=Int.le_of_dvd o0 h1
 refine ⟨hD,?_⟩
 have h3:P.natAbs*o.natAbs=z.natAbs*D.natAbs:=by rw [← Int.natAbs_mul,← Int.natAbs_mul,h]
 rcases Nat.lt_or_ge z.natAbs P.natAbs with h4 | h4
 · exfalso
   have h5:z.natAbs*D.natAbs<P.natAbs*o.natAbs:=by
     have h6:z.natAbs*D.natAbs≤z.natAbs*o.natAbs:=Nat.mul_le_mul_left _ (by omega)
     have h7:z.natAbs*o.natAbs<P.natAbs*o.natAbs:=Nat.mul_lt_mul_of_pos_right h4 (by omega)
     omega
   omega
 · exact h4
end Go.Proofs.YtkdobjmhammhbaaGreatDoor
