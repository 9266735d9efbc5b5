import Derived.Test.YtkifiolkfdicoaaGreatDoorMK7
import Derived.Test.YtkifiolkfdicoaaGreatDoorMN2
namespace Go.Proofs.YtkifiolkfdicoaaGreatDoor
def lap (f:List Nat→Int) (r:Nat→Int):List Nat→List Nat→Int
 | _,[]=>0
 | pre,c :: post=>r c*f (pre++post) - lap f r (pre++[c]) post
def dt:List (Nat→Int)→List Nat→Int
 | [],C=>if C=[] then 1 else 0
 | r :: rs,C=>lap (dt rs) r [] C
def Anti (f:List Nat→Int):Prop:=∀ A a b B,f (A++a :: b :: B) = - f (A++b :: a :: B)
theorem lap_pre {f:List Nat→Int} (hf:Anti f) (r:Nat→Int) (A:List Nat) (a b:Nat) (D B:List Nat):lap f r (A++a :: b :: D) B = - lap f r (A++b :: a :: D) B:=by
 induction B generalizing D with
 | nil=>simp [lap]
 | cons c B ih =>
   simp only [lap]
   have h1:=ih (D++[c])
   have h2:=hf A a b (D++B)
   simp only [List.append_assoc,List.cons_append] at *
   rw [h1,h2]
   grind
theorem lap_anti {f:List Nat→Int} (hf:Anti f) (r:Nat→Int):∀ (A pre:List Nat) (a b:Nat) (B:List Nat),lap f r pre (A++a :: b :: B) = - lap f r pre (A++b :: a :: B):=by
 intro A
 induction A with
 | nil =>
   intro pre a b B
   simp only [List.nil_append,lap]
   have h1:=lap_pre hf r pre a b [] B
   simp only [List.append_assoc,List.cons_append,List.nil_append] at *
   rw [h1]
   grind
 | cons c A ih =>
   intro pre a b B
   simp only [List.cons_append,lap]
   have h1:=ih (pre++[c]) a b B
   have h2:=hf (pre++A) a b B
   simp only [List.append_assoc] at h2
   rw [h1,h2]
   grind
theorem dt_anti:∀ R,Anti (dt R)
 | []=>fun A a b B=>by simp [dt]
 | r :: R=>fun A a b B=>lap_anti (dt_anti R) r A [] a b B
theorem anti_twice {f:List Nat→Int} (hf:Anti f) (c:Nat) (D:List Nat):∀ (B A:List Nat),f (A++c :: (B++c :: D))=0:=by
 intro B
 induction B with
 | nil=>intro A;have:=hf A c c D;simp only [List.nil_append];omega
 | cons b B ih =>
   intro A
   have h1:=hf A c b (B++c :: D)
   have h2:=ih (A++[b])
   simp only [List.append_assoc,List.cons_append,List.nil_append] at *
   omega
theorem anti_mem {f:List Nat→Int} (hf:Anti f) {c:Nat}{C:List Nat} (h:c ∈ C):f (C++[c])=0:=by
 obtain ⟨A,B,rfl⟩:=List.append_of_mem h
 have:=anti_twice hf c [] B A
 simpa using this
theorem anti_last {f:List Nat→Int} (hf:Anti f) (c:Nat):∀ (B A:List Nat),∃ s:Int,s*s=1∧f (A++c :: B)=s*f (A++B++[c]):=by
 intro B
 induction B with
 | nil=>intro A;exact ⟨1,rfl,by simp⟩
 | cons b B ih =>
   intro A
   obtain ⟨s,hs,h2⟩:=ih (A++[b])
   have h1:=hf A c b B
   refine ⟨-s,by grind,?_⟩
   simp only [List.append_assoc,List.cons_append,List.nil_append] at *
   rw [h1,h2]
   grind
theorem lap_zero (r:Nat→Int) {f:List Nat→Int} (hf:∀ L,f L=0):∀ (C pre:List Nat),lap f r pre C=0
 | [],_=>rfl
 | c :: C,pre=>by simp only [lap,hf,lap_zero r hf C];omega
theorem lap_snoc (f:List Nat→Int) (r:Nat→Int) (c:Nat):∀ (C pre:List Nat),lap f r pre (C++[c])=lap (fun L=>f (L++[c])) r pre C+(-1) ^ C.length*(r c*f (pre++C))
 | [],pre=>by simp [lap]
 | x :: C,pre=>by
   have h:=lap_snoc f r c C (pre++[x])
   simp only [List.cons_append,lap,List.length_cons,List.append_assoc,List.nil_append] at *
   rw [h,Int.pow_succ]
   grind
def cmb:(Nat→Int)→List (Nat→Int)→Nat→Int
 | _,[],_=>0
 | m,r :: R,c=>m 0*r c+cmb (fun j=>m (j+1)) R c
theorem cmb_add (m m':Nat→Int) (R:List (Nat→Int)) (c:Nat):cmb (fun j=>m j+m' j) R c=cmb m R c+cmb m' R c:=by
 induction R generalizing m m' with
 | nil=>rfl
 | cons r R ih=>simp only [cmb,ih];grind
theorem cmb_mul (t:Int) (m:Nat→Int) (R:List (Nat→Int)) (c:Nat):cmb (fun j=>t*m j) R c=t*cmb m R c:=by
 induction R generalizing m with
 | nil=>simp [cmb]
 | cons r R ih=>simp only [cmb,ih];grind
theorem cmb_zero (R:List (Nat→Int)) (c:Nat):cmb (fun _=>0) R c=0:=by
 induction R with
 | nil=>rfl
 | cons r R ih=>simp only [cmb,ih];omega
theorem cmb_lap (m:List Nat→Nat→Int) (r:Nat→Int) (R:List (Nat→Int)) (c:Nat):∀ (C pre:List Nat),cmb (fun j=>lap (fun L=>m L j) r pre C) R c=lap (fun L=>cmb (m L) R c) r pre C
 | [],pre=>by simp only [lap];exact cmb_zero R c
 | x :: C,pre=>by
   have h:=cmb_lap m r R c C (pre++[x])
   simp only [lap]
   rw [← h]
   have e:(fun j=>r x*m (pre++C) j - lap (fun L=>m L j) r (pre++[x]) C)=fun j=>r x*m (pre++C) j+(-1)*lap (fun L=>m L j) r (pre++[x]) C:=by funext j;omega
   rw [e,cmb_add (fun j=>r x*m (pre++C) j),cmb_mul,cmb_mul]
   grind
theorem lap_lin (f g:List Nat→Int) (t:Int) (r:Nat→Int):∀ (C pre:List Nat),lap (fun L=>f L*t+g L) r pre C=lap f r pre C*t+lap g r pre C
 | [],_=>by simp [lap]
 | x :: C,pre=>by
   have h:=lap_lin f g t r C (pre++[x])
   simp only [lap]
   rw [h]
   grind
theorem lap_congr {f g:List Nat→Int} (h:∀ L,f L=g L) (r:Nat→Int) (C pre:List Nat):lap f r pre C=lap g r pre C:=by
 have:f=g:=funext h
 rw [this]
theorem dt_last:∀ (R:List (Nat→Int)) (x:Nat→Int) (C:List Nat),∃ m,∀ c,dt (R++[x]) (C++[c])=dt R C*x c+cmb m R c
 | [],x,C=>⟨fun _=>0,fun c=>by
   simp only [List.nil_append,dt,cmb]
   rw [lap_snoc,lap_zero _ (fun L=>by simp)]
   cases C with
   | nil=>simp
   | cons y C=>simp⟩
 | r :: R,x,C=>by
   have ih:=dt_last R x
   let m:List Nat→Nat→Int:=fun L=>Classical.choose (ih L)
   have hm:∀ L c,dt (R++[x]) (L++[c])=dt R L*x c+cmb (m L) R c:=fun L=>Classical.choose_spec (ih L)
   refine ⟨fun j=>match j with
     | 0=>(-1) ^ C.length*dt (R++[x]) C
     | j+1=>lap (fun L=>m L j) r [] C,fun c => ?_⟩
   simp only [List.cons_append,dt,cmb]
   rw [lap_snoc,lap_congr (g:=fun L=>dt R L*x c+cmb (m L) R c) (fun L=>hm L c),lap_lin,cmb_lap]
   simp only [List.nil_append]
   grind
theorem dt_span:∀ (R:List (Nat→Int)) (C:List Nat),∃ m,∀ c,dt R (C++[c])=cmb m R c
 | [],C=>⟨fun _=>0,fun c=>by simp [dt,cmb]⟩
 | r :: R,C=>by
   have ih:=dt_span R
   let m:List Nat→Nat→Int:=fun L=>Classical.choose (ih L)
   have hm:∀ L c,dt R (L++[c])=cmb (m L) R c:=fun L=>Classical.choose_spec (ih L)
   refine ⟨fun j=>match j with
     | 0=>(-1) ^ C.length*dt R C
     | j+1=>lap (fun L=>m L j) r [] C,fun c => ?_⟩
   simp only [dt,cmb]
   rw [lap_snoc,lap_congr (g:=fun L=>cmb (m L) R c) (fun L=>hm L c),cmb_lap]
   simp only [List.nil_append]
   grind
def ev:List Nat→(Nat→Nat→Int)→(Nat→Int)→Nat→Int
 | [],_,_,_=>0
 | x :: C,V,g,c=>g x*V 0 c+ev C (fun l=>V (l+1)) g c
theorem ev_snoc (x:Nat) (g:Nat→Int) (c:Nat):∀ (C:List Nat) (V:Nat→Nat→Int),ev (C++[x]) V g c=ev C V g c+g x*V C.length c
 | [],V=>by simp [ev]
 | y :: C,V=>by simp only [List.cons_append,ev,List.length_cons,ev_snoc x g c C];omega
theorem ev_add (g h:Nat→Int) (c:Nat):∀ (C:List Nat) (V:Nat→Nat→Int),ev C V (fun x=>g x+h x) c=ev C V g c+ev C V h c
 | [],V=>rfl
 | y :: C,V=>by simp only [ev,ev_add g h c C];grind
theorem ev_mul (t:Int) (g:Nat→Int) (c:Nat):∀ (C:List Nat) (V:Nat→Nat→Int),ev C V (fun x=>t*g x) c=t*ev C V g c
 | [],V=>by simp [ev]
 | y :: C,V=>by simp only [ev,ev_mul t g c C];grind
theorem ev_zero (g:Nat→Int) (c:Nat):∀ (C:List Nat) (V:Nat→Nat→Int),(∀ x ∈ C,g x=0)→ev C V g c=0
 | [],V,_=>rfl
 | y :: C,V,h=>by simp only [ev,ev_zero g c C _ (fun x hx=>h x (by simp [hx])),h y (by simp)];omega
theorem ev_one (g:Nat→Int) (c:Nat):∀ (C:List Nat) (V:Nat→Nat→Int) (i x:Nat),C[i]? = some x→(∀ j y,C[j]? = some y→j≠i→g y=0)→ev C V g c=g x*V i c
 | [],V,i,x,h,_=>by simp at h
 | y :: C,V,0,x,h,h0=>by
   obtain rfl:y=x:=by simpa using h
   simp only [ev]
   rw [ev_zero g c C _ (fun z hz=>by obtain ⟨j,hj⟩:=List.getElem?_of_mem hz;exact h0 (j+1) z (by simpa using hj) (by omega))]
   omega
 | y :: C,V,i+1,x,h,h0=>by
   simp only [ev]
   rw [ev_one g c C (fun l=>V (l+1)) i x (by simpa using h) (fun j z hz hj=>h0 (j+1) z (by simpa using hz) (by omega)),h0 0 y (by simp) (by omega)]
   omega
theorem ev_lin (a:Int) (g:Nat→Int) (c c0:Nat) (pk:Int):∀ (C:List Nat) (V P:Nat→Nat→Int),(∀ l,l<C.length→V l c=a*P l c - P l c0*pk)→ev C V g c=a*ev C P g c - ev C P g c0*pk
 | [],V,P,_=>by simp [ev]
 | y :: C,V,P,h=>by
   simp only [ev]
   rw [ev_lin a g c c0 pk C (fun l=>V (l+1)) (fun l=>P (l+1)) (fun l hl=>h (l+1) (by simp;omega)),h 0 (by simp)]
   grind
theorem ev_cmb {q:Int}{C:List Nat}{V:Nat→Nat→Int} (c:Nat):∀ (R:List (Nat→Int)) (m:Nat→Int),(∀ r ∈ R,q*r c=ev C V r c)→q*cmb m R c=ev C V (fun x=>cmb m R x) c
 | [],m,_=>by simp only [cmb];rw [ev_zero _ c C V (fun _ _=>rfl)];omega
 | r :: R,m,h=>by
   simp only [cmb]
   rw [ev_add (fun x=>m 0*r x),ev_mul,← ev_cmb c R _ (fun r hr=>h r (by simp [hr])),← h r (by simp)]
   grind
def frst (a:Nat→Nat→Int) (k:Nat):List (Nat→Int):=(List.range k).map a
theorem frst_succ (a:Nat→Nat→Int) (k:Nat):frst a (k+1)=frst a k++[a k]:=by simp [frst,List.range_succ]
theorem frst_mem {a:Nat→Nat→Int}{k:Nat}{r:Nat→Int} (h:r ∈ frst a k):∃ j,j<k∧r=a j:=by
 obtain ⟨j,hj,rfl⟩:=List.mem_map.1 h
 exact ⟨j,List.mem_range.1 hj,rfl⟩
structure Gj (a V:Nat→Nat→Int) (n k:Nat) (C:List Nat) (q:Int):Prop where
 len:C.length=k
 kn:k≤n
 star:∀ i c,i<n→q*a i c=ev C V (a i) c+(if i<k then 0 else V i c)
 unit:∀ l m x,l<n→C[m]? = some x→V l x=if l=m then q else 0
theorem Gj.start (a:Nat→Nat→Int) (n:Nat):Gj a a n 0 [] 1:=⟨rfl,Nat.zero_le _,fun i c _=>by simp [ev],fun l m x _ h=>by simp at h⟩
theorem Gj.rest {a V:Nat→Nat→Int}{n k:Nat}{C:List Nat}{q:Int} (h:Gj a V n k C q) {i:Nat} (hi:k≤i) (hn:i<n) (c:Nat):q*dt (frst a k++[a i]) (C++[c])=dt (frst a k) C*V i c:=by
 obtain ⟨m,hm⟩:=dt_last (frst a k) (a i) C
 have h1:=h.star i c hn
 rw [if_neg (by omega)] at h1
 have h2:=ev_cmb (q:=q) (C:=C) (V:=V) c (frst a k) m (fun r hr=>by
   obtain ⟨j,hj,rfl⟩:=frst_mem hr
   have:=h.star j c (by omega)
   rw [if_pos hj] at this
   omega)
 have h3:ev C V (fun x=>dt (frst a k++[a i]) (C++[x])) c=0:=ev_zero _ c C V (fun x hx=>anti_mem (dt_anti _) hx)
 have h4:(fun x=>dt (frst a k++[a i]) (C++[x]))=fun x=>dt (frst a k) C*a i x+cmb m (frst a k) x:=funext hm
 rw [h4,ev_add (fun x=>dt (frst a k) C*a i x),ev_mul] at h3
 rw [hm c]
 grind
theorem Gj.done {a V:Nat→Nat→Int}{n k:Nat}{C:List Nat}{q:Int} (h:Gj a V n k C q) {i:Nat} (hi:i<k):∃ (t:Int) (D:List Nat),t*t=1∧D.length+1=k∧(∀ x ∈ D,x ∈ C)∧∀ c,q*dt (frst a k) (D++[c])=t*dt (frst a k) C*V i c:=by
 have hlt:i<C.length:=by rw [h.len];exact hi
 have hc:C[i]? = some C[i]:=List.getElem?_eq_getElem hlt
 have hsplit:C=C.take i++C[i] :: C.drop (i+1):=by simp
 obtain ⟨s,hs,h1⟩:=anti_last (dt_anti (frst a k)) C[i] (C.drop (i+1)) (C.take i)
 rw [← hsplit] at h1
 refine ⟨s,C.take i++C.drop (i+1),hs,by simp [h.len];omega,fun x hx => ?_,fun c => ?_⟩
 · rcases List.mem_append.1 hx with hx | hx
   · exact List.mem_of_mem_take hx
   · exact List.mem_of_mem_drop hx
 · obtain ⟨m,hm⟩:=dt_span (frst a k) (C.take i++C.drop (i+1))
   have h2:=ev_cmb (q:=q) (C:=C) (V:=V) c (frst a k) m (fun r hr=>by
     obtain ⟨j,hj,rfl⟩:=frst_mem hr
     have:=h.star j c (by have:=h.kn;omega)
     rw [if_pos hj] at this
     omega)
   have h4:(fun x=>dt (frst a k) (C.take i++C.drop (i+1)++[x]))=fun x=>cmb m (frst a k) x:=funext hm
   rw [← h4] at h2
   rw [hm c,h2,ev_one _ c C V i C[i] hc (fun j y hy hj => ?_)]
   · have:dt (frst a k) (C.take i++C.drop (i+1)++[C[i]])=s*dt (frst a k) C:=by rw [h1];grind
     rw [this]
   · refine anti_mem (dt_anti _) ?_
     rcases Nat.lt_or_gt_of_ne hj with hj | hj
     · exact List.mem_append_left _ (List.mem_of_getElem? (i:=j) (by rw [List.getElem?_take_of_lt hj];exact hy))
     · exact List.mem_append_right _ (List.mem_of_getElem? (i:=j - (i+1)) (by rw [List.getElem?_drop,show i+1+(j - (i+1))=j by omega];exact hy))
def nxt (P:Nat→Nat→Int) (k c0:Nat) (q:Int) (i c:Nat):Int:=if i=k then q*P k c else P k c0*P i c - P i c0*P k c
theorem Gj.step {a P:Nat→Nat→Int}{n k:Nat}{C:List Nat}{q:Int} (h:Gj a P n k C q) (hk:k<n) (c0:Nat):Gj a (nxt P k c0 q) n (k+1) (C++[c0]) (q*P k c0):=by
 have hlen:=h.len
 refine ⟨by simp [hlen],hk,fun i c hi => ?_,fun l m x hl hx => ?_⟩
 · have e1:=h.star i c hi
   have e2:=h.star i c0 hi
   have e3:ev C (nxt P k c0 q) (a i) c=P k c0*ev C P (a i) c - ev C P (a i) c0*P k c :=
     ev_lin (P k c0) (a i) c c0 (P k c) C (nxt P k c0 q) P (fun l hl=>by simp only [nxt];rw [if_neg (by omega)])
   rw [ev_snoc,e3,hlen]
   have e4:nxt P k c0 q k c=q*P k c:=by simp [nxt]
   rw [e4]
   rcases Nat.lt_trichotomy i k with hik | rfl | hik
   · rw [if_pos hik] at e1 e2
     rw [if_pos (by omega)]
     grind
   · rw [if_neg (by omega)] at e1 e2
     rw [if_pos (by omega)]
     grind
   · rw [if_neg (by omega)] at e1 e2
     rw [if_neg (by omega)]
     have e5:nxt P k c0 q i c=P k c0*P i c - P i c0*P k c:=by simp only [nxt];rw [if_neg (by omega)]
     rw [e5]
     grind
 · rcases Nat.lt_or_ge m k with hm | hm
   · rw [List.getElem?_append_left (by omega)] at hx
     have u1:=h.unit l m x hl hx
     have u2:=h.unit k m x hk hx
     rw [if_neg (by omega)] at u2
     simp only [nxt,u1,u2]
     by_cases hlk:l=k
     · rw [if_pos hlk,if_neg (by omega)];omega
     · rw [if_neg hlk]
       by_cases hlm:l=m
       · rw [if_pos hlm,if_pos hlm];grind
       · rw [if_neg hlm,if_neg hlm];omega
   · have hm':m=k:=by
       have:=(List.getElem?_eq_some_iff.1 hx).1
       simp [hlen] at this;omega
     subst hm'
     have hx':c0=x:=by rw [List.getElem?_append_right (by omega),hlen] at hx;simpa using hx
     subst hx'
     simp only [nxt]
     by_cases hlk:l=m
     · rw [if_pos hlk,if_pos hlk]
     · rw [if_neg hlk,if_neg hlk];grind
theorem Gj.less {a V P:Nat→Nat→Int}{n k:Nat}{C:List Nat}{t q:Int} (h:Gj a V n k C (t*q)) (ht:t≠0) (hV:∀ i c,i<n→V i c=t*P i c):Gj a P n k C q:=by
 have hev:∀ (C:List Nat) (V P:Nat→Nat→Int) (g:Nat→Int) (c m:Nat),C.length+m≤n→(∀ l,l<C.length→V l c=t*P l c)→ev C V g c=t*ev C P g c:=by
   intro C
   induction C with
   | nil=>intro V P g c m _ _;simp [ev]
   | cons y C ih =>
     intro V P g c m hm hv
     simp only [ev]
     rw [ih (fun l=>V (l+1)) (fun l=>P (l+1)) g c m (by simp at hm;omega) (fun l hl=>hv (l+1) (by simp;omega)),hv 0 (by simp)]
     grind
 refine ⟨h.len,h.kn,fun i c hi => ?_,fun l m x hl hx => ?_⟩
 · have e:=h.star i c hi
   rw [hev C V P (a i) c 0 (by have:=h.len;have:=h.kn;omega) (fun l hl=>hV l c (by have:=h.len;have:=h.kn;omega)),hV i c hi] at e
   refine Int.eq_of_mul_eq_mul_left ht ?_
   split at e <;> split <;> grind
 · have e:=h.unit l m x hl hx
   rw [hV l x hl] at e
   refine Int.eq_of_mul_eq_mul_left ht ?_
   split at e <;> split <;> grind
structure Bar (a P:Nat→Nat→Int) (n k:Nat) (C:List Nat) (q s:Int):Prop where
 gj:Gj a P n k C q
 s1:s*s=1
 q0:q≠0
 det:q=s*dt (frst a k) C
theorem Bar.start (a:Nat→Nat→Int) (n:Nat):Bar a a n 0 [] 1 1:=⟨Gj.start a n,rfl,by decide,by simp [frst,dt]⟩
theorem Bar.dt_eq {a P:Nat→Nat→Int}{n k:Nat}{C:List Nat}{q s:Int} (h:Bar a P n k C q s):dt (frst a k) C=s*q:=by
 have:=h.det
 have:=h.s1
 grind
theorem Bar.rest {a P:Nat→Nat→Int}{n k:Nat}{C:List Nat}{q s:Int} (h:Bar a P n k C q s) {i:Nat} (hi:k≤i) (hn:i<n) (c:Nat):P i c=s*dt (frst a k++[a i]) (C++[c]):=by
 have h1:=h.gj.rest hi hn c
 rw [h.dt_eq] at h1
 refine Int.eq_of_mul_eq_mul_left h.q0 ?_
 have:=h.s1
 grind
theorem Bar.done {a P:Nat→Nat→Int}{n k:Nat}{C:List Nat}{q s:Int} (h:Bar a P n k C q s) {i:Nat} (hi:i<k):∃ (t:Int) (D:List Nat),t*t=1∧D.length+1=k∧(∀ x ∈ D,x ∈ C)∧∀ c,P i c=t*dt (frst a k) (D++[c]):=by
 obtain ⟨t,D,h1,h2,h3,h4⟩:=h.gj.done hi
 refine ⟨t*s,D,by have:=h.s1;grind,h2,h3,fun c => ?_⟩
 have h5:=h4 c
 rw [h.dt_eq] at h5
 refine Int.eq_of_mul_eq_mul_left h.q0 ?_
 have:=h.s1
 grind
theorem Bar.div {a P:Nat→Nat→Int}{n k:Nat}{C:List Nat}{q s:Int} (h:Bar a P n k C q s) (hk:k<n) {c0:Nat} (hp:P k c0≠0) (i c:Nat) (hi:i<n):q∣nxt P k c0 q i c:=by
 have hg:=h.gj.step hk c0
 have e0:=h.rest (Nat.le_refl _) hk c0
 rw [← frst_succ] at e0
 have e1:dt (frst a (k+1)) (C++[c0])=s*P k c0:=by have:=h.s1;grind
 rcases Nat.lt_or_ge i (k+1) with hik | hik
 · obtain ⟨t,D,h1,h2,h3,h4⟩:=hg.done hik
   have h5:=h4 c
   rw [e1] at h5
   refine ⟨t*s*dt (frst a (k+1)) (D++[c]),?_⟩
   refine Int.eq_of_mul_eq_mul_left hp ?_
   have:=h.s1
   grind
 · have h5:=hg.rest hik hi c
   rw [e1] at h5
   refine ⟨s*dt (frst a (k+1)++[a i]) (C++[c0]++[c]),?_⟩
   refine Int.eq_of_mul_eq_mul_left hp ?_
   have:=h.s1
   grind
theorem Bar.step {a P V:Nat→Nat→Int}{n k:Nat}{C:List Nat}{q s:Int} (h:Bar a P n k C q s) (hk:k<n) {c0:Nat} (hp:P k c0≠0) (hV:∀ i c,i<n→nxt P k c0 q i c=q*V i c):Bar a V n (k+1) (C++[c0]) (P k c0) s:=by
 have e0:=h.rest (Nat.le_refl _) hk c0
 rw [← frst_succ] at e0
 exact ⟨(h.gj.step hk c0).less h.q0 hV,h.s1,hp,e0⟩
def swp (k f i:Nat):Nat:=if i=k then f else if i=f then k else i
theorem Bar.swap {a P:Nat→Nat→Int}{n k:Nat}{C:List Nat}{q s:Int} (h:Bar a P n k C q s) {f:Nat} (hf:k≤f) (hn:f<n):Bar (fun i=>a (swp k f i)) (fun i=>P (swp k f i)) n k C q s:=by
 have hlt:∀ i,i<k→swp k f i=i:=fun i hi=>by simp only [swp];rw [if_neg (by omega),if_neg (by omega)]
 have hge:∀ i,k≤i→i<n→k≤swp k f i∧swp k f i<n:=fun i hi hn=>by simp only [swp];split <;> (try split) <;> omega
 have hfrst:frst (fun i=>a (swp k f i)) k=frst a k:=List.map_congr_left fun i hi=>by rw [hlt i (List.mem_range.1 hi)]
 have hev:∀ (C:List Nat) (V W:Nat→Nat→Int) (g:Nat→Int) (c:Nat),(∀ l,l<C.length→V l c=W l c)→ev C V g c=ev C W g c:=by
   intro C
   induction C with
   | nil=>intro V W g c _;rfl
   | cons y C ih =>
     intro V W g c hv
     simp only [ev]
     rw [ih (fun l=>V (l+1)) (fun l=>W (l+1)) g c (fun l hl=>hv (l+1) (by simp;omega)),hv 0 (by simp)]
 have hl:=h.gj.len
 refine ⟨⟨h.gj.len,h.gj.kn,fun i c hi => ?_,fun l m x hl hx => ?_⟩,h.s1,h.q0,by rw [hfrst];exact h.det⟩
 · rw [hev C (fun i=>P (swp k f i)) P _ c (fun l hl'=>by rw [hlt l (by omega)])]
   rcases Nat.lt_or_ge i k with hik | hik
   · have:=h.gj.star i c hi
     rw [if_pos hik] at this ⊢
     rw [hlt i hik]
     exact this
   · have hh:=hge i hik hi
     have:=h.gj.star (swp k f i) c hh.2
     rw [if_neg (by omega)] at this ⊢
     exact this
 · have hm:m<k:=by have:=(List.getElem?_eq_some_iff.1 hx).1;omega
   rcases Nat.lt_or_ge l k with hik | hik
   · rw [hlt l hik];exact h.gj.unit l m x (by omega) hx
   · have hh:=hge l hik hl
     have:=h.gj.unit (swp k f l) m x hh.2 hx
     rw [if_neg (by omega)] at this ⊢
     exact this
theorem lap_le {M B:Nat}{f:List Nat→Int}{r:Nat→Int}:∀ (C pre:List Nat),(∀ c ∈ C,(r c).natAbs≤M)→(∀ L,L.length+1=pre.length+C.length→(∀ x ∈ L,x ∈ pre∨x ∈ C)→(f L).natAbs≤B)→(lap f r pre C).natAbs≤C.length*(M*B)
 | [],pre,_,_=>by simp [lap]
 | c :: C,pre,hr,hf=>by
   have h1:=lap_le C (pre++[c]) (fun x hx=>hr x (by simp [hx])) (fun L hL hx=>hf L (by simp at hL ⊢;omega) (fun x hxL=>by rcases hx x hxL with h | h <;> simp at h ⊢ <;> grind))
   have h2:=hf (pre++C) (by simp;omega) (fun x hx=>by simp at hx ⊢;grind)
   have h3:(r c*f (pre++C)).natAbs≤M*B:=by rw [Int.natAbs_mul];exact Nat.mul_le_mul (hr c (by simp)) h2
   simp only [lap,List.length_cons,Nat.add_mul,Nat.one_mul]
   omega
theorem dt_le {M:Nat} (hM:0<M):∀ (R:List (Nat→Int)) (C:List Nat),(∀ r ∈ R,∀ c ∈ C,(r c).natAbs≤M)→(dt R C).natAbs≤(C.length*M) ^ R.length
 | [],C,_=>by simp only [dt];split <;> simp
 | r :: R,C,h=>by
   have h1:(dt (r :: R) C).natAbs≤C.length*(M*(C.length*M) ^ R.length):=lap_le C [] (fun c hc=>h r (by simp) c hc) (fun L hL hx=>by
     have:=dt_le hM R L (fun r hr c hc=>h r (by simp [hr]) c (by rcases hx c hc with h | h <;> simp_all))
     refine Nat.le_trans this (Nat.pow_le_pow_left (Nat.mul_le_mul_right _ (by simp at hL;omega)) _))
   rw [List.length_cons,Nat.pow_succ]
   refine Nat.le_trans h1 (Nat.le_of_eq ?_)
   rw [← Nat.mul_assoc,Nat.mul_comm]
theorem Bar.le {a P:Nat→Nat→Int}{n k:Nat}{C:List Nat}{q s:Int} (h:Bar a P n k C q s) {M w:Nat} (hM:0<M) (hC:∀ x ∈ C,x<w) (hn:n≤6) (hb:∀ i c,i<n→c<w→(a i c).natAbs≤M) (i c:Nat) (hi:i<n) (hc:c<w):(P i c).natAbs≤(6*M) ^ 6:=by
 have big:∀ (R:List (Nat→Int)) (D:List Nat),R.length≤6→D.length≤6→(∀ r ∈ R,∃ j,j<n∧r=a j)→(∀ x ∈ D,x<w)→(dt R D).natAbs≤(6*M) ^ 6:=by
   intro R D hR hD h1 h2
   refine Nat.le_trans (dt_le hM R D (fun r hr x hx=>by obtain ⟨j,hj,rfl⟩:=h1 r hr;exact hb j x hj (h2 x hx))) ?_
   refine Nat.le_trans (Nat.pow_le_pow_left (Nat.mul_le_mul_right _ hD) _) (Nat.pow_le_pow_right (by omega) hR)
 have hs:∀ s:Int,s*s=1→s.natAbs=1:=fun s hs=>by
   have:s.natAbs*s.natAbs=1:=by rw [← Int.natAbs_mul,hs];rfl
   exact Nat.eq_one_of_mul_eq_one_left this
 have hk:=h.gj.kn
 have hl:=h.gj.len
 rcases Nat.lt_or_ge i k with hik | hik
 · obtain ⟨t,D,h1,h2,h3,h4⟩:=h.done hik
   rw [h4 c,Int.natAbs_mul,hs t h1,Nat.one_mul]
   exact big _ _ (by simp [frst];omega) (by simp;omega) (fun r hr=>by obtain ⟨j,hj,rfl⟩:=frst_mem hr;exact ⟨j,by omega,rfl⟩) (fun x hx=>by
     rcases List.mem_append.1 hx with hx | hx
     · exact hC x (h3 x hx)
     · simp at hx;omega)
 · rw [h.rest hik hi c,Int.natAbs_mul,hs s h.s1,Nat.one_mul]
   exact big _ _ (by simp [frst];omega) (by simp;omega) (fun r hr=>by
     rcases List.mem_append.1 hr with hr | hr
     · obtain ⟨j,hj,rfl⟩:=frst_mem hr;exact ⟨j,by omega,rfl⟩
     · simp at hr;exact ⟨i,hi,hr⟩) (fun x hx=>by
     rcases List.mem_append.1 hx with hx | hx
     · exact hC x hx
     · simp at hx;omega)
def en (R:List (List Int)) (i c:Nat):Int:=(R.getD i []).getD c 0
def swapL (R:List (List Int)) (k a:Nat):List (List Int):=(List.range R.length).map fun i=>R.getD (swp k a i) []
def clr (R:List (List Int)) (k col:Nat) (d:Int):List (List Int) :=
 (List.range R.length).map fun i=>if i=k then R.getD k [] else List.zipWith (fun x z=>(x*en R k col - z*en R i col) / d) (R.getD i []) (R.getD k [])
def stepZ (col:Nat) (s:List (List Int)×Int×List Nat):List (List Int)×Int×List Nat :=
 match pz s.1 col s.2.2.length with
 | none=>s
 | some a=>(clr (swapL s.1 s.2.2.length a) s.2.2.length col s.2.1,en (swapL s.1 s.2.2.length a) s.2.2.length col,s.2.2++[col])
def redZ (R:List (List Int)):Nat→List (List Int)×Int×List Nat
 | 0=>(R,1,[])
 | j+1=>stepZ j (redZ R j)
theorem pzt_lt {R:List (List Int)}{col a:Nat}:∀ (t i:Nat),pzt R col t i=some a→i≤a∧a<i+t∧nzz R col a
 | 0,i,h=>by simp [pzt] at h
 | t+1,i,h=>by
   simp only [pzt] at h
   split at h
   · rename_i hz
     obtain rfl:i=a:=by simpa using h
     exact ⟨by omega,by omega,hz⟩
   · have:=pzt_lt t (i+1) h
     exact ⟨by omega,by omega,this.2.2⟩
theorem pz_some {R:List (List Int)}{col k a:Nat} (h:pz R col k=some a):k≤a∧a<R.length∧en R a col≠0:=by
 have:=pzt_lt _ _ h
 exact ⟨this.1,by omega,this.2.2⟩
theorem pzt_none {R:List (List Int)}{col:Nat}:∀ (t i j:Nat),pzt R col t i=none→i≤j→j<i+t→en R j col=0
 | 0,i,j,_,h1,h2=>by omega
 | t+1,i,j,h,h1,h2=>by
   simp only [pzt] at h
   split at h
   · cases h
   · rename_i hz
     by_cases e:j=i
     · subst e
       unfold nzz at hz
       unfold en
       omega
     · exact pzt_none t (i+1) j h (by omega) (by omega)
theorem pz_none {R:List (List Int)}{col k j:Nat} (h:pz R col k=none) (h1:k≤j) (h2:j<R.length):en R j col=0:=pzt_none _ _ j h h1 (by omega)
theorem swapL_len (R:List (List Int)) (k a:Nat):(swapL R k a).length=R.length:=by simp [swapL]
theorem clr_len (R:List (List Int)) (k col:Nat) (d:Int):(clr R k col d).length=R.length:=by simp [clr]
theorem getD_range {α:Type} (f:Nat→List α) {n i:Nat} (h:i<n):((List.range n).map f).getD i []=f i:=by
 rw [List.getD_eq_getElem?_getD,List.getElem?_map,List.getElem?_range h];rfl
theorem swp_lt {n k a i:Nat} (hk:k<n) (ha:a<n) (hi:i<n):swp k a i<n:=by simp only [swp];split <;> (try split) <;> omega
theorem en_swap {R:List (List Int)}{k a i:Nat} (hi:i<R.length) (c:Nat):en (swapL R k a) i c=en R (swp k a i) c:=by
 unfold en swapL
 rw [getD_range _ hi]
theorem zkx {M:List (List Int)}{a:Nat} (h:a<M.length):M.getD a [] ∈ M:=by
 rw [List.getD_eq_getElem?_getD,List.getElem?_eq_getElem h]
 exact List.getElem_mem h
theorem swapL_wide {R:List (List Int)}{k a m:Nat} (hk:k<R.length) (ha:a<R.length) (hw:∀ r ∈ R,r.length=m):∀ r ∈ swapL R k a,r.length=m:=by
 intro r hr
 obtain ⟨i,hi,rfl⟩:=List.mem_map.1 hr
 exact hw _ (zkx (swp_lt hk ha (List.mem_range.1 hi)))
theorem clr_wide {R:List (List Int)}{k col m:Nat}{d:Int} (hk:k<R.length) (hw:∀ r ∈ R,r.length=m):∀ r ∈ clr R k col d,r.length=m:=by
 intro r hr
 obtain ⟨i,hi,rfl⟩:=List.mem_map.1 hr
 have h1:=hw _ (zkx hk)
 have h2:=hw _ (zkx (List.mem_range.1 hi))
 split
 · exact h1
 · rw [List.length_zipWith,h1,h2,Nat.min_self]
theorem getD_zip {f:Int→Int→Int}{a b:List Int} (h:a.length=b.length) (h0:f 0 0=0) (c:Nat):(List.zipWith f a b).getD c 0=f (a.getD c 0) (b.getD c 0):=by
 rw [List.getD_eq_getElem?_getD,List.getD_eq_getElem?_getD,List.getD_eq_getElem?_getD,List.getElem?_zipWith]
 rcases Nat.lt_or_ge c a.length with hc | hc
 · rw [List.getElem?_eq_getElem hc,List.getElem?_eq_getElem (by omega)];rfl
 · rw [List.getElem?_eq_none hc,List.getElem?_eq_none (by omega)];simp [h0]
theorem en_clr {R:List (List Int)}{k col m i:Nat}{d:Int} (hk:k<R.length) (hi:i<R.length) (hw:∀ r ∈ R,r.length=m) (c:Nat):en (clr R k col d) i c=if i=k then en R k c else (en R i c*en R k col - en R k c*en R i col) / d:=by
 show ((clr R k col d).getD i []).getD c 0=_
 unfold clr
 rw [getD_range _ hi]
 split
 · rfl
 · rw [getD_zip (by rw [hw _ (zkx hi),hw _ (zkx hk)]) (by simp)]
   rfl
theorem Bar.congr {a P P':Nat→Nat→Int}{n k:Nat}{C:List Nat}{q s:Int} (h:Bar a P n k C q s) (hP:∀ i c,i<n→P' i c=P i c):Bar a P' n k C q s:=by
 refine ⟨Gj.less (t:=1) (V:=P) (by rw [Int.one_mul];exact h.gj) (by decide) (fun i c hi=>by rw [Int.one_mul,hP i c hi]),h.s1,h.q0,h.det⟩
structure InvZ (R0:List (List Int)) (m j:Nat) (s:List (List Int)×Int×List Nat) (A:Nat→Nat→Int) (sg:Int):Prop where
 len:s.1.length=R0.length
 wide:∀ r ∈ s.1,r.length=m
 perm:∀ i,i<R0.length→∃ i0,i0<R0.length∧A i=en R0 i0
 bar:Bar A (en s.1) R0.length s.2.2.length s.2.2 s.2.1 sg
 cols:∀ x ∈ s.2.2,x<j
 noughts:∀ i c,s.2.2.length≤i→i<R0.length→c<j→en s.1 i c=0
theorem InvZ.start {R0:List (List Int)}{m:Nat} (hw:∀ r ∈ R0,r.length=m):InvZ R0 m 0 (R0,1,[]) (en R0) 1:=⟨rfl,hw,fun i hi=>⟨i,hi,rfl⟩,Bar.start _ _,fun x hx=>by simp at hx,fun _ _ _ _ h=>by omega⟩
theorem InvZ.found {R0:List (List Int)}{m j a:Nat}{s:List (List Int)×Int×List Nat}{A:Nat→Nat→Int}{sg:Int} (h:InvZ R0 m j s A sg) (ha:pz s.1 j s.2.2.length=some a) :
   InvZ R0 m (j+1) (stepZ j s) (fun i=>A (swp s.2.2.length a i)) sg∧(∀ i c,i<R0.length→i≠s.2.2.length→en (stepZ j s).1 i c*s.2.1=en (swapL s.1 s.2.2.length a) i c*en (swapL s.1 s.2.2.length a) s.2.2.length j - en (swapL s.1 s.2.2.length a) s.2.2.length c*en (swapL s.1 s.2.2.length a) i j):=by
 obtain ⟨h1,h2,h3⟩:=pz_some ha
 have hl:=h.len
 obtain ⟨k,hk⟩:∃ k,k=s.2.2.length:=⟨_,rfl⟩
 obtain ⟨q,hq⟩:∃ q,q=s.2.1:=⟨_,rfl⟩
 obtain ⟨R1,hR1⟩:∃ R,R=swapL s.1 s.2.2.length a:=⟨_,rfl⟩
 have hst:stepZ j s=(clr R1 k j q,en R1 k j,s.2.2++[j]):=by simp only [stepZ,ha];rw [← hk,← hq,hR1,hk]
 have hb:=h.bar
 rw [← hk,← hq] at hb
 have hbs:=(hb.swap (f:=a) (by omega) (by omega)).congr (P':=en R1) (fun i c hi=>by rw [hR1,← hk];exact en_swap (by omega) c)
 have hl1:R1.length=R0.length:=by rw [hR1,swapL_len,hl]
 have hw1:∀ r ∈ R1,r.length=m:=by rw [hR1];exact swapL_wide (by omega) (by omega) h.wide
 have hkn:k<R0.length:=by omega
 have hp:en R1 k j≠0:=by
   rw [hR1,← hk,en_swap (by omega)]
   simp only [swp,if_true]
   exact h3
 have hdiv:∀ i c,i<R0.length→nxt (en R1) k j q i c=q*en (clr R1 k j q) i c:=by
   intro i c hi
   obtain ⟨z,hz⟩:=hbs.div hkn hp i c hi
   rw [en_clr (by omega) (by omega) hw1]
   rw [hz]
   by_cases e:i=k
   · rw [if_pos e]
     simp only [nxt,if_pos e] at hz
     rw [← hz]
   · rw [if_neg e]
     simp only [nxt,if_neg e] at hz
     rw [show en R1 i c*en R1 k j - en R1 k c*en R1 i j=q*z by rw [← hz];grind,Int.mul_ediv_cancel_left _ hbs.q0]
 have hbn:=hbs.step hkn hp hdiv
 rw [← hk,hst]
 refine ⟨⟨by show (clr R1 k j q).length=_;rw [clr_len,hl1],clr_wide (by omega) hw1,fun i hi => ?_,?_,fun x hx => ?_,fun i c hik hi hc => ?_⟩,fun i c hi hne => ?_⟩
 · exact h.perm _ (swp_lt hkn (by omega) hi)
 · simp only [List.length_append,List.length_singleton]
   rw [← hk]
   exact hbn
 · simp only [List.mem_append,List.mem_singleton] at hx
   rcases hx with hx | rfl
   · have:=h.cols x hx;omega
   · omega
 · simp only [List.length_append,List.length_singleton] at hik
   rw [← hk] at hik
   show en (clr R1 k j q) i c=0
   have hn:nxt (en R1) k j q i c=0:=by
     simp only [nxt,if_neg (show ¬ i=k by omega)]
     by_cases e:c=j
     · subst e;grind
     · have z1:en R1 i c=0:=by
         rw [hR1,← hk,en_swap (by omega)]
         exact h.noughts _ c (by rw [← hk];simp only [swp];split <;> (try split) <;> omega) (swp_lt hkn (by omega) hi) (by omega)
       have z2:en R1 k c=0:=by
         rw [hR1,← hk,en_swap (by omega)]
         exact h.noughts _ c (by rw [← hk];simp only [swp];split <;> (try split) <;> omega) (swp_lt hkn (by omega) hkn) (by omega)
       rw [z1,z2];omega
   have:=hdiv i c hi
   rw [hn] at this
   rcases Int.mul_eq_zero.1 this.symm with h0 | h0
   · exact absurd h0 hbs.q0
   · exact h0
 · show en (clr R1 k j q) i c*s.2.1=_
   rw [← hq]
   have:=hdiv i c hi
   simp only [nxt,if_neg (show ¬ i=k by omega)] at this
   rw [show swapL s.1 k a=R1 by rw [hR1,hk]]
   grind
theorem InvZ.none {R0:List (List Int)}{m j:Nat}{s:List (List Int)×Int×List Nat}{A:Nat→Nat→Int}{sg:Int} (h:InvZ R0 m j s A sg) (ha:pz s.1 j s.2.2.length=Option.none):InvZ R0 m (j+1) (stepZ j s) A sg:=by
 have hst:stepZ j s=s:=by simp only [stepZ,ha]
 rw [hst]
 refine ⟨h.len,h.wide,h.perm,h.bar,fun x hx=>by have:=h.cols x hx;omega,fun i c hik hi hc => ?_⟩
 by_cases e:c=j
 · subst e
   exact pz_none ha hik (by rw [h.len];exact hi)
 · exact h.noughts i c hik hi (by omega)
theorem redZ_inv {R0:List (List Int)}{m:Nat} (hw:∀ r ∈ R0,r.length=m):∀ j,∃ A sg,InvZ R0 m j (redZ R0 j) A sg
 | 0=>⟨_,_,InvZ.start hw⟩
 | j+1=>by
   obtain ⟨A,sg,h⟩:=redZ_inv hw j
   rcases ha:pz (redZ R0 j).1 j (redZ R0 j).2.2.length with _ | a
   · exact ⟨_,_,h.none ha⟩
   · exact ⟨_,_,(h.found ha).1⟩
theorem InvZ.le {R0:List (List Int)}{m j:Nat}{s:List (List Int)×Int×List Nat}{A:Nat→Nat→Int}{sg:Int} (h:InvZ R0 m j s A sg) {M:Nat} (hM:0<M) (hn:R0.length≤6) (hj:j≤m) (hb:∀ r ∈ R0,∀ x ∈ r,x.natAbs≤M) (i c:Nat) (hi:i<R0.length):(en s.1 i c).natAbs≤(6*M) ^ 6:=by
 by_cases hc:c<m
 · refine h.bar.le hM (w:=m) (fun x hx=>by have:=h.cols x hx;omega) hn (fun i' c' hi' _ => ?_) i c hi hc
   obtain ⟨i0,h0,e⟩:=h.perm i' hi'
   rw [e]
   unfold en
   rw [List.getD_eq_getElem?_getD]
   rcases hx:(R0.getD i0 [])[c']? with _ | x
   · show (0:Int).natAbs≤M
     simp
   · exact hb _ (zkx h0) x (List.mem_of_getElem? hx)
 · have:en s.1 i c=0:=by
     unfold en
     rw [List.getD_eq_getElem?_getD,List.getElem?_eq_none (by rw [h.wide _ (zkx (by rw [h.len];exact hi))];omega)]
     rfl
   rw [this]
   simp
def fr (D:List (List (Int×Int))) (i c:Nat):Int×Int:=(D.getD i []).getD c (0,1)
theorem low_spec {p d:Int} (hd:0<d):(low p d).1*d=p*(low p d).2∧0<(low p d).2∧Int.gcd (low p d).1 (low p d).2=1:=by
 have g0:0<Int.gcd p d:=Int.gcd_pos_of_ne_zero_right p (by omega)
 obtain ⟨p',hp⟩:=Int.gcd_dvd_left (a:=p) (b:=d)
 obtain ⟨q',hq'⟩:=Int.gcd_dvd_right (a:=p) (b:=d)
 have e1:p / (Int.gcd p d:Int)=p':=Int.ediv_eq_of_eq_mul_right (by omega) hp
 have e2:d / (Int.gcd p d:Int)=q':=Int.ediv_eq_of_eq_mul_right (by omega) hq'
 have h3:Int.gcd p' q'=1:=by
   have h:=Int.gcd_mul_left (Int.gcd p d:Int) p' q'
   rw [← hp,← hq',Int.natAbs_natCast] at h
   exact (Nat.eq_of_mul_eq_mul_left g0 (by rw [← h,Nat.mul_one])).symm
 have q0:0<q':=by
   rcases Int.lt_or_le 0 q' with h | h
   · exact h
   · have:(Int.gcd p d:Int)*q'≤(Int.gcd p d:Int)*0:=Int.mul_le_mul_of_nonneg_left h (by omega)
     omega
 unfold low
 rw [e1,e2]
 refine ⟨?_,q0,h3⟩
 generalize (Int.gcd p d:Int)=g at *
 rw [hp,hq']
 grind
theorem low_abs {P D z o:Int} (o0:o≠0) (D0:0<D) (hg:Int.gcd P D=1) (h:P*o=z*D):D.natAbs≤o.natAbs∧P.natAbs≤z.natAbs:=by
 rcases Int.lt_or_gt_of_ne o0 with ho | ho
 · have:=low_le (P:=P) (D:=D) (z := -z) (o := -o) (by omega) D0 hg (by grind)
   omega
 · have:=low_le (P:=P) (D:=D) (z:=z) (o:=o) ho D0 hg h
   omega
theorem qq_spec {x y:Int×Int} (x0:0<x.2) (y0:y.1≠0):(qq x y).1*(x.2*y.1)=x.1*y.2*(qq x y).2∧0<(qq x y).2∧Int.gcd (qq x y).1 (qq x y).2=1:=by
 obtain ⟨h1,h2,h3⟩:=low_spec (p:=x.1*y.2*y.1.sign) (d:=x.2*y.1*y.1.sign) (by rw [Int.mul_assoc];exact Int.mul_pos x0 (sign_pos y0))
 refine ⟨?_,h2,h3⟩
 have hs:y.1.sign≠0:=by intro e;exact y0 (Int.sign_eq_zero_iff_zero.1 e)
 refine Int.eq_of_mul_eq_mul_right hs ?_
 have:(qq x y).1*(x.2*y.1*y.1.sign)=x.1*y.2*y.1.sign*(qq x y).2:=h1
 grind
theorem qm_spec {x y:Int×Int} (x0:0<x.2) (y0:0<y.2):(qm x y).1*(x.2*y.2)=x.1*y.1*(qm x y).2∧0<(qm x y).2∧Int.gcd (qm x y).1 (qm x y).2=1:=low_spec (Int.mul_pos x0 y0)
theorem qs_spec {x y:Int×Int} (x0:0<x.2) (y0:0<y.2):(qs x y).1*(x.2*y.2)=(x.1*y.2+(-y.1)*x.2)*(qs x y).2∧0<(qs x y).2∧Int.gcd (qs x y).1 (qs x y).2=1:=low_spec (Int.mul_pos x0 y0)
theorem qq_by {x y:Int×Int}{ec ej b1 b2 q:Int} (x0:0<x.2) (y0:0<y.2) (yn:y.1≠0) (b20:0<b2) (hx:ec*b2*x.2=q*b1*x.1) (hy:ej*b2*y.2=q*b1*y.1):(qq x y).1*ej=ec*(qq x y).2:=by
 obtain ⟨h1,_,_⟩:=qq_spec (x:=x) (y:=y) x0 yn
 generalize (qq x y).1=P at *
 generalize (qq x y).2=D at *
 have hf:b2*x.2*y.2≠0:=Int.ne_of_gt (Int.mul_pos (Int.mul_pos b20 x0) y0)
 refine Int.eq_of_mul_eq_mul_right hf ?_
 have e1:P*ej*(b2*x.2*y.2)=(P*x.2)*(ej*b2*y.2):=by grind
 have e2:ec*D*(b2*x.2*y.2)=(ec*b2*x.2)*(y.2*D):=by grind
 rw [e1,e2,hx,hy]
 have e3:P*x.2*(q*b1*y.1)=(P*(x.2*y.1))*(q*b1):=by grind
 rw [e3,h1]
 grind
theorem qm_by {o y:Int×Int}{ea p ei b1 b2 q:Int} (o0:0<o.2) (y0:0<y.2) (ho:o.1*p=ea*o.2) (hy:ei*b2*y.2=q*b1*y.1):(qm o y).1*(p*(q*b1))=ea*(ei*b2)*(qm o y).2:=by
 obtain ⟨h1,_,_⟩:=qm_spec (x:=o) (y:=y) o0 y0
 generalize (qm o y).1=P at *
 generalize (qm o y).2=D at *
 have hf:o.2*y.2≠0:=Int.ne_of_gt (Int.mul_pos o0 y0)
 refine Int.eq_of_mul_eq_mul_right hf ?_
 have e1:P*(p*(q*b1))*(o.2*y.2)=(P*(o.2*y.2))*(p*(q*b1)):=by grind
 have e2:ea*(ei*b2)*D*(o.2*y.2)=(ea*o.2)*(ei*b2*y.2)*D:=by grind
 rw [e1,e2,h1,hy,← ho]
 grind
theorem qs_by {x o y:Int×Int}{ec ea p ei b1 b2 q V:Int} (x0:0<x.2) (o0:0<o.2) (y0:0<y.2) (q0:q≠0) (ho:o.1*p=ea*o.2) (hx:ec*b2*x.2=q*b1*x.1) (hy:ei*b2*y.2=q*b1*y.1) (hV:V*q=ec*p - ea*ei):V*b2*(qs x (qm o y)).2=p*b1*(qs x (qm o y)).1:=by
 obtain ⟨h1,m0,_⟩:=qm_spec (x:=o) (y:=y) o0 y0
 obtain ⟨h2,_,_⟩:=qs_spec (x:=x) (y:=qm o y) x0 m0
 generalize (qs x (qm o y)).1=S at *
 generalize (qs x (qm o y)).2=E at *
 generalize (qm o y).1=P at *
 generalize (qm o y).2=D at *
 have hf:x.2*D*(o.2*y.2)≠0:=Int.ne_of_gt (Int.mul_pos (Int.mul_pos x0 m0) (Int.mul_pos o0 y0))
 refine Int.eq_of_mul_eq_mul_right hf (Int.eq_of_mul_eq_mul_right q0 ?_)
 have e1:V*b2*E*(x.2*D*(o.2*y.2))*q=(V*q)*(b2*E*(x.2*D*(o.2*y.2))):=by grind
 have e2:p*b1*S*(x.2*D*(o.2*y.2))*q=(S*(x.2*D))*(p*b1*q*(o.2*y.2)):=by grind
 rw [e1,e2,hV,h2]
 have e3:(x.1*D + -P*x.2)*E*(p*b1*q*(o.2*y.2))=(q*b1*x.1)*(D*E*p*(o.2*y.2)) - (P*(o.2*y.2))*(x.2*E*p*(b1*q)):=by grind
 rw [e3,h1,← hx]
 have e4:o.1*y.1*D*(x.2*E*p*(b1*q))=(o.1*p)*(q*b1*y.1)*(D*x.2*E):=by grind
 rw [e4,ho,← hy]
 grind
structure RelD (n m:Nat) (b:Nat→Int×Int) (s:List (List Int)×Int×List Nat) (t:List (List (Int×Int))×List Nat):Prop where
 F:t.2=s.2.2
 len:t.1.length=n
 wide:∀ r ∈ t.1,r.length=m
 pos:∀ i c,i<n→c<m→0<(fr t.1 i c).2∧Int.gcd (fr t.1 i c).1 (fr t.1 i c).2=1
 one:∀ i,i<s.2.2.length→b i=(1,1)
 bpos:∀ i,i<n→0<(b i).1∧0<(b i).2
 eq:∀ i c,i<n→c<m→en s.1 i c*(b i).2*(fr t.1 i c).2=s.2.1*(b i).1*(fr t.1 i c).1
theorem RelD.nz {n m:Nat}{b:Nat→Int×Int}{s:List (List Int)×Int×List Nat}{t:List (List (Int×Int))×List Nat} (h:RelD n m b s t) (q0:s.2.1≠0) {i c:Nat} (hi:i<n) (hc:c<m):nzq t.1 c i↔nzz s.1 c i:=by
 have h1:=h.eq i c hi hc
 have h2:=(h.pos i c hi hc).1
 obtain ⟨b1,b2⟩:=h.bpos i hi
 show (fr t.1 i c).1≠0↔en s.1 i c≠0
 constructor
 · intro h0 e
   rw [e,Int.zero_mul,Int.zero_mul] at h1
   rcases Int.mul_eq_zero.1 h1.symm with h3 | h3
   · rcases Int.mul_eq_zero.1 h3 with h3 | h3
     · exact q0 h3
     · omega
   · exact h0 h3
 · intro h0 e
   rw [e,Int.mul_zero] at h1
   rcases Int.mul_eq_zero.1 h1 with h3 | h3
   · rcases Int.mul_eq_zero.1 h3 with h3 | h3
     · exact h0 h3
     · omega
   · omega
theorem pvt_pzt {M:List (List (Int×Int))}{R:List (List Int)}{col:Nat}:∀ (t i:Nat),(∀ k,i≤k→k<i+t→(nzq M col k↔nzz R col k))→pvt M col t i=pzt R col t i
 | 0,_,_=>rfl
 | t+1,i,h=>by
   simp only [pvt,pzt]
   have h0:=h i (Nat.le_refl _) (by omega)
   rw [pvt_pzt t (i+1) (fun k h1 h2=>h k (by omega) (by omega))]
   by_cases e:nzq M col i
   · rw [if_pos e,if_pos (h0.1 e)]
   · rw [if_neg e,if_neg (fun h=>e (h0.2 h))]
theorem RelD.pv {n m j:Nat}{b:Nat→Int×Int}{s:List (List Int)×Int×List Nat}{t:List (List (Int×Int))×List Nat} (h:RelD n m b s t) (q0:s.2.1≠0) (hl:s.1.length=n) (hj:j<m):pv t.1 j t.2.length=pz s.1 j s.2.2.length:=by
 unfold Go.Proofs.YtkifiolkfdicoaaGreatDoor.pv pz
 rw [h.F,h.len,hl]
 exact pvt_pzt _ _ (fun k _ hk=>h.nz q0 (by omega) hj)
theorem fr_at {D:List (List (Int×Int))}{r:List (Int×Int)}{x:Int×Int}{i c:Nat} (hr:D[i]? = some r) (hx:r[c]? = some x):fr D i c=x:=by simp [fr,List.getD,hr,hx]
theorem oneR_getD {h:List (Int×Int)}{y:Int×Int}{c:Nat} (hc:c<h.length):(oneR h y).getD c (0,1)=qq (h.getD c (0,1)) y:=by
 rw [oneR,List.getD_eq_getElem?_getD,List.getD_eq_getElem?_getD,List.getElem?_map,List.getElem?_eq_getElem hc];rfl
theorem wout_getD {a b:List (Int×Int)}{y:Int×Int}{c:Nat} (hc:c<a.length) (hb:b.length=a.length):(wout a b y).getD c (0,1)=qs (a.getD c (0,1)) (qm (b.getD c (0,1)) y):=by
 rw [wout,List.getD_eq_getElem?_getD,List.getD_eq_getElem?_getD,List.getD_eq_getElem?_getD,List.getElem?_zipWith,List.getElem?_eq_getElem hc,List.getElem?_eq_getElem (by omega)];rfl
theorem fr_redT {M:List (List (Int×Int))}{k a col m i c:Nat} (hk:k<M.length) (ha:a<M.length) (hi:i<M.length) (hw:∀ r ∈ M,r.length=m) (hc:c<m):fr (redT M k a col) i c=if i=k then qq (fr M a c) (fr M a col) else qs (fr M (swp k a i) c) (qm (qq (fr M a c) (fr M a col)) (fr M (swp k a i) col)):=by
 have hal:=hw _ (getD_mem ha)
 show ((redT M k a col).getD i []).getD c (0,1)=_
 unfold redT
 rw [getD_range _ hi]
 split
 · rw [oneR_getD (by omega)];rfl
 · rename_i hik
   have hs:swp k a i=if i=a then k else i:=by simp only [swp];rw [if_neg hik]
   rw [← hs]
   have hsl:=hw _ (getD_mem (swp_lt hk ha hi))
   rw [wout_getD (by omega) (by rw [oneR_len];omega),oneR_getD (by omega)]
   rfl
theorem RelD.found {R0:List (List Int)}{n m j a:Nat}{b:Nat→Int×Int}{s:List (List Int)×Int×List Nat}{t:List (List (Int×Int))×List Nat}{A:Nat→Nat→Int}{sg:Int} (h:RelD n m b s t) (hI:InvZ R0 m j s A sg) (hn:R0.length=n) (hj:j<m) (ha:pz s.1 j s.2.2.length=some a) :
   RelD n m (fun i=>if i=s.2.2.length then (1,1) else b (swp s.2.2.length a i)) (stepZ j s) (stepD j t):=by
 obtain ⟨h1,h2,h3⟩:=pz_some ha
 have hl:=hI.len
 have hpv:=h.pv hI.bar.q0 (by omega) hj
 rw [ha] at hpv
 obtain ⟨hI',hdiv⟩:=hI.found ha
 obtain ⟨k,hk⟩:∃ k,k=s.2.2.length:=⟨_,rfl⟩
 have hkt:t.2.length=k:=by rw [h.F,hk]
 have htl:=h.len
 have hst:stepD j t=(redT t.1 k a j,t.2++[j]):=by simp only [stepD,hpv];rw [hkt]
 have hsz:stepZ j s=(clr (swapL s.1 k a) k j s.2.1,en (swapL s.1 k a) k j,s.2.2++[j]):=by simp only [stepZ,ha];rw [← hk]
 rw [← hk] at hdiv h1
 have hp:en (swapL s.1 k a) k j=en s.1 a j:=by rw [en_swap (by omega)];simp [swp]
 have hkn:k<n:=by omega
 have han:a<n:=by omega
 have hxa:∀ c,c<m→(qq (fr t.1 a c) (fr t.1 a j)).1*en s.1 a j=en s.1 a c*(qq (fr t.1 a c) (fr t.1 a j)).2:=fun c hc =>
   qq_by (h.pos a c han hc).1 (h.pos a j han hj).1 ((h.nz hI.bar.q0 han hj).2 h3) (h.bpos a han).2 (h.eq a c han hc) (h.eq a j han hj)
 have hqn:(fr t.1 a j).1≠0:=(h.nz hI.bar.q0 han hj).2 h3
 rw [← hk,hst]
 refine ⟨by rw [hsz];show t.2++[j]=s.2.2++[j];rw [h.F],by show (redT t.1 k a j).length=n;rw [redT_len,htl],redT_wide (by omega) (by omega) h.wide,fun i c hi hc => ?_,fun i hi => ?_,fun i hi => ?_,fun i c hi hc => ?_⟩
 · show 0<(fr (redT t.1 k a j) i c).2∧Int.gcd (fr (redT t.1 k a j) i c).1 (fr (redT t.1 k a j) i c).2=1
   rw [fr_redT (by omega) (by omega) (by omega) h.wide hc]
   split
   · have:=qq_spec (x:=fr t.1 a c) (y:=fr t.1 a j) (h.pos a c han hc).1 hqn
     exact this.2
   · have q1:=qq_spec (x:=fr t.1 a c) (y:=fr t.1 a j) (h.pos a c han hc).1 hqn
     have q2:=qm_spec (x:=qq (fr t.1 a c) (fr t.1 a j)) (y:=fr t.1 (swp k a i) j) q1.2.1 (h.pos _ j (swp_lt hkn han hi) hj).1
     exact (qs_spec (h.pos _ c (swp_lt hkn han hi) hc).1 q2.2.1).2
 · rw [hsz] at hi
   simp only [List.length_append,List.length_singleton,← hk] at hi
   by_cases e:i=k
   · rw [if_pos e]
   · rw [if_neg e]
     have:swp k a i=i:=by simp only [swp];rw [if_neg e,if_neg (by omega)]
     rw [this]
     exact h.one i (by omega)
 · by_cases e:i=k
   · rw [if_pos e];exact ⟨by decide,by decide⟩
   · rw [if_neg e];exact h.bpos _ (swp_lt hkn han hi)
 · show en (stepZ j s).1 i c*_*(fr (redT t.1 k a j) i c).2=(stepZ j s).2.1*_*(fr (redT t.1 k a j) i c).1
   rw [fr_redT (by omega) (by omega) (by omega) h.wide hc,show (stepZ j s).2.1=en s.1 a j by rw [hsz,← hp]]
   by_cases e:i=k
   · rw [if_pos e,if_pos e]
     have e1:en (stepZ j s).1 i c=en s.1 a c:=by
       rw [hsz]
       show en (clr (swapL s.1 k a) k j s.2.1) i c=_
       rw [en_clr (m:=m) (by rw [swapL_len];omega) (by rw [swapL_len];omega) (swapL_wide (by omega) (by omega) hI.wide),if_pos e,en_swap (by omega)]
       simp [swp]
     rw [e1]
     have:=hxa c hc
     simp only [Int.mul_one]
     rw [← this]
     grind
   · rw [if_neg e,if_neg e]
     have hsi:=swp_lt hkn han hi
     refine qs_by (ec:=en s.1 (swp k a i) c) (ea:=en s.1 a c) (ei:=en s.1 (swp k a i) j) (q:=s.2.1) (h.pos _ c hsi hc).1 (qq_spec (h.pos a c han hc).1 hqn).2.1 (h.pos _ j hsi hj).1 hI.bar.q0 (hxa c hc) (h.eq _ c hsi hc) (h.eq _ j hsi hj) ?_
     have:=hdiv i c (by omega) e
     rw [this,en_swap (by omega),hp,en_swap (by omega),en_swap (by omega)]
     simp [swp,e]
theorem RelD.none {R0:List (List Int)}{n m j:Nat}{b:Nat→Int×Int}{s:List (List Int)×Int×List Nat}{t:List (List (Int×Int))×List Nat}{A:Nat→Nat→Int}{sg:Int} (h:RelD n m b s t) (hI:InvZ R0 m j s A sg) (hn:R0.length=n) (hj:j<m) (ha:pz s.1 j s.2.2.length=Option.none):RelD n m b (stepZ j s) (stepD j t):=by
 have hpv:=h.pv hI.bar.q0 (by rw [hI.len,hn]) hj
 rw [ha] at hpv
 have h1:stepD j t=t:=by simp only [stepD,hpv]
 have h2:stepZ j s=s:=by simp only [stepZ,ha]
 rw [h1,h2]
 exact h
theorem zkn {x y:Int}{B C:Nat} (hx:x.natAbs≤B) (hy:y.natAbs≤C):(x*y).natAbs≤B*C:=by rw [Int.natAbs_mul];exact Nat.mul_le_mul hx hy
theorem fit_of {T:Nat}{x:Int×Int}{B:Nat} (h1:x.1.natAbs≤B) (h2:x.2.natAbs≤B) (hB:(B:Int)<10000 ^ T):Fit T x:=⟨by omega,by omega,by omega⟩
theorem InvZ.lead {R0:List (List Int)}{m j:Nat}{s:List (List Int)×Int×List Nat}{A:Nat→Nat→Int}{sg:Int}{B:Nat} (h:InvZ R0 m j s A sg) (hB:0<B) (hb:∀ i c,i<R0.length→(en s.1 i c).natAbs≤B):s.2.1.natAbs≤B:=by
 have hg:=h.bar.gj
 rcases hF:s.2.2 with _ | ⟨x,F⟩
 · have h1:=h.bar.det
   rw [hF] at h1
   have h2:=h.bar.s1
   simp [frst,dt] at h1
   have:sg.natAbs*sg.natAbs=1:=by rw [← Int.natAbs_mul,h2];rfl
   have:=Nat.eq_one_of_mul_eq_one_left this
   rw [h1]
   omega
 · have hk:=hg.kn
   have h1:=hg.unit 0 0 x (by rw [hF] at hk;simp at hk;omega) (by rw [hF];rfl)
   rw [if_pos rfl] at h1
   rw [← h1]
   exact hb 0 x (by rw [hF] at hk;simp at hk;omega)
theorem mem_fr {D:List (List (Int×Int))}{r:List (Int×Int)}{x:Int×Int} (hr:r ∈ D) (hx:x ∈ r):∃ i c,i<D.length∧D[i]? = some r∧r[c]? = some x∧fr D i c=x∧c<r.length:=by
 obtain ⟨i,hi⟩:=List.getElem?_of_mem hr
 obtain ⟨c,hc⟩:=List.getElem?_of_mem hx
 exact ⟨i,c,(List.getElem?_eq_some_iff.1 hi).1,hi,hc,fr_at hi hc,(List.getElem?_eq_some_iff.1 hc).1⟩
theorem RelD.good {R0:List (List Int)}{n m j a B B1 B2 N T:Nat}{b:Nat→Int×Int}{s:List (List Int)×Int×List Nat}{t:List (List (Int×Int))×List Nat}{A:Nat→Nat→Int}{sg:Int} (h:RelD n m b s t) (hI:InvZ R0 m j s A sg) (hn:R0.length=n) (hj:j<m) (ha:pz s.1 j s.2.2.length=some a)
   (hB:0<B) (hb:∀ i c,i<n→(en s.1 i c).natAbs≤B) (hb':∀ i c,i<n→(en (stepZ j s).1 i c).natAbs≤B) (hb1:∀ i,i<n→(b i).1.natAbs≤B1∧(b i).2.natAbs≤B2) (h11:1≤B1) (h21:1≤B2)
   (hN:((B*B1:Nat):Int)<10000 ^ N∧((B*B2:Nat):Int)<10000 ^ N) (hT:((B*(B*B1):Nat):Int)<10000 ^ T∧((B*(B*B2):Nat):Int)<10000 ^ T):GoodR N T t.1 t.2.length a j:=by
 obtain ⟨h1,h2,h3⟩:=pz_some ha
 have hl:=hI.len
 have han:a<n:=by omega
 have hq:=hI.lead hB (fun i c hi=>hb i c (by omega))
 have hnx:=h.found hI hn hj ha
 have hqn:(fr t.1 a j).1≠0:=(h.nz hI.bar.q0 han hj).2 h3
 have hBN:(B:Int)<10000 ^ N:=by have:B*1≤B*B1:=Nat.mul_le_mul_left _ h11;omega
 intro head c hh hc
 have ec:fr t.1 a j=c:=fr_at hh hc
 have hhl:=h.wide head (List.mem_of_getElem? hh)
 have hone:∀ x ∈ oneR head c,∃ c',c'<m∧x=qq (fr t.1 a c') (fr t.1 a j):=by
   intro x hx
   rw [oneR,List.mem_map] at hx
   obtain ⟨y,hy,rfl⟩:=hx
   obtain ⟨c',hc'⟩:=List.getElem?_of_mem hy
   refine ⟨c',by have:=(List.getElem?_eq_some_iff.1 hc').1;omega,?_⟩
   rw [ec,fr_at hh hc']
 have hby:∀ c',c'<m→(qq (fr t.1 a c') (fr t.1 a j)).1*en s.1 a j=en s.1 a c'*(qq (fr t.1 a c') (fr t.1 a j)).2:=fun c' hc' =>
   qq_by (h.pos a c' han hc').1 (h.pos a j han hj).1 hqn (h.bpos a han).2 (h.eq a c' han hc') (h.eq a j han hj)
 refine ⟨fun x hx => ?_,fun r hr y hy x hx => ?_,fun r hr x hx => ?_⟩
 · obtain ⟨c',hc',rfl⟩:=hone x hx
   obtain ⟨_,q2,q3⟩:=qq_spec (x:=fr t.1 a c') (y:=fr t.1 a j) (h.pos a c' han hc').1 hqn
   obtain ⟨k1,k2⟩:=low_abs h3 q2 q3 (hby c' hc')
   exact fit_of (B:=B) (Nat.le_trans k2 (hb a c' han)) (Nat.le_trans k1 (hb a j han)) hBN
 · obtain ⟨c',hc',rfl⟩:=hone x hx
   obtain ⟨_,q2,_⟩:=qq_spec (x:=fr t.1 a c') (y:=fr t.1 a j) (h.pos a c' han hc').1 hqn
   obtain ⟨i,hi⟩:=List.getElem?_of_mem hr
   have hin:i<n:=by have:=(List.getElem?_eq_some_iff.1 hi).1;have:=h.len;omega
   have ey:fr t.1 i j=y:=fr_at hi hy
   rw [← ey]
   obtain ⟨_,m2,m3⟩:=qm_spec (x:=qq (fr t.1 a c') (fr t.1 a j)) (y:=fr t.1 i j) q2 (h.pos i j hin hj).1
   have hmb:=qm_by (b1:=(b i).1) (b2:=(b i).2) (q:=s.2.1) q2 (h.pos i j hin hj).1 (hby c' hc') (h.eq i j hin hj)
   have hne:en s.1 a j*(s.2.1*(b i).1)≠0:=by
     intro e
     rcases Int.mul_eq_zero.1 e with e | e
     · exact h3 e
     · rcases Int.mul_eq_zero.1 e with e | e
       · exact hI.bar.q0 e
       · have:=(h.bpos i hin).1;omega
   obtain ⟨k1,k2⟩:=low_abs hne m2 m3 hmb
   have w1:(en s.1 a j*(s.2.1*(b i).1)).natAbs≤B*(B*B1):=zkn (hb a j han) (zkn hq (hb1 i hin).1)
   have w2:(en s.1 a c'*(en s.1 i j*(b i).2)).natAbs≤B*(B*B2):=zkn (hb a c' han) (zkn (hb i j hin) (hb1 i hin).2)
   exact ⟨by omega,by omega,by omega⟩
 · have hst:(stepD j t).1=redT t.1 t.2.length a j:=by
     have hpv:=h.pv hI.bar.q0 (by omega) hj
     rw [ha] at hpv
     simp only [stepD,hpv]
   rw [← hst] at hr
   obtain ⟨i,c',hi,hri,hxc,rfl,hcl⟩:=mem_fr hr hx
   have hin:i<n:=by rw [← hnx.len];exact hi
   have hcm:c'<m:=by rw [← hnx.wide r hr];exact hcl
   obtain ⟨p0,p1⟩:=hnx.pos i c' hin hcm
   have he:=hnx.eq i c' hin hcm
   obtain ⟨bp1,bp2⟩:=hnx.bpos i hin
   have hsz:(stepZ j s).2.1=en s.1 a j:=by
     simp only [stepZ,ha]
     rw [en_swap (by omega)]
     simp [swp]
   have hbb:(if i=s.2.2.length then ((1:Int),(1:Int)) else b (swp s.2.2.length a i)).1.natAbs≤B1∧(if i=s.2.2.length then ((1:Int),(1:Int)) else b (swp s.2.2.length a i)).2.natAbs≤B2:=by
     split
     · exact ⟨h11,h21⟩
     · exact hb1 _ (swp_lt (by omega) han hin)
   generalize (if i=s.2.2.length then ((1:Int),(1:Int)) else b (swp s.2.2.length a i))=bb at *
   rw [hsz] at he
   have hne:en s.1 a j*bb.1≠0:=by
     intro e
     rcases Int.mul_eq_zero.1 e with e | e
     · exact h3 e
     · omega
   obtain ⟨k1,k2⟩:=low_abs (P:=(fr (stepD j t).1 i c').1) (D:=(fr (stepD j t).1 i c').2) (z:=en (stepZ j s).1 i c'*bb.2) hne p0 p1 (by rw [he];grind)
   have w1:(en s.1 a j*bb.1).natAbs≤B*B1:=zkn (hb a j han) hbb.1
   have w2:(en (stepZ j s).1 i c'*bb.2).natAbs≤B*B2:=zkn (hb' i c' hin) hbb.2
   exact ⟨by omega,by omega,by omega⟩
theorem row_by {r:List (Int×Int)}{z:List Int}{x:Int×Int}{B1 B2 M:Nat} (h:0<x.1∧0<x.2∧z.length=r.length∧∀ (i:Nat) (v:Int) (y:Int×Int),z[i]? = some v→r[i]? = some y→v*y.2*x.2=y.1*x.1) (hg:Int.gcd x.1 x.2=1) (hr:∀ y ∈ r,0<y.2∧y.2.natAbs≤B2∧y.1.natAbs≤B2) (hz:∀ v ∈ z,v.natAbs≤M) (h1:M*B2≤B1) (h11:1≤B1) (h21:1≤B2) :
   ∃ b:Int×Int,0<b.1∧0<b.2∧b.1.natAbs≤B1∧b.2.natAbs≤B2∧∀ (i:Nat) (v:Int) (y:Int×Int),z[i]? = some v→r[i]? = some y→v*b.2*y.2=b.1*y.1:=by
 obtain ⟨x1,x2,hl,he⟩:=h
 by_cases hall:∀ y ∈ r,y.1=0
 · refine ⟨(1,1),by decide,by decide,h11,h21,fun i v y hv hy => ?_⟩
   have h0:=hall y (List.mem_of_getElem? hy)
   have h2:=he i v y hv hy
   rw [h0,Int.zero_mul] at h2
   have hy2:=(hr y (List.mem_of_getElem? hy)).1
   have:v=0:=by
     rcases Int.mul_eq_zero.1 h2 with h3 | h3
     · rcases Int.mul_eq_zero.1 h3 with h3 | h3
       · exact h3
       · omega
     · omega
   rw [h0,this]
   simp
 · obtain ⟨y,hy,hy0⟩:∃ y,y ∈ r∧y.1≠0:=by
     apply Classical.byContradiction
     intro hn
     apply hall
     intro y hy
     apply Classical.byContradiction
     intro h0
     exact hn ⟨y,hy,h0⟩
   obtain ⟨i,hi⟩:=List.getElem?_of_mem hy
   have hil:=(List.getElem?_eq_some_iff.1 hi).1
   obtain ⟨v,hv⟩:∃ v,z[i]? = some v:=⟨z[i]'(by omega),by simp⟩
   have h2:=he i v y hv hi
   obtain ⟨k1,k2⟩:=low_abs (P:=x.1) (D:=x.2) (z:=v*y.2) (o:=y.1) hy0 x2 hg (by rw [h2];grind)
   have hry:=hr y hy
   have hvM:=hz v (List.mem_of_getElem? hv)
   have w:=zkn hvM hry.2.1
   refine ⟨x,x1,x2,by omega,by omega,fun i v y hv hy => ?_⟩
   have:=he i v y hv hy
   grind
theorem getD_some {α:Type}{l:List α}{c:Nat} (d:α) (h:c<l.length):l[c]? = some (l.getD c d):=by rw [List.getD_eq_getElem?_getD,List.getElem?_eq_getElem h];rfl
theorem rel_start {A:List (List (Int×Int))}{Z:List (List Int)}{n m B1 B2 M:Nat} (hA:A.length=n) (hZ:Z.length=n) (hAw:∀ r ∈ A,r.length=m) (hZw:∀ r ∈ Z,r.length=m) (hAl:∀ r ∈ A,∀ y ∈ r,0<y.2∧Int.gcd y.1 y.2=1∧y.2.natAbs≤B2∧y.1.natAbs≤B2) (hZl:∀ z ∈ Z,∀ v ∈ z,v.natAbs≤M) (h1:M*B2≤B1) (h11:1≤B1) (h21:1≤B2)
   (hs:∀ (i:Nat) (r:List (Int×Int)) (z:List Int),A[i]? = some r→Z[i]? = some z→∃ x:Int×Int,(0<x.1∧0<x.2∧z.length=r.length∧∀ (i:Nat) (v:Int) (y:Int×Int),z[i]? = some v→r[i]? = some y→v*y.2*x.2=y.1*x.1)∧Int.gcd x.1 x.2=1) :
   ∃ b,RelD n m b (Z,1,[]) (A,[])∧∀ i,i<n→(b i).1.natAbs≤B1∧(b i).2.natAbs≤B2:=by
 have key:∀ i,i<n→∃ b:Int×Int,0<b.1∧0<b.2∧b.1.natAbs≤B1∧b.2.natAbs≤B2∧∀ (c:Nat) (v:Int) (y:Int×Int),(Z.getD i [])[c]? = some v→(A.getD i [])[c]? = some y→v*b.2*y.2=b.1*y.1:=by
   intro i hi
   obtain ⟨r,hr⟩:∃ r,A[i]? = some r:=⟨A[i]'(by omega),by simp⟩
   obtain ⟨z,hz⟩:∃ r,Z[i]? = some r:=⟨Z[i]'(by omega),by simp⟩
   obtain ⟨x,hx,hg⟩:=hs i r z hr hz
   have e1:A.getD i []=r:=by simp [List.getD,hr]
   have e2:Z.getD i []=z:=by simp [List.getD,hz]
   rw [e1,e2]
   exact row_by hx hg (fun y hy=>by have:=hAl r (List.mem_of_getElem? hr) y hy;exact ⟨this.1,this.2.2⟩) (hZl z (List.mem_of_getElem? hz)) h1 h11 h21
 obtain ⟨b,hb⟩:=Go.Deep.choose_lt key
 refine ⟨b,⟨rfl,hA,hAw,fun i c hi hc => ?_,fun i hi=>by simp at hi,fun i hi=>⟨(hb i hi).1,(hb i hi).2.1⟩,fun i c hi hc => ?_⟩,fun i hi=>⟨(hb i hi).2.2.1,(hb i hi).2.2.2.1⟩⟩
 · have hm:=getD_mem (M:=A) (a:=i) (by omega)
   have hl:=hAw _ hm
   have:fr A i c ∈ A.getD i []:=List.mem_of_getElem? (getD_some (0,1) (by omega))
   have:=hAl _ hm _ this
   exact ⟨this.1,this.2.1⟩
 · have hm:=getD_mem (M:=A) (a:=i) (by omega)
   have hl:=hAw _ hm
   have hm2:=zkx (M:=Z) (a:=i) (by omega)
   have hl2:=hZw _ hm2
   show en Z i c*(b i).2*(fr A i c).2=1*(b i).1*(fr A i c).1
   have h2:=(hb i hi).2.2.2.2 c (en Z i c) (fr A i c) (getD_some 0 (by omega)) (getD_some (0,1) (by omega))
   rw [h2,Int.one_mul]
theorem RelD.last {R0:List (List Int)}{n m:Nat}{b:Nat→Int×Int}{s:List (List Int)×Int×List Nat}{t:List (List (Int×Int))×List Nat}{A:Nat→Nat→Int}{sg:Int} (h:RelD n m b s t) (hI:InvZ R0 m m s A sg) (hn:R0.length=n) {i c:Nat} (hi:i<n) (hc:c<m) {P D:Int} (hE:P*s.2.1=en s.1 i c*D) (D0:0<D) (hg:Int.gcd P D=1):fr t.1 i c=(P,D):=by
 obtain ⟨p0,p1⟩:=h.pos i c hi hc
 have he:=h.eq i c hi hc
 have key:(fr t.1 i c).1*s.2.1=en s.1 i c*(fr t.1 i c).2:=by
   rcases Nat.lt_or_ge i s.2.2.length with hk | hk
   · rw [h.one i hk] at he
     simp only [Int.mul_one] at he
     rw [he];grind
   · have h0:=hI.noughts i c hk (by omega) hc
     rw [h0] at he ⊢
     rw [Int.zero_mul,Int.zero_mul] at he
     rw [Int.zero_mul]
     rcases Int.mul_eq_zero.1 he.symm with h3 | h3
     · rcases Int.mul_eq_zero.1 h3 with h3 | h3
       · exact absurd h3 hI.bar.q0
       · have:=(h.bpos i hi).1;omega
     · rw [h3,Int.zero_mul]
 obtain ⟨e1,e2⟩:=lowest_one (p:=(fr t.1 i c).1) (d:=(fr t.1 i c).2) (p':=P) (d':=D) hI.bar.q0 key hE p0 D0 p1 hg
 exact Prod.ext e1 e2
end Go.Proofs.YtkifiolkfdicoaaGreatDoor
