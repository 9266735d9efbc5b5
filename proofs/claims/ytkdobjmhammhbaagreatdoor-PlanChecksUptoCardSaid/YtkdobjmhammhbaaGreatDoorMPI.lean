import Derived.Test.YtkdobjmhammhbaaGreatDoorMRI
import Derived.Test.YtkdobjmhammhbaaGreatDoorMPH
namespace Go.Proofs.YtkdobjmhammhbaaGreatDoor
open Go.RowKit
def pO (D s:Int):Int:=s / (Int.gcd s D:Int)
def dO (D s:Int):Int:=D / (Int.gcd s D:Int)
theorem Rs.low {K:Nat}{D s:Int}{w:World}{v:Value} (D0:0<D) (h:Rs K D w v s):Rr (K+1) w v (pO D s) (dO D s):=by
 obtain ⟨p,d,h1,h2⟩:=h
 have h3:=num_low (p:=s) (q:=D) (P:=p) (D:=d) D0 h2 h1.low.1 h1.low.2
 simp only [Prod.mk.injEq] at h3
 unfold pO dO
 rw [h3.1,h3.2]
 exact h1
theorem dO_spec {D:Int} (D0:0<D) (s:Int):0<dO D s∧dO D s∣D∧pO D s*D=s*dO D s:=by
 have h:=lowq_spec (p:=s) D0
 refine ⟨h.2.1,?_,h.1⟩
 unfold dO
 exact ⟨(Int.gcd s D:Int),(Int.ediv_mul_cancel (Int.gcd_dvd_right (a:=s) (b:=D))).symm⟩
theorem lcm_spec {P d D:Int} (hP:0<P) (hd:0<d) (h1:P∣D) (h2:d∣D):0<P / (Int.gcd P d:Int)*d∧P∣P / (Int.gcd P d:Int)*d∧d∣P / (Int.gcd P d:Int)*d∧P / (Int.gcd P d:Int)*d∣D:=by
 have g0:0<Int.gcd P d:=Int.gcd_pos_of_ne_zero_right P (by omega)
 obtain ⟨a,ha⟩:=Int.gcd_dvd_left (a:=P) (b:=d)
 obtain ⟨b,hb⟩:=Int.gcd_dvd_right (a:=P) (b:=d)
 have e1:P / (Int.gcd P d:Int)=a:=Int.ediv_eq_of_eq_mul_right (by omega) ha
 have a0:0<a:=by
   rcases Int.lt_or_le 0 a with h | h
   · exact h
   · have:(Int.gcd P d:Int)*a≤(Int.gcd P d:Int)*0:=Int.mul_le_mul_of_nonneg_left h (by omega)
     omega
 have hco:Int.gcd a b=1:=by
   have h:=Int.gcd_mul_left (Int.gcd P d:Int) a b
   rw [← ha,← hb,Int.natAbs_natCast] at h
   exact (Nat.eq_of_mul_eq_mul_left g0 (by rw [← h,Nat.mul_one])).symm
 have g1:(0:Int)<(Int.gcd P d:Int):=by omega
 rw [e1]
 generalize (Int.gcd P d:Int)=g at *
 refine ⟨Int.mul_pos a0 hd,⟨b,by rw [ha,hb];grind⟩,⟨a,by grind⟩,?_⟩
 obtain ⟨x,hx⟩:=h1
 obtain ⟨y,hy⟩:=h2
 -- D = g a x = g b y, so a x = b y and a divides y
 have e2:a*x=b*y:=by
   refine Int.eq_of_mul_eq_mul_left (show g≠0 by omega) ?_
   rw [ha] at hx
   rw [hb] at hy
   rw [← Int.mul_assoc,← Int.mul_assoc,← hx,← hy]
 have h3:a∣y:=by
   have h4:a.natAbs∣b.natAbs*y.natAbs:=by
     rw [← Int.natAbs_mul]
     exact Int.natAbs_dvd_natAbs.2 ⟨x,e2.symm⟩
   exact Int.natAbs_dvd_natAbs.1 (Nat.Coprime.dvd_of_dvd_mul_left (show Nat.Coprime a.natAbs b.natAbs from hco) h4)
 obtain ⟨k,hk⟩:=h3
 exact ⟨k,by rw [hy,hk];grind⟩
def prt (D:Int) (W:List Int):Nat→Int
 | 0=>1
 | i+1=>match W[i]? with
   | some s=>prt D W i / (Int.gcd (prt D W i) (dO D s):Int)*dO D s
   | none=>prt D W i
theorem prt_next {D:Int}{W:List Int}{i:Nat}{s:Int} (h:W[i]? = some s):prt D W (i+1)=prt D W i / (Int.gcd (prt D W i) (dO D s):Int)*dO D s:=by
 simp [prt,h]
theorem prt_spec {D:Int} (D0:0<D) (W:List Int) (i:Nat):0<prt D W i∧prt D W i∣D∧∀ (j:Nat) (s:Int),j<i→W[j]? = some s→dO D s∣prt D W i:=by
 induction i with
 | zero=>exact ⟨by simp [prt],⟨D,by simp [prt]⟩,fun j s h=>by omega⟩
 | succ i ih =>
   obtain ⟨h1,h2,h3⟩:=ih
   cases hs:W[i]? with
   | none =>
     have e:prt D W (i+1)=prt D W i:=by simp [prt,hs]
     rw [e]
     refine ⟨h1,h2,fun j s hj hx => ?_⟩
     rcases Nat.lt_or_ge j i with h | h
     · exact h3 j s h hx
     · obtain rfl:j=i:=by omega
       rw [hs] at hx
       cases hx
   | some s =>
     rw [prt_next hs]
     have hd:=dO_spec D0 s
     have hl:=lcm_spec h1 hd.1 h2 hd.2.1
     refine ⟨hl.1,hl.2.2.2,fun j t hj hx => ?_⟩
     rcases Nat.lt_or_ge j i with h | h
     · exact Int.dvd_trans (h3 j t h hx) hl.2.1
     · obtain rfl:j=i:=by omega
       rw [hs] at hx
       obtain rfl:=Option.some.inj hx
       exact hl.2.2.1
def cnt (D P s:Int):Int:=pO D s*(P / dO D s)
theorem cnt_spec {D P g s:Int} (D0:0<D) (hg:D=P*g) (hd:dO D s∣P):g*cnt D P s=s:=by
 obtain ⟨h1,h2,h3⟩:=dO_spec D0 s
 obtain ⟨k,hk⟩:=hd
 unfold cnt
 rw [hk,Int.mul_ediv_cancel_left _ (by omega)]
 refine Int.eq_of_mul_eq_mul_right (show dO D s≠0 by omega) ?_
 rw [← h3,hg,hk]
 grind
theorem fill_zeroZ (K:Nat) (W:World) (g n:Nat) (h:W.heap[g]? = some (.cells (madeCells #[Value.int .i64 0,.slice none 0 0] (n*2)) 37 (0,0))):Fill NoWord 2 (ZE K) 37 W g n (List.replicate n 0):=by
 refine ⟨_,h,size_madeCells _ _,made_kinds (kd_z 0 none 0 0) (by decide),by simp,fun i x hx => ?_⟩
 have hi:i<n:=by have:=(List.getElem?_eq_some_iff.1 hx).1;simpa using this
 obtain rfl:x=0:=by
   rw [List.getElem?_replicate,if_pos hi] at hx
   exact (Option.some.inj hx).symm
 refine ⟨[.int .i64 0,.slice none 0 0],rfl,fun j u hu => ?_,⟨0,none,0,0,rfl,Zr.near _ (by decide) (by decide)⟩⟩
 have hj:j<2:=(List.getElem?_eq_some_iff.1 hu).1
 have hm:(i*2+j) % 2=j:=by omega
 rw [show (madeCells #[Value.int .i64 0,.slice none 0 0] (n*2))[i*2+j]? = some (#[Value.int .i64 0,.slice none 0 0][j]!) by
   unfold madeCells
   rw [Array.getElem?_map,Array.getElem?_range,if_pos (by omega)]
   simp only [Option.map_some]
   rw [show (i*2+j) % (#[Value.int .i64 0,.slice none 0 0]:Array Value).size=j from hm]]
 rw [← hu]
 match j,hj with
 | 0,_=>rfl
 | 1,_=>rfl
theorem raw_zeroI (W:World) (g n:Nat) (h:W.heap[g]? = some (.cells (madeCells #[Value.int .i64 0] n) 3 (0,0))):Raw NoWord 3 W g n :=
 ⟨_,h,size_madeCells _ _,made_kinds (by intro u hu z e;simp at hu;subst hu;cases e) (by decide)⟩
theorem kn_init {w W:World}{K gp gm gl n:Nat}{sa:Option Addr}{sn sc:Nat} (hb:Below w.heap.size w W) (hp:W.heap[gp]? = some (.cells #[.slice sa sn sc,.int .i64 1,.slice none 0 0,.slice (some ⟨gm,0,none⟩) n n,.slice (some ⟨gl,0,none⟩) n n] 244 (0,0))) (hm:W.heap[gm]? = some (.cells (madeCells #[Value.int .i64 0,.slice none 0 0] (n*2)) 37 (0,0))) (hl:W.heap[gl]? = some (.cells (madeCells #[Value.int .i64 0] n) 3 (0,0))) (ne:gp≠gm∧gp≠gl∧gm≠gl) (gw:w.heap.size≤gp∧w.heap.size≤gm∧w.heap.size≤gl) :
   KnS w K gp gm gl n sa sn sc ⟨1,none,0,0⟩ 1 (List.replicate n 0) W :=
 ⟨hb,by simp [World.cell?,hp],by simp [World.cell?,hp],by simp [World.cell?,hp],by simp [World.cell?,hp],by simp [World.cell?,hp],Zr.near _ (by decide) (by decide),fill_zeroZ _ W gm n hm,raw_zeroI W gl n hl,⟨_,hp,rfl,by intro u hu z e;simp at hu;rcases hu with rfl | rfl | rfl | rfl | rfl <;> cases e⟩,ne,gw⟩
theorem zqr {w W:World} (hb:Below w.heap.size w W) {g:Nat}{o:Obj} (h:w.heap[g]? = some o):W.heap[g]? = some o:=by
 rw [hb.block g (Array.getElem?_eq_some_iff.1 h).1];exact h
theorem zqy {w:World}{g:Nat} (hg:g=w.heap.size) (c:Array Value) (t:TypeId):(w.alloc (.cells c t)).heap[g]? = some (.cells c t (0,0)):=by
 subst hg
 exact heap_alloc_new w _
section
variable {K n:Nat}{sa:Option Addr}{sn sc:Nat} (w Y:World)
theorem kn_w1 (hb:Below w.drew.heap.size w.drew Y):KnS w K (Y.heap.size+1+1) (Y.heap.size) (Y.heap.size+1) n sa sn sc ⟨1,none,0,0⟩ 1 (List.replicate n 0) (((Y.alloc (.cells (madeCells #[Value.int .i64 0,.slice none 0 0] (n*2)) 37)).alloc (.cells (madeCells #[Value.int .i64 0] n) 3)).alloc (.cells #[.slice sa sn sc,.int .i64 1,.slice none 0 0,.slice (some ⟨Y.heap.size,0,none⟩) n n,.slice (some ⟨Y.heap.size+1,0,none⟩) n n] 244)):=by
 have h0:w.heap.size≤Y.heap.size:=(show Below w.heap.size w Y from bk hb (Below.refl w.heap.size w).drew).size
 have h1:=hb.size
 skip
 exact kn_init (bk (bk (zqa _ _) (bk (zqa _ _) (bk (zqa _ _) (Below.refl _ _)))) (bk hb (Below.refl w.heap.size w).drew)) (zqy (by simp) _ _) (zqr (bk (zqa _ _) (zqa _ _)) (zqy (w:=Y) rfl _ _)) (zqr (zqa _ _) (zqy (by simp) _ _)) ⟨by omega,by omega,by omega⟩ ⟨by omega,by omega,by omega⟩
theorem kn_w2 (hb:Below w.drew.heap.size w.drew Y):KnS w K (Y.heap.size+1+1) (Y.heap.size+1) (Y.heap.size) n sa sn sc ⟨1,none,0,0⟩ 1 (List.replicate n 0) (((Y.alloc (.cells (madeCells #[Value.int .i64 0] n) 3)).alloc (.cells (madeCells #[Value.int .i64 0,.slice none 0 0] (n*2)) 37)).alloc (.cells #[.slice sa sn sc,.int .i64 1,.slice none 0 0,.slice (some ⟨Y.heap.size+1,0,none⟩) n n,.slice (some ⟨Y.heap.size,0,none⟩) n n] 244)):=by
 have h0:w.heap.size≤Y.heap.size:=(show Below w.heap.size w Y from bk hb (Below.refl w.heap.size w).drew).size
 have h1:=hb.size
 skip
 exact kn_init (bk (bk (zqa _ _) (bk (zqa _ _) (bk (zqa _ _) (Below.refl _ _)))) (bk hb (Below.refl w.heap.size w).drew)) (zqy (by simp) _ _) (zqr (zqa _ _) (zqy (by simp) _ _)) (zqr (bk (zqa _ _) (zqa _ _)) (zqy (w:=Y) rfl _ _)) ⟨by omega,by omega,by omega⟩ ⟨by omega,by omega,by omega⟩
theorem kn_w3 (hb:Below (w.alloc (.cells (madeCells #[Value.int .i64 0,.slice none 0 0] (n*2)) 37)).drew.heap.size (w.alloc (.cells (madeCells #[Value.int .i64 0,.slice none 0 0] (n*2)) 37)).drew Y):KnS w K (Y.heap.size+1) (w.heap.size) (Y.heap.size) n sa sn sc ⟨1,none,0,0⟩ 1 (List.replicate n 0) ((Y.alloc (.cells (madeCells #[Value.int .i64 0] n) 3)).alloc (.cells #[.slice sa sn sc,.int .i64 1,.slice none 0 0,.slice (some ⟨w.heap.size,0,none⟩) n n,.slice (some ⟨Y.heap.size,0,none⟩) n n] 244)):=by
 have h0:w.heap.size≤Y.heap.size:=(show Below w.heap.size w Y from bk hb (zqa w _).drew).size
 have h1:=hb.size
 rw [show (w.alloc (.cells (madeCells #[Value.int .i64 0,.slice none 0 0] (n*2)) 37)).drew.heap.size=w.heap.size+1 from by show (w.alloc (.cells (madeCells #[Value.int .i64 0,.slice none 0 0] (n*2)) 37)).heap.size=_;simp] at h1
 exact kn_init (bk (bk (zqa _ _) (bk (zqa _ _) (Below.refl _ _))) (bk hb (zqa w _).drew)) (zqy (by simp) _ _) (zqr (bk (zqa _ _) (bk (zqa _ _) (Below.refl _ _))) (zqr hb (show (w.alloc (.cells (madeCells #[Value.int .i64 0,.slice none 0 0] (n*2)) 37)).drew.heap[w.heap.size]? = some _ from (zqy (w:=w) rfl _ _)))) (zqr (zqa _ _) (zqy (w:=Y) rfl _ _)) ⟨by omega,by omega,by omega⟩ ⟨by omega,by omega,by omega⟩
theorem kn_w4 (hb:Below ((w.alloc (.cells (madeCells #[Value.int .i64 0,.slice none 0 0] (n*2)) 37)).alloc (.cells (madeCells #[Value.int .i64 0] n) 3)).drew.heap.size ((w.alloc (.cells (madeCells #[Value.int .i64 0,.slice none 0 0] (n*2)) 37)).alloc (.cells (madeCells #[Value.int .i64 0] n) 3)).drew Y):KnS w K (Y.heap.size) (w.heap.size) (w.heap.size+1) n sa sn sc ⟨1,none,0,0⟩ 1 (List.replicate n 0) (Y.alloc (.cells #[.slice sa sn sc,.int .i64 1,.slice none 0 0,.slice (some ⟨w.heap.size,0,none⟩) n n,.slice (some ⟨w.heap.size+1,0,none⟩) n n] 244)):=by
 have h0:w.heap.size≤Y.heap.size:=(show Below w.heap.size w Y from bk hb (bk (zqa _ _) (zqa w _)).drew).size
 have h1:=hb.size
 rw [show ((w.alloc (.cells (madeCells #[Value.int .i64 0,.slice none 0 0] (n*2)) 37)).alloc (.cells (madeCells #[Value.int .i64 0] n) 3)).drew.heap.size=w.heap.size+2 from by show ((w.alloc (.cells (madeCells #[Value.int .i64 0,.slice none 0 0] (n*2)) 37)).alloc (.cells (madeCells #[Value.int .i64 0] n) 3)).heap.size=_;simp] at h1
 exact kn_init (bk (bk (zqa _ _) (Below.refl _ _)) (bk hb (bk (zqa _ _) (zqa w _)).drew)) (zqy (by simp) _ _) (zqr (bk (zqa _ _) (Below.refl _ _)) (zqr hb (show ((w.alloc (.cells (madeCells #[Value.int .i64 0,.slice none 0 0] (n*2)) 37)).alloc (.cells (madeCells #[Value.int .i64 0] n) 3)).drew.heap[w.heap.size]? = some _ from (zqr (zqa _ _) (zqy (w:=w) rfl _ _))))) (zqr (bk (zqa _ _) (Below.refl _ _)) (zqr hb (show ((w.alloc (.cells (madeCells #[Value.int .i64 0,.slice none 0 0] (n*2)) 37)).alloc (.cells (madeCells #[Value.int .i64 0] n) 3)).drew.heap[w.heap.size+1]? = some _ from (zqy (by simp) _ _)))) ⟨by omega,by omega,by omega⟩ ⟨by omega,by omega,by omega⟩
theorem kn_w5 (hb:Below (w.alloc (.cells (madeCells #[Value.int .i64 0] n) 3)).drew.heap.size (w.alloc (.cells (madeCells #[Value.int .i64 0] n) 3)).drew Y):KnS w K (Y.heap.size+1) (Y.heap.size) (w.heap.size) n sa sn sc ⟨1,none,0,0⟩ 1 (List.replicate n 0) ((Y.alloc (.cells (madeCells #[Value.int .i64 0,.slice none 0 0] (n*2)) 37)).alloc (.cells #[.slice sa sn sc,.int .i64 1,.slice none 0 0,.slice (some ⟨Y.heap.size,0,none⟩) n n,.slice (some ⟨w.heap.size,0,none⟩) n n] 244)):=by
 have h0:w.heap.size≤Y.heap.size:=(show Below w.heap.size w Y from bk hb (zqa w _).drew).size
 have h1:=hb.size
 rw [show (w.alloc (.cells (madeCells #[Value.int .i64 0] n) 3)).drew.heap.size=w.heap.size+1 from by show (w.alloc (.cells (madeCells #[Value.int .i64 0] n) 3)).heap.size=_;simp] at h1
 exact kn_init (bk (bk (zqa _ _) (bk (zqa _ _) (Below.refl _ _))) (bk hb (zqa w _).drew)) (zqy (by simp) _ _) (zqr (zqa _ _) (zqy (w:=Y) rfl _ _)) (zqr (bk (zqa _ _) (bk (zqa _ _) (Below.refl _ _))) (zqr hb (show (w.alloc (.cells (madeCells #[Value.int .i64 0] n) 3)).drew.heap[w.heap.size]? = some _ from (zqy (w:=w) rfl _ _)))) ⟨by omega,by omega,by omega⟩ ⟨by omega,by omega,by omega⟩
theorem kn_w6 (hb:Below ((w.alloc (.cells (madeCells #[Value.int .i64 0] n) 3)).alloc (.cells (madeCells #[Value.int .i64 0,.slice none 0 0] (n*2)) 37)).drew.heap.size ((w.alloc (.cells (madeCells #[Value.int .i64 0] n) 3)).alloc (.cells (madeCells #[Value.int .i64 0,.slice none 0 0] (n*2)) 37)).drew Y):KnS w K (Y.heap.size) (w.heap.size+1) (w.heap.size) n sa sn sc ⟨1,none,0,0⟩ 1 (List.replicate n 0) (Y.alloc (.cells #[.slice sa sn sc,.int .i64 1,.slice none 0 0,.slice (some ⟨w.heap.size+1,0,none⟩) n n,.slice (some ⟨w.heap.size,0,none⟩) n n] 244)):=by
 have h0:w.heap.size≤Y.heap.size:=(show Below w.heap.size w Y from bk hb (bk (zqa _ _) (zqa w _)).drew).size
 have h1:=hb.size
 rw [show ((w.alloc (.cells (madeCells #[Value.int .i64 0] n) 3)).alloc (.cells (madeCells #[Value.int .i64 0,.slice none 0 0] (n*2)) 37)).drew.heap.size=w.heap.size+2 from by show ((w.alloc (.cells (madeCells #[Value.int .i64 0] n) 3)).alloc (.cells (madeCells #[Value.int .i64 0,.slice none 0 0] (n*2)) 37)).heap.size=_;simp] at h1
 exact kn_init (bk (bk (zqa _ _) (Below.refl _ _)) (bk hb (bk (zqa _ _) (zqa w _)).drew)) (zqy (by simp) _ _) (zqr (bk (zqa _ _) (Below.refl _ _)) (zqr hb (show ((w.alloc (.cells (madeCells #[Value.int .i64 0] n) 3)).alloc (.cells (madeCells #[Value.int .i64 0,.slice none 0 0] (n*2)) 37)).drew.heap[w.heap.size+1]? = some _ from (zqy (by simp) _ _)))) (zqr (bk (zqa _ _) (Below.refl _ _)) (zqr hb (show ((w.alloc (.cells (madeCells #[Value.int .i64 0] n) 3)).alloc (.cells (madeCells #[Value.int .i64 0,.slice none 0 0] (n*2)) 37)).drew.heap[w.heap.size]? = some _ from (zqr (zqa _ _) (zqy (w:=w) rfl _ _))))) ⟨by omega,by omega,by omega⟩ ⟨by omega,by omega,by omega⟩
end
theorem info_z:(Tryz.prog.info? 37).map (fun i=>(i.zero,i.size,i.bytes))=some (some (.agg #[.int .i64 0,.slice none 0 0]),2,32):=by kernel_rfl
theorem zs_gcd {K N:Nat}{T P d:Int}{v u:Value} (w:World) (hB:Big K N T) (hT:Tab64 w) (h:Zr (K+1) w v P) (h':Zr (K+1) w u d) (P0:0<P) (hP:P<pw (K+1)) :
   Calls Tryz.prog 135 #[v,u] w fun e w'=>(∃ v,e=.returned v∧Zr (K+1) w' v (Int.gcd P d))∧Below w.heap.size w w' :=
 (gcd_any (N:=K) w h h' (by have:=hB.k;omega) hT).mono fun _ _ ⟨⟨v,he,hz⟩,hb⟩=>⟨⟨v,he,hz.fit (by omega) (by have:=Int.le_of_dvd P0 (Int.gcd_dvd_left (a:=P) (b:=d));omega)⟩,hb⟩
theorem zs_mul {K N:Nat}{T a b:Int}{v u:Value} (w:World) (hB:Big K N T) (h:Zr (K+1) w v a) (h':Zr (K+1) w u b) (hin:-pw (K+1)<a*b∧a*b<pw (K+1)) :
   Calls Tryz.prog 132 #[v,u] w fun e w'=>(∃ v,e=.returned v∧Zr (K+1) w' v (a*b))∧Below w.heap.size w w' :=
 (zkm (N:=K) w h h' (by have:=hB.k;omega)).mono fun _ _ ⟨⟨v,he,hz⟩,hb⟩=>⟨⟨v,he,hz.fit hin.1 hin.2⟩,hb⟩
theorem zs_quot {K N:Nat}{T z d:Int}{v u:Value} (w:World) (hB:Big K N T) (h:Zr (K+1) w v z) (h':Zr (K+1) w u d) (d0:0<d) (z0:0<z) (hdv:d∣z) (hz:z<pw (K+1)) :
   Calls Tryz.prog 159 #[v,u] w fun e w'=>(∃ v,e=.returned v∧Zr (K+1) w' v (z / d))∧Below w.heap.size w w' :=
 quot_any (N:=K) w h h' (by have:=hB.k;omega) d0 hdv ⟨by have:=Int.ediv_nonneg (Int.le_of_lt z0) (Int.le_of_lt d0);omega,by have:=Int.ediv_le_self d (Int.le_of_lt z0);omega⟩
def KnapP (w:World) (K r:Nat) (D:Int) (sa:Option Addr) (sn sc:Nat) (L:List (Int×Int)) (W:List Int) (e:Ending) (w':World):Prop :=
 ∃ gp gm gl y P g C,e=.returned (.pointer (some ⟨gp,0,none⟩))∧KnS w K gp gm gl (r+1) sa sn sc y P (knL (L.zip C) (r+1) (r+1)) w'∧0<P∧0<g∧D=P*g∧W=C.map (fun c=>g*c)
def KpW (V:World) (E:World→Prop) (L:Nat→Bool) (wr:World):Prop:=(L 18=false∧(L 17=true→L 16=true)∧Below V.heap.size V wr)∨(L 18=true∧(∀ i,i<19→L i=true)∧E wr)
def KpF (K gp:Nat) (y:Z4) (u:F8 Int) (p d:Int):Nat→Value→World→Prop
 | 0,v,_ | 1,v,_ | 2,v,_ | 5,v,_ | 6,v,_ | 16,v,_=>v=.pointer (some ⟨gp,0,none⟩)
 | 3,v,_ | 7,v,_ | 17,v,_=>v=.pointer (some ⟨gp,1,none⟩)
 | 4,v,_ | 8,v,_=>v=vz y
 | 9,v,_ | 13,v,_=>v=vr u
 | 10,v,wr | 14,v,wr=>Zr (K+1) wr v d
 | 11,v,wr=>Zr (K+1) wr v (Int.gcd p d:Int)
 | 12,v,wr=>Zr (K+1) wr v (p / (Int.gcd p d:Int))
 | 15,v,wr=>Zr (K+1) wr v (p / (Int.gcd p d:Int)*d)
 | _,_,_=>True
theorem KpF.chg {e:TypeId}{K gp j:Nat}{y:Z4}{u:F8 Int}{p d:Int}{v:Value}{w w':World} (h:KpF K gp y u p d j v w) (hc:Chg NoWord e w w'):KpF K gp y u p d j v w':=by
 rcases j with _ | _ | _ | _ | _ | _ | _ | _ | _ | _ | _ | _ | _ | _ | _ | _ | _ | _ | _
 all_goals first | exact h | exact Zr.chgW h hc
theorem KpF.later {K gp j:Nat}{y:Z4}{u:F8 Int}{p d:Int}{v:Value}{w w':World} (h:KpF K gp y u p d j v w) (hb:Below w.heap.size w w'):KpF K gp y u p d j v w':=by
 rcases j with _ | _ | _ | _ | _ | _ | _ | _ | _ | _ | _ | _ | _ | _ | _ | _ | _ | _ | _
 all_goals first | exact h | exact Zr.later h hb
theorem KnS.chgP {w:World}{K gk gm gl n:Nat}{sa:Option Addr}{sn sc:Nat}{y x:Z4}{p:Int}{t:List Int}{W:World} (h:KnS w K gk gm gl n sa sn sc y p t W):Chg NoWord 244 W ((W.setCell ⟨gk,1,none⟩ (.int .i64 x.a)).setCell ⟨gk,2,none⟩ (.slice x.b x.c x.d)):=by
 obtain ⟨r1,k1⟩:=h.bx.store (o:=1) (v:=.int .i64 x.a) (fun z e=>by cases e)
 obtain ⟨r2,k2⟩:=r1.store (o:=2) (v:=.slice x.b x.c x.d) (fun z e=>by cases e)
 exact k1.trans k2
def KqW (V:World) (E:World→Prop) (L:Nat→Bool) (wr:World):Prop:=(L 13=false∧Below V.heap.size V wr)∨(L 13=true∧(∀ i,i<14→L i=true)∧E wr)
def KqF (K gp gc m i:Nat) (y:Z4) (u:F8 Int) (P p d:Int):Nat→Value→World→Prop
 | 0,v,_=>v=.slice (some ⟨gc,0,none⟩) m m
 | 1,v,_=>v=.int .i64 (i:Int)
 | 2,v,_ | 8,v,_=>v=vr u
 | 3,v,wr=>Zr (K+1) wr v p
 | 4,v,_ | 5,v,_=>v=.pointer (some ⟨gp,0,none⟩)
 | 6,v,_=>v=.pointer (some ⟨gp,1,none⟩)
 | 7,v,_=>v=vz y
 | 9,v,wr=>Zr (K+1) wr v d
 | 10,v,wr=>Zr (K+1) wr v (P / d)
 | 11,v,wr=>Zr (K+1) wr v (p*(P / d))
 | 12,v,_=>v=.pointer (some ⟨gc,i*2,none⟩)
 | _,_,_=>True
theorem KqF.chg {e:TypeId}{K gp gc m i j:Nat}{y:Z4}{u:F8 Int}{P p d:Int}{v:Value}{w w':World} (h:KqF K gp gc m i y u P p d j v w) (hc:Chg NoWord e w w'):KqF K gp gc m i y u P p d j v w':=by
 rcases j with _ | _ | _ | _ | _ | _ | _ | _ | _ | _ | _ | _ | _ | _
 all_goals first | exact h | exact Zr.chgW h hc
theorem KqF.later {K gp gc m i j:Nat}{y:Z4}{u:F8 Int}{P p d:Int}{v:Value}{w w':World} (h:KqF K gp gc m i y u P p d j v w) (hb:Below w.heap.size w w'):KqF K gp gc m i y u P p d j v w':=by
 rcases j with _ | _ | _ | _ | _ | _ | _ | _ | _ | _ | _ | _ | _ | _
 all_goals first | exact h | exact Zr.later h hb
def cl (f:Int→Int) (W:List Int) (m i:Nat):List Int:=(W.take i).map f++List.replicate (m - i) 0
theorem cl_zero (f:Int→Int) (W:List Int) (m:Nat):cl f W m 0=List.replicate m 0:=by simp [cl]
theorem cl_all {f:Int→Int}{W:List Int}{m:Nat} (h:W.length=m):cl f W m m=W.map f:=by simp [cl,← h]
theorem cl_len {f:Int→Int}{W:List Int}{m i:Nat} (h:W.length=m) (hi:i≤m):(cl f W m i).length=m:=by simp [cl];omega
theorem cl_set {f:Int→Int}{W:List Int}{m i:Nat}{s:Int} (h:W.length=m) (hs:W[i]? = some s):(cl f W m i).set i (f s)=cl f W m (i+1):=by
 have hi:i<W.length:=(List.getElem?_eq_some_iff.1 hs).1
 have h1:m - i=(m - (i+1))+1:=by omega
 have h2:((W.take i).map f).length=i:=by simp;omega
 unfold cl
 rw [List.set_append_right _ _ (by omega),h2,Nat.sub_self,h1,List.replicate_succ,List.set_cons_zero,List.take_add_one,hs]
 simp
theorem cnt_in {D P s B M:Int} (D0:0<D) (hP:0<P) (hd:P∣D) (hv:dO D s∣P) (hs:0≤s∧s≤B) (hM:B<M):-M<pO D s*(P / dO D s)∧pO D s*(P / dO D s)<M:=by
 obtain ⟨g,hg⟩:=hd
 have g0:0<g:=by
   rcases Int.lt_or_le 0 g with h | h
   · exact h
   · have:=Int.mul_nonneg (Int.le_of_lt hP) (show 0 ≤ -g by omega)
     rw [Int.mul_neg] at this
     omega
 have h1:g*(pO D s*(P / dO D s))=s:=cnt_spec D0 hg hv
 have h2:0≤pO D s*(P / dO D s):=Int.nonneg_of_mul_nonneg_right (by omega) g0
 have h3:1*(pO D s*(P / dO D s))≤g*(pO D s*(P / dO D s)):=Int.mul_le_mul_of_nonneg_right (by omega) h2
 omega
section
variable {w:World}{K gk gm gl gc n nc:Nat}{sa:Option Addr}{sn sc:Nat}{y x:Z4}{p:Int}{C t:List Int}{W:World}{i:Nat}
theorem KnT.chgC (h:KnT w K gk gm gl gc n nc sa sn sc y p C t W):Chg NoWord 37 W ((W.setCell ⟨gc,i*2,none⟩ (.int .i64 x.a)).setCell ⟨gc,i*2+1,none⟩ (.slice x.b x.c x.d)) :=
 h.c.chgO (else2 (g:=gc) W (i*2) (.int .i64 x.a) (.slice x.b x.c x.d))
theorem KnT.setC {s:Int} (h:KnT w K gk gm gl gc n nc sa sn sc y p C t W) (hi:i<C.length) (hg:w.heap.size≤gc) (hx:Zr (K+1) W (vz x) s):KnT w K gk gm gl gc n nc sa sn sc y p (C.set i s) t ((W.setCell ⟨gc,i*2,none⟩ (.int .i64 x.a)).setCell ⟨gc,i*2+1,none⟩ (.slice x.b x.c x.d)) :=
 ⟨h.s.beside (else2 (g:=gc) W (i*2) (.int .i64 x.a) (.slice x.b x.c x.d)) h.chgC ((h.s.below.setCell (p:=⟨gc,i*2,none⟩) hg _).setCell (p:=⟨gc,i*2+1,none⟩) hg _) h.ne.2.2.symm h.ne.1.symm h.ne.2.1.symm,h.c.set2 (zkj _ _) hi (kd_z _ _ _ _) ⟨_,_,_,_,rfl,hx⟩,h.ne⟩
theorem KnS.apart (h:KnS w K gk gm gl n sa sn sc y p t W):W.heap.size≠gm∧W.heap.size≠gl∧W.heap.size≠gk:=by
 obtain ⟨_,h1,_⟩:=h.most
 obtain ⟨_,h2,_⟩:=h.last
 obtain ⟨_,h3,_⟩:=h.bx
 have h1:=(Array.getElem?_eq_some_iff.1 h1).1
 have h2:=(Array.getElem?_eq_some_iff.1 h2).1
 have h3:=(Array.getElem?_eq_some_iff.1 h3).1
 omega
end
theorem knL_one {z:List ((Int×Int)×Int)} (hz:Lng z) (r:Nat):knL z (r+1) 1=List.replicate (r+1) 0:=by
 refine List.ext_getElem? fun i => ?_
 rcases Nat.lt_or_ge i (r+1) with hi | hi
 · rw [knL_at z hi,List.getElem?_replicate,if_pos hi]
   rcases Nat.eq_zero_or_pos i with rfl | h0
   · rw [if_pos (by omega),bz_zero hz]
   · rw [if_neg (by omega)]
 · rw [List.getElem?_eq_none (by rw [knL_len];exact hi),List.getElem?_eq_none (by simpa using hi)]
set_option maxHeartbeats 16000000 in
set_option maxRecDepth 8000 in
theorem knap_any {K N r:Nat}{T D B:Int}{wv:Value}{L:List (Int×Int)}{W:List Int}{sa:Option Addr}{sc:Nat} (w:World) (hBg:Big K N T) (D0:0<D) (hDB:D≤B) (hT64:Tab64 w) (h:Rows 2 SzE w (.slice sa L.length sc) L) (hw:Rows 4 (RsE K D) w wv W) (hr:1≤r∧r≤200) (hL:∀ y ∈ L,okS (r:Int) y) (hlen:W.length=L.length) (hl:L.length≤12) (hW:∀ s ∈ W,0≤s∧s≤B) (hT:1000*B<T) :
   Calls Tryz.prog 100 #[.int .i64 (r:Int),.slice sa L.length sc,wv] w fun e w'=>KnapP w K r D sa L.length sc L W e w':=by
 obtain ⟨ta,tc,rfl⟩:=hw.shape
 have HG:=qh (And.intro hBg (And.intro D0 (And.intro hDB (And.intro hT64 (And.intro hW hT)))))
 have HR:=qh h
 have HW:=qh hw
 have HL:=qh hL
 obtain ⟨m,hm⟩:∃ m,m=L.length:=⟨_,rfl⟩
 rw [← hm] at HR hl hlen ⊢
 rw [hlen] at HW ⊢
 have HM:=qh (And.intro hm hlen)
 clear h hw hBg D0 hDB hT64 hW hT hL hm hlen
 have hmk:=run_make_k (P:=Tryz.prog) 129 37 _ 2 32 Tryz.underlying129 info_z .i64 .i64 (r+1) (by omega) (by omega)
 have hmk1:=run_make_k (P:=Tryz.prog) 55 3 _ 1 8 Tryz.underlying55 info_ji .i64 .i64 (r+1) (by omega) (by omega)
 rw [show ((r+1:Nat):Int)=(r:Int)+1 from rfl] at hmk hmk1
 have ew:wrap64 ((r:Int)+1)=(r:Int)+1:=by unfold wrap64;omega
 have ew2:IntKind.i64.wrap ((r:Int)+1)=(r:Int)+1:=by rw [wrapI64];exact ew
 go_enter Tryz.func100,Tryz.ntmps100
 go_upto_region 1 with fail
 go_cut [7] (fun kv wx=>∃ gp gm gl,kv=.pointer (some ⟨gp,0,none⟩)∧Hid (KnS w K gp gm gl (r+1) sa m sc ⟨1,none,0,0⟩ 1 (List.replicate (r+1) 0) wx))
 case first =>
   go_region_with (first
     | (go_at_call 102;go_fit (of_any 1 _);rintro e9 Y ⟨rfl,hb⟩))
   all_goals
     go_wp2
     go_meet
     first
       | exact ⟨_,_,_,rfl,qh (kn_w1 w Y hb)⟩
       | exact ⟨_,_,_,rfl,qh (kn_w2 w Y hb)⟩
       | exact ⟨_,_,_,rfl,qh (kn_w3 w Y hb)⟩
       | exact ⟨_,_,_,rfl,qh (kn_w4 w Y hb)⟩
       | exact ⟨_,_,_,rfl,qh (kn_w5 w Y hb)⟩
       | exact ⟨_,_,_,rfl,qh (kn_w6 w Y hb)⟩
 case rest =>
   obtain ⟨gp,gm,gl,rfl,HS⟩:=hcut
   obtain ⟨Z,rfl⟩:∃ X,X=wc:=⟨_,rfl⟩
   clear hmk hmk1 ew ew2
   go_wp2_with fail
   go_loopg [26] m (fun gk iv wr=>∃ (i:Nat) (y:Z4),i≤m∧gk=m - i∧iv=.int .i64 (i:Int)∧Hid (KnS w K gp gm gl (r+1) sa m sc y (prt D W i) (List.replicate (r+1) 0) wr))
   case atStart=>exact ⟨0,_,by omega,by omega,rfl,HS⟩
   case round =>
     clear HS
     obtain ⟨i,y,hi,hgk,rfl,HS⟩:=hrel
     by_cases him:i<m
     · obtain ⟨s,hs⟩:∃ x,W[i]? = some x:=⟨W[i]'(by have:=uh HM;omega),by simp⟩
       obtain ⟨b,o,u,rfl,d,hu⟩:=(uh HW).rnum hs
       obtain ⟨d0,d1,d2,d3⟩:=d.keep (uh HS).below
       have hps:=prt_spec (uh HG).2.1 W i
       have hds:=dO_spec (uh HG).2.1 s
       have hlc:=lcm_spec hps.1 hds.1 hps.2.1 hds.2.1
       have HNX:=qh (prt_next (D:=D) hs)
       have hDp:D<pw (K+1):=by have:=(uh HG).1.r;have:=(uh HG).2;omega
       have HPS:=qh (And.intro hps.1 (And.intro (show prt D W i<pw (K+1) by have:=Int.le_of_dvd (uh HG).2.1 hps.2.1;omega) (And.intro hds.1 (show dO D s<pw (K+1) by have:=Int.le_of_dvd (uh HG).2.1 hds.2.1;omega))))
       have HLC:=qh (show -pw (K+1)<prt D W i / (Int.gcd (prt D W i) (dO D s):Int)*dO D s∧prt D W i / (Int.gcd (prt D W i) (dO D s):Int)*dO D s<pw (K+1) by have:=Int.le_of_dvd (uh HG).2.1 hlc.2.2.2;have:=hlc.1;omega)
       have HGD:=qh (show (0:Int)<(Int.gcd (prt D W i) (dO D s):Int)∧(Int.gcd (prt D W i) (dO D s):Int)∣prt D W i from ⟨by have:=Int.gcd_pos_of_ne_zero_right (prt D W i) (show dO D s≠0 by omega);omega,Int.gcd_dvd_left (a:=prt D W i) (b:=dO D s)⟩)
       obtain ⟨V1,hV1⟩:∃ V,V=wr.alloc (.cells #[.int .i64 u.a,.slice u.b u.c u.d,.int .i64 u.e,.slice u.f u.g u.h] 39):=⟨_,rfl⟩
       obtain ⟨q,hq⟩:∃ q,q=wr.heap.size:=⟨_,rfl⟩
       have hqp:q≠gp:=by have:=((uh HS).bx.cell (o:=1) (by decide)).2.2;omega
       have kn:=zqa wr (.cells #[.int .i64 u.a,.slice u.b u.c u.d,.int .i64 u.e,.slice u.f u.g u.h] 39)
       have hX:=RX.new (hu.later (uh HS).below)
       rw [← hV1,← hq] at hX
       rw [← hV1] at kn
       have HS:=qh ((uh HS).keep kn)
       have HU:=qh (hX.q.low (uh HG).2.1)
       have HS00:=qh (show V1.cell? ⟨q,0,none⟩=_∧V1.cell? ⟨q,1,none⟩=_∧V1.cell? ⟨q,2,none⟩=_∧V1.cell? ⟨q,3,none⟩=_ from ⟨hX.c0,hX.c1,hX.c2,hX.c3⟩)
       have him':(i:Int)<(m:Int):=by omega
       have hi60:(i:Int)+1≤1000:=by omega
       have c1:=(uh HS).c1
       have c2:=(uh HS).c2
       clear hs d hu hps hds hlc hDp kn hX
       go_upto_region 5 with fail
       rw [← hV1,← hq]
       clear hV1 hq d0 d1 d2 d3
       refine wp_region_facts (by kernel_rfl) (by kernel_rfl) (by kernel_rfl) (KpW V1 fun w'=>∃ z,KnS w K gp gm gl (r+1) sa m sc z (prt D W i / (Int.gcd (prt D W i) (dO D s):Int)*dO D s) (List.replicate (r+1) 0) w') (KpF K gp y u (prt D W i) (dO D s)) (Or.inl ⟨rfl,fun h=>h,(Below.refl _ _).drew⟩) ?_ ?_
       · intro L' vals w1 i' o' hW hF hL ho hdep
         have hi':i'<19:=(Array.getElem?_eq_some_iff.1 ho).1
         rcases hW with ⟨h18,h16,hB⟩ | ⟨_,hall,_⟩
         rotate_left
         · exact absurd (hall i' hi') (by rw [hL];decide)
         rcases (by omega:i'=0∨i'=1∨i'=2∨i'=3∨i'=4∨i'=5∨i'=6∨i'=7∨i'=8∨i'=9∨i'=10∨i'=11∨i'=12∨i'=13∨i'=14∨i'=15∨i'=16∨i'=17∨i'=18) with rfl | rfl | rfl | rfl | rfl | rfl | rfl | rfl | rfl | rfl | rfl | rfl | rfl | rfl | rfl | rfl | rfl | rfl | rfl
         · obtain rfl:=Option.some.inj ho
           refine wpOp_step rfl (fun K hK' => ?_)
           simp only [frs]
           go_simp
           exact hK' _ _ ⟨.pointer (some ⟨gp,0,none⟩),(by show _=Act.put _ (some 30) _;simp only [frs]),rfl,Or.inl ⟨by simp [h18],by simpa using h16,hB⟩,hF⟩
         · obtain rfl:=Option.some.inj ho
           refine wpOp_step rfl (fun K hK' => ?_)
           simp only [frs]
           go_simp
           exact hK' _ _ ⟨.pointer (some ⟨gp,0,none⟩),(by show _=Act.put _ (some 31) _;simp only [frs]),rfl,Or.inl ⟨by simp [h18],by simpa using h16,hB⟩,hF⟩
         · obtain rfl:=Option.some.inj ho
           have f1:=hF 1 (hdep ⟨1,.data⟩ (by simp) rfl)
           refine wpOp_step rfl (fun K hK' => ?_)
           simp only [frs]
           rw [show vals 1=_ from f1]
           go_simp
           exact hK' _ _ ⟨.pointer (some ⟨gp,0,none⟩),(by show _=Act.put _ (some 32) _;simp only [frs,show vals 1=_ from f1]),rfl,Or.inl ⟨by simp [h18],by simpa using h16,hB⟩,hF⟩
         · obtain rfl:=Option.some.inj ho
           have f2:=hF 2 (hdep ⟨2,.data⟩ (by simp) rfl)
           refine wpOp_step rfl (fun K hK' => ?_)
           simp only [frs]
           rw [show vals 2=_ from f2]
           go_simp
           exact hK' _ _ ⟨.pointer (some ⟨gp,1,none⟩),(by show _=Act.put _ (some 33) _;simp only [frs,show vals 2=_ from f2]),rfl,Or.inl ⟨by simp [h18],by simpa using h16,hB⟩,hF⟩
         · obtain rfl:=Option.some.inj ho
           have f3:=hF 3 (hdep ⟨3,.data⟩ (by simp) rfl)
           have z1:=ck hB (uh HS).c1
           have z2:=ck hB (uh HS).c2
           refine wpOp_step rfl (fun K hK' => ?_)
           simp only [frs]
           rw [show vals 3=_ from f3]
           go_simp
           exact hK' _ _ ⟨vz y,(by show _=Act.put _ (some 34) _;simp only [frs,show vals 3=_ from f3]),rfl,Or.inl ⟨by simp [h18],by simpa using h16,hB⟩,hF⟩
         · obtain rfl:=Option.some.inj ho
           refine wpOp_step rfl (fun K hK' => ?_)
           simp only [frs]
           go_simp
           exact hK' _ _ ⟨.pointer (some ⟨gp,0,none⟩),(by show _=Act.put _ (some 35) _;simp only [frs]),rfl,Or.inl ⟨by simp [h18],by simpa using h16,hB⟩,hF⟩
         · obtain rfl:=Option.some.inj ho
           have f5:=hF 5 (hdep ⟨5,.data⟩ (by simp) rfl)
           refine wpOp_step rfl (fun K hK' => ?_)
           simp only [frs]
           rw [show vals 5=_ from f5]
           go_simp
           exact hK' _ _ ⟨.pointer (some ⟨gp,0,none⟩),(by show _=Act.put _ (some 36) _;simp only [frs,show vals 5=_ from f5]),rfl,Or.inl ⟨by simp [h18],by simpa using h16,hB⟩,hF⟩
         · obtain rfl:=Option.some.inj ho
           have f6:=hF 6 (hdep ⟨6,.data⟩ (by simp) rfl)
           refine wpOp_step rfl (fun K hK' => ?_)
           simp only [frs]
           rw [show vals 6=_ from f6]
           go_simp
           exact hK' _ _ ⟨.pointer (some ⟨gp,1,none⟩),(by show _=Act.put _ (some 37) _;simp only [frs,show vals 6=_ from f6]),rfl,Or.inl ⟨by simp [h18],by simpa using h16,hB⟩,hF⟩
         · obtain rfl:=Option.some.inj ho
           have f7:=hF 7 (hdep ⟨7,.data⟩ (by simp) rfl)
           have z1:=ck hB (uh HS).c1
           have z2:=ck hB (uh HS).c2
           refine wpOp_step rfl (fun K hK' => ?_)
           simp only [frs]
           rw [show vals 7=_ from f7]
           go_simp
           exact hK' _ _ ⟨vz y,(by show _=Act.put _ (some 38) _;simp only [frs,show vals 7=_ from f7]),rfl,Or.inl ⟨by simp [h18],by simpa using h16,hB⟩,hF⟩
         · obtain rfl:=Option.some.inj ho
           obtain ⟨q0,q1,q2,q3⟩:=ck4 hB (uh HS00)
           refine wpOp_step rfl (fun K hK' => ?_)
           simp only [frs]
           go_simp
           exact hK' _ _ ⟨vr u,(by show _=Act.put _ (some 39) _;simp only [frs]),rfl,Or.inl ⟨by simp [h18],by simpa using h16,hB⟩,hF⟩
         · obtain rfl:=Option.some.inj ho
           have f9:=hF 9 (hdep ⟨9,.data⟩ (by simp) rfl)
           refine wpOp_step rfl (fun K hK' => ?_)
           simp only [frs]
           go_simp
           rw [show vals 9=_ from f9]
           go_fit (den_any _ ((uh HU).later hB))
           rintro e9 Y ⟨⟨v,rfl,hV⟩,hb⟩
           exact hK' _ _ ⟨v,(by show _=Act.put _ (some 40) _;simp only [frs,show vals 9=_ from f9]),hV,Or.inl ⟨by simp [h18],by simpa using h16,bk hb hB⟩,fun j hj=>KpF.later (hF j hj) hb⟩
         · obtain rfl:=Option.some.inj ho
           have f8:=hF 8 (hdep ⟨8,.data⟩ (by simp) rfl)
           have f10:=hF 10 (hdep ⟨10,.data⟩ (by simp) rfl)
           refine wpOp_step rfl (fun K hK' => ?_)
           simp only [frs]
           go_simp
           rw [show vals 8=_ from f8]
           go_fit (zs_gcd _ (uh HG).1 ((uh HG).2.2.2.1.later (bk hB (uh HS).below)) ((uh HS).parts.later hB) f10 (uh HPS).1 (uh HPS).2.1)
           rintro e9 Y ⟨⟨v,rfl,hV⟩,hb⟩
           exact hK' _ _ ⟨v,(by show _=Act.put _ (some 41) _;simp only [frs,show vals 8=_ from f8]),hV,Or.inl ⟨by simp [h18],by simpa using h16,bk hb hB⟩,fun j hj=>KpF.later (hF j hj) hb⟩
         · obtain rfl:=Option.some.inj ho
           have f4:=hF 4 (hdep ⟨4,.data⟩ (by simp) rfl)
           have f11:=hF 11 (hdep ⟨11,.data⟩ (by simp) rfl)
           refine wpOp_step rfl (fun K hK' => ?_)
           simp only [frs]
           go_simp
           rw [show vals 4=_ from f4]
           go_fit (zs_quot _ (uh HG).1 ((uh HS).parts.later hB) f11 (uh HGD).1 (uh HPS).1 (uh HGD).2 (uh HPS).2.1)
           rintro e9 Y ⟨⟨v,rfl,hV⟩,hb⟩
           exact hK' _ _ ⟨v,(by show _=Act.put _ (some 42) _;simp only [frs,show vals 4=_ from f4]),hV,Or.inl ⟨by simp [h18],by simpa using h16,bk hb hB⟩,fun j hj=>KpF.later (hF j hj) hb⟩
         · obtain rfl:=Option.some.inj ho
           obtain ⟨q0,q1,q2,q3⟩:=ck4 hB (uh HS00)
           refine wpOp_step rfl (fun K hK' => ?_)
           simp only [frs]
           go_simp
           exact hK' _ _ ⟨vr u,(by show _=Act.put _ (some 43) _;simp only [frs]),rfl,Or.inl ⟨by simp [h18],by simpa using h16,hB⟩,hF⟩
         · obtain rfl:=Option.some.inj ho
           have f13:=hF 13 (hdep ⟨13,.data⟩ (by simp) rfl)
           refine wpOp_step rfl (fun K hK' => ?_)
           simp only [frs]
           go_simp
           rw [show vals 13=_ from f13]
           go_fit (den_any _ ((uh HU).later hB))
           rintro e9 Y ⟨⟨v,rfl,hV⟩,hb⟩
           exact hK' _ _ ⟨v,(by show _=Act.put _ (some 44) _;simp only [frs,show vals 13=_ from f13]),hV,Or.inl ⟨by simp [h18],by simpa using h16,bk hb hB⟩,fun j hj=>KpF.later (hF j hj) hb⟩
         · obtain rfl:=Option.some.inj ho
           have f12:=hF 12 (hdep ⟨12,.data⟩ (by simp) rfl)
           have f14:=hF 14 (hdep ⟨14,.data⟩ (by simp) rfl)
           refine wpOp_step rfl (fun K hK' => ?_)
           simp only [frs]
           go_simp
           go_fit (zs_mul _ (uh HG).1 f12 f14 (uh HLC))
           rintro e9 Y ⟨⟨v,rfl,hV⟩,hb⟩
           exact hK' _ _ ⟨v,(by show _=Act.put _ (some 45) _;simp only [frs]),hV,Or.inl ⟨by simp [h18],by simpa using h16,bk hb hB⟩,fun j hj=>KpF.later (hF j hj) hb⟩
         · obtain rfl:=Option.some.inj ho
           have f0:=hF 0 (hdep ⟨0,.data⟩ (by simp) rfl)
           refine wpOp_step rfl (fun K hK' => ?_)
           simp only [frs]
           rw [show vals 0=_ from f0]
           go_simp
           exact hK' _ _ ⟨.pointer (some ⟨gp,0,none⟩),(by show _=Act.put _ (some 46) _;simp only [frs,show vals 0=_ from f0]),rfl,Or.inl ⟨by simp [h18],by simp,hB⟩,hF⟩
         · obtain rfl:=Option.some.inj ho
           have f16:=hF 16 (hdep ⟨16,.data⟩ (by simp) rfl)
           refine wpOp_step rfl (fun K hK' => ?_)
           simp only [frs]
           rw [show vals 16=_ from f16]
           go_simp
           exact hK' _ _ ⟨.pointer (some ⟨gp,1,none⟩),(by show _=Act.put _ (some 47) _;simp only [frs,show vals 16=_ from f16]),rfl,Or.inl ⟨by simp [h18],fun _=>by simpa using hdep ⟨16,.data⟩ (by simp) rfl,hB⟩,hF⟩
         · obtain rfl:=Option.some.inj ho
           have f17:=hF 17 (hdep ⟨17,.data⟩ (by simp) rfl)
           have f15:=hF 15 (hdep ⟨15,.data⟩ (by simp) rfl)
           have HS:=qh ((uh HS).keep hB)
           obtain ⟨z5,hz⟩:=Zr.sh f15
           rw [hz] at f15
           obtain ⟨⟨w1',e01⟩,f01,hlt⟩:=(uh HS).bx.cell (o:=1) (by decide)
           obtain ⟨⟨w2',e02⟩,f02,_⟩:=(uh HS).bx.cell (o:=2) (by decide)
           refine wpOp_step rfl (fun K hK' => ?_)
           simp only [frs]
           rw [show vals 17=_ from f17,hz]
           go_simp
           refine hK' _ _ ⟨undef,(by show _=Act.put _ (none) _;simp only [frs,hz,show vals 17=_ from f17]),trivial,Or.inr ⟨rfl,?_,z5,(uh HS).setP f15⟩,?_⟩
           · intro i hi
             rcases (by omega:i=0∨i=1∨i=2∨i=3∨i=4∨i=5∨i=6∨i=7∨i=8∨i=9∨i=10∨i=11∨i=12∨i=13∨i=14∨i=15∨i=16∨i=17∨i=18) with rfl | rfl | rfl | rfl | rfl | rfl | rfl | rfl | rfl | rfl | rfl | rfl | rfl | rfl | rfl | rfl | rfl | rfl | rfl
             · exact hdep ⟨0,.phase⟩ (by simp) rfl
             · exact hdep ⟨1,.phase⟩ (by simp) rfl
             · exact hdep ⟨2,.phase⟩ (by simp) rfl
             · exact hdep ⟨3,.phase⟩ (by simp) rfl
             · exact hdep ⟨4,.phase⟩ (by simp) rfl
             · exact hdep ⟨5,.phase⟩ (by simp) rfl
             · exact hdep ⟨6,.phase⟩ (by simp) rfl
             · exact hdep ⟨7,.phase⟩ (by simp) rfl
             · exact hdep ⟨8,.phase⟩ (by simp) rfl
             · exact hdep ⟨9,.phase⟩ (by simp) rfl
             · exact hdep ⟨10,.phase⟩ (by simp) rfl
             · exact hdep ⟨11,.phase⟩ (by simp) rfl
             · exact hdep ⟨12,.phase⟩ (by simp) rfl
             · exact hdep ⟨13,.phase⟩ (by simp) rfl
             · exact hdep ⟨14,.phase⟩ (by simp) rfl
             · exact hdep ⟨15,.phase⟩ (by simp) rfl
             · simpa using h16 (hdep ⟨17,.data⟩ (by simp) rfl)
             · exact hdep ⟨17,.data⟩ (by simp) rfl
             · rfl
           · exact fun j hj=>KpF.chg (hF j hj) (uh HS).chgP
       · intro L' vals w1 hW hF
         rcases hW with ⟨h18,_⟩ | ⟨_,_,z,hK⟩
         · have:=(hF 18 (by decide)).1
           rw [h18] at this
           cases this
         have HK:=qh hK
         clear hK hF
         simp only [frs]
         go_wp2
         go_roundg (m - (i+1))
         case measure=>omega
         case rel=>exact ⟨i+1,z,by omega,rfl,by go_num,qh (by rw [uh HNX];exact uh HK)⟩
     · obtain rfl:m=i:=by omega
       clear him hi hgk
       have hmk:=run_make_k (P:=Tryz.prog) 129 37 _ 2 32 Tryz.underlying129 info_z .i64 .i64 m (by omega) (by omega)
       go_wp2_with fail
       obtain ⟨V,hV⟩:∃ V,V=wr.alloc (.cells (madeCells #[Value.int .i64 0,.slice none 0 0] (m*2)) 37):=⟨_,rfl⟩
       obtain ⟨gc,hgc⟩:∃ g,g=wr.heap.size:=⟨_,rfl⟩
       have HT:=qh (show KnT w K gp gm gl gc (r+1) m sa m sc y (prt D W m) (cl (cnt D (prt D W m)) W m 0) (List.replicate (r+1) 0) V by
         rw [hV,hgc]
         have h1:=(uh HS).c0
         exact ⟨(uh HS).keep (zqa _ _),by rw [cl_zero];exact fill_zeroZ _ _ _ _ (zqy (w:=wr) rfl _ _),(uh HS).apart⟩)
       have HGC:=qh (show w.heap.size≤gc by rw [hgc];exact (uh HS).below.size)
       rw [← hV,← hgc]
       clear HS hV hgc hmk
       go_loopg [54] m (fun gk iv wr=>∃ (i:Nat),i≤m∧gk=m - i∧iv=.int .i64 (i:Int)∧Hid (KnT w K gp gm gl gc (r+1) m sa m sc y (prt D W m) (cl (cnt D (prt D W m)) W m i) (List.replicate (r+1) 0) wr))
       case atStart=>exact ⟨0,by omega,by omega,rfl,HT⟩
       case round =>
         clear HT
         obtain ⟨i,hi,hgk,rfl,HS⟩:=hrel
         by_cases him:i<m
         · obtain ⟨s,hs⟩:∃ x,W[i]? = some x:=⟨W[i]'(by have:=uh HM;omega),by simp⟩
           obtain ⟨b,o,u,rfl,d,hu⟩:=(uh HW).rnum hs
           obtain ⟨d0,d1,d2,d3⟩:=d.keep (uh HS).s.below
           have hps:=prt_spec (uh HG).2.1 W m
           have hds:=dO_spec (uh HG).2.1 s
           have HCL:=qh (And.intro (cl_set (f:=cnt D (prt D W m)) (W:=W) (m:=m) (by have:=uh HM;omega) hs) (cl_len (f:=cnt D (prt D W m)) (W:=W) (m:=m) (i:=i) (by have:=uh HM;omega) (Nat.le_of_lt him)))
           have hDp:D<pw (K+1):=by have:=(uh HG).1.r;have:=(uh HG).2;omega
           have hdv:=hps.2.2 i s him hs
           have HPS:=qh (And.intro hds.1 (And.intro hps.1 (And.intro hdv (show prt D W m<pw (K+1) by have:=Int.le_of_dvd (uh HG).2.1 hps.2.1;omega))))
           have HLC:=qh (show -pw (K+1)<pO D s*(prt D W m / dO D s)∧pO D s*(prt D W m / dO D s)<pw (K+1) from cnt_in (uh HG).2.1 hps.1 hps.2.1 hdv ((uh HG).2.2.2.2.1 s (List.mem_of_getElem? hs)) (by have:=(uh HG).1.r;have:=(uh HG).2;omega))
           obtain ⟨V1,hV1⟩:∃ V,V=wr.alloc (.cells #[.int .i64 u.a,.slice u.b u.c u.d,.int .i64 u.e,.slice u.f u.g u.h] 39):=⟨_,rfl⟩
           obtain ⟨q,hq⟩:∃ q,q=wr.heap.size:=⟨_,rfl⟩
           have kn:=zqa wr (.cells #[.int .i64 u.a,.slice u.b u.c u.d,.int .i64 u.e,.slice u.f u.g u.h] 39)
           have hX:=RX.new (hu.later (uh HS).s.below)
           rw [← hV1,← hq] at hX
           rw [← hV1] at kn
           have HS:=qh ((uh HS).keep kn)
           have HU:=qh (hX.q.low (uh HG).2.1)
           have HS00:=qh (show V1.cell? ⟨q,0,none⟩=_∧V1.cell? ⟨q,1,none⟩=_∧V1.cell? ⟨q,2,none⟩=_∧V1.cell? ⟨q,3,none⟩=_ from ⟨hX.c0,hX.c1,hX.c2,hX.c3⟩)
           have him':(i:Int)<(m:Int):=by omega
           have hi60:(i:Int)+1≤1000:=by omega
           clear hs d hu hps hds hdv hDp kn hX
           go_upto_region 11 with fail
           rw [← hV1,← hq]
           clear hV1 hq d0 d1 d2 d3
           refine wp_region_facts (by kernel_rfl) (by kernel_rfl) (by kernel_rfl) (KqW V1 fun w'=>KnT w K gp gm gl gc (r+1) m sa m sc y (prt D W m) (cl (cnt D (prt D W m)) W m (i+1)) (List.replicate (r+1) 0) w') (KqF K gp gc m i y u (prt D W m) (pO D s) (dO D s)) (Or.inl ⟨rfl,(Below.refl _ _).drew⟩) ?_ ?_
           · intro L' vals w1 i' o' hW hF hL ho hdep
             have hi':i'<14:=(Array.getElem?_eq_some_iff.1 ho).1
             rcases hW with ⟨h13,hB⟩ | ⟨_,hall,_⟩
             rotate_left
             · exact absurd (hall i' hi') (by rw [hL];decide)
             rcases (by omega:i'=0∨i'=1∨i'=2∨i'=3∨i'=4∨i'=5∨i'=6∨i'=7∨i'=8∨i'=9∨i'=10∨i'=11∨i'=12∨i'=13) with rfl | rfl | rfl | rfl | rfl | rfl | rfl | rfl | rfl | rfl | rfl | rfl | rfl | rfl
             · obtain rfl:=Option.some.inj ho
               refine wpOp_step rfl (fun K hK' => ?_)
               simp only [frs]
               go_simp
               exact hK' _ _ ⟨.slice (some ⟨gc,0,none⟩) m m,(by show _=Act.put _ (some 59) _;simp only [frs]),rfl,Or.inl ⟨by simp [h13],hB⟩,hF⟩
             · obtain rfl:=Option.some.inj ho
               refine wpOp_step rfl (fun K hK' => ?_)
               simp only [frs]
               go_simp
               exact hK' _ _ ⟨.int .i64 (i:Int),(by show _=Act.put _ (some 60) _;simp only [frs]),rfl,Or.inl ⟨by simp [h13],hB⟩,hF⟩
             · obtain rfl:=Option.some.inj ho
               obtain ⟨q0,q1,q2,q3⟩:=ck4 hB (uh HS00)
               refine wpOp_step rfl (fun K hK' => ?_)
               simp only [frs]
               go_simp
               exact hK' _ _ ⟨vr u,(by show _=Act.put _ (some 61) _;simp only [frs]),rfl,Or.inl ⟨by simp [h13],hB⟩,hF⟩
             · obtain rfl:=Option.some.inj ho
               have f2:=hF 2 (hdep ⟨2,.data⟩ (by simp) rfl)
               refine wpOp_step rfl (fun K hK' => ?_)
               simp only [frs]
               go_simp
               rw [show vals 2=_ from f2]
               go_fit (num_any _ ((uh HU).later hB))
               rintro e9 Y ⟨⟨v,rfl,hV⟩,hb⟩
               exact hK' _ _ ⟨v,(by show _=Act.put _ (some 62) _;simp only [frs,show vals 2=_ from f2]),hV,Or.inl ⟨by simp [h13],bk hb hB⟩,fun j hj=>KqF.later (hF j hj) hb⟩
             · obtain rfl:=Option.some.inj ho
               refine wpOp_step rfl (fun K hK' => ?_)
               simp only [frs]
               go_simp
               exact hK' _ _ ⟨.pointer (some ⟨gp,0,none⟩),(by show _=Act.put _ (some 63) _;simp only [frs]),rfl,Or.inl ⟨by simp [h13],hB⟩,hF⟩
             · obtain rfl:=Option.some.inj ho
               have f4:=hF 4 (hdep ⟨4,.data⟩ (by simp) rfl)
               refine wpOp_step rfl (fun K hK' => ?_)
               simp only [frs]
               rw [show vals 4=_ from f4]
               go_simp
               exact hK' _ _ ⟨.pointer (some ⟨gp,0,none⟩),(by show _=Act.put _ (some 64) _;simp only [frs,show vals 4=_ from f4]),rfl,Or.inl ⟨by simp [h13],hB⟩,hF⟩
             · obtain rfl:=Option.some.inj ho
               have f5:=hF 5 (hdep ⟨5,.data⟩ (by simp) rfl)
               refine wpOp_step rfl (fun K hK' => ?_)
               simp only [frs]
               rw [show vals 5=_ from f5]
               go_simp
               exact hK' _ _ ⟨.pointer (some ⟨gp,1,none⟩),(by show _=Act.put _ (some 65) _;simp only [frs,show vals 5=_ from f5]),rfl,Or.inl ⟨by simp [h13],hB⟩,hF⟩
             · obtain rfl:=Option.some.inj ho
               have f6:=hF 6 (hdep ⟨6,.data⟩ (by simp) rfl)
               have z1:=ck hB (uh HS).s.c1
               have z2:=ck hB (uh HS).s.c2
               refine wpOp_step rfl (fun K hK' => ?_)
               simp only [frs]
               rw [show vals 6=_ from f6]
               go_simp
               exact hK' _ _ ⟨vz y,(by show _=Act.put _ (some 66) _;simp only [frs,show vals 6=_ from f6]),rfl,Or.inl ⟨by simp [h13],hB⟩,hF⟩
             · obtain rfl:=Option.some.inj ho
               obtain ⟨q0,q1,q2,q3⟩:=ck4 hB (uh HS00)
               refine wpOp_step rfl (fun K hK' => ?_)
               simp only [frs]
               go_simp
               exact hK' _ _ ⟨vr u,(by show _=Act.put _ (some 67) _;simp only [frs]),rfl,Or.inl ⟨by simp [h13],hB⟩,hF⟩
             · obtain rfl:=Option.some.inj ho
               have f8:=hF 8 (hdep ⟨8,.data⟩ (by simp) rfl)
               refine wpOp_step rfl (fun K hK' => ?_)
               simp only [frs]
               go_simp
               rw [show vals 8=_ from f8]
               go_fit (den_any _ ((uh HU).later hB))
               rintro e9 Y ⟨⟨v,rfl,hV⟩,hb⟩
               exact hK' _ _ ⟨v,(by show _=Act.put _ (some 68) _;simp only [frs,show vals 8=_ from f8]),hV,Or.inl ⟨by simp [h13],bk hb hB⟩,fun j hj=>KqF.later (hF j hj) hb⟩
             · obtain rfl:=Option.some.inj ho
               have f7:=hF 7 (hdep ⟨7,.data⟩ (by simp) rfl)
               have f9:=hF 9 (hdep ⟨9,.data⟩ (by simp) rfl)
               refine wpOp_step rfl (fun K hK' => ?_)
               simp only [frs]
               go_simp
               rw [show vals 7=_ from f7]
               go_fit (zs_quot _ (uh HG).1 ((uh HS).s.parts.later hB) f9 (uh HPS).1 (uh HPS).2.1 (uh HPS).2.2.1 (uh HPS).2.2.2)
               rintro e9 Y ⟨⟨v,rfl,hV⟩,hb⟩
               exact hK' _ _ ⟨v,(by show _=Act.put _ (some 69) _;simp only [frs,show vals 7=_ from f7]),hV,Or.inl ⟨by simp [h13],bk hb hB⟩,fun j hj=>KqF.later (hF j hj) hb⟩
             · obtain rfl:=Option.some.inj ho
               have f3:=hF 3 (hdep ⟨3,.data⟩ (by simp) rfl)
               have f10:=hF 10 (hdep ⟨10,.data⟩ (by simp) rfl)
               refine wpOp_step rfl (fun K hK' => ?_)
               simp only [frs]
               go_simp
               go_fit (zs_mul _ (uh HG).1 f3 f10 (uh HLC))
               rintro e9 Y ⟨⟨v,rfl,hV⟩,hb⟩
               exact hK' _ _ ⟨v,(by show _=Act.put _ (some 70) _;simp only [frs]),hV,Or.inl ⟨by simp [h13],bk hb hB⟩,fun j hj=>KqF.later (hF j hj) hb⟩
             · obtain rfl:=Option.some.inj ho
               have f0:=hF 0 (hdep ⟨0,.data⟩ (by simp) rfl)
               have f1:=hF 1 (hdep ⟨1,.data⟩ (by simp) rfl)
               refine wpOp_step rfl (fun K hK' => ?_)
               simp only [frs]
               rw [show vals 0=_ from f0]
               rw [show vals 1=_ from f1]
               go_simp
               exact hK' _ _ ⟨.pointer (some ⟨gc,i*2,none⟩),(by show _=Act.put _ (some 71) _;simp only [frs,show vals 0=_ from f0,show vals 1=_ from f1]),rfl,Or.inl ⟨by simp [h13],hB⟩,hF⟩
             · obtain rfl:=Option.some.inj ho
               have f12:=hF 12 (hdep ⟨12,.data⟩ (by simp) rfl)
               have f11:=hF 11 (hdep ⟨11,.data⟩ (by simp) rfl)
               have HS:=qh ((uh HS).keep hB)
               obtain ⟨z5,hz⟩:=Zr.sh f11
               rw [hz] at f11
               have hln:=(uh HCL).2
               obtain ⟨w1',e01⟩:=(uh HS).c.cell (o:=i*2) (by omega)
               obtain ⟨w2',e02⟩:=(uh HS).c.cell (o:=i*2+1) (by omega)
               have f01:=(uh HS).c.free (i*2)
               have f02:=(uh HS).c.free (i*2+1)
               refine wpOp_step rfl (fun K hK' => ?_)
               simp only [frs]
               rw [show vals 12=_ from f12,hz]
               go_simp
               refine hK' _ _ ⟨undef,(by show _=Act.put _ (none) _;simp only [frs,hz,show vals 12=_ from f12]),trivial,Or.inr ⟨rfl,?_,(by have h1:=KnT.setC (s:=cnt D (prt D W m) s) (uh HS) (by rw [(uh HCL).2];exact him) (uh HGC) f11;rw [(uh HCL).1] at h1;exact h1)⟩,?_⟩
               · intro i hi
                 rcases (by omega:i=0∨i=1∨i=2∨i=3∨i=4∨i=5∨i=6∨i=7∨i=8∨i=9∨i=10∨i=11∨i=12∨i=13) with rfl | rfl | rfl | rfl | rfl | rfl | rfl | rfl | rfl | rfl | rfl | rfl | rfl | rfl
                 · exact hdep ⟨0,.phase⟩ (by simp) rfl
                 · exact hdep ⟨1,.phase⟩ (by simp) rfl
                 · exact hdep ⟨2,.phase⟩ (by simp) rfl
                 · exact hdep ⟨3,.phase⟩ (by simp) rfl
                 · exact hdep ⟨4,.phase⟩ (by simp) rfl
                 · exact hdep ⟨5,.phase⟩ (by simp) rfl
                 · exact hdep ⟨6,.phase⟩ (by simp) rfl
                 · exact hdep ⟨7,.phase⟩ (by simp) rfl
                 · exact hdep ⟨8,.phase⟩ (by simp) rfl
                 · exact hdep ⟨9,.phase⟩ (by simp) rfl
                 · exact hdep ⟨10,.phase⟩ (by simp) rfl
                 · exact hdep ⟨11,.phase⟩ (by simp) rfl
                 · exact hdep ⟨12,.data⟩ (by simp) rfl
                 · rfl
               · exact fun j hj=>KqF.chg (hF j hj) (uh HS).chgC
           · intro L' vals w1 hW hF
             rcases hW with ⟨h13,_⟩ | ⟨_,_,hK⟩
             · have:=(hF 13 (by decide)).1
               rw [h13] at this
               cases this
             have HK:=qh hK
             clear hK hF
             simp only [frs]
             go_wp2
             go_roundg (m - (i+1))
             case measure=>omega
             case rel=>exact ⟨i+1,by omega,rfl,by go_num,HK⟩
         · obtain rfl:m=i:=by omega
           clear him hi hgk
           rw [cl_all (uh HM).2] at HS
           have c4:=(uh HS).s.c4
           obtain ⟨⟨e0,g0⟩,fz,hgl⟩:=(uh HS).s.last.cell (o:=0) (by omega)
           go_wp2_with fail
           have HS:=qh ((uh HS).setL (i:=0) (s := -1))
           rw [← knL_one (z:=L.zip (W.map (cnt D (prt D W m)))) (lng_zip _ (uh HL)) r] at HS
           clear c4 e0 g0 fz hgl
           have hps:=prt_spec (uh HG).2.1 W m
           obtain ⟨g,hgD⟩:=hps.2.1
           have g0:0<g:=by
             rcases Int.lt_or_le 0 g with h | h
             · exact h
             · have h1:=Int.mul_nonneg (Int.le_of_lt hps.1) (show 0 ≤ -g by omega)
               have:=(uh HG).2.1
               rw [Int.mul_neg] at h1
               omega
           have hcn:∀ s ∈ W,g*cnt D (prt D W m) s=s:=fun s hs=>by
             obtain ⟨j,hj⟩:=List.getElem?_of_mem hs
             have hjl:=(List.getElem?_eq_some_iff.1 hj).1
             exact cnt_spec (uh HG).2.1 hgD (hps.2.2 j s (by have:=(uh HM).2;omega) hj)
           have HP:=qh (And.intro hps.1 (And.intro g0 (And.intro hgD (show W=(W.map (cnt D (prt D W m))).map (fun c=>g*c) by
             refine List.ext_getElem? fun j => ?_
             rw [List.map_map,List.getElem?_map]
             cases hj:W[j]? with
             | none=>rfl
             | some s=>exact congrArg some (hcn s (List.mem_of_getElem? hj)).symm))))
           have HCB:=qh (show ∀ s ∈ (W.map (cnt D (prt D W m))),0≤s∧s≤B from fun c hc=>by
             obtain ⟨s,hs,rfl⟩:=List.mem_map.1 hc
             have h1:=hcn s hs
             have h2:=(uh HG).2.2.2.2.1 s hs
             have h3:0≤cnt D (prt D W m) s:=Int.nonneg_of_mul_nonneg_right (by omega) g0
             have h4:1*cnt D (prt D W m) s≤g*cnt D (prt D W m) s:=Int.mul_le_mul_of_nonneg_right (by omega) h3
             omega)
           clear hps hgD hcn g0
           go_loopg [13] (r+1) (fun gk lv wr=>∃ (k:Nat),1≤k∧k≤r+1∧gk=r+2 - k∧lv=.int .i64 (k:Int)∧Hid (KnT w K gp gm gl gc (r+1) m sa m sc y (prt D W m) (W.map (cnt D (prt D W m))) (knL (L.zip (W.map (cnt D (prt D W m)))) (r+1) k) wr))
           case atStart=>exact ⟨1,by omega,by omega,by omega,rfl,HS⟩
           case round =>
             clear HS
             obtain ⟨k,hk1,hkr,hgk,rfl,HS⟩:=hrel
             by_cases hk:k<r+1
             · have hk':(k:Int)≤(r:Int):=by omega
               have HFA:=qh (find_any (B:=B) (cc:=m) w wr (uh HG).1 (by rw [← (uh HM).1];exact uh HS) (by rw [← (uh HM).1];exact uh HR) (uh HL) (by have:=(uh HM).1;omega) (by have:=uh HM;simp;omega) hk1 hk (by omega) (by have:=(uh HG).2;omega) (uh HCB) (uh HG).2.2.2.2.2)
               rw [← (uh HM).1] at HFA
               go_wp2_with (first
                 | (go_at_call 161;go_fit (uh HFA);rintro e7 Y ⟨rfl,hT⟩;have HS:=qh hT;clear hT))
               go_roundg (r+2 - (k+1))
               case measure=>omega
               case rel=>exact ⟨k+1,by omega,by omega,rfl,by go_num,HS⟩
             · obtain rfl:k=r+1:=by omega
               go_wp2_with fail
               go_ret
               exact ⟨gp,gm,gl,y,_,_,_,rfl,(uh HS).s,uh HP⟩
end Go.Proofs.YtkdobjmhammhbaaGreatDoor
