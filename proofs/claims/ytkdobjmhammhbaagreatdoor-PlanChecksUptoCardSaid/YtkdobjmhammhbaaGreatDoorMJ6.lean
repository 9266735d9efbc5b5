import Derived.Test.YtkdobjmhammhbaaGreatDoorMEA
import Derived.Test.YtkdobjmhammhbaaGreatDoorMJ3
namespace Go.Proofs.YtkdobjmhammhbaaGreatDoor
open Go.RowKit
theorem coded3 (A:Nat→Addr) (w:World) (k:Nat) (hk:k<10) (hS:Sents w A) :
   Calls Tryz.prog 18 #[.iface 324 (.pointer (some (A k))),.int .i64 ((k:Int)+1)] w fun e w'=>e=.returned (.bool true)∧Below w.heap.size w w':=by
 go_enter Tryz.func18,Tryz.ntmps18
 go_wp2_with fail
 go_fit (code_any A _ k hk hS)
 rintro e w1 ⟨rfl,hb1⟩
 go_wp2
 go_ret
 exact ⟨rfl,hb1⟩
def errV (A:Nat→Addr) (e:Int):Value:=if e=2 then .iface 324 (.pointer (some (A 1))) else if e=4 then .iface 324 (.pointer (some (A 3))) else .nilIface
theorem RsE.kinds {N:Nat}{D:Int} (w:World) (cs:List Value) (x:Int) (h:RsE N D w cs x):∀ u ∈ cs,NoWord u:=by
 obtain ⟨x1,x2,x3,x4,x5,x6,x7,x8,rfl,_⟩:=h
 exact kd_r _ _ _ _ _ _ _ _
def PredQ (K:Nat) (D:Int) (g:Nat) (lb:Array Value) (p:Int→Bool) (w:World):Prop :=
 ∀ (W:World) (x:F8 Int) (s:Int),Below w.heap.size w W→Rs K D W (vr x) s→Calls Tryz.prog g (#[vr x]++lb) W fun e w'=>e=.returned (.bool (p s))∧Below W.heap.size W w'
set_option maxHeartbeats 4000000 in
set_option maxRecDepth 8000 in
theorem idxQ_any {K g:Nat}{D:Int}{lb:Array Value}{p:Int→Bool}{v:Value}{L:List Int} (w:World) (eg:∀ args w,(callFunc g args).run Tryz.prog w=.ok (.enter g args) w) (h:Rows 4 (RsE K D) w v L) (hp:PredQ K D g lb p w) :
   Calls Tryz.prog 138 #[v,.func (.func g) #[] lb] w fun e w'=>(∃ i:Int,e=.returned (.int .i64 i)∧(L.any p=decide (0≤i)))∧Below w.heap.size w w':=by
 obtain ⟨sa,sc,rfl⟩:=h.shape
 have HR:=qh h
 have hsm:=h.small
 unfold maxLen at hsm
 have HP:=qh hp
 clear h hp
 go_enter Tryz.func138,Tryz.ntmps138
 go_wp2_with fail
 go_loopg [5,8] L.length (fun gk _ iv wr=>∃ i:Nat,i≤L.length∧gk=L.length - i∧iv=.int .i64 (i:Int)∧Hid (Below w.heap.size w wr)∧Hid ((L.take i).any p=false))
 case atStart=>exact ⟨0,by omega,by omega,rfl,qh (Below.refl _ _),qh rfl⟩
 case round =>
   obtain ⟨i,hi,hgk,rfl,HB,HN⟩:=hrel
   by_cases hil:i<L.length
   · obtain ⟨x,hx⟩:∃ x,L[i]? = some x:=⟨L[i],by simp [hil]⟩
     obtain ⟨b,o,u,rfl,d,hu⟩:=(uh HR).rnum hx
     obtain ⟨c0,c1,c2,c3⟩:=d.keep (uh HB)
     have HC:=qh (uh HP wr u x (uh HB) (hu.later (uh HB)))
     have hil':(i:Int)<(L.length:Int):=by omega
     have HS:=qh hx
     clear hx d hu
     go_wp2_with fail
     go_fit (uh HC)
     rintro e W1 ⟨rfl,hb⟩
     have HB':=qh (bk hb (uh HB))
     clear hb
     cases hq:p x
     · go_wp2
       go_roundg (L.length - (i+1))
       case measure=>omega
       case rel=>exact ⟨i+1,by omega,rfl,by go_num,HB',qh (by rw [tkn (uh HS)];simp only [List.any_append,List.any_cons,List.any_nil,hq];simpa using uh HN)⟩
     · go_wp2
       go_ret
       refine ⟨⟨_,rfl,?_⟩,uh HB'⟩
       rw [show L.any p=true from List.any_eq_true.2 ⟨x,List.mem_of_getElem? (uh HS),hq⟩]
       simp
   · obtain rfl:i=L.length:=by omega
     clear hil hi hgk
     go_wp2
     go_ret
     refine ⟨⟨_,rfl,?_⟩,uh HB⟩
     have:=uh HN
     rw [List.take_length] at this
     rw [this]
     rfl
set_option maxHeartbeats 4000000 in
set_option maxRecDepth 8000 in
theorem hasQ_any {K g:Nat}{D:Int}{lb:Array Value}{p:Int→Bool}{v:Value}{L:List Int} (w:World) (eg:∀ args w,(callFunc g args).run Tryz.prog w=.ok (.enter g args) w) (h:Rows 4 (RsE K D) w v L) (hp:PredQ K D g lb p w) :
   Calls Tryz.prog 74 #[v,.func (.func g) #[] lb] w fun e w'=>e=.returned (.bool (L.any p))∧Below w.heap.size w w':=by
 have HC:=qh (idxQ_any w eg h hp)
 obtain ⟨sa,sc,rfl⟩:=h.shape
 clear h hp
 go_enter Tryz.func74,Tryz.ntmps74
 go_wp2_with fail
 go_fit (uh HC)
 rintro e W1 ⟨⟨i,rfl,hi⟩,hb⟩
 have HI:=qh hi
 clear hi
 go_wp2
 go_ret
 exact ⟨by rw [uh HI];rfl,hb⟩
theorem rse_stays (K:Nat) (D:Int):Stays NoWord 39 (RsE K D):=RsE.stays K D _ nww
theorem Fill.r4 {N:Nat}{D:Int}{K:Value→Prop}{t:TypeId}{w:World}{g n i:Nat}{L:List Int}{s:Int} (h:Fill K 4 (RsE N D) t w g n L) (hx:L[i]? = some s):∃ y,R4 w g (i*4) y∧Rs N D w (vr y) s:=by
 obtain ⟨cs,_,hcs,h1⟩:=h.at hx
 obtain ⟨y,rfl,hy⟩:=h1.sh
 exact ⟨y,⟨by simpa using hcs 0 _ rfl,hcs 1 _ rfl,hcs 2 _ rfl,hcs 3 _ rfl⟩,hy⟩
structure PlnR (w:World) (pg:Nat) (nn:Bool) (fa:Option Addr) (fn fc:Nat) (pa:Option Addr) (pn pc:Nat) (sa:Option Addr) (sn sc:Nat) (x:F8 Int):Prop where
 c0:w.cell? ⟨pg,0,none⟩=some (.bool nn)
 c1:w.cell? ⟨pg,1,none⟩=some (.slice fa fn fc)
 c2:w.cell? ⟨pg,2,none⟩=some (.slice pa pn pc)
 c3:w.cell? ⟨pg,3,none⟩=some (.slice sa sn sc)
 c4:R4 w pg 4 x
theorem PlnR.keep {w w1:World}{pg:Nat}{nn:Bool}{fa:Option Addr}{fn fc:Nat}{pa:Option Addr}{pn pc:Nat}{sa:Option Addr}{sn sc:Nat}{x:F8 Int} (h:PlnR w pg nn fa fn fc pa pn pc sa sn sc x) (hb:Below w.heap.size w w1):PlnR w1 pg nn fa fn fc pa pn pc sa sn sc x:=⟨ck hb h.c0,ck hb h.c1,ck hb h.c2,ck hb h.c3,h.c4.keep hb⟩
end Go.Proofs.YtkdobjmhammhbaaGreatDoor
