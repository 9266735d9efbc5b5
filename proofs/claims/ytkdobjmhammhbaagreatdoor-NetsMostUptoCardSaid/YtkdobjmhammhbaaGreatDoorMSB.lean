import Derived.Test.YtkdobjmhammhbaaGreatDoorMSA
import Derived.Test.YtkdobjmhammhbaaGreatDoorMQA
namespace Go.Proofs.YtkdobjmhammhbaaGreatDoor
set_option maxHeartbeats 8000000
set_option maxRecDepth 8000
open Go.RowKit
def Cu (w:World) (cb:Nat) (s:ByteArray) (a:Nat):Prop:=w.heap[cb]? = some (.cells #[.string s,.int .i64 (a:Int)] 205 (0,0))
theorem Cu.c0 {w:World}{cb:Nat}{s:ByteArray}{a:Nat} (h:Cu w cb s a):w.cell? ⟨cb,0,none⟩=some (.string s):=by simp [World.cell?,show w.heap[cb]? = _ from h]
theorem Cu.c1 {w:World}{cb:Nat}{s:ByteArray}{a:Nat} (h:Cu w cb s a):w.cell? ⟨cb,1,none⟩=some (.int .i64 a):=by simp [World.cell?,show w.heap[cb]? = _ from h]
theorem Cu.frozen {w:World}{cb:Nat}{s:ByteArray}{a:Nat} (h:Cu w cb s a) (o:Nat):w.frozen? ⟨cb,o,none⟩=false:=by simp [World.frozen?,show w.heap[cb]? = _ from h]
theorem Cu.lt {w:World}{cb:Nat}{s:ByteArray}{a:Nat} (h:Cu w cb s a):cb<w.heap.size:=(Array.getElem?_eq_some_iff.1 h).1
theorem Cu.set {w:World}{cb:Nat}{s:ByteArray}{a:Nat} (h:Cu w cb s a) (b:Nat):Cu (w.setCell ⟨cb,1,none⟩ (.int .i64 b)) cb s b:=by
 simp only [Cu,World.setCell,Array.getElem?_modify]
 rw [if_pos trivial,show w.heap[cb]? = _ from h];simp
structure Only (cb:Nat) (w w':World):Prop where
 os:w'.os=w.os
 tape:w'.tape=w.tape
 output:w'.output=w.output
 size:w.heap.size<=w'.heap.size
 other:∀ k,k<w.heap.size->k≠cb->w'.heap[k]? = w.heap[k]?
theorem Only.refl (cb:Nat) (w:World):Only cb w w:=⟨rfl,rfl,rfl,Nat.le_refl _,fun _ _ _=>rfl⟩
theorem Only.trans {cb:Nat}{a b c:World} (h:Only cb a b) (k:Only cb b c):Only cb a c :=
 ⟨k.os.trans h.os,k.tape.trans h.tape,k.output.trans h.output,Nat.le_trans h.size k.size,fun i hi hg=>(k.other i (Nat.lt_of_lt_of_le hi h.size) hg).trans (h.other i hi hg)⟩
theorem Only.set {cb:Nat}{a b:World} (h:Only cb a b) (o:Nat) (v:Value):Only cb a (b.setCell ⟨cb,o,none⟩ v) :=
 h.trans ⟨rfl,rfl,rfl,by simp [World.setCell],fun k _ hk=>Below.heap_setCell b ⟨cb,o,none⟩ v k hk⟩
theorem Only.drewN {cb:Nat}{a b:World} (h:Only cb a b) (m:Nat):Only cb a (b.drewN m):=⟨h.os,h.tape,h.output,h.size,h.other⟩
theorem Only.drew {cb:Nat}{a b:World} (h:Only cb a b):Only cb a b.drew:=⟨h.os,h.tape,h.output,h.size,h.other⟩
theorem Only.alloc {cb:Nat}{a b:World} (h:Only cb a b) (o:Obj):Only cb a (b.alloc o) :=
 h.trans ⟨rfl,rfl,rfl,by simp,fun k hk _=>Below.heap_alloc b o k hk⟩
theorem Only.ofBelow {cb:Nat}{a b:World} (h:Below a.heap.size a b):Only cb a b:=⟨h.os,h.tape,h.output,h.size,fun k hk _=>h.block k hk⟩
theorem Only.cell {cb b o:Nat}{w w':World}{v:Value} (h:Only cb w w') (hc:w.cell? ⟨b,o,none⟩=some v) (hne:b≠cb):w'.cell? ⟨b,o,none⟩=some v:=by
 rw [World.cell?_of_block (w:=w) (w':=w') (a:=⟨b,o,none⟩) (h.other b (World.block_lt_of_cell? w _ hc) hne)];exact hc
theorem Only.below {cb B:Nat}{a b:World} (h:Only cb a b) (hB:B<=cb) (hs:B<=a.heap.size):Below B a b:=⟨h.os,h.tape,h.output,h.size,fun k hk=>h.other k (by omega) (by omega)⟩
theorem Cu.drew {w:World}{cb:Nat}{s:ByteArray}{a:Nat} (h:Cu w cb s a):Cu w.drew cb s a:=h
theorem Cu.drewN {w:World}{cb:Nat}{s:ByteArray}{a:Nat} (h:Cu w cb s a) (n:Nat):Cu (w.drewN n) cb s a:=h
theorem Cu.later {w w':World}{cb:Nat}{s:ByteArray}{a:Nat} (h:Cu w cb s a) (hb:Below w.heap.size w w'):Cu w' cb s a:=by
 show w'.heap[cb]? = _
 rw [hb.block cb h.lt];exact h
theorem take_any (cb:Nat) (s:ByteArray) (a b:Nat) (w:World) (hc:Cu w cb s a) (ha:a<=s.size) (hs:s.size<=9223372036854775807) :
 Calls Tryz.prog 126 #[.pointer (some ⟨cb,0,none⟩),.int .u8 b] w fun e w'=>((ByteAt s a b/\e=.returned (.bool true)/\Cu w' cb s (a+1))\/(¬ ByteAt s a b/\e=.returned (.bool false)/\Cu w' cb s a))/\Only cb w w':=by
 have e0:=hc.c0
 have e1:=hc.c1
 have ef:=hc.frozen
 have hlt:=hc.lt
 go_enter Tryz.func126,Tryz.ntmps126
 by_cases hz:a=s.size
 ·have hzi:(a:Int)=s.size:=by omega
  go_wp2_with fail
  go_quiet (fail)
  go_wp2
  go_ret
  exact ⟨Or.inr ⟨fun ⟨h,_⟩=>by omega,rfl,hc⟩,(Only.refl _ _).drewN _⟩
 ·have hzi:((a:Int) == s.size)=false:=by simp;omega
  have hal:a<s.size:=by omega
  have hali:(a:Int)<s.size:=by omega
  by_cases hb:(s[a]'hal).toNat=b
  ·have hbi:(((s[a]'hal).toNat:Int) != (b:Int))=false:=by simp;omega
   go_wp2_with fail
   go_quiet (fail)
   go_wp2
   go_ret
   exact ⟨Or.inl ⟨⟨hal,hb⟩,rfl,hc.set (a+1)⟩,((Only.refl _ _).drewN _).set _ _⟩
  ·have hbi:(((s[a]'hal).toNat:Int) != (b:Int))=true:=by simp;omega
   go_wp2_with fail
   go_quiet (fail)
   go_wp2
   go_ret
   exact ⟨Or.inr ⟨fun ⟨_,h⟩=>hb h,rfl,hc⟩,(Only.refl _ _).drewN _⟩
theorem wrong_any (cb:Nat) (s:ByteArray) (a:Nat) (t1:TypeId) (p1:Value) (w:World) (hc:Cu w cb s a) :
 Calls Tryz.prog 129 #[.pointer (some ⟨cb,0,none⟩),.iface t1 p1] w fun e w'=>(∃ pb,e=.returned (.iface 162 (.pointer (some ⟨pb,0,none⟩)))/\w.heap.size<=pb/\w'.cell? ⟨pb,0,none⟩=some (.int .i64 a)/\w'.cell? ⟨pb,1,none⟩=some (.iface t1 p1))/\Below w.heap.size w w':=by
 have e1:=hc.c1
 go_enter Tryz.func129,Tryz.ntmps129
 go_wp2
 go_ret
 exact ⟨⟨w.heap.size,rfl,Nat.le_refl _,by rw [zqe rfl];rfl,by rw [zqe rfl];rfl⟩,zqa w _⟩
def DigP (cb:Nat) (s:ByteArray) (a:Nat) (t1 t2:TypeId) (p1 p2:Value) (w:World) (e:Ending) (w':World):Prop :=
 (runEnd s a=a/\∃ pb,e=.returned (.tuple #[.string ⟨#[]⟩,.iface 162 (.pointer (some ⟨pb,0,none⟩))])/\w.heap.size<=pb/\w'.cell? ⟨pb,0,none⟩=some (.int .i64 a)/\w'.cell? ⟨pb,1,none⟩=some (.iface t1 p1)) \/
 (a+300<runEnd s a/\∃ pb,e=.returned (.tuple #[.string ⟨#[]⟩,.iface 162 (.pointer (some ⟨pb,0,none⟩))])/\w.heap.size<=pb/\w'.cell? ⟨pb,0,none⟩=some (.int .i64 (a+300:Nat))/\w'.cell? ⟨pb,1,none⟩=some (.iface t2 p2)) \/
 (a<runEnd s a/\runEnd s a<=a+300/\e=.returned (.tuple #[.string (s.extract a (runEnd s a)),.nilIface])/\Cu w' cb s (runEnd s a))
theorem cdigits_any (cb:Nat) (s:ByteArray) (a:Nat) (t1 t2:TypeId) (p1 p2:Value) (w:World) (hc:Cu w cb s a) (ha:a<=s.size) (hs:s.size<=9223372036854775807) (h1:w.cell? ⟨1,0,none⟩=some (.iface t1 p1)) (h2:w.cell? ⟨2,0,none⟩=some (.iface t2 p2)) (hg1:cb≠1) (hg2:cb≠2) :
 Calls Tryz.prog 127 #[.pointer (some ⟨cb,0,none⟩)] w fun e w'=>DigP cb s a t1 t2 p1 p2 w e w'/\Only cb w w':=by
 have e0:=hc.c0
 have e1:=hc.c1
 have hsub:(s.size:Int) - a=((s.size - a:Nat):Int):=by omega
 go_enter Tryz.func127,Tryz.ntmps127
 go_wp2_with fail
 go_loopg [16] (s.size - a) (fun g iv wr=>∃ i q:Nat,q<=s.size/\g=s.size - q/\iv=.int .i64 i/\i<=300/\Hid (q=a+i)/\Hid (∀ j,a<=j->j<q->DigAt s j)/\Cu wr cb s q/\Only cb w wr)
 case atStart=>exact ⟨0,a,ha,rfl,rfl,by omega,rfl,fun j h1 h2=>by omega,hc,Only.refl _ _⟩
 case round =>
  obtain ⟨i,q,hqs,hgk,rfl,hi3,HQ,HD,hcu,hon⟩:=hrel
  clear hc e0 e1
  have e0:=hcu.c0
  have e1:=hcu.c1
  have ef:=hcu.frozen
  have hlt:=hcu.lt
  have g1:=hon.cell h1 (Ne.symm hg1)
  have g2:=hon.cell h2 (Ne.symm hg2)
  by_cases hal:q<s.size
  ·have hii:(i:Int)<((s.size - a:Nat):Int):=by have:=uh HQ;omega
   have hali:(q:Int)<s.size:=by omega
   by_cases hd1:(s[q]'hal).toNat<48
   ·have hd1i:((s[q]'hal).toNat:Int)<48:=by omega
    have hnd:¬ DigAt s q:=fun ⟨_,h,_⟩=>by omega
    go_wp2_with fail
    go_quiet (fail)
    have HI:=qh hnd
    clear hnd
    by_cases hi0:i=0
    ·obtain rfl:q=a:=by have:=uh HQ;omega
     have hr:runEnd s q=q:=zxr (uh HI)
     have HR:=qh hr
     clear hr
     go_wp2_with fail
     go_fit (wrong_any cb s q t1 p1 _ (by exact hcu))
     rintro e W1 ⟨⟨pb,rfl,hpb,q0,q1⟩,hb1⟩
     have hO:Only cb w W1:=by first | exact hon.trans (Only.ofBelow hb1) | exact (hon.drewN _).trans (Only.ofBelow hb1)
     go_wp2
     go_ret2
     exact ⟨Or.inl ⟨uh HR,pb,rfl,by have:=hon.size;exact Nat.le_trans this (by exact hpb),q0,q1⟩,hO⟩
    ·have hr:runEnd s a=q:=runEnd_is (by have:=uh HQ;omega) (uh HD) (uh HI)
     have HR:=qh hr
     have hne:((q:Int) == (a:Int))=false:=by have:=uh HQ;simp;omega
     have hle1:(a:Int)<=(q:Int):=by have:=uh HQ;omega
     have hle2:(q:Int)<=s.size:=by omega
     have hle3:a<=q:=by omega
     clear hr
     go_wp2_with fail
     go_quiet (fail)
     go_wp2
     go_ret2
     exact ⟨Or.inr (Or.inr ⟨by have:=uh HR;have:=uh HQ;omega,by have:=uh HR;have:=uh HQ;omega,by rw [show runEnd s a=q from uh HR];rfl,by rw [show runEnd s a=q from uh HR];exact hcu⟩),by first | exact hon.drewN _ | exact (hon.drewN _).drewN _⟩
   ·by_cases hd2:57<(s[q]'hal).toNat
    ·have hd1i:¬ ((s[q]'hal).toNat:Int)<48:=by omega
     have hd2i:(57:Int)<((s[q]'hal).toNat:Int):=by omega
     have hnd:¬ DigAt s q:=fun ⟨_,_,h⟩=>by omega
     go_wp2_with fail
     go_quiet (fail)
     have HI:=qh hnd
     clear hnd
     by_cases hi0:i=0
     ·obtain rfl:q=a:=by have:=uh HQ;omega
      have hr:runEnd s q=q:=zxr (uh HI)
      have HR:=qh hr
      clear hr
      go_wp2_with fail
      go_fit (wrong_any cb s q t1 p1 _ (by exact hcu))
      rintro e W1 ⟨⟨pb,rfl,hpb,q0,q1⟩,hb1⟩
      have hO:Only cb w W1:=by first | exact hon.trans (Only.ofBelow hb1) | exact (hon.drewN _).trans (Only.ofBelow hb1)
      go_wp2
      go_ret2
      exact ⟨Or.inl ⟨uh HR,pb,rfl,by have:=hon.size;exact Nat.le_trans this (by exact hpb),q0,q1⟩,hO⟩
     ·have hr:runEnd s a=q:=runEnd_is (by have:=uh HQ;omega) (uh HD) (uh HI)
      have HR:=qh hr
      have hne:((q:Int) == (a:Int))=false:=by have:=uh HQ;simp;omega
      have hle1:(a:Int)<=(q:Int):=by have:=uh HQ;omega
      have hle2:(q:Int)<=s.size:=by omega
      have hle3:a<=q:=by omega
      clear hr
      go_wp2_with fail
      go_quiet (fail)
      go_wp2
      go_ret2
      exact ⟨Or.inr (Or.inr ⟨by have:=uh HR;have:=uh HQ;omega,by have:=uh HR;have:=uh HQ;omega,by rw [show runEnd s a=q from uh HR];rfl,by rw [show runEnd s a=q from uh HR];exact hcu⟩),by first | exact hon.drewN _ | exact (hon.drewN _).drewN _⟩
    ·have hd1i:¬ ((s[q]'hal).toNat:Int)<48:=by omega
     have hd2i:¬ (57:Int)<((s[q]'hal).toNat:Int):=by omega
     have hdg:DigAt s q:=⟨hal,by omega,by omega⟩
     have hsi:(q:Int) - a=i:=by have:=uh HQ;omega
     have HDG:=qh hdg
     clear hdg
     by_cases h300:i=300
     ·subst h300
      have hr:a+300<runEnd s a:=by have:=uh HQ;rw [<- this];exact runEnd_over (by omega) (uh HD) (uh HDG)
      have HR:=qh hr
      clear hr
      go_wp2_with fail
      go_quiet (fail)
      go_wp2_with fail
      go_fit (wrong_any cb s q t2 p2 _ (by exact hcu))
      rintro e W1 ⟨⟨pb,rfl,hpb,q0,q1⟩,hb1⟩
      have hO:Only cb w W1:=by first | exact hon.trans (Only.ofBelow hb1) | exact (hon.drewN _).trans (Only.ofBelow hb1)
      go_wp2
      go_ret2
      exact ⟨Or.inr (Or.inl ⟨uh HR,pb,rfl,by have:=hon.size;exact Nat.le_trans this (by exact hpb),by rw [q0,show q=a+300 from uh HQ],q1⟩),hO⟩
     ·have h3i:((i:Int) == 300)=false:=by simp;omega
      go_wp2_with fail
      go_quiet (fail)
      go_wp2
      go_roundg (s.size - (q+1))
      case measure=>omega
      case rel=>exact ⟨i+1,q+1,by omega,rfl,by go_num,by omega,(by have:=uh HQ;show _=_;omega),(fun j h1 h2=>by
       by_cases e:j=q
       ·rw [e];exact uh HDG
       ·exact uh HD j h1 (by omega)),hcu.set (q+1),(hon.drewN _).set _ _⟩
  ·have hii:¬ (i:Int)<((s.size - a:Nat):Int):=by have:=uh HQ;omega
   have hnd:¬ DigAt s q:=fun ⟨h,_⟩=>by omega
   have HI:=qh hnd
   clear hnd
   by_cases hi0:i=0
   ·obtain rfl:q=a:=by have:=uh HQ;omega
    have hr:runEnd s q=q:=zxr (uh HI)
    have HR:=qh hr
    clear hr
    go_wp2_with fail
    go_fit (wrong_any cb s q t1 p1 _ (by exact hcu))
    rintro e W1 ⟨⟨pb,rfl,hpb,q0,q1⟩,hb1⟩
    have hO:Only cb w W1:=by first | exact hon.trans (Only.ofBelow hb1) | exact (hon.drewN _).trans (Only.ofBelow hb1)
    go_wp2
    go_ret2
    exact ⟨Or.inl ⟨uh HR,pb,rfl,by have:=hon.size;exact Nat.le_trans this (by exact hpb),q0,q1⟩,hO⟩
   ·have hr:runEnd s a=q:=runEnd_is (by have:=uh HQ;omega) (uh HD) (uh HI)
    have HR:=qh hr
    have hne:((q:Int) == (a:Int))=false:=by have:=uh HQ;simp;omega
    have hle1:(a:Int)<=(q:Int):=by have:=uh HQ;omega
    have hle2:(q:Int)<=s.size:=by omega
    have hle3:a<=q:=by omega
    clear hr
    go_wp2_with fail
    go_quiet (fail)
    go_wp2
    go_ret2
    exact ⟨Or.inr (Or.inr ⟨by have:=uh HR;have:=uh HQ;omega,by have:=uh HR;have:=uh HQ;omega,by rw [show runEnd s a=q from uh HR];rfl,by rw [show runEnd s a=q from uh HR];exact hcu⟩),by first | exact hon.drewN _ | exact (hon.drewN _).drewN _⟩
def Fg (w:World) (fb:Nat) (mi me:Bool) (l u b x:ByteArray) (us es:Nat):Prop:=w.heap[fb]? = some (.cells #[.bool mi,.bool me,.string l,.string u,.string b,.string x,.int .i64 (us:Int),.int .i64 (es:Int)] 137 (0,0))
theorem Fg.c0 {w:World}{fb:Nat}{mi me:Bool}{l u b x:ByteArray}{us es:Nat} (h:Fg w fb mi me l u b x us es):w.cell? ⟨fb,0,none⟩=some (.bool mi):=by simp [World.cell?,show w.heap[fb]? = _ from h]
theorem Fg.c1 {w:World}{fb:Nat}{mi me:Bool}{l u b x:ByteArray}{us es:Nat} (h:Fg w fb mi me l u b x us es):w.cell? ⟨fb,1,none⟩=some (.bool me):=by simp [World.cell?,show w.heap[fb]? = _ from h]
theorem Fg.c2 {w:World}{fb:Nat}{mi me:Bool}{l u b x:ByteArray}{us es:Nat} (h:Fg w fb mi me l u b x us es):w.cell? ⟨fb,2,none⟩=some (.string l):=by simp [World.cell?,show w.heap[fb]? = _ from h]
theorem Fg.c3 {w:World}{fb:Nat}{mi me:Bool}{l u b x:ByteArray}{us es:Nat} (h:Fg w fb mi me l u b x us es):w.cell? ⟨fb,3,none⟩=some (.string u):=by simp [World.cell?,show w.heap[fb]? = _ from h]
theorem Fg.c4 {w:World}{fb:Nat}{mi me:Bool}{l u b x:ByteArray}{us es:Nat} (h:Fg w fb mi me l u b x us es):w.cell? ⟨fb,4,none⟩=some (.string b):=by simp [World.cell?,show w.heap[fb]? = _ from h]
theorem Fg.c5 {w:World}{fb:Nat}{mi me:Bool}{l u b x:ByteArray}{us es:Nat} (h:Fg w fb mi me l u b x us es):w.cell? ⟨fb,5,none⟩=some (.string x):=by simp [World.cell?,show w.heap[fb]? = _ from h]
theorem Fg.c6 {w:World}{fb:Nat}{mi me:Bool}{l u b x:ByteArray}{us es:Nat} (h:Fg w fb mi me l u b x us es):w.cell? ⟨fb,6,none⟩=some (.int .i64 us):=by simp [World.cell?,show w.heap[fb]? = _ from h]
theorem Fg.c7 {w:World}{fb:Nat}{mi me:Bool}{l u b x:ByteArray}{us es:Nat} (h:Fg w fb mi me l u b x us es):w.cell? ⟨fb,7,none⟩=some (.int .i64 es):=by simp [World.cell?,show w.heap[fb]? = _ from h]
theorem Fg.frozen {w:World}{fb:Nat}{mi me:Bool}{l u b x:ByteArray}{us es:Nat} (h:Fg w fb mi me l u b x us es) (o:Nat):w.frozen? ⟨fb,o,none⟩=false:=by simp [World.frozen?,show w.heap[fb]? = _ from h]
theorem Fg.lt {w:World}{fb:Nat}{mi me:Bool}{l u b x:ByteArray}{us es:Nat} (h:Fg w fb mi me l u b x us es):fb<w.heap.size:=(Array.getElem?_eq_some_iff.1 h).1
theorem Fg.set0 {w:World}{fb:Nat}{mi me:Bool}{l u b x:ByteArray}{us es:Nat} (h:Fg w fb mi me l u b x us es) (mi':Bool):Fg (w.setCell ⟨fb,0,none⟩ (.bool mi')) fb mi' me l u b x us es:=by
 simp only [Fg,World.setCell,Array.getElem?_modify]
 rw [if_pos trivial,show w.heap[fb]? = _ from h];simp
theorem Fg.set1 {w:World}{fb:Nat}{mi me:Bool}{l u b x:ByteArray}{us es:Nat} (h:Fg w fb mi me l u b x us es) (me':Bool):Fg (w.setCell ⟨fb,1,none⟩ (.bool me')) fb mi me' l u b x us es:=by
 simp only [Fg,World.setCell,Array.getElem?_modify]
 rw [if_pos trivial,show w.heap[fb]? = _ from h];simp
theorem Fg.set2 {w:World}{fb:Nat}{mi me:Bool}{l u b x:ByteArray}{us es:Nat} (h:Fg w fb mi me l u b x us es) (l':ByteArray):Fg (w.setCell ⟨fb,2,none⟩ (.string l')) fb mi me l' u b x us es:=by
 simp only [Fg,World.setCell,Array.getElem?_modify]
 rw [if_pos trivial,show w.heap[fb]? = _ from h];simp
theorem Fg.set3 {w:World}{fb:Nat}{mi me:Bool}{l u b x:ByteArray}{us es:Nat} (h:Fg w fb mi me l u b x us es) (u':ByteArray):Fg (w.setCell ⟨fb,3,none⟩ (.string u')) fb mi me l u' b x us es:=by
 simp only [Fg,World.setCell,Array.getElem?_modify]
 rw [if_pos trivial,show w.heap[fb]? = _ from h];simp
theorem Fg.set4 {w:World}{fb:Nat}{mi me:Bool}{l u b x:ByteArray}{us es:Nat} (h:Fg w fb mi me l u b x us es) (b':ByteArray):Fg (w.setCell ⟨fb,4,none⟩ (.string b')) fb mi me l u b' x us es:=by
 simp only [Fg,World.setCell,Array.getElem?_modify]
 rw [if_pos trivial,show w.heap[fb]? = _ from h];simp
theorem Fg.set5 {w:World}{fb:Nat}{mi me:Bool}{l u b x:ByteArray}{us es:Nat} (h:Fg w fb mi me l u b x us es) (x':ByteArray):Fg (w.setCell ⟨fb,5,none⟩ (.string x')) fb mi me l u b x' us es:=by
 simp only [Fg,World.setCell,Array.getElem?_modify]
 rw [if_pos trivial,show w.heap[fb]? = _ from h];simp
theorem Fg.set6 {w:World}{fb:Nat}{mi me:Bool}{l u b x:ByteArray}{us es:Nat} (h:Fg w fb mi me l u b x us es) (us':Nat):Fg (w.setCell ⟨fb,6,none⟩ (.int .i64 us')) fb mi me l u b x us' es:=by
 simp only [Fg,World.setCell,Array.getElem?_modify]
 rw [if_pos trivial,show w.heap[fb]? = _ from h];simp
theorem Fg.set7 {w:World}{fb:Nat}{mi me:Bool}{l u b x:ByteArray}{us es:Nat} (h:Fg w fb mi me l u b x us es) (es':Nat):Fg (w.setCell ⟨fb,7,none⟩ (.int .i64 es')) fb mi me l u b x us es':=by
 simp only [Fg,World.setCell,Array.getElem?_modify]
 rw [if_pos trivial,show w.heap[fb]? = _ from h];simp
theorem Fg.only {w:World}{fb:Nat}{mi me:Bool}{l u b x:ByteArray}{us es:Nat} (h:Fg w fb mi me l u b x us es) {cb:Nat}{w':World} (ho:Only cb w w') (hne:cb≠fb):Fg w' fb mi me l u b x us es:=by
 show w'.heap[fb]? = _
 rw [ho.other fb h.lt (Ne.symm hne)];exact h
theorem Fg.later {w:World}{fb:Nat}{mi me:Bool}{l u b x:ByteArray}{us es:Nat} (h:Fg w fb mi me l u b x us es) {w':World} (hb:Below w.heap.size w w'):Fg w' fb mi me l u b x us es:=by
 show w'.heap[fb]? = _
 rw [hb.block fb h.lt];exact h
theorem Cu.other {w:World}{cb:Nat}{s:ByteArray}{a:Nat} (h:Cu w cb s a) {q:Nat} (hne:cb≠q) (o:Nat) (v:Value):Cu (w.setCell ⟨q,o,none⟩ v) cb s a:=by
 show (w.setCell ⟨q,o,none⟩ v).heap[cb]? = _
 rw [Below.heap_setCell _ _ _ _ hne];exact h
structure Only2 (cb fb:Nat) (w w':World):Prop where
 os:w'.os=w.os
 tape:w'.tape=w.tape
 output:w'.output=w.output
 size:w.heap.size<=w'.heap.size
 other:∀ k,k<w.heap.size->k≠cb->k≠fb->w'.heap[k]? = w.heap[k]?
theorem Only2.refl (cb fb:Nat) (w:World):Only2 cb fb w w:=⟨rfl,rfl,rfl,Nat.le_refl _,fun _ _ _ _=>rfl⟩
theorem Only2.only {cb fb:Nat}{a b c:World} (h:Only2 cb fb a b) (k:Only cb b c):Only2 cb fb a c :=
 ⟨k.os.trans h.os,k.tape.trans h.tape,k.output.trans h.output,Nat.le_trans h.size k.size,fun i hi hg hf=>(k.other i (Nat.lt_of_lt_of_le hi h.size) hg).trans (h.other i hi hg hf)⟩
theorem Only2.set {cb fb:Nat}{a b:World} (h:Only2 cb fb a b) (o:Nat) (v:Value):Only2 cb fb a (b.setCell ⟨fb,o,none⟩ v) :=
 ⟨h.os,h.tape,h.output,by simpa [World.setCell] using h.size,fun k hk hg hf=>(Below.heap_setCell b ⟨fb,o,none⟩ v k hf).trans (h.other k hk hg hf)⟩
theorem Only2.drewN {cb fb:Nat}{a b:World} (h:Only2 cb fb a b) (m:Nat):Only2 cb fb a (b.drewN m):=⟨h.os,h.tape,h.output,h.size,h.other⟩
theorem Only2.later {cb fb:Nat}{a b c:World} (h:Only2 cb fb a b) (k:Below b.heap.size b c):Only2 cb fb a c:=h.only (Only.ofBelow k)
theorem Only2.cell {cb fb b o:Nat}{w w':World}{v:Value} (h:Only2 cb fb w w') (hc:w.cell? ⟨b,o,none⟩=some v) (hne:b≠cb) (hnf:b≠fb):w'.cell? ⟨b,o,none⟩=some v:=by
 rw [World.cell?_of_block (w:=w) (w':=w') (a:=⟨b,o,none⟩) (h.other b (World.block_lt_of_cell? w _ hc) hne hnf)];exact hc
theorem Only2.below {cb fb B:Nat}{a b:World} (h:Only2 cb fb a b) (hB:B<=cb) (hF:B<=fb) (hs:B<=a.heap.size):Below B a b:=⟨h.os,h.tape,h.output,h.size,fun k hk=>h.other k (by omega) (by omega) (by omega)⟩
theorem take_b (cb:Nat) (s:ByteArray) (a b:Nat) (w:World) (hc:Cu w cb s a) (ha:a<=s.size) (hs:s.size<=9223372036854775807) :
 Calls Tryz.prog 126 #[.pointer (some ⟨cb,0,none⟩),.int .u8 b] w fun e w'=>(∃ t:Bool,e=.returned (.bool t)/\Hid ((t=true/\ByteAt s a b/\Cu w' cb s (a+1))\/(t=false/\¬ ByteAt s a b/\Cu w' cb s a)))/\Only cb w w':=by
 refine (take_any cb s a b w hc ha hs).mono ?_
 rintro e w' ⟨⟨h1,rfl,h2⟩ | ⟨h1,rfl,h2⟩,ho⟩
 ·exact ⟨⟨true,rfl,Or.inl ⟨rfl,h1,h2⟩⟩,ho⟩
 ·exact ⟨⟨false,rfl,Or.inr ⟨rfl,h1,h2⟩⟩,ho⟩
structure DK (cb fb:Nat) (s:ByteArray) (mi:Bool) (a m:Nat) (w:World) (k:Nat) (b:ByteArray) (wx:World):Prop where
 le:k<=s.size
 figs:Figs b
 cu:Cu wx cb s k
 fg:Fg wx fb mi false (s.extract a m) noB b noB 0 0
 only:Only2 cb fb w wx
 said:∃ num places,saidDec s mi a m=saidExp s num places k/\num=signed mi (figNum (s.extract a m) b)/\figDen noB b=10 ^ places
structure EK (cb fb:Nat) (s:ByteArray) (mi:Bool) (a m:Nat) (w:World) (k:Nat) (b:ByteArray) (me:Bool) (E:Nat) (wx:World):Prop where
 le:E<=s.size
 exp:expAt s k=E/\bAt s (k+1) 45=me
 cu:Cu wx cb s E
 fg:Fg wx fb mi me (s.extract a m) noB b noB 0 0
 only:Only2 cb fb w wx
def DecP (cb fb:Nat) (s:ByteArray) (mi:Bool) (a m:Nat) (A:Nat->Addr) (w:World) (e:Ending) (w':World):Prop :=
 ∃ me b x es,Fg w' fb mi me (s.extract a m) noB b x 0 es /\
  ((∃ c k pb,saidDec s mi a m=.inl (c+1,k)/\c<2/\e=.returned (.iface 162 (.pointer (some ⟨pb,0,none⟩)))/\w.heap.size<=pb/\w'.cell? ⟨pb,0,none⟩=some (.int .i64 (k:Nat))/\w'.cell? ⟨pb,1,none⟩=some (.iface 324 (.pointer (some (A c))))) \/
   (∃ j,saidDec s mi a m=saidEnd s j (figSaid mi me (s.extract a m) noB b x 0 es)/\e=.returned .nilIface/\Cu w' cb s j/\j<=s.size/\Figs b/\Figs x))
theorem zxa {w:World}{pb fb o p:Nat}{v u:Value} (h:w.cell? ⟨pb,o,none⟩=some v) (hne:fb<pb):(w.setCell ⟨fb,p,none⟩ u).cell? ⟨pb,o,none⟩=some v:=by
 rw [zqb _ _ _ _ _ _ (by omega)];exact h
theorem decimals_any (cb fb:Nat) (s:ByteArray) (mi:Bool) (a m:Nat) (A:Nat->Addr) (w:World) (hc:Cu w cb s m) (hf:Fg w fb mi false (s.extract a m) noB noB noB 0 0) (hne:cb≠fb) (hm:m<=s.size) (hs:s.size<=9223372036854775807)
 (h1:w.cell? ⟨1,0,none⟩=some (.iface 324 (.pointer (some (A 0))))) (h2:w.cell? ⟨2,0,none⟩=some (.iface 324 (.pointer (some (A 1))))) (hg1:cb≠1) (hg2:cb≠2) (hf1:fb≠1) (hf2:fb≠2) :
 Calls Tryz.prog 128 #[.pointer (some ⟨fb,0,none⟩),.pointer (some ⟨cb,0,none⟩)] w fun e w'=>DecP cb fb s mi a m A w e w'/\Only2 cb fb w w':=by
 have H1:=qh h1
 have H2:=qh h2
 clear h1 h2
 go_enter Tryz.func128,Tryz.ntmps128
 go_wp2_with fail
 go_fit (take_b cb s m 46 _ hc hm hs)
 rintro e W1 ⟨⟨t,rfl,HT⟩,hO1⟩
 have hf1':=hf.only hO1 hne
 have hO:=(Only2.refl cb fb w).only hO1
 clear hc hf hO1
 go_upto_if 6 with fail
 go_cut [] (fun wx=>∃ k b,DK cb fb s mi a m w k b wx)
 case first =>
  rcases uh HT with ⟨rfl,hb,hc1⟩ | ⟨rfl,hb,hc1⟩
  ·have hb1:=hb.1
   have HB:=qh hb
   clear hb
   go_wp2_with fail
   go_fit (cdigits_any cb s (m+1) _ _ _ _ _ hc1 (by omega) hs (hO.cell (uh H1) (Ne.symm hg1) (Ne.symm hf1)) (hO.cell (uh H2) (Ne.symm hg2) (Ne.symm hf2)) hg1 hg2)
   rintro e W2 ⟨hd,hO2⟩
   have hf2':=hf1'.only hO2 hne
   have hOO:=hO.only hO2
   have ef:=hf2'.frozen
   have e4:=hf2'.c4
   have hlt:=hf2'.lt
   have lf1:=hf1'.lt
   have lw1:=hO.size
   rcases hd with ⟨hr,pb,rfl,hpb,q0,q1⟩ | ⟨hr,pb,rfl,hpb,q0,q1⟩ | ⟨r0,r1,rfl,hc2⟩
   ·have HSD:=qh (dec_point_none (neg:=mi) (a:=a) (uh HB) hr)
    clear hr
    go_wp2
    go_ret
    exact ⟨⟨false,noB,noB,0,hf2'.set4 noB,Or.inl ⟨0,m+1,pb,uh HSD,by decide,rfl,by omega,zxa q0 (by omega),zxa q1 (by omega)⟩⟩,hOO.set _ _⟩
   ·have HSD:=qh (dec_point_many (neg:=mi) (a:=a) (uh HB) hr)
    clear hr
    go_wp2
    go_ret
    exact ⟨⟨false,noB,noB,0,hf2'.set4 noB,Or.inl ⟨1,m+1+300,pb,uh HSD,by decide,rfl,by omega,zxa q0 (by omega),zxa q1 (by omega)⟩⟩,hOO.set _ _⟩
   ·have hnl:=zxt s _ (m+1) rfl (by omega)
    obtain ⟨n,HN⟩:∃ n,Hid (runEnd s (m+1)=n):=⟨_,rfl⟩
    rw [show runEnd s (m+1)=n from uh HN] at r0 r1 hc2 hnl ⊢
    have HSD:=qh (dec_point (neg:=mi) (a:=a) (uh HB) (uh HN) r0 r1)
    have hfg:=Figs.run (by omega) r1 (uh HN)
    have HFG:=qh hfg
    clear hfg
    go_wp2
    go_meet
    exact ⟨n,s.extract (m+1) n,hnl,uh HFG,hc2.other hne _ _,hf2'.set4 _,hOO.set _ _,_,_,uh HSD,by rw [num_some r0 hnl],den_some r0 hnl⟩
  ·have HB:=qh hb
   clear hb
   go_wp2
   go_meet
   exact ⟨m,noB,hm,Figs.none,hc1,hf1',hO,_,_,dec_plain (uh HB),by rw [num_none],den_none⟩
 case rest =>
  obtain ⟨k,b,hK⟩:=hcut
  obtain ⟨X,rfl⟩:∃ X,X=wc:=⟨_,rfl⟩
  clear HT hO hf1'
  have hkl:=hK.le
  go_wp2_with fail
  go_fit (take_b cb s k 101 _ hK.cu hkl hs)
  rintro e W3 ⟨⟨t3,rfl,HT3⟩,hO3⟩
  have hf3:=hK.fg.only hO3 hne
  have hOO:=hK.only.only hO3
  rcases uh HT3 with ⟨rfl,hb,hc3⟩ | ⟨rfl,hb,hc3⟩
  ·have hb1:=hb.1
   have HB:=qh hb
   clear hb hO3
   go_wp2_with fail
   go_fit (take_b cb s (k+1) 43 _ hc3 (by omega) hs)
   rintro e W4 ⟨⟨t4,rfl,HT4⟩,hO4⟩
   have hf4:=hf3.only hO4 hne
   have hO5:=hOO.only hO4
   clear hO4 hf3 hOO hc3
   go_upto_if 23 with fail
   go_cut [] (fun wx=>∃ me E,EK cb fb s mi a m w k b me E wx)
   case first =>
    rcases uh HT4 with ⟨rfl,hb,hc4⟩ | ⟨rfl,hb,hc4⟩
    ·have hb2:=hb.1
     have HB2:=qh hb
     clear hb
     go_wp2
     go_meet
     exact ⟨false,k+2,by omega,expAt_plus (uh HB2),hc4,hf4,hO5⟩
    ·have HB2:=qh hb
     clear hb
     go_wp2_with fail
     go_fit (take_b cb s (k+1) 45 _ hc4 (by omega) hs)
     rintro e W5 ⟨⟨t5,rfl,HT5⟩,hO6⟩
     have hf5:=hf4.only hO6 hne
     have hO7:=hO5.only hO6
     clear hO6
     have e1:=hf5.c1
     have ef:=hf5.frozen
     have hlt:=hf5.lt
     rcases uh HT5 with ⟨rfl,hb,hc5⟩ | ⟨rfl,hb,hc5⟩
     ·have hb2:=hb.1
      have HB3:=qh hb
      clear hb
      go_wp2
      go_meet
      exact ⟨true,k+2,by omega,expAt_minus (uh HB3),hc5.other hne _ _,hf5.set1 true,hO7.set _ _⟩
     ·have HB3:=qh hb
      clear hb
      go_wp2
      go_meet
      exact ⟨false,k+1,by omega,expAt_none (uh HB2) (uh HB3),hc5.other hne _ _,hf5.set1 false,hO7.set _ _⟩
   case rest =>
    obtain ⟨me,E,hE⟩:=hcut
    obtain ⟨Y,rfl⟩:∃ Y,Y=wc:=⟨_,rfl⟩
    clear HT4 hf4 hO5
    have hEl:=hE.le
    have c1:=hE.cu.c1
    have e7:=hE.fg.c7
    have ef:=hE.fg.frozen
    have hlt:=hE.fg.lt
    have hc6:=hE.cu.other (q:=fb) hne 7 (.int .i64 E)
    have hf6:=hE.fg.set7 E
    have hO6:=hE.only.set 7 (.int .i64 E)
    go_wp2_with fail
    go_fit (cdigits_any cb s E _ _ _ _ _ hc6 hEl hs (hO6.cell (uh H1) (Ne.symm hg1) (Ne.symm hf1)) (hO6.cell (uh H2) (Ne.symm hg2) (Ne.symm hf2)) hg1 hg2)
    rintro e W7 ⟨hd,hO7⟩
    clear c1 e7 ef hlt
    have hf7:=hf6.only hO7 hne
    have hO8:=hO6.only hO7
    have ef:=hf7.frozen
    have e5:=hf7.c5
    have hlt:=hf7.lt
    have lf1:=hf6.lt
    have lw1:=hO6.size
    rcases hd with ⟨hr,pb,rfl,hpb,q0,q1⟩ | ⟨hr,pb,rfl,hpb,q0,q1⟩ | ⟨r0,r1,rfl,hc2⟩
    ·have HSD:Hid (saidDec s mi a m=.inl (0+1,E)):=by
      obtain ⟨num,places,h1,_⟩:=hK.said
      exact h1.trans (said_exp_none (uh HB) hE.exp.1 hr)
     clear hr
     go_wp2
     go_ret
     exact ⟨⟨me,b,noB,E,hf7.set5 noB,Or.inl ⟨0,E,pb,uh HSD,by decide,rfl,by omega,zxa q0 (by omega),zxa q1 (by omega)⟩⟩,hO8.set _ _⟩
    ·have HSD:Hid (saidDec s mi a m=.inl (1+1,E+300)):=by
      obtain ⟨num,places,h1,_⟩:=hK.said
      exact h1.trans (said_exp_many (uh HB) hE.exp.1 hr)
     clear hr
     go_wp2
     go_ret
     exact ⟨⟨me,b,noB,E,hf7.set5 noB,Or.inl ⟨1,E+300,pb,uh HSD,by decide,rfl,by omega,zxa q0 (by omega),zxa q1 (by omega)⟩⟩,hO8.set _ _⟩
    ·have hnl:=zxt s _ E rfl (by omega)
     obtain ⟨n,HN⟩:∃ n,Hid (runEnd s E=n):=⟨_,rfl⟩
     rw [show runEnd s E=n from uh HN] at r0 r1 hc2 hnl ⊢
     have HFG:=qh (Figs.run (by omega) r1 (uh HN))
     have HSD:Hid (saidDec s mi a m=saidEnd s n (figSaid mi me (s.extract a m) noB b (s.extract E n) 0 E)):=by
      obtain ⟨num,places,h1,h2,h3⟩:=hK.said
      have h4:=said_exp (us:=0) (uh HB) hE.exp.1 (uh HN) r0 r1 h2 h3
      rw [hE.exp.2] at h4
      exact h1.trans h4
     go_wp2
     go_ret
     exact ⟨⟨me,b,s.extract E n,E,hf7.set5 _,Or.inr ⟨n,uh HSD,rfl,hc2.other hne _ _,hnl,hK.figs,uh HFG⟩⟩,hO8.set _ _⟩
  ·have HSD:Hid (saidDec s mi a m=saidEnd s k (figSaid mi false (s.extract a m) noB b noB 0 0)):=by
    obtain ⟨num,places,h1,h2,h3⟩:=hK.said
    exact h1.trans (said_noexp hb h2 h3)
   clear hb
   go_wp2
   go_ret
   exact ⟨⟨false,b,noB,0,hf3,Or.inr ⟨k,uh HSD,rfl,hc3,hkl,hK.figs,Figs.none⟩⟩,hOO⟩
def figs (mi me:Bool) (l u b x:ByteArray) (us es:Nat):Value:=.agg #[.bool mi,.bool me,.string l,.string u,.string b,.string x,.int .i64 (us:Int),.int .i64 (es:Int)]
def SplP (s:ByteArray) (A:Nat->Addr) (e:Ending) (w':World):Prop :=
 ∃ mi me l u b x us es,
  ((∃ c k pb,said s=.inl (c+1,k)/\c<2/\e=.returned (.tuple #[figs mi me l u b x us es,.iface 162 (.pointer (some ⟨pb,0,none⟩))])/\w'.cell? ⟨pb,0,none⟩=some (.int .i64 (k:Nat))/\w'.cell? ⟨pb,1,none⟩=some (.iface 324 (.pointer (some (A c))))) \/
   (e=.returned (.tuple #[figs mi me l u b x us es,.nilIface])/\said s=figSaid mi me l u b x us es/\Figs l/\Figs u/\Figs b/\Figs x))
def SpK (cb fb:Nat) (s:ByteArray) (A:Nat->Addr) (W0:World) (ev:Value) (wx:World):Prop :=
 ∃ mi me l u b x us es,Fg wx fb mi me l u b x us es/\Only2 cb fb W0 wx /\
  ((∃ c k pb,ev=.iface 162 (.pointer (some ⟨pb,0,none⟩))/\Hid (said s=.inl (c+1,k))/\c<2/\fb<pb/\wx.cell? ⟨pb,0,none⟩=some (.int .i64 (k:Nat))/\wx.cell? ⟨pb,1,none⟩=some (.iface 324 (.pointer (some (A c))))) \/
   (∃ j,ev=.nilIface/\Cu wx cb s j/\j<=s.size/\Hid (said s=saidEnd s j (figSaid mi me l u b x us es))/\Figs l/\Figs u/\Figs b/\Figs x))
theorem said_none' {s:ByteArray}{a:Nat} (ha:atOf s=a) (hr:runEnd s a=a):said s=.inl (0+1,a):=by unfold said;rw [ha,zxz hr]
theorem said_many' {s:ByteArray}{a:Nat} (ha:atOf s=a) (hr:a+300<runEnd s a):said s=.inl (1+1,a+300):=by unfold said;rw [ha,zka hr]
theorem Fg.all {w:World}{fb:Nat}{mi me:Bool}{l u b x:ByteArray}{us es:Nat} (h:Fg w fb mi me l u b x us es) (mi' me':Bool) (l' u' b' x':ByteArray) (us' es':Nat) :
 Fg ((((((((w.setCell ⟨fb,0,none⟩ (.bool mi')).setCell ⟨fb,1,none⟩ (.bool me')).setCell ⟨fb,2,none⟩ (.string l')).setCell ⟨fb,3,none⟩ (.string u')).setCell ⟨fb,4,none⟩ (.string b')).setCell ⟨fb,5,none⟩ (.string x')).setCell ⟨fb,6,none⟩ (.int .i64 us')).setCell ⟨fb,7,none⟩ (.int .i64 es')) fb mi' me' l' u' b' x' us' es' :=
 (((((((h.set0 mi').set1 me').set2 l').set3 u').set4 b').set5 x').set6 us').set7 es'
theorem Fg.zero {w:World}{fb:Nat}{mi me:Bool}{l u b x:ByteArray}{us es:Nat} (h:Fg w fb mi me l u b x us es) :
 let W':=((((((((w.setCell ⟨fb,0,none⟩ (.bool false)).setCell ⟨fb,1,none⟩ (.bool false)).setCell ⟨fb,2,none⟩ (.string ⟨#[]⟩)).setCell ⟨fb,3,none⟩ (.string ⟨#[]⟩)).setCell ⟨fb,4,none⟩ (.string ⟨#[]⟩)).setCell ⟨fb,5,none⟩ (.string ⟨#[]⟩)).setCell ⟨fb,6,none⟩ (.int .i64 0)).setCell ⟨fb,7,none⟩ (.int .i64 0))
 W'.cell? ⟨fb,0,none⟩=some (.bool false)/\W'.cell? ⟨fb,1,none⟩=some (.bool false)/\W'.cell? ⟨fb,2,none⟩=some (.string ⟨#[]⟩)/\W'.cell? ⟨fb,3,none⟩=some (.string ⟨#[]⟩)/\W'.cell? ⟨fb,4,none⟩=some (.string ⟨#[]⟩)/\W'.cell? ⟨fb,5,none⟩=some (.string ⟨#[]⟩)/\W'.cell? ⟨fb,6,none⟩=some (.int .i64 0)/\W'.cell? ⟨fb,7,none⟩=some (.int .i64 0):=by
 intro W'
 have h':Fg W' fb false false noB noB noB noB 0 0:=h.all false false noB noB noB noB 0 0
 exact ⟨h'.c0,h'.c1,h'.c2,h'.c3,h'.c4,h'.c5,h'.c6,h'.c7⟩
theorem zjv {w:World}{pb fb o:Nat}{v u0 u1 u2 u3 u4 u5 u6 u7:Value} (h:w.cell? ⟨pb,o,none⟩=some v) (hne:fb<pb):((((((((w.setCell ⟨fb,0,none⟩ u0).setCell ⟨fb,1,none⟩ u1).setCell ⟨fb,2,none⟩ u2).setCell ⟨fb,3,none⟩ u3).setCell ⟨fb,4,none⟩ u4).setCell ⟨fb,5,none⟩ u5).setCell ⟨fb,6,none⟩ u6).setCell ⟨fb,7,none⟩ u7).cell? ⟨pb,o,none⟩=some v :=
 zxa (zxa (zxa (zxa (zxa (zxa (zxa (zxa h hne) hne) hne) hne) hne) hne) hne) hne
theorem Only2.set8 {cb fb:Nat}{a b:World} (h:Only2 cb fb a b) (u0 u1 u2 u3 u4 u5 u6 u7:Value):Only2 cb fb a ((((((((b.setCell ⟨fb,0,none⟩ u0).setCell ⟨fb,1,none⟩ u1).setCell ⟨fb,2,none⟩ u2).setCell ⟨fb,3,none⟩ u3).setCell ⟨fb,4,none⟩ u4).setCell ⟨fb,5,none⟩ u5).setCell ⟨fb,6,none⟩ u6).setCell ⟨fb,7,none⟩ u7) :=
 (((((((h.set 0 u0).set 1 u1).set 2 u2).set 3 u3).set 4 u4).set 5 u5).set 6 u6).set 7 u7
theorem split_any (s:ByteArray) (A:Nat->Addr) (w:World) (hs:s.size<=9223372036854775807)
 (h1:w.cell? ⟨1,0,none⟩=some (.iface 324 (.pointer (some (A 0))))) (h2:w.cell? ⟨2,0,none⟩=some (.iface 324 (.pointer (some (A 1))))) :
 Calls Tryz.prog 67 #[.string s] w fun e w'=>SplP s A e w'/\Below w.heap.size w w':=by
 have lg1:=World.block_lt_of_cell? w _ h1
 have lg2:=World.block_lt_of_cell? w _ h2
 have hk:=zqm w (.cells #[.bool false,.bool false,.string noB,.string noB,.string noB,.string noB,.int .i64 0,.int .i64 0] 137) (.cells #[.string s,.int .i64 0] 205)
 have hf:Fg ((w.alloc (.cells #[.bool false,.bool false,.string noB,.string noB,.string noB,.string noB,.int .i64 0,.int .i64 0] 137)).alloc (.cells #[.string s,.int .i64 0] 205)) w.heap.size false false noB noB noB noB 0 0 :=
  Fg.later (heap_alloc_new w _) (zqa _ _)
 have hc:Cu ((w.alloc (.cells #[.bool false,.bool false,.string noB,.string noB,.string noB,.string noB,.int .i64 0,.int .i64 0] 137)).alloc (.cells #[.string s,.int .i64 0] 205)) (w.heap.size+1) s 0:=by
  have:=heap_alloc_new (w.alloc (.cells #[.bool false,.bool false,.string noB,.string noB,.string noB,.string noB,.int .i64 0,.int .i64 0] 137)) (.cells #[.string s,.int .i64 0] 205)
  rw [show (w.alloc (.cells #[.bool false,.bool false,.string noB,.string noB,.string noB,.string noB,.int .i64 0,.int .i64 0] 137)).heap.size=w.heap.size+1 by simp] at this
  exact this
 have H1:=qh (ck hk h1)
 have H2:=qh (ck hk h2)
 clear h1 h2
 go_enter Tryz.func67,Tryz.ntmps67
 go_upto_region 2 with fail
 obtain ⟨W0,hW0⟩:∃ W0,W0=(w.alloc (.cells #[.bool false,.bool false,.string noB,.string noB,.string noB,.string noB,.int .i64 0,.int .i64 0] 137)).alloc (.cells #[.string s,.int .i64 0] 205):=⟨_,rfl⟩
 rw [<- hW0] at hk hf hc H1 H2
 first | rw [<- hW0] | (change Code.wp _ _ _ _ ((w.alloc (.cells #[.bool false,.bool false,.string noB,.string noB,.string noB,.string noB,.int .i64 0,.int .i64 0] 137)).alloc (.cells #[.string s,.int .i64 0] 205));rw [<- hW0])
 clear hW0
 have lf0:=hf.lt
 have lc0:=hc.lt
 go_wp2_with fail
 go_fit (take_b (w.heap.size+1) s 0 45 _ hc (by omega) hs)
 rintro e W1 ⟨⟨mi,rfl,HT⟩,hO1⟩
 obtain ⟨a,hc1,hal,HMA⟩:∃ a,Cu W1 (w.heap.size+1) s a/\a<=s.size/\Hid (minusOf s=mi/\atOf s=a):=by
  rcases uh HT with ⟨rfl,hb,hc1⟩ | ⟨rfl,hb,hc1⟩
  ·exact ⟨1,hc1,by have:=hb.1;omega,zkp hb⟩
  ·exact ⟨0,hc1,by omega,zqx hb⟩
 have hf1:=hf.only hO1 (by omega)
 have hO2:=((Only2.refl (w.heap.size+1) w.heap.size W0).only hO1).set 0 (.bool mi)
 have hc2:=hc1.other (q:=w.heap.size) (by omega) 0 (.bool mi)
 have hf2:=hf1.set0 mi
 have e0:=hf1.c0
 have ef:=hf1.frozen
 have hlt:=hf1.lt
 clear HT hO1 hf hc hc1
 go_wp2_with fail
 go_fit (cdigits_any (w.heap.size+1) s a _ _ _ _ _ hc2 hal hs (hO2.cell (uh H1) (by omega) (by omega)) (hO2.cell (uh H2) (by omega) (by omega)) (by omega) (by omega))
 rintro e W3 ⟨hd,hO3⟩
 clear e0 ef hlt
 have hf3:=hf2.only hO3 (by omega)
 have hO4:=hO2.only hO3
 have e2:=hf3.c2
 have ef:=hf3.frozen
 have hlt:=hf3.lt
 have lf2:=hf2.lt
 clear hO2 hc2
 rcases hd with ⟨hr,pb,rfl,hpb,q0,q1⟩ | ⟨hr,pb,rfl,hpb,q0,q1⟩ | ⟨r0,r1,rfl,hc4⟩
 ·have HSD:=qh (said_none' (uh HMA).2 hr)
  have e0:=hf3.c0
  have e1:=hf3.c1
  have e3:=hf3.c3
  have e4:=hf3.c4
  have e5:=hf3.c5
  have e6:=hf3.c6
  have e7:=hf3.c7
  clear hr
  obtain ⟨z0,z1,z2,z3,z4,z5,z6,z7⟩:=(hf3.set2 noB).zero
  have hOE:=((hO4.set 2 (.string noB)).set8 (.bool false) (.bool false) (.string noB) (.string noB) (.string noB) (.string noB) (.int .i64 0) (.int .i64 0))
  go_wp2
  exact bodyPost_ret (v:=.tuple #[figs false false noB noB noB noB 0 0,.iface 162 (.pointer (some ⟨pb,0,none⟩))]) (by unfold figs noB at *;simp [results,Tryz.results67,go_sem,z0,z1,z2,z3,z4,z5,z6,z7]) rfl ⟨⟨false,false,noB,noB,noB,noB,0,0,Or.inl ⟨0,a,pb,uh HSD,by decide,rfl,zjv (zxa q0 (by omega)) (by omega),zjv (zxa q1 (by omega)) (by omega)⟩⟩,hk.trans (hOE.below (by omega) (by omega) (by omega))⟩
 ·have HSD:=qh (said_many' (uh HMA).2 hr)
  have e0:=hf3.c0
  have e1:=hf3.c1
  have e3:=hf3.c3
  have e4:=hf3.c4
  have e5:=hf3.c5
  have e6:=hf3.c6
  have e7:=hf3.c7
  clear hr
  obtain ⟨z0,z1,z2,z3,z4,z5,z6,z7⟩:=(hf3.set2 noB).zero
  have hOE:=((hO4.set 2 (.string noB)).set8 (.bool false) (.bool false) (.string noB) (.string noB) (.string noB) (.string noB) (.int .i64 0) (.int .i64 0))
  go_wp2
  exact bodyPost_ret (v:=.tuple #[figs false false noB noB noB noB 0 0,.iface 162 (.pointer (some ⟨pb,0,none⟩))]) (by unfold figs noB at *;simp [results,Tryz.results67,go_sem,z0,z1,z2,z3,z4,z5,z6,z7]) rfl ⟨⟨false,false,noB,noB,noB,noB,0,0,Or.inl ⟨1,a+300,pb,uh HSD,by decide,rfl,zjv (zxa q0 (by omega)) (by omega),zjv (zxa q1 (by omega)) (by omega)⟩⟩,hk.trans (hOE.below (by omega) (by omega) (by omega))⟩
 have hml:=zxt s _ a rfl hal
 obtain ⟨m,HM⟩:∃ m,Hid (runEnd s a=m):=⟨_,rfl⟩
 rw [show runEnd s a=m from uh HM] at r0 r1 hc4 hml ⊢
 have HFL:=qh (Figs.run hal r1 (uh HM))
 have hf4:=hf3.set2 (s.extract a m)
 have hO5:=hO4.set 2 (.string (s.extract a m))
 have hc5:=hc4.other (q:=w.heap.size) (by omega) 2 (.string (s.extract a m))
 clear hf2 hO3
 go_wp2_with fail
 go_fit (take_b (w.heap.size+1) s m 47 _ hc5 hml hs)
 rintro e W5 ⟨⟨t,rfl,HT⟩,hO6⟩
 have hf5:=hf4.only hO6 (by omega)
 have hO7:=hO5.only hO6
 clear e2 ef hlt hf4 hO5 hO6 hc5 hc4 hf3 hO4
 go_upto_if 18 with fail
 go_cut [3] (fun ev wx=>SpK (w.heap.size+1) w.heap.size s A W0 ev wx)
 case first =>
  rcases uh HT with ⟨rfl,hb,hc6⟩ | ⟨rfl,hb,hc6⟩
  ·have hb1:=hb.1
   have HSO:=qh (said_over (uh HMA).1 (uh HMA).2 r0 r1 (uh HM) hb)
   clear hb
   have k1:=hc6.c1
   have e6:=hf5.c6
   have ef:=hf5.frozen
   have hlt:=hf5.lt
   have hf6:=hf5.set6 (m+1)
   have hO8:=hO7.set 6 (.int .i64 (m+1:Nat))
   have hc7:=hc6.other (q:=w.heap.size) (by omega) 6 (.int .i64 (m+1:Nat))
   go_wp2_with fail
   go_fit (cdigits_any (w.heap.size+1) s (m+1) _ _ _ _ _ hc7 (by omega) hs (hO8.cell (uh H1) (by omega) (by omega)) (hO8.cell (uh H2) (by omega) (by omega)) (by omega) (by omega))
   rintro e W7 ⟨hd,hO9⟩
   clear e6 ef hlt k1
   have hf7:=hf6.only hO9 (by omega)
   have hO10:=hO8.only hO9
   have e3:=hf7.c3
   have ef:=hf7.frozen
   have hlt:=hf7.lt
   have lf2:=hf6.lt
   have lf5:=hf5.lt
   rcases hd with ⟨hr,pb,rfl,hpb,q0,q1⟩ | ⟨hr,pb,rfl,hpb,q0,q1⟩ | ⟨n0,n1,rfl,hc8⟩
   ·have HSD:Hid (said s=.inl (0+1,m+1)):=by
     show _=_
     rw [show said s=_ from uh HSO];unfold saidOver;rw [zxz hr]
    clear hr
    have hpb2:W5.heap.size<=pb:=by simpa [World.setCell] using hpb
    go_wp2
    go_meet
    exact ⟨_,_,_,_,_,_,_,_,hf7.set3 noB,hO10.set _ _,Or.inl ⟨0,m+1,pb,rfl,HSD,by decide,by omega,zxa q0 (by omega),zxa q1 (by omega)⟩⟩
   ·have HSD:Hid (said s=.inl (1+1,m+1+300)):=by
     show _=_
     rw [show said s=_ from uh HSO];unfold saidOver;rw [zka hr]
    clear hr
    have hpb2:W5.heap.size<=pb:=by simpa [World.setCell] using hpb
    go_wp2
    go_meet
    exact ⟨_,_,_,_,_,_,_,_,hf7.set3 noB,hO10.set _ _,Or.inl ⟨1,m+1+300,pb,rfl,HSD,by decide,by omega,zxa q0 (by omega),zxa q1 (by omega)⟩⟩
   ·have hnl:=zxt s _ (m+1) rfl (by omega)
    obtain ⟨n,HN⟩:∃ n,Hid (runEnd s (m+1)=n):=⟨_,rfl⟩
    rw [show runEnd s (m+1)=n from uh HN] at n0 n1 hc8 hnl ⊢
    have HFN:=qh (Figs.run (by omega) n1 (uh HN))
    have HSD:=qh ((uh HSO).trans (over_some (es:=0) (uh HN) n0 n1 hnl))
    go_wp2
    go_meet
    exact ⟨_,_,_,_,_,_,_,_,hf7.set3 _,hO10.set _ _,Or.inr ⟨n,rfl,hc8.other (by omega) _ _,hnl,HSD,uh HFL,uh HFN,Figs.none,Figs.none⟩⟩
  ·have HSO:=qh (said_dec (uh HMA).1 (uh HMA).2 r0 r1 (uh HM) hb)
   clear hb
   go_wp2_with fail
   go_fit (decimals_any (w.heap.size+1) w.heap.size s mi a m A _ hc6 hf5 (by omega) hml hs (hO7.cell (uh H1) (by omega) (by omega)) (hO7.cell (uh H2) (by omega) (by omega)) (by omega) (by omega) (by omega) (by omega))
   rintro e W7 ⟨⟨me,b,x,es,hf7,hd⟩,hO9⟩
   have lf5:=hf5.lt
   have hO10:Only2 (w.heap.size+1) w.heap.size W0 W7:=⟨hO9.os.trans hO7.os,hO9.tape.trans hO7.tape,hO9.output.trans hO7.output,Nat.le_trans hO7.size hO9.size,fun i hi hg hf=>(hO9.other i (Nat.lt_of_lt_of_le hi hO7.size) hg hf).trans (hO7.other i hi hg hf)⟩
   rcases hd with ⟨c,k,pb,hsd,hc2,rfl,hpb,q0,q1⟩ | ⟨j,hsd,rfl,hc8,hj,hfb,hfx⟩
   ·have HSD:=qh ((uh HSO).trans hsd)
    clear hsd
    go_wp2
    go_meet
    exact ⟨_,_,_,_,_,_,_,_,hf7,hO10,Or.inl ⟨c,k,pb,rfl,HSD,hc2,by omega,q0,q1⟩⟩
   ·have HSD:=qh ((uh HSO).trans hsd)
    clear hsd
    go_wp2
    go_meet
    exact ⟨_,_,_,_,_,_,_,_,hf7,hO10,Or.inr ⟨j,rfl,hc8,hj,HSD,uh HFL,Figs.none,hfb,hfx⟩⟩
 case rest =>
 clear HT hf5 hO7
 obtain ⟨mi',me,l,u,b,x,us,es,hf,hO,hd⟩:=hcut
 obtain ⟨X,rfl⟩:∃ X,X=wc:=⟨_,rfl⟩
 rcases hd with ⟨c,k,pb,rfl,HSD,hc2,hpb,q0,q1⟩ | ⟨j,rfl,hc,hj,HSD,fl,fu,fb,fx⟩
 ·have e0:=hf.c0
  have e1:=hf.c1
  have e2:=hf.c2
  have e3:=hf.c3
  have e4:=hf.c4
  have e5:=hf.c5
  have e6:=hf.c6
  have e7:=hf.c7
  have ef:=hf.frozen
  have hlt:=hf.lt
  have hfE:=hf.all mi' me l u b x us es
  have z0:=hfE.c0
  have z1:=hfE.c1
  have z2:=hfE.c2
  have z3:=hfE.c3
  have z4:=hfE.c4
  have z5:=hfE.c5
  have z6:=hfE.c6
  have z7:=hfE.c7
  go_wp2
  exact bodyPost_ret (v:=.tuple #[figs mi' me l u b x us es,.iface 162 (.pointer (some ⟨pb,0,none⟩))]) (by unfold figs;simp [results,Tryz.results67,go_sem,z0,z1,z2,z3,z4,z5,z6,z7]) rfl ⟨⟨_,_,_,_,_,_,_,_,Or.inl ⟨c,k,pb,uh HSD,hc2,rfl,zjv q0 hpb,zjv q1 hpb⟩⟩,hk.trans ((hO.set8 _ _ _ _ _ _ _ _).below (by omega) (by omega) (by omega))⟩
 ·have k1:=hc.c1
  by_cases hjs:j<s.size
  ·have hji:(j:Int)<s.size:=by omega
   have HS2:=qh ((uh HSD).trans (zjc hjs))
   have t1:=hO.cell (uh H1) (by omega) (by omega)
   go_wp2_with fail
   go_fit (wrong_any (w.heap.size+1) s j _ _ _ hc)
   rintro e W8 ⟨⟨pb,rfl,hpb,q0,q1⟩,hb8⟩
   have lx:=hf.lt
   have hf8:=hf.later hb8
   have hO8:=hO.later hb8
   clear k1
   have e0:=hf8.c0
   have e1:=hf8.c1
   have e2:=hf8.c2
   have e3:=hf8.c3
   have e4:=hf8.c4
   have e5:=hf8.c5
   have e6:=hf8.c6
   have e7:=hf8.c7
   have ef:=hf8.frozen
   have hlt:=hf8.lt
   have hfE:=hf8.all mi' me l u b x us es
   have z0:=hfE.c0
   have z1:=hfE.c1
   have z2:=hfE.c2
   have z3:=hfE.c3
   have z4:=hfE.c4
   have z5:=hfE.c5
   have z6:=hfE.c6
   have z7:=hfE.c7
   go_wp2
   exact bodyPost_ret (v:=.tuple #[figs mi' me l u b x us es,.iface 162 (.pointer (some ⟨pb,0,none⟩))]) (by unfold figs;simp [results,Tryz.results67,go_sem,z0,z1,z2,z3,z4,z5,z6,z7]) rfl ⟨⟨_,_,_,_,_,_,_,_,Or.inl ⟨0,j,pb,uh HS2,by decide,rfl,zjv q0 (by omega),zjv q1 (by omega)⟩⟩,hk.trans ((hO8.set8 _ _ _ _ _ _ _ _).below (by omega) (by omega) (by omega))⟩
  ·have hji:¬ (j:Int)<s.size:=by omega
   have HS2:=qh ((uh HSD).trans (zjp (by omega)))
   have e0:=hf.c0
   have e1:=hf.c1
   have e2:=hf.c2
   have e3:=hf.c3
   have e4:=hf.c4
   have e5:=hf.c5
   have e6:=hf.c6
   have e7:=hf.c7
   have ef:=hf.frozen
   have hlt:=hf.lt
   have hfE:=hf.all mi' me l u b x us es
   have z0:=hfE.c0
   have z1:=hfE.c1
   have z2:=hfE.c2
   have z3:=hfE.c3
   have z4:=hfE.c4
   have z5:=hfE.c5
   have z6:=hfE.c6
   have z7:=hfE.c7
   go_wp2
   exact bodyPost_ret (v:=.tuple #[figs mi' me l u b x us es,.nilIface]) (by unfold figs;simp [results,Tryz.results67,go_sem,z0,z1,z2,z3,z4,z5,z6,z7]) rfl ⟨⟨_,_,_,_,_,_,_,_,Or.inr ⟨rfl,uh HS2,fl,fu,fb,fx⟩⟩,hk.trans ((hO.set8 _ _ _ _ _ _ _ _).below (by omega) (by omega) (by omega))⟩
end Go.Proofs.YtkdobjmhammhbaaGreatDoor
