import Derived.Test.YtkdobjmhammhbaaGreatDoorMSB
namespace Go.Proofs.YtkdobjmhammhbaaGreatDoor
set_option maxHeartbeats 4000000
set_option maxRecDepth 8000
open Go.RowKit
theorem figs_plain {s:ByteArray} (h:Figs s):minusOf s=false/\(digitsOf s).data.toList=s.data.toList:=by
 have hm:minusOf s=false:=by
  by_cases h0:s.size=0
  ·exact minus_none h0
  ·have hp:0<s.size:=by omega
   rw [minus_some hp]
   have hc:=h.1 (s[0]'hp) (by
    have:s[0]'hp=s.data.toList[0]'(by rw [Array.length_toList];exact hp):=rfl
    rw [this];exact List.getElem_mem _)
   cases e:((s[0]'hp).toNat == 45)
   ·rfl
   ·have:(s[0]'hp).toNat=45:=by simpa using e
    omega
 exact ⟨hm,by rw [digitsOf_list];unfold atOf;rw [hm];rfl⟩
theorem figs_num {s:ByteArray} (h:Figs s):numOf s=dB s:=by
 obtain ⟨h1,h2⟩:=figs_plain h
 unfold numOf dB
 rw [h1,h2];rfl
theorem figs_wrong {s:ByteArray} (h:Figs s) {k:Nat}{text:Bool} (hw:Wrong (digitsOf s) k text):dB s=0:=by
 obtain ⟨h1,h2⟩:=figs_plain h
 have hsz:(digitsOf s).size=s.size:=by rw [digitsOf_len];unfold atOf;rw [h1];rfl
 rcases hw with ⟨h0,_,_⟩ | ⟨hk,h3,_,hx⟩
 ·have:s.data.toList=[]:=List.eq_nil_of_length_eq_zero (by rw [Array.length_toList];show s.size=0;omega)
  unfold dB;rw [this];rfl
 ·exfalso
  rcases hx with ⟨_,g⟩ | ⟨_,g,_⟩
  ·apply g
   have hm:(digitsOf s)[k]'hk ∈ s.data.toList:=by
    rw [<- h2]
    have:(digitsOf s)[k]'hk=(digitsOf s).data.toList[k]'(by rw [Array.length_toList];exact hk):=rfl
    rw [this];exact List.getElem_mem _
   exact h.1 _ hm
  ·have:=h.2;omega
theorem number_any (s:ByteArray) (w:World) (t1 t2:TypeId) (p1 p2:Value) (hf:Figs s) (h1:w.cell? ⟨1,0,none⟩=some (.iface t1 p1)) (h2:w.cell? ⟨2,0,none⟩=some (.iface t2 p2)) :
 Calls Tryz.prog 130 #[.string s] w fun e w'=>(∃ v,e=.returned v/\Zr 16 w' v (dB s))/\Below w.heap.size w w':=by
 have hbx:=zqy w
 have hk:=zqa w (.cells #[.int .i64 0,.slice none 0 0] 37)
 have hml:s.size<=maxLen:=by have:=hf.2;unfold maxLen;omega
 have HF:=qh hf
 clear hf
 go_enter Tryz.func130,Tryz.ntmps130
 go_wp2_with fail
 go_fit (read_any s _ t1 t2 p1 p2 hml (ck hk h1) (ck hk h2))
 rintro e W1 ⟨hc,hb1⟩
 have hbx1:=hbx.later hb1
 have hk1:=bk hb1 hk
 obtain ⟨⟨x0,g0⟩,⟨a0,n0,c0,g1⟩,gf⟩:=hbx1.cells
 have hlt:w.heap.size<W1.heap.size:=World.block_lt_of_cell? W1 _ g0
 clear hbx hk hb1 h1 h2
 rcases hc with ⟨v1,rfl,-,hZ⟩ | ⟨k,text,pb,rfl,hw,-,-⟩
 ·rw [figs_num (uh HF)] at hZ
  obtain ⟨u1,a1,n1,c1,rfl⟩:=hZ.shape
  go_wp2
  obtain ⟨st0,st1⟩:=hbx1.stored (.int .i64 u1) (.slice a1 n1 c1)
  have kk:=zqa ((W1.setCell ⟨w.heap.size,0,none⟩ (.int .i64 u1)).setCell ⟨w.heap.size,1,none⟩ (.slice a1 n1 c1)) (.cells #[.int .i64 u1,.slice a1 n1 c1] 37)
  have st0:=ck kk st0
  have st1:=ck kk st1
  exact bodyPost_ret (v:=.agg #[.int .i64 u1,.slice a1 n1 c1]) (by simp [results,Tryz.results130,go_sem,st0,st1]) rfl ⟨⟨_,rfl,(hZ.stored hbx1 _ _).later kk⟩,bk kk (zqc hk1 (Nat.le_refl _) _ _)⟩
 ·have e0:=figs_wrong (uh HF) hw
  have HE:=qh e0
  clear e0 hw
  go_wp2
  obtain ⟨st0,st1⟩:=hbx1.stored (.int .i64 0) (.slice none 0 0)
  have kk:=zqa ((W1.setCell ⟨w.heap.size,0,none⟩ (.int .i64 0)).setCell ⟨w.heap.size,1,none⟩ (.slice none 0 0)) (.cells #[.int .i64 0,.slice none 0 0] 37)
  have st0:=ck kk st0
  have st1:=ck kk st1
  exact bodyPost_ret (v:=.agg #[.int .i64 0,.slice none 0 0]) (by simp [results,Tryz.results130,go_sem,st0,st1]) rfl ⟨⟨_,rfl,by rw [show dB s=0 from uh HE];exact Zr.near _ (by decide) (by decide)⟩,bk kk (zqc hk1 (Nat.le_refl _) _ _)⟩
theorem ten_small {n:Nat} (h:n<=300):iabs ((10:Int) ^ n)<pw 16:=by
 have h1:=zki n
 have h2:(10:Int) ^ n<10 ^ 304:=by
  have e:(10:Int) ^ (n+1)<=10 ^ 304:=zxk (by omega)
  rw [Int.pow_succ] at e
  omega
 have h3:(10:Int) ^ 304<=pw 16:=ten_pw 16
 unfold iabs;rw [if_neg (by omega)];omega
theorem Vr.drew {w:World}{b:Nat}{u:Int}{a:Option Addr}{n c N:Nat}{z:Int} (h:Vr w b u a n c N z):Vr w.drew b u a n c N z:=⟨h.c0,h.c1,h.box,h.zr⟩
theorem tenTo_any (n:Nat) (w:World) (hn:n<=300) :
 Calls Tryz.prog 131 #[.int .i64 n] w fun e w'=>(∃ v,e=.returned v/\Zr 16 w' v (10 ^ n))/\Below w.heap.size w w':=by
 have hbx:=zqy w
 have hk:=zqa w (.cells #[.int .i64 0,.slice none 0 0] 37)
 go_enter Tryz.func131,Tryz.ntmps131
 go_wp2_with fail
 go_fit (of_any 1 _)
 rintro e W1 ⟨rfl,hb1⟩
 have hbx1:=(hbx.later hb1).later (zqa W1 (.cells #[.int .i64 1,.slice none 0 0] 37))
 have hk1:=bk (zqa W1 (.cells #[.int .i64 1,.slice none 0 0] 37)) (bk hb1 hk)
 have hp1:Vr (W1.alloc (.cells #[.int .i64 1,.slice none 0 0] 37)) W1.heap.size 1 none 0 0 17 1:=Vr.new (Zr.near 17 (by decide) (by decide))
 have l1:w.heap.size<W1.heap.size:=by obtain ⟨⟨x0,g0⟩,_⟩:=(hbx.later hb1).cells;exact World.block_lt_of_cell? W1 _ g0
 clear hb1 hbx hk
 go_wp2_with fail
 go_loopg [6] n (fun g iv wr=>∃ i:Nat,g=n - i/\i<=n/\iv=.int .i64 i/\(∃ u a m c P,Hid (P=(10:Int) ^ i)/\Vr wr W1.heap.size u a m c 17 P)/\Box wr w.heap.size/\Below w.heap.size w wr)
 case atStart=>exact ⟨0,rfl,by omega,rfl,⟨_,_,_,_,_,qh (by simp),hp1⟩,hbx1,hk1⟩
 case round =>
  clear hp1 hbx1 hk1
  obtain ⟨i,hgk,hi,rfl,⟨u,a,m,c,P,HP,hp⟩,hbx,hk⟩:=hrel
  have e0:=hp.c0
  have e1:=hp.c1
  by_cases hin:i<n
  ·have hini:(i:Int)<n:=by omega
   have hten:∀ w:World,Zr (16+1) w (.agg #[.int .i64 10,.slice none 0 0]) 10:=fun w=>Zr.near _ (by decide) (by decide)
   go_upto_region 4 with fail
   go_region_with
    (first | (go_at_call 102;go_fit (of_any 10 _);rintro e q1 ⟨rfl,hb1⟩;have S1:=qh (bk hb1 hk.drew);have e0:=(hp.drew.keep hb1).c0;have e1:=(hp.drew.keep hb1).c1) | (go_at_call 132;go_fit (mul_any (N:=16) _ ((show Zr (16+1) wr.drew _ _ from hp.zr).later hb1) (hten _) (by omega));rintro e q2 ⟨⟨v2,rfl,hZ2⟩,hb2⟩;obtain ⟨i1,i2,i3,i4,rfl⟩:=hZ2.shape;have S2:=qh (bk hb2 (uh S1));have hp2:=(hp.drew.keep hb1).keep hb2;have e0:=hp2.c0;have e1:=hp2.c1;obtain ⟨_,_,gf⟩:=hp2.box.cells;have hlt:=hp2.lt))
   all_goals (
    have hp2:=(hp.drew.keep hb1).keep hb2
    have hbx2:=((show Box wr.drew _ from hbx).later hb1).later hb2
    have hk2:=uh S2
    have HP2:Hid (P*10=(10:Int) ^ (i+1)):=by show _=_;rw [uh HP,Int.pow_succ]
    have hZ3:Zr 17 q2 (.agg #[.int .i64 i1,.slice i2 i3 i4]) (P*10):=(hZ2.tight (by rw [show P*10=_ from uh HP2];exact ten_small (by omega))).mono (by decide)
    clear hZ2 hp hbx hk
    go_wp2
    go_roundg (n - (i+1))
    case measure=>omega
    case rel=>exact ⟨i+1,rfl,by omega,by go_num,⟨_,_,_,_,_,HP2,hp2.store hZ3⟩,(hbx2.other (by omega) _).other (by omega) _,zqc hk2 (by omega) _ _⟩)
  ·have hini:¬ (i:Int)<n:=by omega
   obtain rfl:i=n:=by omega
   obtain ⟨⟨x0,g0⟩,⟨a0,n0,c0,g1⟩,gf⟩:=hbx.cells
   have hZ:Zr 16 wr (.agg #[.int .i64 u,.slice a m c]) P:=hp.zr.tight (by rw [uh HP];exact ten_small hn)
   go_wp2
   obtain ⟨st0,st1⟩:=hbx.stored (.int .i64 u) (.slice a m c)
   exact bodyPost_ret (v:=.agg #[.int .i64 u,.slice a m c]) (by simp [results,Tryz.results131,go_sem,st0,st1]) rfl ⟨⟨_,rfl,by rw [<- uh HP];exact hZ.stored hbx _ _⟩,zqc hk (Nat.le_refl _) _ _⟩
structure SK (w:World) (mi me:Bool) (l u b x:ByteArray) (us es:Nat) (wx:World):Prop where
 below:Below w.heap.size w wx
 fg:Fg wx w.heap.size mi me l u b x us es
 rb:RBox wx (w.heap.size+1)
theorem SK.keep {w:World}{mi me:Bool}{l u b x:ByteArray}{us es:Nat}{wx w1:World} (h:SK w mi me l u b x us es wx) (hb:Below wx.heap.size wx w1):SK w mi me l u b x us es w1:=⟨bk hb h.below,h.fg.later hb,h.rb.later hb⟩
theorem SK.drew {w:World}{mi me:Bool}{l u b x:ByteArray}{us es:Nat}{wx:World} (h:SK w mi me l u b x us es wx):SK w mi me l u b x us es wx.drew:=⟨h.below.drew,h.fg,h.rb⟩
theorem SK.lt {w:World}{mi me:Bool}{l u b x:ByteArray}{us es:Nat}{wx:World} (h:SK w mi me l u b x us es wx):w.heap.size+1<wx.heap.size:=h.rb.lt
theorem SK.beside {w:World}{mi me:Bool}{l u b x:ByteArray}{us es:Nat}{wx:World} (h:SK w mi me l u b x us es wx) {q:Nat} (hq:w.heap.size+1<q) (v v':Value):SK w mi me l u b x us es ((wx.setCell ⟨q,0,none⟩ v).setCell ⟨q,1,none⟩ v'):=by
 refine ⟨zqc h.below (by omega) _ _,?_,?_⟩
 ·show ((wx.setCell ⟨q,0,none⟩ v).setCell ⟨q,1,none⟩ v').heap[w.heap.size]? = _
  rw [Below.heap_setCell _ _ _ _ (by show _≠_;simp;omega),Below.heap_setCell _ _ _ _ (by show _≠_;simp;omega)];exact h.fg
 ·obtain ⟨x0,a0,n0,c0,y0,b0,m0,k0,hr⟩:=h.rb
  exact ⟨x0,a0,n0,c0,y0,b0,m0,k0,by rw [Below.heap_setCell _ _ _ _ (by show _≠_;simp;omega),Below.heap_setCell _ _ _ _ (by show _≠_;simp;omega)];exact hr⟩
theorem SK.start (w:World) (mi me:Bool) (l u b x:ByteArray) (us es:Nat):SK w mi me l u b x us es ((w.alloc (.cells #[.bool mi,.bool me,.string l,.string u,.string b,.string x,.int .i64 (us:Int),.int .i64 (es:Int)] 137)).alloc (.cells #[.int .i64 0,.slice none 0 0,.int .i64 0,.slice none 0 0] 39)):=by
 have h:=heap_alloc_new (w.alloc (.cells #[.bool mi,.bool me,.string l,.string u,.string b,.string x,.int .i64 (us:Int),.int .i64 (es:Int)] 137)) (.cells #[.int .i64 0,.slice none 0 0,.int .i64 0,.slice none 0 0] 39)
 rw [show (w.alloc (.cells #[.bool mi,.bool me,.string l,.string u,.string b,.string x,.int .i64 (us:Int),.int .i64 (es:Int)] 137)).heap.size=w.heap.size+1 by simp] at h
 exact ⟨zqm w _ _,Fg.later (heap_alloc_new w _) (zqa _ _),⟨_,_,_,_,_,_,_,_,h⟩⟩
def SzP (mi me:Bool) (l u b x:ByteArray) (us es:Nat) (A:Nat->Addr) (e:Ending) (w':World):Prop :=
 (∃ c k pb,figSaid mi me l u b x us es=.inl (c+1,k)/\c<3/\e=.returned (.tuple #[.agg #[.int .i64 0,.slice none 0 0,.int .i64 0,.slice none 0 0],.iface 162 (.pointer (some ⟨pb,0,none⟩))])/\w'.cell? ⟨pb,0,none⟩=some (.int .i64 (k:Nat))/\w'.cell? ⟨pb,1,none⟩=some (.iface 324 (.pointer (some (A c))))) \/
 (∃ p q v P D,figSaid mi me l u b x us es=.inr (signed mi p,q)/\0<q/\e=.returned (.tuple #[v,.nilIface])/\Rr 78 w' v P D/\P*q=p*D)
theorem empty_size (s:ByteArray):s.toList.isEmpty=decide (s.size=0):=by
 rw [Lib.toList_data]
 have h:s.data.toList.length=s.size:=by rw [Array.length_toList];rfl
 cases e:s.data.toList with
 | nil=>rw [e] at h;rw [<- h];rfl
 | cons c l =>
  rw [e,List.length_cons] at h
  have h0:¬ s.size=0:=by omega
  rw [decide_eq_false h0];rfl
theorem empty_yes {s:ByteArray} (h:s.size=0):s.toList.isEmpty=true:=by rw [empty_size];simp [h]
theorem empty_no {s:ByteArray} (h:¬ s.size=0):s.toList.isEmpty=false:=by rw [empty_size];simp [h]
theorem figNum_small {l b:ByteArray} (hl:Figs l) (hb:Figs b):0<=figNum l b/\figNum l b<10 ^ 600:=by
 have h1:=hl.bound
 have h2:=hb.bound
 have h3:(10:Int) ^ l.size<=10 ^ 300:=zxk hl.2
 have h4:(10:Int) ^ b.size<=10 ^ 300:=zxk hb.2
 have h5:(10:Int) ^ 600=10 ^ 300*10 ^ 300:=by rw [<- Int.pow_add]
 have h6:=zki b.size
 have h7:=zki 300
 unfold figNum
 split
 ·refine ⟨h1.1,?_⟩
  have:(10:Int) ^ 300*1<=10 ^ 300*10 ^ 300:=Int.mul_le_mul_of_nonneg_left (by omega) (by omega)
  omega
 ·refine ⟨by have:=Int.mul_nonneg h1.1 (Int.le_of_lt h6);omega,?_⟩
  have e1:dB l*10 ^ b.size<=(10 ^ 300 - 1)*10 ^ b.size:=Int.mul_le_mul_of_nonneg_right (by omega) (by omega)
  have e2:(10 ^ 300 - 1)*(10:Int) ^ b.size=10 ^ 300*10 ^ b.size - 10 ^ b.size:=by rw [Int.sub_mul,Int.one_mul]
  have e3:(10:Int) ^ 300*10 ^ b.size<=10 ^ 300*10 ^ 300:=Int.mul_le_mul_of_nonneg_left h4 (by omega)
  omega
theorem figDen_small {u b:ByteArray} (hu:Figs u) (hb:Figs b):0<=figDen u b/\figDen u b<10 ^ 301:=by
 have h1:=hu.bound
 have h3:(10:Int) ^ u.size<=10 ^ 300:=zxk hu.2
 have h4:(10:Int) ^ b.size<=10 ^ 300:=zxk hb.2
 have h5:(10:Int) ^ 301=10 ^ 300*10:=by rw [<- Int.pow_succ]
 have h6:=zki b.size
 have h7:=zki 300
 unfold figDen
 split
 ·split <;> omega
 ·omega
theorem scaled_tight {N M:Nat}{w:World}{v:Value}{z:Int}{y k:Nat} (h:Zr N w v (z*10 ^ y)) (z0:0<=z) (hz:z<10 ^ k) (hy:y<=60) (hM:k+60<=19*M):Zr M w v (z*10 ^ y):=by
 refine h.tight ?_
 have h1:=zki y
 have h2:(10:Int) ^ y<=10 ^ 60:=zxk hy
 have h3:(10:Int) ^ (k+60)<=10 ^ (19*M):=zxk hM
 have h4:=ten_pw M
 have h5:0<=z*10 ^ y:=Int.mul_nonneg z0 (Int.le_of_lt h1)
 have h6:z*10 ^ y<10 ^ k*10 ^ 60:=by
  have e1:z*10 ^ y<=z*10 ^ 60:=Int.mul_le_mul_of_nonneg_left h2 z0
  have e2:z*10 ^ 60<10 ^ k*10 ^ 60:=Int.mul_lt_mul_of_pos_right hz (zki 60)
  omega
 rw [<- Int.pow_add] at h6
 unfold iabs;rw [if_neg (by omega)];omega
theorem SK.fault {w:World}{mi me:Bool}{l u b x:ByteArray}{us es:Nat}{W:World} (h:SK w mi me l u b x us es W) (v0 v1:Value) (T:TypeId) :
 let W':=((((W.setCell ⟨w.heap.size+1,0,none⟩ (.int .i64 0)).setCell ⟨w.heap.size+1,1,none⟩ (.slice none 0 0)).setCell ⟨w.heap.size+1,2,none⟩ (.int .i64 0)).setCell ⟨w.heap.size+1,3,none⟩ (.slice none 0 0)).alloc (.cells #[v0,v1] T)
 W'.cell? ⟨w.heap.size+1,0,none⟩=some (.int .i64 0)/\W'.cell? ⟨w.heap.size+1,1,none⟩=some (.slice none 0 0)/\W'.cell? ⟨w.heap.size+1,2,none⟩=some (.int .i64 0)/\W'.cell? ⟨w.heap.size+1,3,none⟩=some (.slice none 0 0)/\W'.cell? ⟨W.heap.size,0,none⟩=some v0/\W'.cell? ⟨W.heap.size,1,none⟩=some v1/\Below w.heap.size w W':=by
 intro W'
 obtain ⟨s0,s1,s2,s3⟩:=h.rb.stored (.int .i64 0) (.slice none 0 0) (.int .i64 0) (.slice none 0 0)
 have hk:=zqa ((((W.setCell ⟨w.heap.size+1,0,none⟩ (.int .i64 0)).setCell ⟨w.heap.size+1,1,none⟩ (.slice none 0 0)).setCell ⟨w.heap.size+1,2,none⟩ (.int .i64 0)).setCell ⟨w.heap.size+1,3,none⟩ (.slice none 0 0)) (.cells #[v0,v1] T)
 have hz:((((W.setCell ⟨w.heap.size+1,0,none⟩ (.int .i64 0)).setCell ⟨w.heap.size+1,1,none⟩ (.slice none 0 0)).setCell ⟨w.heap.size+1,2,none⟩ (.int .i64 0)).setCell ⟨w.heap.size+1,3,none⟩ (.slice none 0 0)).heap.size=W.heap.size:=by simp [World.setCell]
 exact ⟨ck hk s0,ck hk s1,ck hk s2,ck hk s3,by show (World.alloc _ _).cell? _=_;rw [zqe hz];rfl,by show (World.alloc _ _).cell? _=_;rw [zqe hz];rfl,bk hk (zqf h.below (by omega) _ _ _ _)⟩
theorem SK.fault2 {w:World}{mi me:Bool}{l u b x:ByteArray}{us es:Nat}{W:World} (h:SK w mi me l u b x us es W) (v0 v1:Value) (T:TypeId) (o:Obj) :
 let W':=(((((W.setCell ⟨w.heap.size+1,0,none⟩ (.int .i64 0)).setCell ⟨w.heap.size+1,1,none⟩ (.slice none 0 0)).setCell ⟨w.heap.size+1,2,none⟩ (.int .i64 0)).setCell ⟨w.heap.size+1,3,none⟩ (.slice none 0 0)).alloc o).alloc (.cells #[v0,v1] T)
 W'.cell? ⟨w.heap.size+1,0,none⟩=some (.int .i64 0)/\W'.cell? ⟨w.heap.size+1,1,none⟩=some (.slice none 0 0)/\W'.cell? ⟨w.heap.size+1,2,none⟩=some (.int .i64 0)/\W'.cell? ⟨w.heap.size+1,3,none⟩=some (.slice none 0 0)/\W'.cell? ⟨W.heap.size+1,0,none⟩=some v0/\W'.cell? ⟨W.heap.size+1,1,none⟩=some v1/\Below w.heap.size w W':=by
 intro W'
 obtain ⟨s0,s1,s2,s3⟩:=h.rb.stored (.int .i64 0) (.slice none 0 0) (.int .i64 0) (.slice none 0 0)
 have hk:=zqm ((((W.setCell ⟨w.heap.size+1,0,none⟩ (.int .i64 0)).setCell ⟨w.heap.size+1,1,none⟩ (.slice none 0 0)).setCell ⟨w.heap.size+1,2,none⟩ (.int .i64 0)).setCell ⟨w.heap.size+1,3,none⟩ (.slice none 0 0)) o (.cells #[v0,v1] T)
 have hz:(((((W.setCell ⟨w.heap.size+1,0,none⟩ (.int .i64 0)).setCell ⟨w.heap.size+1,1,none⟩ (.slice none 0 0)).setCell ⟨w.heap.size+1,2,none⟩ (.int .i64 0)).setCell ⟨w.heap.size+1,3,none⟩ (.slice none 0 0)).alloc o).heap.size=W.heap.size+1:=by simp [World.setCell]
 exact ⟨ck hk s0,ck hk s1,ck hk s2,ck hk s3,by show (World.alloc _ _).cell? _=_;rw [zqe hz];rfl,by show (World.alloc _ _).cell? _=_;rw [zqe hz];rfl,bk hk (zqf h.below (by omega) _ _ _ _)⟩
end Go.Proofs.YtkdobjmhammhbaaGreatDoor
