import Derived.Test.YtkdobjmhammhbaaGreatDoorMRA
namespace Go.Proofs.YtkdobjmhammhbaaGreatDoor
set_option maxHeartbeats 4000000
set_option maxRecDepth 8000
open Go.RowKit
theorem zxo (u:Nat):Dig10 (Lib.decDigits u):=by
 induction u using Nat.strongRecOn with
 | ind u ih =>
  rw [Lib.decDigits]
  split
  ·intro c hc
   have:c=UInt8.ofNat (48+u):=by simpa using hc
   subst this
   rw [UInt8.toNat_ofNat_of_lt' (show 48+u<256 by omega)];omega
  ·intro c hc
   rcases List.mem_append.1 hc with hc | hc
   ·exact ih (u / 10) (by omega) c hc
   ·have:c=UInt8.ofNat (48+u % 10):=by simpa using hc
    subst this
    rw [UInt8.toNat_ofNat_of_lt' (show 48+u % 10<256 by omega)];omega
theorem zxp (u:Nat):dec (Lib.decDigits u)=u:=by
 induction u using Nat.strongRecOn with
 | ind u ih =>
  rw [Lib.decDigits]
  split
  ·simp only [dec,List.foldl]
   rw [UInt8.toNat_ofNat_of_lt' (show 48+u<256 by omega)];omega
  ·rw [dec_snoc,ih (u / 10) (by omega),UInt8.toNat_ofNat_of_lt' (show 48+u % 10<256 by omega)];omega
theorem decDigits_head {u:Nat} (h:0<u):(Lib.decDigits u).head? ≠ some 48:=by
 induction u using Nat.strongRecOn with
 | ind u ih =>
  rw [Lib.decDigits]
  split
  ·intro e
   have e1:UInt8.ofNat (48+u)=48:=by simpa using e
   have e2:=congrArg UInt8.toNat e1
   rw [UInt8.toNat_ofNat_of_lt' (show 48+u<256 by omega)] at e2
   have:(48:UInt8).toNat=48:=rfl
   omega
  ·have:=ih (u / 10) (by omega) (by omega)
   cases hl:Lib.decDigits (u / 10) with
   | nil =>
    have h0:=zxp (u / 10)
    rw [hl] at h0
    simp [dec] at h0
    omega
   | cons a t=>rw [hl] at this;simpa using this
theorem decDigits_ne (u:Nat):Lib.decDigits u≠[]:=by
 rw [Lib.decDigits];split <;> simp
theorem zjq {u:Nat} (h:u<10000000000000000000):(Lib.decDigits u).length<=19:=by
 rw [Lib.decDigits_length]
 rcases Nat.eq_zero_or_pos u with rfl | hp
 ·rw [Lib.nDigits];simp
 ·have h1:=Lib.numDigits_eq u hp (by omega)
  rcases Nat.lt_or_ge 19 (Lib.nDigits u) with h2 | h2
  ·exfalso
   have h3:=decDigits_head hp
   have h4:=zxp u
   have h5:=zxo u
   have h6:(Lib.decDigits u).length=Lib.nDigits u:=Lib.decDigits_length u
   cases hl:Lib.decDigits u with
   | nil=>exact decDigits_ne u hl
   | cons a t =>
    rw [hl] at h3 h4 h5 h6
    have ha:=h5 a (List.mem_cons_self ..)
    have ha48:a.toNat≠48:=fun e=>h3 (by rw [show a=48 from UInt8.toNat.inj e];rfl)
    have e:dec (a :: t)=((a.toNat:Int) - 48)*10 ^ t.length+dec t:=by
     rw [show a :: t=[a]++t from rfl,zkf]
     simp [dec]
    have ht:=(zjo (l:=t) (fun c hc=>h5 c (List.mem_cons_of_mem _ hc))).1
    have hlt:19<=t.length:=by simp at h6;omega
    have hp19:=zxk hlt
    have:(1:Int)*10 ^ t.length<=((a.toNat:Int) - 48)*10 ^ t.length:=Int.mul_le_mul_of_nonneg_right (by omega) (Int.le_of_lt (Int.pow_pos (by decide)))
    have h19:(10:Int) ^ 19=10000000000000000000:=by decide
    omega
  ·exact h2
theorem repeat_len (c:Nat):(Lib.repeatL [48] c).length=c:=by
 induction c with
 | zero=>rfl
 | succ c ih=>simp [Lib.repeatL,ih]
theorem repeat_dig (c:Nat):Dig10 (Lib.repeatL [48] c):=by
 induction c with
 | zero=>intro d hd;simp [Lib.repeatL] at hd
 | succ c ih =>
  intro d hd
  simp only [Lib.repeatL,List.cons_append,List.nil_append,List.mem_cons] at hd
  rcases hd with rfl | hd
  ·exact ⟨by decide,by decide⟩
  ·exact ih d hd
theorem repeat_dec (c:Nat):dec (Lib.repeatL [48] c)=0:=by
 induction c with
 | zero=>simp [Lib.repeatL,dec]
 | succ c ih =>
  have:Lib.repeatL [48] (c+1)=48 :: Lib.repeatL [48] c:=rfl
  rw [this]
  have e:dec (48 :: Lib.repeatL [48] c)=((48:UInt8).toNat - 48:Int)*10 ^ (Lib.repeatL [48] c).length+dec (Lib.repeatL [48] c):=by
   rw [show (48:UInt8) :: Lib.repeatL [48] c=[48]++Lib.repeatL [48] c from rfl,zkf]
   simp [dec]
  rw [e,ih]
  simp
theorem numeral_next {v:Int}{g:Nat} (hv:0<v) (hg:g<10000000000000000000):Lib.decDigits v.toNat++(Lib.repeatL [48] (19 - (Lib.decDigits g).length)++Lib.decDigits g)=Lib.decDigits ((g:Int)+p19*v).toNat:=by
 have hd:Dig10 (Lib.decDigits v.toNat++(Lib.repeatL [48] (19 - (Lib.decDigits g).length)++Lib.decDigits g)):=by
  intro c hc
  rcases List.mem_append.1 hc with hc | hc
  ·exact zxo _ c hc
  ·rcases List.mem_append.1 hc with hc | hc
   ·exact repeat_dig _ c hc
   ·exact zxo _ c hc
 have hne:Lib.decDigits v.toNat++(Lib.repeatL [48] (19 - (Lib.decDigits g).length)++Lib.decDigits g)≠[]:=by
  intro e
  exact decDigits_ne v.toNat (List.append_eq_nil_iff.1 e).1
 have hh:(Lib.decDigits v.toNat++(Lib.repeatL [48] (19 - (Lib.decDigits g).length)++Lib.decDigits g)).head? ≠ some 48:=by
  have:=decDigits_head (u:=v.toNat) (by omega)
  cases hl:Lib.decDigits v.toNat with
  | nil=>exact absurd hl (decDigits_ne _)
  | cons a t=>rw [hl] at this;simpa using this
 have hu:=dec_unique hd hne hh
 rw [<- hu]
 congr 1
 congr 1
 rw [zkf,zkf,repeat_dec,zxp,zxp,List.length_append,repeat_len]
 have hl:=zjq hg
 rw [show 19 - (Lib.decDigits g).length+(Lib.decDigits g).length=19 by omega,show (10:Int) ^ 19=p19 by decide]
 unfold p19
 omega
theorem v19_drop {l:List Int}{k:Nat} (hk:k<l.length):v19 (l.drop k)=nth l k+p19*v19 (l.drop (k+1)):=by
 rw [List.drop_eq_getElem_cons hk]
 simp [v19,nth,hk]
theorem v19_pos {l:List Int} (h:P19 l) (t:Trim l) {k:Nat} (hk:k<l.length):0<v19 (l.drop k):=by
 have hne:l≠[]:=fun e=>by rw [e] at hk;simp at hk
 have ht:=t.resolve_left hne
 have hp:P19 (l.drop k):=fun d hd=>h d (List.mem_of_mem_drop hd)
 have e:l.drop k=(l.drop k).take (l.length - 1 - k)++[nth l (l.length - 1)]:=by
  have:=List.take_append_getElem (l:=l.drop k) (i:=l.length - 1 - k) (by rw [List.length_drop];omega)
  rw [show l.length - 1 - k+1=(l.drop k).length by rw [List.length_drop];omega,List.take_length] at this
  rw [<- this]
  congr 2
  ·rw [this]
  ·unfold nth
   rw [List.getElem?_eq_getElem (by omega),List.getElem_drop]
   simp only [Option.getD_some]
   congr 1
   omega
 have hn:0<=nth l (l.length - 1):=by
  unfold nth
  rw [List.getElem?_eq_getElem (by omega)]
  exact (h _ (List.getElem_mem _)).1
 rw [e,v19_append]
 have h1:=v19_nonneg (l:=(l.drop k).take (l.length - 1 - k)) (fun d hd=>hp d (List.mem_of_mem_take hd))
 have h2:(0:Int)<p19 ^ ((l.drop k).take (l.length - 1 - k)).length:=Int.pow_pos (by decide)
 have h4:=Int.mul_pos h2 (show 0<nth l (l.length - 1) by omega)
 simp only [v19,Int.mul_zero,Int.add_zero]
 omega
structure TxC (w:World) (pre:List UInt8) (G:List Int) (g:Nat) (T:List UInt8) (wr:World):Prop where
 bld:Lib.IsBuilderF 196 5 (w.heap.size+1) (w.heap.size+1) (Lib.byteCells (pre++T)) wr
 below:Below w.heap.size w wr
 row:Row wr g 0 G
 typ:∃ cur,wr.heap[g]? = some (.cells cur 200 (0,0))
theorem TxC.size {w:World}{pre:List UInt8}{G:List Int}{g:Nat}{T:List UInt8}{wr:World} (h:TxC w pre G g T wr):w.heap.size+1<=wr.heap.size:=by
 rcases h.bld with ⟨_,v,e,_⟩ | ⟨_,v,e,_⟩ <;> exact Nat.le_of_lt (Array.getElem?_eq_some_iff.1 e).1
theorem TxC.later {w:World}{pre:List UInt8}{G:List Int}{g:Nat}{T:List UInt8}{wr w1:World} (h:TxC w pre G g T wr) (hb:Below wr.heap.size wr w1):TxC w pre G g T w1:=by
 obtain ⟨cur,hc⟩:=h.typ
 exact ⟨zkr h.bld hb,bk hb h.below,h.row.later hb,cur,by rw [hb.block g (Array.getElem?_eq_some_iff.1 hc).1];exact hc⟩
theorem TxC.wrote {w:World}{pre:List UInt8}{G:List Int}{g:Nat}{T:List UInt8}{s:ByteArray}{wr w1:World} (h:TxC w pre G g T wr)
 (hb:Lib.BuilderAtF 196 5 (w.heap.size+1) (w.heap.size+1) (.pointer (some ⟨w.heap.size+1,0,none⟩)) (Lib.byteCells (pre++T)++Lib.strCells s) w1) (hB:Below (w.heap.size+1) wr w1) (hO:Lib.OthersKept 5 (some (w.heap.size+1)) wr w1):TxC w pre G g (T++s.data.toList) w1:=by
 obtain ⟨cur,hc⟩:=h.typ
 have hne:g≠w.heap.size+1:=by
  rintro rfl
  rcases h.bld with ⟨_,v,e,_⟩ | ⟨_,v,e,_⟩
  ·rw [hc] at e;simp at e
  ·rw [hc] at e;simp at e
 have hg:w1.heap[g]? = some (.cells cur 200 (0,0)):=hO g _ hc (fun e=>hne (Option.some.inj e)) (fun c fz e=>by simp at e)
 have hgg:w1.heap[g]? = wr.heap[g]? := hg.trans hc.symm
 refine ⟨.inr ?_,h.below.trans (hB.mono (by omega)),fun k hk => ?_,cur,hg⟩
 ·have e:Lib.byteCells (pre++(T++s.data.toList))=Lib.byteCells (pre++T)++Lib.strCells s:=by simp [Lib.byteCells,Lib.strCells]
  rw [e];exact hb
 ·rw [World.cell?_of_block (w:=wr) (a:=⟨g,0+k,none⟩) hgg];exact h.row k hk
def topText (G:List Int) (i:Nat):List UInt8:=if i=0 then [] else Lib.decDigits (v19 (G.drop (G.length - i))).toNat
theorem topText_first {G:List Int}{u:Nat} (hp:0<G.length) (hu:nth G (G.length - 1)=u):[]++Lib.decDigits u=topText G 1:=by
 unfold topText
 rw [if_neg (by decide),v19_drop (by omega),hu,List.drop_eq_nil_of_le (by omega)]
 simp [v19]
theorem topText_next {G:List Int}{i u:Nat} (h:P19 G) (t:Trim G) (hi0:0<i) (hi:i<G.length) (hu:nth G (G.length - 1 - i)=u):topText G i++Lib.repeatL [48] (19 - (Lib.decDigits u).length)++Lib.decDigits u=topText G (i+1):=by
 have hu2:u<10000000000000000000:=by
  have:nth G (G.length - 1 - i)<p19:=by
   unfold nth
   rw [List.getElem?_eq_getElem (by omega)]
   exact (h _ (List.getElem_mem _)).2
  unfold p19 at this;omega
 have hv:=v19_pos h t (show G.length - i<G.length by omega)
 unfold topText
 rw [if_neg (by omega),if_neg (by omega),List.append_assoc,numeral_next hv hu2]
 congr 2
 rw [show G.length - (i+1)=G.length - 1 - i by omega,v19_drop (l:=G) (k:=G.length - 1 - i) (by omega),hu,show G.length - 1 - i+1=G.length - i by omega]
theorem topText_last {G:List Int} (hp:0<G.length):topText G G.length=Lib.decDigits (v19 G).toNat:=by
 unfold topText
 rw [if_neg (by omega),show G.length - G.length=0 by omega,List.drop_zero]
theorem text_far_pos (b off cap : Nat) (l : List Int) (w : World) (hr : Row w b off l) (hw : Ws l) (ht : Trim l) (hne : l ≠ []) (hl : l.length ≤ cap) (hcap : cap ≤ 9223372036854775807) (hsm : l.length ≤ 20000) (htab : Lib.TabIs Tryz.prog w "internal/strconv.uint64pow10" .u64 Lib.pow10Tab) :
 Calls Tryz.prog 66 #[.agg #[.int .i64 1,.slice (some ⟨b,off,none⟩) l.length cap]] w fun e w'=>e=.returned (.string ⟨(Lib.itoa (1*val l)).toArray⟩)/\Below w.heap.size w w':=by
 have hq:=eql_some b off l.length cap
 have HR:=qh hr
 have HTAB:=qh htab
 have HW:=qh hw
 have HT:=qh ht
 have HNE:=qh hne
 have k1:=zqa w (.cells #[.int .i64 1,.slice (some ⟨b,off,none⟩) l.length cap] 37)
 have k2:=zqa (w.alloc (.cells #[.int .i64 1,.slice (some ⟨b,off,none⟩) l.length cap] 37)) (.cells #[.pointer none,.slice none 0 0] 196)
 have B0:=bk k2 k1
 have nb:=builder_new (w.alloc (.cells #[.int .i64 1,.slice (some ⟨b,off,none⟩) l.length cap] 37)) (w.heap.size+1) (by simp)
 rw [show (w.alloc (.cells #[.int .i64 1,.slice (some ⟨b,off,none⟩) l.length cap] 37)).heap.size=w.heap.size+1 by simp] at nb
 have HB0:=qh B0
 have HNB:=qh nb
 have HZ1:=qh (ck k2 (show (w.alloc (.cells #[.int .i64 1,.slice (some ⟨b,off,none⟩) l.length cap] 37)).cell? ⟨w.heap.size,1,none⟩=some (.slice (some ⟨b,off,none⟩) l.length cap) by rw [zqe rfl];rfl))
 obtain ⟨RES,HRES⟩:∃ R,Hid ((⟨(Lib.itoa (1*val l)).toArray⟩:ByteArray)=R):=⟨_,rfl⟩
 rw [show (⟨(Lib.itoa (1*val l)).toArray⟩:ByteArray)=RES from uh HRES]
 clear hr htab hw ht hne k1 k2 B0 nb
 go_enter Tryz.func66,Tryz.ntmps66
 go_wp2_with fail
 go_fit (zqn 1 _ _)
 rintro e W2 ⟨rfl,hb2⟩
 have B2:=bk hb2 (uh HB0)
 have bld2:=zkr (uh HNB) hb2
 have z1:=ck hb2 (uh HZ1)
 have s2:w.heap.size+1<=W2.heap.size:=by have:=hb2.size;simp at this;omega
 rw [show sgn 1=1 from rfl]
 clear hb2
 go_wp2_with fail
 go_fit (groupsOf_any b off cap l _ ((uh HR).later B2) (uh HW) (uh HT) (uh HNE) hl hcap hsm)
 rintro e W4 ⟨⟨g,c,G,rfl,hrow,hP,hTr,hGne,hGl,hGc,hval,htyp⟩,hb4⟩
 have hGp:0<G.length:=List.length_pos_iff.2 hGne
 have hx:TxC w ([]:List UInt8) G g [] W4:=⟨by simpa [Lib.byteCells] using zkr bld2 hb4,bk hb4 B2,hrow,htyp⟩
 have HP:=qh hP
 have HTR:=qh hTr
 have HVAL:=qh hval
 clear hrow hP hTr hGne hval htyp hb4 bld2 B2 z1 s2
 go_wp2_with fail
 go_loopw [22] (fun v wr=>∃ (i:Nat) (T:List UInt8),i<=G.length/\v=.int .i64 i/\T.length<=19*i/\Hid (T=topText G i)/\TxC w ([]:List UInt8) G g T wr) (fun v _=>G.length - (intOf v).toNat)
 case atStart=>exact ⟨0,[],by omega,rfl,by simp,rfl,hx⟩
 case round =>
  obtain ⟨i,T,hi,rfl,hTl,HN,hk⟩:=hrel
  clear hx
  have hsz:=hk.size
  have HTL:=qh hTl
  clear hTl
  by_cases hlt:i<G.length
  ·have hlti:(i:Int)<G.length:=by omega
   have hc:=hk.row (G.length - 1 - i) (by omega)
   rw [Nat.zero_add] at hc
   have hb:=(uh HP) (nth G (G.length - 1 - i)) (by unfold nth;rw [List.getElem?_eq_getElem (by omega)];exact List.getElem_mem _)
   obtain ⟨u,hu⟩:∃ u:Nat,nth G (G.length - 1 - i)=u:=⟨(nth G (G.length - 1 - i)).toNat,by omega⟩
   rw [hu] at hc hb
   have hu19:u<10000000000000000000:=by have:=hb.2;unfold p19 at this;omega
   have HU:=qh hu
   have ht1:((G.length:Int) - 1 - i).toNat=G.length - 1 - i:=by omega
   have ht2:(0:Int)<=(G.length:Int) - 1 - i:=by omega
   clear hu hb
   obtain ⟨D,HD⟩:∃ D,Hid ((⟨(Lib.decDigits u).toArray⟩:ByteArray)=D):=⟨_,rfl⟩
   have hDl:D.data.toList=Lib.decDigits u:=by rw [<- uh HD]
   have hDs:D.size<=19:=by rw [Lib.size_eq,hDl];exact zjq hu19
   have HDL:=qh hDl
   clear hDl
   go_wp2_with fail
   go_fit (formatUint_any u (by omega) _ (zkq (uh HTAB) hk.below))
   rintro e W5 ⟨rfl,hb5⟩
   rw [uh HD]
   have k5:=hk.later hb5
   clear hb5 hk hc
   by_cases hi0:i=0
   ·subst hi0
    go_wp2_with fail
    go_fit (wstr_any (w.heap.size+1) (w.heap.size+1) _ D _ k5.bld (by have:=uh HTL;rw [Lib.byteCells_length,List.length_append];simp only [List.length_nil];omega) k5.size)
    rintro e W6 ⟨rfl,q1,q2,q3⟩
    have k6:=k5.wrote q1 q2 q3
    clear q1 q2 q3 k5
    go_wp2
    go_roundw
    case rel=>exact ⟨1,_,by omega,by go_num,by rw [List.length_append,<- Lib.size_eq];have:=uh HTL;omega,by
     show _=_
     rw [uh HDL,<- topText_first hGp (by have:=uh HU;simpa using this),uh HN]
     rfl,k6⟩
    case measure=>simp [intOf];omega
   ·have hi0i:(0:Int)<i:=by omega
    have hcc:(19:Int) - D.size=((19 - D.size:Nat):Int):=by omega
    go_wp2_with fail
    go_fit (Tryz.strings_Repeat ⟨#[48]⟩ (19 - D.size) _ (by omega) (by show 1*(19 - D.size)<=_;omega))
    rintro e W6 ⟨rfl,hb6⟩
    obtain ⟨Z,HZ⟩:∃ X,Hid ((⟨(Lib.repeatL (⟨#[48]⟩:ByteArray).data.toList (19 - D.size)).toArray⟩:ByteArray)=X):=⟨_,rfl⟩
    rw [uh HZ]
    have hZl:Z.data.toList=Lib.repeatL [48] (19 - D.size):=by rw [<- uh HZ]
    have hZs:Z.size=19 - D.size:=by rw [Lib.size_eq,hZl,repeat_len]
    have HZL:=qh hZl
    have HZS:=qh hZs
    have k6:=k5.later hb6
    clear hb6 k5 hZl hcc hZs
    go_wp2_with fail
    go_fit (wstr_any (w.heap.size+1) (w.heap.size+1) _ Z _ k6.bld (by have:=uh HZS;have:=uh HTL;rw [Lib.byteCells_length,List.length_append];simp only [List.length_nil];omega) k6.size)
    rintro e W7 ⟨rfl,q1,q2,q3⟩
    have k7:=k6.wrote q1 q2 q3
    clear q1 q2 q3 k6
    go_wp2_with fail
    go_fit (wstr_any (w.heap.size+1) (w.heap.size+1) _ D _ k7.bld (by have:=uh HZS;have:=uh HTL;rw [Lib.byteCells_length,List.length_append,List.length_append,<- Lib.size_eq];simp only [List.length_nil];omega) k7.size)
    rintro e W8 ⟨rfl,q1,q2,q3⟩
    have k8:=k7.wrote q1 q2 q3
    clear q1 q2 q3 k7
    go_wp2
    go_roundw
    case rel=>exact ⟨i+1,_,by omega,by go_num,by
     rw [List.length_append,List.length_append,<- Lib.size_eq,<- Lib.size_eq]
     have:=uh HZS
     have:=uh HTL
     omega,by
     show _=_
     rw [uh HDL,uh HZL,<- topText_next (uh HP) (uh HTR) (by omega) hlt (uh HU),uh HN]
     have e3:D.size=(Lib.decDigits u).length:=by rw [Lib.size_eq,uh HDL]
     rw [e3],k8⟩
    case measure=>simp [intOf];omega
  ·obtain rfl:i=G.length:=by omega
   have hlti:¬ (G.length:Int)<G.length:=by omega
   go_wp2_with fail
   go_fit (Tryz.Builder_String_any_k (w.heap.size+1) (w.heap.size+1) (([]:List UInt8)++T) _ hk.bld hk.size)
   rintro e W5 ⟨rfl,q1,q2,q3⟩
   have hB5:Below w.heap.size w W5:=hk.below.trans (q2.mono (by omega))
   have hres:(⟨(([]:List UInt8)++T).toArray⟩:ByteArray)=RES:=by
    rw [<- uh HRES,uh HN,topText_last hGp,uh HVAL]
    have hv:=zqg (uh HW)
    rw [Int.one_mul,Lib.itoa,if_neg (by omega)]
    rfl
   rw [hres]
   clear q1 q2 q3 hres
   go_wp2
   go_ret
   exact ⟨rfl,hB5⟩
theorem text_far_neg (b off cap : Nat) (l : List Int) (w : World) (hr : Row w b off l) (hw : Ws l) (ht : Trim l) (hne : l ≠ []) (hl : l.length ≤ cap) (hcap : cap ≤ 9223372036854775807) (hsm : l.length ≤ 20000) (htab : Lib.TabIs Tryz.prog w "internal/strconv.uint64pow10" .u64 Lib.pow10Tab) :
 Calls Tryz.prog 66 #[.agg #[.int .i64 (-1),.slice (some ⟨b,off,none⟩) l.length cap]] w fun e w'=>e=.returned (.string ⟨(Lib.itoa ((-1)*val l)).toArray⟩)/\Below w.heap.size w w':=by
 have hq:=eql_some b off l.length cap
 have HR:=qh hr
 have HTAB:=qh htab
 have HW:=qh hw
 have HT:=qh ht
 have HNE:=qh hne
 have k1:=zqa w (.cells #[.int .i64 (-1),.slice (some ⟨b,off,none⟩) l.length cap] 37)
 have k2:=zqa (w.alloc (.cells #[.int .i64 (-1),.slice (some ⟨b,off,none⟩) l.length cap] 37)) (.cells #[.pointer none,.slice none 0 0] 196)
 have B0:=bk k2 k1
 have nb:=builder_new (w.alloc (.cells #[.int .i64 (-1),.slice (some ⟨b,off,none⟩) l.length cap] 37)) (w.heap.size+1) (by simp)
 rw [show (w.alloc (.cells #[.int .i64 (-1),.slice (some ⟨b,off,none⟩) l.length cap] 37)).heap.size=w.heap.size+1 by simp] at nb
 have HB0:=qh B0
 have HNB:=qh nb
 have HZ1:=qh (ck k2 (show (w.alloc (.cells #[.int .i64 (-1),.slice (some ⟨b,off,none⟩) l.length cap] 37)).cell? ⟨w.heap.size,1,none⟩=some (.slice (some ⟨b,off,none⟩) l.length cap) by rw [zqe rfl];rfl))
 obtain ⟨RES,HRES⟩:∃ R,Hid ((⟨(Lib.itoa ((-1)*val l)).toArray⟩:ByteArray)=R):=⟨_,rfl⟩
 rw [show (⟨(Lib.itoa ((-1)*val l)).toArray⟩:ByteArray)=RES from uh HRES]
 clear hr htab hw ht hne k1 k2 B0 nb
 go_enter Tryz.func66,Tryz.ntmps66
 go_wp2_with fail
 go_fit (zqn (-1) _ _)
 rintro e W2 ⟨rfl,hb2⟩
 have B2:=bk hb2 (uh HB0)
 have bld2:=zkr (uh HNB) hb2
 have z1:=ck hb2 (uh HZ1)
 have s2:w.heap.size+1<=W2.heap.size:=by have:=hb2.size;simp at this;omega
 rw [show sgn (-1)=(-1) from rfl]
 clear hb2
 go_wp2_with fail
 go_fit (wbyte_any (w.heap.size+1) (w.heap.size+1) [] 45 _ bld2 (by simp) s2)
 rintro e W3 ⟨rfl,q1,q2,q3⟩
 have bld3:Lib.IsBuilderF 196 5 (w.heap.size+1) (w.heap.size+1) (Lib.byteCells [45]) W3:=.inr q1
 have B3:=B2.trans (q2.mono (by omega))
 have z1:=(q2.cell (p:=⟨w.heap.size,1,none⟩) (show w.heap.size<w.heap.size+1 by omega)).trans z1
 have s3:=q2.size
 clear q1 q2 q3 bld2 B2 s2
 go_wp2_with fail
 go_fit (groupsOf_any b off cap l _ ((uh HR).later B3) (uh HW) (uh HT) (uh HNE) hl hcap hsm)
 rintro e W4 ⟨⟨g,c,G,rfl,hrow,hP,hTr,hGne,hGl,hGc,hval,htyp⟩,hb4⟩
 have hGp:0<G.length:=List.length_pos_iff.2 hGne
 have hx:TxC w ([45]:List UInt8) G g [] W4:=⟨by simpa [Lib.byteCells] using zkr bld3 hb4,bk hb4 B3,hrow,htyp⟩
 have HP:=qh hP
 have HTR:=qh hTr
 have HVAL:=qh hval
 clear hrow hP hTr hGne hval htyp hb4 bld3 B3 z1 s3
 go_wp2_with fail
 go_loopw [22] (fun v wr=>∃ (i:Nat) (T:List UInt8),i<=G.length/\v=.int .i64 i/\T.length<=19*i/\Hid (T=topText G i)/\TxC w ([45]:List UInt8) G g T wr) (fun v _=>G.length - (intOf v).toNat)
 case atStart=>exact ⟨0,[],by omega,rfl,by simp,rfl,hx⟩
 case round =>
  obtain ⟨i,T,hi,rfl,hTl,HN,hk⟩:=hrel
  clear hx
  have hsz:=hk.size
  have HTL:=qh hTl
  clear hTl
  by_cases hlt:i<G.length
  ·have hlti:(i:Int)<G.length:=by omega
   have hc:=hk.row (G.length - 1 - i) (by omega)
   rw [Nat.zero_add] at hc
   have hb:=(uh HP) (nth G (G.length - 1 - i)) (by unfold nth;rw [List.getElem?_eq_getElem (by omega)];exact List.getElem_mem _)
   obtain ⟨u,hu⟩:∃ u:Nat,nth G (G.length - 1 - i)=u:=⟨(nth G (G.length - 1 - i)).toNat,by omega⟩
   rw [hu] at hc hb
   have hu19:u<10000000000000000000:=by have:=hb.2;unfold p19 at this;omega
   have HU:=qh hu
   have ht1:((G.length:Int) - 1 - i).toNat=G.length - 1 - i:=by omega
   have ht2:(0:Int)<=(G.length:Int) - 1 - i:=by omega
   clear hu hb
   obtain ⟨D,HD⟩:∃ D,Hid ((⟨(Lib.decDigits u).toArray⟩:ByteArray)=D):=⟨_,rfl⟩
   have hDl:D.data.toList=Lib.decDigits u:=by rw [<- uh HD]
   have hDs:D.size<=19:=by rw [Lib.size_eq,hDl];exact zjq hu19
   have HDL:=qh hDl
   clear hDl
   go_wp2_with fail
   go_fit (formatUint_any u (by omega) _ (zkq (uh HTAB) hk.below))
   rintro e W5 ⟨rfl,hb5⟩
   rw [uh HD]
   have k5:=hk.later hb5
   clear hb5 hk hc
   by_cases hi0:i=0
   ·subst hi0
    go_wp2_with fail
    go_fit (wstr_any (w.heap.size+1) (w.heap.size+1) _ D _ k5.bld (by have:=uh HTL;rw [Lib.byteCells_length,List.length_append];simp only [List.length_nil,List.length_cons];omega) k5.size)
    rintro e W6 ⟨rfl,q1,q2,q3⟩
    have k6:=k5.wrote q1 q2 q3
    clear q1 q2 q3 k5
    go_wp2
    go_roundw
    case rel=>exact ⟨1,_,by omega,by go_num,by rw [List.length_append,<- Lib.size_eq];have:=uh HTL;omega,by
     show _=_
     rw [uh HDL,<- topText_first hGp (by have:=uh HU;simpa using this),uh HN]
     rfl,k6⟩
    case measure=>simp [intOf];omega
   ·have hi0i:(0:Int)<i:=by omega
    have hcc:(19:Int) - D.size=((19 - D.size:Nat):Int):=by omega
    go_wp2_with fail
    go_fit (Tryz.strings_Repeat ⟨#[48]⟩ (19 - D.size) _ (by omega) (by show 1*(19 - D.size)<=_;omega))
    rintro e W6 ⟨rfl,hb6⟩
    obtain ⟨Z,HZ⟩:∃ X,Hid ((⟨(Lib.repeatL (⟨#[48]⟩:ByteArray).data.toList (19 - D.size)).toArray⟩:ByteArray)=X):=⟨_,rfl⟩
    rw [uh HZ]
    have hZl:Z.data.toList=Lib.repeatL [48] (19 - D.size):=by rw [<- uh HZ]
    have hZs:Z.size=19 - D.size:=by rw [Lib.size_eq,hZl,repeat_len]
    have HZL:=qh hZl
    have HZS:=qh hZs
    have k6:=k5.later hb6
    clear hb6 k5 hZl hcc hZs
    go_wp2_with fail
    go_fit (wstr_any (w.heap.size+1) (w.heap.size+1) _ Z _ k6.bld (by have:=uh HZS;have:=uh HTL;rw [Lib.byteCells_length,List.length_append];simp only [List.length_nil,List.length_cons];omega) k6.size)
    rintro e W7 ⟨rfl,q1,q2,q3⟩
    have k7:=k6.wrote q1 q2 q3
    clear q1 q2 q3 k6
    go_wp2_with fail
    go_fit (wstr_any (w.heap.size+1) (w.heap.size+1) _ D _ k7.bld (by have:=uh HZS;have:=uh HTL;rw [Lib.byteCells_length,List.length_append,List.length_append,<- Lib.size_eq];simp only [List.length_nil,List.length_cons];omega) k7.size)
    rintro e W8 ⟨rfl,q1,q2,q3⟩
    have k8:=k7.wrote q1 q2 q3
    clear q1 q2 q3 k7
    go_wp2
    go_roundw
    case rel=>exact ⟨i+1,_,by omega,by go_num,by
     rw [List.length_append,List.length_append,<- Lib.size_eq,<- Lib.size_eq]
     have:=uh HZS
     have:=uh HTL
     omega,by
     show _=_
     rw [uh HDL,uh HZL,<- topText_next (uh HP) (uh HTR) (by omega) hlt (uh HU),uh HN]
     have e3:D.size=(Lib.decDigits u).length:=by rw [Lib.size_eq,uh HDL]
     rw [e3],k8⟩
    case measure=>simp [intOf];omega
  ·obtain rfl:i=G.length:=by omega
   have hlti:¬ (G.length:Int)<G.length:=by omega
   go_wp2_with fail
   go_fit (Tryz.Builder_String_any_k (w.heap.size+1) (w.heap.size+1) (([45]:List UInt8)++T) _ hk.bld hk.size)
   rintro e W5 ⟨rfl,q1,q2,q3⟩
   have hB5:Below w.heap.size w W5:=hk.below.trans (q2.mono (by omega))
   have hres:(⟨(([45]:List UInt8)++T).toArray⟩:ByteArray)=RES:=by
    rw [<- uh HRES,uh HN,topText_last hGp,uh HVAL]
    have hv:=zqg (uh HW)
    have hv2:=val_ge (uh HW) (uh HT) (uh HNE)
    have hv3:=zkm (l.length - 1)
    rw [show (-1:Int)*val l = -val l by omega,Lib.itoa,if_pos (by omega),show (-val l).natAbs=(val l).toNat by omega]
    rfl
   rw [hres]
   clear q1 q2 q3 hres
   go_wp2
   go_ret
   exact ⟨rfl,hB5⟩
theorem text_any {N : Nat} {v : Value} {z : Int} (w : World) (h : Zr N w v z) (hN : N ≤ 20000) (htab : Lib.TabIs Tryz.prog w "internal/strconv.uint64pow10" .u64 Lib.pow10Tab) :
 Calls Tryz.prog 66 #[v] w fun e w'=>e=.returned (.string ⟨(Lib.itoa z).toArray⟩)/\Below w.heap.size w w':=by
 rcases h with ⟨rfl,h0,h1⟩ | ⟨s,b,off,cap,l,rfl,hs,hws,htr,hne,rfl,hlN,hlc,hcap,hrow,_⟩
 ·exact text_near z h0 h1 w htab
 ·rcases hs with rfl | rfl
  ·exact text_far_pos b off cap l w hrow hws htr hne hlc hcap (by omega) htab
  ·exact text_far_neg b off cap l w hrow hws htr hne hlc hcap (by omega) htab
end Go.Proofs.YtkdobjmhammhbaaGreatDoor
