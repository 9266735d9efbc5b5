import Derived.Test.YtkifiolkfdicoaaGreatDoorMNQ
namespace Go.Proofs.YtkifiolkfdicoaaGreatDoor
theorem pw_tk:∀ n,pw n≤10000 ^ (5*n)
 | 0=>by rw [Nat.mul_zero,Int.pow_zero];exact Int.le_refl _
 | n+1=>by
   have ih:=pw_tk n
   have h0:=zqu n
   rw [zxf,Nat.mul_add,Nat.mul_one,Int.pow_add,show (10000:Int) ^ 5=100000000000000000000 from rfl]
   generalize (10000:Int) ^ (5*n)=x at *
   omega
theorem pw_tk' (n:Nat):pw (n+1)<10000 ^ (5*n+5):=by
 have ih:=pw_tk n
 have h0:=zqu n
 rw [zxf,Int.pow_add,show (10000:Int) ^ 5=100000000000000000000 from rfl]
 generalize (10000:Int) ^ (5*n)=x at *
 omega
theorem pw_nat (n:Nat):((pw n).natAbs:Int)=pw n:=by have:=zqu n;omega
theorem zko (a b:Nat):(pw a).natAbs*(pw b).natAbs=(pw (a+b)).natAbs:=by rw [← Int.natAbs_mul,← pw_add]
theorem zkp (n:Nat):1≤(pw n).natAbs:=by have:=zqu n;omega
theorem pw_abs_mono {a b:Nat} (h:a≤b):(pw a).natAbs≤(pw b).natAbs:=by have:=zjl h;have:=zqu a;omega
def Both (n m:Nat) (Z:List (List Int)) (L:List (List (Int×Int))) (j:Nat):Prop:=∃ b A sg,RelD n m b (redZ Z j) (redD L j)∧InvZ Z m j (redZ Z j) A sg∧∀ i,i<n→(b i).1.natAbs≤(pw 625).natAbs∧(b i).2.natAbs≤(pw 78).natAbs
theorem Both.next {n m j:Nat}{Z:List (List Int)}{L:List (List (Int×Int))} (h:Both n m Z L j) (hn:Z.length=n) (hj:j<m):Both n m Z L (j+1):=by
 obtain ⟨b,A,sg,hR,hI,hb⟩:=h
 rcases ha:pz (redZ Z j).1 j (redZ Z j).2.2.length with _ | a
 · exact ⟨b,A,sg,hR.none hI hn hj ha,hI.none ha,hb⟩
 · obtain ⟨h1,h2,_⟩:=pz_some ha
   have hl:=hI.len
   refine ⟨_,_,sg,hR.found hI hn hj ha,(hI.found ha).1,fun i hi => ?_⟩
   show (if i=_ then ((1:Int),(1:Int)) else b _).1.natAbs≤_∧(if i=_ then ((1:Int),(1:Int)) else b _).2.natAbs≤_
   split
   · exact ⟨zkp _,zkp _⟩
   · exact hb _ (swp_lt (by omega) (by omega) hi)
theorem both_all {n m:Nat}{Z:List (List Int)}{L:List (List (Int×Int))} (h0:Both n m Z L 0) (hn:Z.length=n):∀ j,j≤m→Both n m Z L j
 | 0,_=>h0
 | j+1,hj=>(both_all h0 hn j (by omega)).next hn (by omega)
theorem en_abs {Z:List (List Int)}{m j:Nat} (hw:∀ r ∈ Z,r.length=m) (hn:Z.length≤6) (hj:j≤m) (hb:∀ z ∈ Z,∀ y ∈ z,-pw 547<y∧y<pw 547) (i c:Nat) (hi:i<Z.length):(en (redZ Z j).1 i c).natAbs≤(pw 3288).natAbs:=by
 have:=redZ_in hw hn hj hb i c hi
 have:=zqu 3288
 omega
theorem Both.good {n m j a:Nat}{Z:List (List Int)}{L:List (List (Int×Int))} (h:Both n m Z L j) (hn:Z.length=n) (hn6:n≤6) (hw:∀ r ∈ Z,r.length=m) (hb:∀ z ∈ Z,∀ y ∈ z,-pw 547<y∧y<pw 547) (hj:j<m) (ha:pv (redD L j).1 j (redD L j).2.length=some a):GoodR (5*3912+5) (5*7200+5) (redD L j).1 (redD L j).2.length a j:=by
 obtain ⟨b,A,sg,hR,hI,hbb⟩:=h
 have hpv:=hR.pv hI.bar.q0 (by rw [hI.len,hn]) hj
 rw [ha] at hpv
 have e1:(pw 3288).natAbs*(pw 625).natAbs=(pw (3912+1)).natAbs:=zko _ _
 have e2:(pw 3288).natAbs*(pw 78).natAbs≤(pw (3912+1)).natAbs:=by rw [zko];exact pw_abs_mono (by decide)
 have e3:(pw 3288).natAbs*((pw 3288).natAbs*(pw 625).natAbs)=(pw (7200+1)).natAbs:=by rw [zko,zko]
 have e4:(pw 3288).natAbs*((pw 3288).natAbs*(pw 78).natAbs)≤(pw (7200+1)).natAbs:=by rw [zko,zko];exact pw_abs_mono (by decide)
 have t1:=pw_tk' 3912
 have t2:=pw_tk' 7200
 have n1:=pw_nat (3912+1)
 have n2:=pw_nat (7200+1)
 refine hR.good (R0:=Z) (B:=(pw 3288).natAbs) (B1:=(pw 625).natAbs) (B2:=(pw 78).natAbs) hI hn hj hpv.symm (zkp _) (fun i c hi=>en_abs hw (by omega) (by omega) hb i c (by omega)) (fun i c hi=>en_abs (j:=j+1) hw (by omega) (by omega) hb i c (by omega)) hbb (zkp _) (zkp _) ⟨?_,?_⟩ ⟨?_,?_⟩
 · rw [e1,n1];exact t1
 · exact Int.lt_of_le_of_lt (by rw [← n1];exact Int.ofNat_le.2 e2) t1
 · rw [e3,n2];exact t2
 · exact Int.lt_of_le_of_lt (by rw [← n2];exact Int.ofNat_le.2 e4) t2
theorem Both.last {n m:Nat}{Z:List (List Int)}{L M:List (List (Int×Int))} (h:Both n m Z L m) (hn:Z.length=n) (hM:Ovr (redZ Z m).1 (redZ Z m).2.1 M):M=(redD L m).1∧(redZ Z m).2.2=(redD L m).2:=by
 obtain ⟨b,A,sg,hR,hI,hbb⟩:=h
 obtain ⟨hl,he⟩:=hM
 have hzl:(redZ Z m).1.length=n:=by rw [hI.len,hn]
 refine ⟨List.ext_getElem? fun i => ?_,hR.F.symm⟩
 rcases Nat.lt_or_ge i n with hi | hi
 · obtain ⟨x,hx⟩:∃ x,M[i]? = some x:=⟨M[i]'(by omega),by simp⟩
   obtain ⟨d,hd⟩:∃ x,(redD L m).1[i]? = some x:=⟨(redD L m).1[i]'(by rw [hR.len];omega),by simp⟩
   obtain ⟨r,hr⟩:∃ x,(redZ Z m).1[i]? = some x:=⟨(redZ Z m).1[i]'(by omega),by simp⟩
   obtain ⟨h1,h2⟩:=he i r x hr hx
   have hrl:=hI.wide r (List.mem_of_getElem? hr)
   have hdl:=hR.wide d (List.mem_of_getElem? hd)
   rw [hx,hd]
   congr 1
   refine List.ext_getElem? fun c => ?_
   rcases Nat.lt_or_ge c m with hc | hc
   · obtain ⟨y,hy⟩:∃ y,x[c]? = some y:=⟨x[c]'(by omega),by simp⟩
     obtain ⟨z,hz⟩:∃ y,r[c]? = some y:=⟨r[c]'(by omega),by simp⟩
     obtain ⟨u,hu⟩:∃ y,d[c]? = some y:=⟨d[c]'(by omega),by simp⟩
     obtain ⟨k1,k2,k3⟩:=h2 c z y hz hy
     have:=hR.last hI hn hi hc (P:=y.1) (D:=y.2) (by rw [en_of hr hz];exact k1) k2 k3
     rw [fr_at hd hu] at this
     rw [hy,hu,this]
   · rw [List.getElem?_eq_none (by omega),List.getElem?_eq_none (by omega)]
 · rw [List.getElem?_eq_none (by omega),List.getElem?_eq_none (by rw [hR.len];omega)]
theorem both_start {n m:Nat}{Z:List (List Int)}{L:List (List (Int×Int))} (hL:L.length=n) (hZ:Z.length=n) (hLw:∀ r ∈ L,r.length=m) (hZw:∀ r ∈ Z,r.length=m) (hLl:∀ r ∈ L,∀ y ∈ r,0<y.2∧Int.gcd y.1 y.2=1∧y.2<pw 78 ∧ -pw 78<y.1∧y.1<pw 78) (hZl:∀ z ∈ Z,∀ y ∈ z,-pw 547<y∧y<pw 547) (hs:ScA L Z):Both n m Z L 0:=by
 have p78:=zqu 78
 have p547:=zqu 547
 obtain ⟨b,h1,h2⟩:=rel_start (B1:=(pw 625).natAbs) (B2:=(pw 78).natAbs) (M:=(pw 547).natAbs) hL hZ hLw hZw (fun r hr y hy=>by have:=hLl r hr y hy;exact ⟨this.1,this.2.1,by omega,by omega⟩) (fun z hz v hv=>by have:=hZl z hz v hv;omega) (by rw [zko];exact Nat.le_refl _) (zkp _) (zkp _) hs
 exact ⟨b,_,_,h1,InvZ.start hZw,h2⟩
open Go.RowKit
set_option maxHeartbeats 4000000 in
set_option maxRecDepth 8000 in
theorem sameInts_any {v v':Value}{l:List Nat} (w:World) (h:Rows 1 IE w v l) (h':Rows 1 IE w v' l) (hl:l.length≤100000000) :
   Calls Tryz.prog 79 #[v,v'] w fun e w'=>e=.returned (.bool true)∧Below w.heap.size w w':=by
 obtain ⟨sa,sc,rfl⟩:=h.shape
 obtain ⟨ta,tc,rfl⟩:=h'.shape
 have HR:=qh h
 have HR':=qh h'
 clear h h'
 go_enter Tryz.func79,Tryz.ntmps79
 go_wp2_with fail
 go_loopg [5] l.length (fun gk iv wr=>∃ (i:Nat),i≤l.length∧gk=l.length - i∧iv=.int .i64 (i:Int)∧Hid (Below w.heap.size w wr))
 case atStart=>exact ⟨0,by omega,by omega,rfl,qh (Below.refl _ _)⟩
 case round =>
   obtain ⟨i,hi,hgk,rfl,HB⟩:=hrel
   by_cases hil:i<l.length
   · obtain ⟨s,hs⟩:∃ s,l[i]? = some s:=⟨l[i],by simp [hil]⟩
     obtain ⟨b,o,rfl,cs,_,hcs,rfl⟩:=(uh HR).at hs
     obtain ⟨b',o',rfl,cs,_,hcs',rfl⟩:=(uh HR').at hs
     have c0:wr.cell? ⟨b,o+i,none⟩=some (.int .i64 (s:Int)):=ck (uh HB) (by simpa using hcs 0 _ rfl)
     have c1:wr.cell? ⟨b',o'+i,none⟩=some (.int .i64 (s:Int)):=ck (uh HB) (by simpa using hcs' 0 _ rfl)
     have hil':(i:Int)<(l.length:Int):=by omega
     clear hs hcs hcs'
     go_upto_region 6 with fail
     go_quiet (fail)
     have HB':=qh (zqh (uh HB) nq)
     go_wp2
     go_roundg (l.length - (i+1))
     case measure=>omega
     case rel=>exact ⟨i+1,by omega,rfl,by go_num,HB'⟩
   · obtain rfl:i=l.length:=by omega
     go_wp2
     go_ret
     exact ⟨rfl,uh HB⟩
theorem allOf_rows {l:List (List ByteArray)}{L:List (List (Int×Int))}{n:Nat} (h:numss l=some L) (hl:∀ r ∈ l,r.length≤n):∀ r ∈ L,r.length≤n:=by
 intro r hr
 obtain ⟨i,hi⟩:=List.getElem?_of_mem hr
 have hlen:=zjo h
 have hil:=(List.getElem?_eq_some_iff.1 hi).1
 obtain ⟨s,hs⟩:∃ s,l[i]? = some s:=⟨l[i]'(by omega),by simp⟩
 obtain ⟨x,hx,hn⟩:=allOf_at h hs
 rw [hi] at hx
 obtain rfl:r=x:=by simpa using hx
 rw [zjo hn]
 exact hl s (List.mem_of_getElem? hs)
theorem tab_ents {w:World}{v:Value}{L:List (List (Int×Int))} (h:Rows 1 (LE 4 (RE (77+1))) w v L):∀ r ∈ L,∀ y ∈ r,0<y.2∧Int.gcd y.1 y.2=1∧y.2<pw (77+1) ∧ -pw (77+1)<y.1∧y.1<pw (77+1):=by
 intro r hr y hy
 obtain ⟨i,hi⟩:=List.getElem?_of_mem hr
 obtain ⟨c,hc⟩:=List.getElem?_of_mem hy
 obtain ⟨a,e,rfl⟩:=h.shape
 obtain ⟨_,_,_,_,_,_,u,_,hu⟩:=h.at hi
 obtain ⟨a,e,rfl⟩:=hu.shape
 obtain ⟨_,_,_,cs,_,_,y1,y2,y3,y4,y5,y6,y7,y8,_,hR⟩:=hu.at hc
 exact ⟨hR.posD,hR.lowD,hR.den.2⟩
theorem Rows.mono2 {N T:Nat}{w:World}{v:Value}{L:List (List (Int×Int))} (h:Rows 1 (LE 4 (QE N)) w v L) (hT:N≤T):Rows 1 (LE 4 (QE T)) w v L:=by
 obtain ⟨a,c,h1,h2,h3,h4⟩:=h
 refine ⟨a,c,h1,h2,h3,?_⟩
 rcases h4 with h4 | ⟨b,o,h4,h5⟩
 · exact Or.inl h4
 · refine Or.inr ⟨b,o,h4,fun i x hx => ?_⟩
   obtain ⟨cs,hl,hcs,u,e,⟨a',c',k1,k2,k3,k4⟩⟩:=h5 i x hx
   refine ⟨cs,hl,hcs,u,e,⟨a',c',k1,k2,k3,?_⟩⟩
   rcases k4 with k4 | ⟨b',o',k4,k5⟩
   · exact Or.inl k4
   · refine Or.inr ⟨b',o',k4,fun i x hx => ?_⟩
     obtain ⟨cs,hl,hcs,x1,x2,x3,x4,x5,x6,x7,x8,e,hq⟩:=k5 i x hx
     exact ⟨cs,hl,hcs,x1,x2,x3,x4,x5,x6,x7,x8,e,hq.mono hT⟩
theorem isTab_wide {L:List (List (Int×Int))} (h:isTab L):∀ r ∈ L,r.length=wide L:=fun _ hr=>(tab_wide h hr).symm
set_option maxHeartbeats 16000000 in
set_option maxRecDepth 8000 in
theorem matrixReduced_law {A:Nat→Addr}{v:Value}{l:List (List ByteArray)} (w:World) (hA:Env A w) (hS:Sents w A) (h:Rows 1 (LE 1 TE) w v l) (hl:l.length≤100000000) (hl2:∀ r ∈ l,r.length≤100000000) :
   Calls Tryz.prog 10 #[v] w fun e w'=>e=.returned (.bool true)∧Below w.heap.size w w':=by
 obtain ⟨sa,sc,rfl⟩:=h.shape
 have HA:=qh hA
 have HS:=qh hS
 have HR:=qh h
 have HB:=qh (And.intro hl hl2)
 clear h hA hS hl hl2
 go_enter Tryz.func10,Tryz.ntmps10
 go_wp2_with fail
 go_fit (rrows_any _ (uh HR) (uh HB).1 (uh HB).2)
 rintro e W1 ⟨hc1,B1⟩
 obtain ⟨va,ok1,rfl,HC1⟩:∃ va ok1,e=.returned (.tuple #[va,.bool ok1])∧Hid ((ok1=false)∨(ok1=true∧∃ L,numss l=some L∧Rows 1 (LE 4 (QE 362)) W1 va L)):=by
   rcases hc1 with ⟨_,rfl⟩ | ⟨L,v,hL,rfl,hr⟩
   · exact ⟨_,_,rfl,qh (Or.inl rfl)⟩
   · exact ⟨_,_,rfl,qh (Or.inr ⟨rfl,L,hL,hr⟩)⟩
 clear hc1
 have BB:=qh B1
 clear B1
 go_wp2_with fail
 go_fit (small_any _ ((uh HR).later (tss_stays 0) (uh BB)) (uh HB).1 (uh HB).2)
 rintro e W3 ⟨⟨f1,rfl,hf1⟩,B3⟩
 have HF1:=qh hf1
 have BB:=qh (bk B3 (uh BB))
 have B3:=qh B3
 clear hf1
 rcases uh HC1 with rfl | ⟨rfl,L,hL,hRa⟩
 · go_wp2
   go_ret
   exact ⟨rfl,uh BB⟩
 rcases f1 with _ | _
 · go_wp2
   go_ret
   exact ⟨rfl,uh BB⟩
 have hl6:=uh HF1 rfl
 have HLM:=qh (show L.length≤6∧(∀ r ∈ L,r.length≤6) from ⟨by rw [zjo hL];exact hl6.1,allOf_rows hL hl6.2⟩)
 have HNL:=qh hL
 have HQa:=qh (hRa.later (zqk 362 (e:=0) (by decide)) (uh B3))
 obtain ⟨qa,qc,rfl⟩:=hRa.shape
 clear HC1 HF1 hl6 hL hRa B3
 go_wp2_with fail
 go_fit (prows_any _ ((uh HA).later (uh BB)) ((uh HR).later (tss_stays 0) (uh BB)) (uh HB).1 (uh HB).2 (uh HNL))
 rintro e W5 ⟨⟨vx,rfl,hx⟩,B5⟩
 have BB:=qh (bk B5 (uh BB))
 have HQa:=qh ((uh HQa).later (zqk 362 (e:=0) (by decide)) B5)
 have HX:=qh hx
 clear B5 hx
 obtain ⟨xa,xc,hxs⟩:=(uh HX).shape
 subst hxs
 go_wp2_with fail
 go_fit (mreduced_any _ ((uh HA).later (uh BB)) ((uh HS).later (uh BB)) (uh HX) (uh HLM).1 (uh HLM).2)
 rintro e W7 ⟨hc,B7⟩
 have BB:=qh (bk B7 (uh BB))
 have HQa:=qh ((uh HQa).later (zqk 362 (e:=0) (by decide)) B7)
 have HX:=qh ((uh HX).later (zxp 78 0) B7)
 clear B7
 obtain ⟨vm,vu,ve,rfl,HC⟩:∃ vm vu ve,e=.returned (.tuple #[vm,vu,ve])∧Hid ((¬ isTab L∧vm=.slice none 0 0∧vu=.slice none 0 0∧ve=.iface 307 (.pointer (some (A 3))))∨(isTab L∧ve=.nilIface∧∃ Z M,Z.length=L.length∧(∀ z ∈ Z,z.length=wide L)∧(∀ z ∈ Z,∀ y ∈ z,-pw 547<y∧y<pw 547)∧ScA L Z∧Ovr (redZ Z (wide L)).1 (redZ Z (wide L)).2.1 M∧Rows 1 (LE 4 (RE 20000)) W7 vm M∧Rows 1 IE W7 vu (redZ Z (wide L)).2.2)):=by
   rcases hc with ⟨h1,rfl⟩ | ⟨h1,v,u,Z,M,rfl,h2⟩
   · exact ⟨_,_,_,rfl,qh (Or.inl ⟨h1,rfl,rfl,rfl⟩)⟩
   · exact ⟨_,_,_,rfl,qh (Or.inr ⟨h1,rfl,Z,M,h2⟩)⟩
 clear hc
 go_wp2_with fail
 go_fit (ristable_any _ (uh HQa) (by have:=uh HLM;omega) (fun r hr=>by have:=(uh HLM).2 r hr;omega))
 rintro e W8 ⟨⟨t1,rfl,ht1⟩,B8⟩
 have HT1:=qh ht1
 have BB:=qh (bk B8 (uh BB))
 have HQa:=qh ((uh HQa).later (zqk 362 (e:=0) (by decide)) B8)
 have HX:=qh ((uh HX).later (zxp 78 0) B8)
 have B7:=qh B8
 clear B8 ht1
 rcases uh HC with ⟨hno,rfl,rfl,rfl⟩ | ⟨hyes,rfl,Z,M,hZ1,hZ2,hZ3,hZ4,hZ5,hM,hU⟩
 · obtain rfl:t1=false:=by
     cases t1
     · rfl
     · exact absurd ((uh HT1).1 rfl) hno
   clear hno HC
   go_wp2_with fail
   go_fit (coded_any A _ 3 (by decide) ((uh HS).later (uh BB)))
   rintro e W10 ⟨rfl,B10⟩
   have BB:=qh (bk B10 (uh BB))
   clear B10
   go_wp2
   go_ret
   exact ⟨rfl,uh BB⟩
 · obtain rfl:t1=true:=(uh HT1).2 hyes
   have hent:=tab_ents (uh HX)
   have hb0:=both_start (n:=L.length) (m:=wide L) rfl hZ1 (isTab_wide hyes) hZ2 (fun r hr y hy=>hent r hr y hy) hZ3 hZ4
   have hball:=both_all hb0 hZ1
   have hlast:=(hball (wide L) (Nat.le_refl _)).last hZ1 hZ5
   have HBA:=qh hball
   have HLA:=qh hlast
   have HZZ:=qh (And.intro hZ1 (And.intro hZ2 hZ3))
   have HY:=qh hyes
   have hw6:wide L≤6:=wide_le (uh HLM).2
   have HM:=qh (hM.later (zxp 20000 0) (uh B7))
   have HU:=qh (hU.later (IE.stays IsNum 0) (uh B7))
   obtain ⟨ma,mc,rfl⟩:=hM.shape
   obtain ⟨ua,uc,rfl⟩:=hU.shape
   obtain ⟨ml,hml⟩:∃ n,n=M.length:=⟨_,rfl⟩
   obtain ⟨ul,hul⟩:∃ n,n=(redZ Z (wide L)).2.2.length:=⟨_,rfl⟩
   rw [← hml] at HM ⊢
   rw [← hul] at HU ⊢
   rw [(uh HLA).1] at HM
   rw [(uh HLA).2] at HU
   clear HC hyes hM hU HT1 B7 hent hb0 hball hlast hZ1 hZ2 hZ3 hZ4 hZ5 hml hul
   go_wp2_with fail
   go_fit (rreduced_any (N:=5*3912+5) (T:=5*7200+5) _ ((uh HQa).mono2 (by decide)) (isTab_wide (uh HY)) (uh HLM).1 hw6 (by decide) (by decide) (fun j a hj ha=>(uh HBA j (by omega)).good (uh HZZ).1 (uh HLM).1 (uh HZZ).2.1 (uh HZZ).2.2 hj ha))
   rintro e W9 ⟨⟨vd,vf,rfl,hD,hFi⟩,B9⟩
   have BB:=qh (bk B9 (uh BB))
   have HQa:=qh ((uh HQa).later (zqk 362 (e:=0) (by decide)) B9)
   have HX:=qh ((uh HX).later (zxp 78 0) B9)
   have HM:=qh ((uh HM).later (zxp 20000 0) B9)
   have HU:=qh ((uh HU).later (IE.stays IsNum 0) B9)
   have HD:=qh hD
   have HFI:=qh hFi
   obtain ⟨da,dc,rfl⟩:=hD.shape
   obtain ⟨fa,fc,rfl⟩:=hFi.shape
   have HRL:=qh (redD_len L (wide L))
   have HRW:=qh (redD_wide (isTab_wide (uh HY)) (wide L))
   obtain ⟨DD,hDD⟩:∃ D,D=(redD L (wide L)).1:=⟨_,rfl⟩
   obtain ⟨FF,hFF⟩:∃ D,D=(redD L (wide L)).2:=⟨_,rfl⟩
   rw [← hDD] at HM HD HRL HRW ⊢
   rw [← hFF] at HU HFI HRL ⊢
   obtain ⟨dl,hdl⟩:∃ n,n=DD.length:=⟨_,rfl⟩
   obtain ⟨fl,hfl⟩:∃ n,n=FF.length:=⟨_,rfl⟩
   rw [← hdl] at HD ⊢
   rw [← hfl] at HFI ⊢
   clear hD hFi B9 hDD hFF hdl hfl HBA HLA HZZ
   have HDL:=qh (show DD.length≤100000000∧(∀ r ∈ DD,r.length≤100000000)∧FF.length≤100000000 from ⟨by rw [(uh HRL).1];have:=(uh HLM).1;omega,fun r hr=>by rw [uh HRW r hr];omega,by have:=(uh HRL).2;omega⟩)
   go_wp2_with fail
   go_fit (rowTexts_any _ ((uh HA).later (uh BB)) (uh HM) (uh HDL).1 (uh HDL).2.1 (by decide))
   rintro e W11 ⟨⟨vt,rfl,ht⟩,B11⟩
   have BB:=qh (bk B11 (uh BB))
   have HQa:=qh ((uh HQa).later (zqk 362 (e:=0) (by decide)) B11)
   have HX:=qh ((uh HX).later (zxp 78 0) B11)
   have HU:=qh ((uh HU).later (IE.stays IsNum 0) B11)
   have HD:=qh ((uh HD).later (zqk (5*3912+5) (e:=0) (by decide)) B11)
   have HFI:=qh ((uh HFI).later (IE.stays IsNum 0) B11)
   have HT:=qh ht
   obtain ⟨ta,tc,rfl⟩:=ht.shape
   clear B11 ht HM
   obtain ⟨tl,htl⟩:∃ n,n=(DD.map fun r=>r.map qt).length:=⟨_,rfl⟩
   rw [← htl] at HT ⊢
   clear htl
   go_wp2_with fail
   go_fit (sameRows_any _ (uh HT) (uh HD) (uh HDL).1 (uh HDL).2.1 (by decide))
   rintro e W12 ⟨rfl,B12⟩
   have BB:=qh (bk B12 (uh BB))
   have HQa:=qh ((uh HQa).later (zqk 362 (e:=0) (by decide)) B12)
   have HX:=qh ((uh HX).later (zxp 78 0) B12)
   have HU:=qh ((uh HU).later (IE.stays IsNum 0) B12)
   have HFI:=qh ((uh HFI).later (IE.stays IsNum 0) B12)
   clear B12 HT HD
   go_wp2_with fail
   go_fit (sameInts_any _ (uh HU) (uh HFI) (uh HDL).2.2)
   rintro e W13 ⟨rfl,B13⟩
   have BB:=qh (bk B13 (uh BB))
   have HQa:=qh ((uh HQa).later (zqk 362 (e:=0) (by decide)) B13)
   have HX:=qh ((uh HX).later (zxp 78 0) B13)
   clear B13 HU HFI
   go_wp2_with fail
   go_fit (rowTexts_any _ ((uh HA).later (uh BB)) (uh HX) (by have:=(uh HLM).1;omega) (fun r hr=>by have:=(uh HLM).2 r hr;omega) (by decide))
   rintro e W14 ⟨⟨vk,rfl,hk⟩,B14⟩
   have BB:=qh (bk B14 (uh BB))
   have HQa:=qh ((uh HQa).later (zqk 362 (e:=0) (by decide)) B14)
   have HK:=qh hk
   obtain ⟨ka,kc,rfl⟩:=hk.shape
   clear B14 hk HX
   obtain ⟨kl,hkl⟩:∃ n,n=(L.map fun r=>r.map qt).length:=⟨_,rfl⟩
   rw [← hkl] at HK ⊢
   clear hkl
   go_wp2_with fail
   go_fit (sameRows_any _ (uh HK) (uh HQa) (by have:=(uh HLM).1;omega) (fun r hr=>by have:=(uh HLM).2 r hr;omega) (by decide))
   rintro e W15 ⟨rfl,B15⟩
   have BB:=qh (bk B15 (uh BB))
   clear B15
   go_wp2
   go_ret
   exact ⟨rfl,uh BB⟩
end Go.Proofs.YtkifiolkfdicoaaGreatDoor
