import Derived.Test.YtkifiolkfdicoaaGreatDoorMK2
namespace Go.Proofs.YtkifiolkfdicoaaGreatDoor
open Go.RowKit
def wide {α:Type} (L:List (List α)):Nat:=match L with | []=>0 | r :: _=>r.length
theorem wide_at {α:Type}{L:List (List α)}{r:List α} (h:L[0]? = some r):wide L=r.length:=by
 cases L with
 | nil=>simp at h
 | cons q L=>simp at h;subst h;rfl
def isTab {α:Type} (L:List (List α)):Prop:=L.length≤40∧wide L≤40∧∀ r ∈ L,r.length=wide L
set_option maxHeartbeats 4000000 in
set_option maxRecDepth 8000 in
theorem rwide_any {N:Nat}{v:Value}{L:List (List (Int×Int))} (w:World) (h:Rows 1 (LE 4 (QE N)) w v L) :
   Calls Tryz.prog 81 #[v] w fun e w'=>e=.returned (.int .i64 (wide L:Nat))∧Below w.heap.size w w':=by
 obtain ⟨sa,sc,rfl⟩:=h.shape
 have HR:=qh h
 clear h
 go_enter Tryz.func81,Tryz.ntmps81
 by_cases h0:L=[]
 · subst h0
   go_wp2
   go_ret
   exact ⟨rfl,Below.refl _ _⟩
 have hlp:0<L.length:=List.length_pos_iff.2 h0
 have hli:((L.length:Int) == 0)=false:=by simp;omega
 have hlp':(0:Int)<(L.length:Int):=by omega
 obtain ⟨r,hr⟩:∃ s,L[0]? = some s:=⟨L[0],by simp [hlp]⟩
 obtain ⟨b,o,rfl,cs,_,hcs,hte⟩:=(uh HR).at hr
 obtain ⟨u,rfl,hru⟩:=hte
 have c0:w.cell? ⟨b,o,none⟩=some u:=by simpa using hcs 0 _ rfl
 obtain ⟨ua,uc,rfl⟩:=hru.shape
 have HW:=qh (wide_at hr)
 clear hr hcs hru h0
 go_wp2
 go_ret
 rw [uh HW]
 exact ⟨rfl,Below.refl _ _⟩
set_option maxHeartbeats 4000000 in
set_option maxRecDepth 8000 in
theorem ristable_any {N:Nat}{v:Value}{L:List (List (Int×Int))} (w:World) (h:Rows 1 (LE 4 (QE N)) w v L) (hl:L.length≤100000000) (hl2:∀ r ∈ L,r.length≤100000000) :
   Calls Tryz.prog 74 #[v] w fun e w'=>(∃ b,e=.returned (.bool b)∧(b=true↔isTab L))∧Below w.heap.size w w':=by
 obtain ⟨sa,sc,rfl⟩:=h.shape
 have HR:=qh h
 have HL2:=qh hl2
 clear h hl2
 go_enter Tryz.func74,Tryz.ntmps74
 by_cases h6:(40:Int)<(L.length:Int)
 · go_wp2
   go_ret
   exact ⟨⟨_,rfl,by simp [isTab];omega⟩,Below.refl _ _⟩
 go_wp2_with fail
 go_loopg [3] L.length (fun gk iv wr=>∃ (i:Nat),i≤L.length∧gk=L.length - i∧iv=.int .i64 (i:Int)∧Hid (Below w.heap.size w wr)∧Hid (∀ r ∈ L.take i,r.length=wide L∧r.length≤40))
 case atStart=>exact ⟨0,by omega,by omega,rfl,qh (Below.refl _ _),qh (by simp)⟩
 case round =>
   obtain ⟨i,hi,hgk,rfl,HB,HN⟩:=hrel
   by_cases hil:i<L.length
   · obtain ⟨r,hr⟩:∃ s,L[i]? = some s:=⟨L[i],by simp [hil]⟩
     obtain ⟨b,o,rfl,cs,_,hcs,hte⟩:=(uh HR).at hr
     obtain ⟨u,rfl,hru⟩:=hte
     have c0:wr.cell? ⟨b,o+i,none⟩=some u:=ck (uh HB) (by simpa using hcs 0 _ rfl)
     obtain ⟨ua,uc,rfl⟩:=hru.shape
     obtain ⟨q,hq⟩:∃ s,L[0]? = some s:=⟨L[0],by simp⟩
     obtain ⟨b',o',hbo,cs,_,hcs',hte⟩:=(uh HR).at hq
     obtain ⟨rfl,rfl⟩:b=b'∧o=o':=by simpa using hbo
     obtain ⟨u,rfl,hqu⟩:=hte
     have c1:wr.cell? ⟨b,o,none⟩=some u:=ck (uh HB) (by simpa using hcs' 0 _ rfl)
     obtain ⟨qa,qc,rfl⟩:=hqu.shape
     have HS:=qh hr
     have HW:=qh (wide_at hq)
     have hil':(i:Int)<(L.length:Int):=by omega
     have hlp':(0:Int)<(L.length:Int):=by omega
     have HM:=qh (List.mem_of_getElem? hr)
     clear hr hcs hru hq hcs' hqu hbo
     go_upto_region 6 with fail
     by_cases hne:r.length=q.length
     · have hd:((r.length:Int) != (q.length:Int))=false:=by simp;omega
       go_quiet (fail)
       have HB':=qh (zqh (uh HB) nq)
       by_cases h40:(40:Int)<(q.length:Int)
       · go_wp2
         go_ret
         exact ⟨⟨_,rfl,by simp;intro ht;have h1:=ht.2.2 r (uh HM);have h2:=ht.2.1;rw [uh HW] at h1 h2;omega⟩,uh HB'⟩
       · go_wp2
         go_roundg (L.length - (i+1))
         case measure=>omega
         case rel=>exact ⟨i+1,by omega,rfl,by go_num,HB',qh (all_next (uh HS) (uh HN) (by rw [uh HW];omega))⟩
     · have hd:((r.length:Int) != (q.length:Int))=true:=by simp;omega
       go_quiet (fail)
       have HB':=qh (zqh (uh HB) nq)
       go_wp2
       go_ret
       exact ⟨⟨_,rfl,by simp;intro ht;have h1:=ht.2.2 r (uh HM);rw [uh HW] at h1;omega⟩,uh HB'⟩
   · obtain rfl:i=L.length:=by omega
     clear hil
     go_wp2
     go_ret
     have h1:=uh HN
     rw [List.take_length] at h1
     refine ⟨⟨_,rfl,?_⟩,uh HB⟩
     simp only [isTab,true_iff]
     refine ⟨by omega,?_,fun r hr=>(h1 r hr).1⟩
     cases L with
     | nil=>simp [wide]
     | cons q L=>exact (h1 q (by simp)).2
def qt (x:Int×Int):ByteArray:=qtext x.1 x.2
theorem qtext_size {p d:Int}{a b:Nat} (ha:(⟨(Lib.itoa p).toArray⟩:ByteArray).size≤a) (hb:(⟨(Lib.itoa d).toArray⟩:ByteArray).size≤b):(qtext p d).size≤a+b+1:=by
 unfold qtext
 split
 · omega
 · rw [ByteArray.size_append,ByteArray.size_append]
   have:(⟨#[47]⟩:ByteArray).size=1:=rfl
   omega
theorem QE.size {N:Nat}{w:World}{cs:List Value}{x:Int×Int} (h:QE N w cs x) (hN:N≤100000):(qt x).size≤maxLen:=by
 obtain ⟨x1,x2,x3,x4,x5,x6,x7,x8,rfl,_,_,_,_,_,_,_,_,_,h2,h3,_⟩:=h
 have:=qtext_size h2.short h3.short
 unfold qt maxLen;omega
theorem RE.size {N:Nat}{w:World}{cs:List Value}{x:Int×Int} (h:RE N w cs x) (hN:N≤100000):(qt x).size≤maxLen:=by
 obtain ⟨x1,x2,x3,x4,x5,x6,x7,x8,rfl,_,_,_,_,_,_,_,_,e,_,h2,h3,d0,_,hd⟩:=h
 have:(qt x).size≤(20*N+21)+(20*N+21)+1:=by
   unfold qt
   rcases hd with ⟨hd,_⟩ | ⟨_,rfl⟩
   · unfold qtext;rw [if_pos hd];have:=h2.short;omega
   · exact qtext_size h2.short h3.short
 unfold maxLen;omega
theorem info_t:(Tryz.prog.info? 9).map (fun i=>(i.zero,i.size,i.bytes))=some (some (.string ⟨#[]⟩),1,16):=by kernel_rfl
theorem info_ts:(Tryz.prog.info? 109).map (fun i=>(i.zero,i.size,i.bytes))=some (some (.slice none 0 0),1,24):=by kernel_rfl
theorem kd_t (s:ByteArray):∀ u ∈ [Value.string s],NoInt u:=by intro u hu k x;simp at hu;subst hu;simp
theorem one_t (s:ByteArray):∀ u ∈ [Value.string s],u.oneCell'=true:=by intro u hu;simp at hu;subst hu;rfl
theorem zk_t:∀ u ∈ (Value.string ⟨#[]⟩).cells.toList,NoInt u:=kd_t _
theorem TE.other (w:World) (cs:List Value) (x:ByteArray) (h:TE w cs x):∃ u ∈ cs,¬ IsSl u:=by
 obtain ⟨rfl,_⟩:=h
 exact ⟨.string x,by simp,fun ⟨_,_,_,h⟩=>by cases h⟩
theorem tss_stays (e:TypeId):Stays IsSl e (LE 1 TE):=LE.stays (TE.stays IsSl e) TE.other
set_option maxHeartbeats 4000000 in
set_option maxRecDepth 8000 in
theorem told_any {N:Nat}{v:Value}{l:List (Int×Int)} (w:World) (h:Rows 4 (QE N) w v l) (hl:l.length≤100000000) (hN:N≤100000) :
   Calls Tryz.prog 150 #[v] w fun e w'=>(∃ v,e=.returned v∧Rows 1 TE w' v (l.map qt))∧Below w.heap.size w w':=by
 obtain ⟨sa,sc,rfl⟩:=h.shape
 have HR:=qh h
 clear h
 go_enter Tryz.func150,Tryz.ntmps150
 go_wp2_with fail
 go_loopg [3,4] l.length (fun gk ov iv wr=>∃ (i:Nat) (L:List ByteArray),i≤l.length∧gk=l.length - i∧iv=.int .i64 (i:Int)∧Hid (L=(l.take i).map qt)∧Hid (Below w.heap.size w wr)∧Hid (OwnR NoInt 1 TE 9 wr w.heap.size ov L))
 case atStart=>exact ⟨0,[],by omega,by omega,rfl,qh rfl,qh (Below.refl _ _),qh (OwnR.nil _ _ _ _ _ _)⟩
 case round =>
   obtain ⟨i,L,hi,hgk,rfl,HL,HB,HO⟩:=hrel
   obtain ⟨oa,oc,rfl⟩:=(uh HO).slice
   by_cases hil:i<l.length
   · obtain ⟨x,hx⟩:∃ s,l[i]? = some s:=⟨l[i],by simp [hil]⟩
     obtain ⟨b,o,rfl,cs,_,hcs,hte⟩:=(uh HR).at hx
     have HSZ:=qh (hte.size hN)
     obtain ⟨x1,x2,x3,x4,x5,x6,x7,x8,rfl,hQ⟩:=hte
     have c0:wr.cell? ⟨b,o+i*4,none⟩=some (.bool x1):=ck (uh HB) (by simpa using hcs 0 _ rfl)
     have c1:wr.cell? ⟨b,o+i*4+1,none⟩=some (.slice x2 x3 x4):=ck (uh HB) (hcs 1 _ rfl)
     have c2:wr.cell? ⟨b,o+i*4+2,none⟩=some (.bool x5):=ck (uh HB) (hcs 2 _ rfl)
     have c3:wr.cell? ⟨b,o+i*4+3,none⟩=some (.slice x6 x7 x8):=ck (uh HB) (hcs 3 _ rfl)
     have HS:=qh hx
     have HQ:=qh (hQ.later (uh HB))
     have hil':(i:Int)<(l.length:Int):=by omega
     have him:(i:Int)+1≤100000000:=by omega
     clear hx hcs hQ
     go_wp2_with fail
     go_fit (rqtext_any _ (uh HQ) hN)
     rintro e W1 ⟨rfl,B1⟩
     have BB:=qh (bk B1 (uh HB))
     have HO:=qh ((uh HO).later (TE.stays _ _) B1)
     have hbs:w.heap.size≤W1.heap.size:=(uh BB).size
     have hLn:L.length≤100000000:=by rw [uh HL,List.length_map,List.length_take];omega
     clear B1 c0 c1 c2 c3 HB HQ
     go_wp2_with (at_builtin;refine zqm rfl _ _ _ rfl Tryz.underlying109 info_t rfl (by decide) (by decide) zk_t (TE.stays _ _) w.heap.size _ rfl (uh HO) [.string (qtext x.1 x.2)] rfl (one_t _) (kd_t _) ⟨rfl,uh HSZ⟩ rfl rfl hLn hbs ?_;intro ov' Z1 hO1 hc1 hgr1 hge1)
     go_roundg (l.length - (i+1))
     case measure=>omega
     case rel=>exact ⟨i+1,L++[qt x],by omega,rfl,by go_num,qh (by rw [tkn (uh HS),List.map_append,uh HL];rfl),qh ((bk (zqa _ _) (uh BB)).grown hgr1 (bk (zqa _ _) (uh BB)).size hge1),qh hO1⟩
   · obtain rfl:i=l.length:=by omega
     clear hil hi hgk
     go_wp2
     go_ret
     refine ⟨⟨_,rfl,?_⟩,uh HB⟩
     have h1:=(uh HO).rows
     have h2:=uh HL
     rw [List.take_length] at h2
     rw [← h2]
     exact h1
set_option maxHeartbeats 4000000 in
set_option maxRecDepth 8000 in
theorem texts_any {A:Nat→Addr}{N:Nat}{v:Value}{l:List (Int×Int)} (w:World) (hA:Env A w) (h:Rows 4 (RE N) w v l) (hl:l.length≤100000000) (hN:N≤20000) :
   Calls Tryz.prog 149 #[v] w fun e w'=>(∃ v,e=.returned v∧Rows 1 TE w' v (l.map qt))∧Below w.heap.size w w':=by
 obtain ⟨sa,sc,rfl⟩:=h.shape
 have HR:=qh h
 have HA:=qh hA
 clear h hA
 go_enter Tryz.func149,Tryz.ntmps149
 go_wp2_with fail
 go_loopg [3,8] l.length (fun gk ov iv wr=>∃ (i:Nat) (L:List ByteArray),i≤l.length∧gk=l.length - i∧iv=.int .i64 (i:Int)∧Hid (L=(l.take i).map qt)∧Hid (Below w.heap.size w wr)∧Hid (OwnR NoInt 1 TE 9 wr w.heap.size ov L))
 case atStart=>exact ⟨0,[],by omega,by omega,rfl,qh rfl,qh (Below.refl _ _),qh (OwnR.nil _ _ _ _ _ _)⟩
 case round =>
   obtain ⟨i,L,hi,hgk,rfl,HL,HB,HO⟩:=hrel
   obtain ⟨oa,oc,rfl⟩:=(uh HO).slice
   by_cases hil:i<l.length
   · obtain ⟨x,hx⟩:∃ s,l[i]? = some s:=⟨l[i],by simp [hil]⟩
     obtain ⟨b,o,rfl,cs,_,hcs,hte⟩:=(uh HR).at hx
     have HSZ:=qh (hte.size (by omega))
     obtain ⟨x1,x2,x3,x4,x5,x6,x7,x8,rfl,hQ⟩:=hte
     have c0:wr.cell? ⟨b,o+i*4,none⟩=some (.int .i64 x1):=ck (uh HB) (by simpa using hcs 0 _ rfl)
     have c1:wr.cell? ⟨b,o+i*4+1,none⟩=some (.slice x2 x3 x4):=ck (uh HB) (hcs 1 _ rfl)
     have c2:wr.cell? ⟨b,o+i*4+2,none⟩=some (.int .i64 x5):=ck (uh HB) (hcs 2 _ rfl)
     have c3:wr.cell? ⟨b,o+i*4+3,none⟩=some (.slice x6 x7 x8):=ck (uh HB) (hcs 3 _ rfl)
     have HS:=qh hx
     have kn:=zqa wr (.cells #[.int .i64 x1,.slice x2 x3 x4,.int .i64 x5,.slice x6 x7 x8] 52)
     obtain ⟨r0,r1,r2,r3⟩:=c4_new (w:=wr) (.int .i64 x1) (.slice x2 x3 x4) (.int .i64 x5) (.slice x6 x7 x8) 52
     have HB1:=qh (bk kn (uh HB))
     have HQ:=qh ((hQ.later (uh HB)).later kn)
     have HO:=qh ((uh HO).later (TE.stays _ _) kn)
     have hil':(i:Int)<(l.length:Int):=by omega
     have him:(i:Int)+1≤100000000:=by omega
     clear hx hcs hQ HB kn
     go_wp2_with fail
     go_fit (qtext_any _ (uh HQ) hN ((uh HA).later (uh HB1)).tab)
     rintro e W1 ⟨rfl,B1⟩
     have BB:=qh (bk B1 (uh HB1))
     have HO:=qh ((uh HO).later (TE.stays _ _) B1)
     have hbs:w.heap.size≤W1.heap.size:=(uh BB).size
     have hLn:L.length≤100000000:=by rw [uh HL,List.length_map,List.length_take];omega
     clear B1 c0 c1 c2 c3 HB1 HQ r0 r1 r2 r3
     go_wp2_with (at_builtin;refine zqm rfl _ _ _ rfl Tryz.underlying109 info_t rfl (by decide) (by decide) zk_t (TE.stays _ _) w.heap.size _ rfl (uh HO) [.string (qtext x.1 x.2)] rfl (one_t _) (kd_t _) ⟨rfl,uh HSZ⟩ rfl rfl hLn hbs ?_;intro ov' Z1 hO1 hc1 hgr1 hge1)
     go_roundg (l.length - (i+1))
     case measure=>omega
     case rel=>exact ⟨i+1,L++[qt x],by omega,rfl,by go_num,qh (by rw [tkn (uh HS),List.map_append,uh HL];rfl),qh ((bk (zqa _ _) (uh BB)).grown hgr1 (bk (zqa _ _) (uh BB)).size hge1),qh hO1⟩
   · obtain rfl:i=l.length:=by omega
     clear hil hi hgk
     go_wp2
     go_ret
     refine ⟨⟨_,rfl,?_⟩,uh HB⟩
     have h1:=(uh HO).rows
     have h2:=uh HL
     rw [List.take_length] at h2
     rw [← h2]
     exact h1
set_option maxHeartbeats 4000000 in
set_option maxRecDepth 8000 in
theorem rowTexts_any {A:Nat→Addr}{N:Nat}{v:Value}{l:List (List (Int×Int))} (w:World) (hA:Env A w) (h:Rows 1 (LE 4 (RE N)) w v l) (hl:l.length≤100000000) (hl2:∀ r ∈ l,r.length≤100000000) (hN:N≤20000) :
   Calls Tryz.prog 77 #[v] w fun e w'=>(∃ v,e=.returned v∧Rows 1 (LE 1 TE) w' v (l.map fun r=>r.map qt))∧Below w.heap.size w w':=by
 obtain ⟨sa,sc,rfl⟩:=h.shape
 have HR:=qh h
 have HA:=qh hA
 have HL2:=qh hl2
 clear h hA hl2
 go_enter Tryz.func77,Tryz.ntmps77
 go_wp2_with fail
 go_loopg [3,8] l.length (fun gk ov iv wr=>∃ (i:Nat) (L:List (List ByteArray)),i≤l.length∧gk=l.length - i∧iv=.int .i64 (i:Int)∧Hid (L=(l.take i).map fun r=>r.map qt)∧Hid (Below w.heap.size w wr)∧Hid (OwnR IsSl 1 (LE 1 TE) 109 wr w.heap.size ov L))
 case atStart=>exact ⟨0,[],by omega,by omega,rfl,qh rfl,qh (Below.refl _ _),qh (OwnR.nil _ _ _ _ _ _)⟩
 case round =>
   obtain ⟨i,L,hi,hgk,rfl,HL,HB,HO⟩:=hrel
   obtain ⟨oa,oc,rfl⟩:=(uh HO).slice
   by_cases hil:i<l.length
   · obtain ⟨x,hx⟩:∃ s,l[i]? = some s:=⟨l[i],by simp [hil]⟩
     obtain ⟨b,o,rfl,cs,_,hcs,hte⟩:=(uh HR).at hx
     obtain ⟨u,rfl,hru⟩:=hte
     have c0:wr.cell? ⟨b,o+i,none⟩=some u:=ck (uh HB) (by simpa using hcs 0 _ rfl)
     obtain ⟨ua,uc,rfl⟩:=hru.shape
     have HS:=qh hx
     have HU:=qh (hru.later (RE.stays N 0 isSl_word) (uh HB))
     have HSL:=qh (uh HL2 x (List.mem_of_getElem? hx))
     have hil':(i:Int)<(l.length:Int):=by omega
     have him:(i:Int)+1≤100000000:=by omega
     clear hx hcs hru
     go_wp2_with fail
     go_fit (texts_any _ ((uh HA).later (uh HB)) (uh HU) (uh HSL) hN)
     rintro e W1 ⟨⟨v,rfl,hV⟩,B1⟩
     obtain ⟨va,vc,rfl⟩:=hV.shape
     have BB:=qh (bk B1 (uh HB))
     have HO:=qh ((uh HO).later (tss_stays _) B1)
     have hbs:w.heap.size≤W1.heap.size:=(uh BB).size
     have hLn:L.length≤100000000:=by rw [uh HL,List.length_map,List.length_take];omega
     obtain ⟨m,hm⟩:∃ m,m=(x.map qt).length:=⟨_,rfl⟩
     rw [← hm] at hV ⊢
     have HV:=qh hV
     clear B1 c0 HB hV hm
     go_wp2_with (at_builtin;refine zqm rfl _ _ _ rfl Tryz.underlying87 info_ts rfl (by decide) (by decide) zk_sl (tss_stays _) w.heap.size _ rfl (uh HO) [.slice va m vc] rfl (one_sl _ _ _) (kd_sl _ _ _) ⟨_,rfl,uh HV⟩ rfl rfl hLn hbs ?_;intro ov' Z1 hO1 hc1 hgr1 hge1)
     go_roundg (l.length - (i+1))
     case measure=>omega
     case rel=>exact ⟨i+1,L++[x.map qt],by omega,rfl,by go_num,qh (by rw [tkn (uh HS),List.map_append,uh HL];rfl),qh ((bk (zqa _ _) (uh BB)).grown hgr1 (bk (zqa _ _) (uh BB)).size hge1),qh hO1⟩
   · obtain rfl:i=l.length:=by omega
     clear hil hi hgk
     go_wp2
     go_ret
     refine ⟨⟨_,rfl,?_⟩,uh HB⟩
     have h1:=(uh HO).rows
     have h2:=uh HL
     rw [List.take_length] at h2
     rw [← h2]
     exact h1
set_option maxHeartbeats 4000000 in
set_option maxRecDepth 8000 in
theorem sameTexts_any {v v':Value}{l:List ByteArray} (w:World) (h:Rows 1 TE w v l) (h':Rows 1 TE w v' l) (hl:l.length≤100000000) :
   Calls Tryz.prog 151 #[v,v'] w fun e w'=>e=.returned (.bool true)∧Below w.heap.size w w':=by
 obtain ⟨sa,sc,rfl⟩:=h.shape
 obtain ⟨ta,tc,rfl⟩:=h'.shape
 have HR:=qh h
 have HR':=qh h'
 clear h h'
 go_enter Tryz.func151,Tryz.ntmps151
 go_wp2_with fail
 go_loopg [5] l.length (fun gk iv wr=>∃ (i:Nat),i≤l.length∧gk=l.length - i∧iv=.int .i64 (i:Int)∧Hid (Below w.heap.size w wr))
 case atStart=>exact ⟨0,by omega,by omega,rfl,qh (Below.refl _ _)⟩
 case round =>
   obtain ⟨i,hi,hgk,rfl,HB⟩:=hrel
   by_cases hil:i<l.length
   · obtain ⟨s,hs⟩:∃ s,l[i]? = some s:=⟨l[i],by simp [hil]⟩
     obtain ⟨b,o,rfl,cs,_,hcs,rfl,hsz⟩:=(uh HR).at hs
     obtain ⟨b',o',rfl,cs,_,hcs',rfl,_⟩:=(uh HR').at hs
     have c0:wr.cell? ⟨b,o+i,none⟩=some (.string s):=ck (uh HB) (by simpa using hcs 0 _ rfl)
     have c1:wr.cell? ⟨b',o'+i,none⟩=some (.string s):=ck (uh HB) (by simpa using hcs' 0 _ rfl)
     have hil':(i:Int)<(l.length:Int):=by omega
     clear hs hcs hcs'
     go_upto_region 6 with fail
     go_quiet (fail)
     have HB':=qh (zqh (uh HB) nq)
     go_wp2
     go_roundg (l.length - (i+1))
     case measure=>omega
     case rel=>exact ⟨i+1,by omega,rfl,by go_num,HB'⟩
   · obtain rfl:i=l.length:=by omega
     go_wp2
     go_ret
     exact ⟨rfl,uh HB⟩
set_option maxHeartbeats 4000000 in
set_option maxRecDepth 8000 in
theorem sameRows_any {N:Nat}{v v':Value}{l:List (List (Int×Int))} (w:World) (h:Rows 1 (LE 1 TE) w v (l.map fun r=>r.map qt)) (h':Rows 1 (LE 4 (QE N)) w v' l) (hl:l.length≤100000000) (hl2:∀ r ∈ l,r.length≤100000000) (hN:N≤100000) :
   Calls Tryz.prog 78 #[v,v'] w fun e w'=>e=.returned (.bool true)∧Below w.heap.size w w':=by
 obtain ⟨sa,sc,rfl⟩:=h.shape
 obtain ⟨ta,tc,rfl⟩:=h'.shape
 have HR:=qh h
 have HR':=qh h'
 have HL2:=qh hl2
 clear h h' hl2
 have hml:(l.map fun r=>r.map qt).length=l.length:=List.length_map ..
 rw [hml] at HR ⊢
 go_enter Tryz.func78,Tryz.ntmps78
 go_wp2_with fail
 go_loopg [5] l.length (fun gk iv wr=>∃ (i:Nat),i≤l.length∧gk=l.length - i∧iv=.int .i64 (i:Int)∧Hid (Below w.heap.size w wr))
 case atStart=>exact ⟨0,by omega,by omega,rfl,qh (Below.refl _ _)⟩
 case round =>
   obtain ⟨i,hi,hgk,rfl,HB⟩:=hrel
   by_cases hil:i<l.length
   · obtain ⟨r,hr⟩:∃ s,l[i]? = some s:=⟨l[i],by simp [hil]⟩
     obtain ⟨b,o,rfl,cs,_,hcs,u,rfl,hru⟩:=(uh HR).at (i:=i) (x:=r.map qt) (by simp [hr])
     obtain ⟨b',o',rfl,cs,_,hcs',u',rfl,hru'⟩:=(uh HR').at hr
     have c0:wr.cell? ⟨b,o+i,none⟩=some u:=ck (uh HB) (by simpa using hcs 0 _ rfl)
     have c1:wr.cell? ⟨b',o'+i,none⟩=some u':=ck (uh HB) (by simpa using hcs' 0 _ rfl)
     obtain ⟨ua,uc,rfl⟩:=hru.shape
     obtain ⟨va,vc,rfl⟩:=hru'.shape
     have hil':(i:Int)<(l.length:Int):=by omega
     have HSL:=qh (uh HL2 r (List.mem_of_getElem? hr))
     have HU:=qh (hru.later (TE.stays IsSl 0) (uh HB))
     have HV:=qh (hru'.later (QE.stays N IsSl (e:=0) (by decide)) (uh HB))
     obtain ⟨m,hm⟩:∃ m,m=(r.map qt).length:=⟨_,rfl⟩
     rw [← hm] at HU c0
     have HM:=qh hm
     clear hr hcs hcs' hru hru' hm
     go_wp2_with fail
     go_fit (told_any _ (uh HV) (uh HSL) hN)
     rintro e W1 ⟨⟨t,rfl,hT⟩,B1⟩
     obtain ⟨xa,xc,rfl⟩:=hT.shape
     rw [← uh HM] at hT ⊢
     have c0:=ck B1 c0
     have BB:=qh (bk B1 (uh HB))
     have HU:=qh ((uh HU).later (TE.stays IsSl 0) B1)
     have HT:=qh hT
     clear B1 c1 HB HV hT
     go_wp2_with fail
     go_fit (sameTexts_any _ (uh HU) (uh HT) (by rw [← uh HM];have h1:=uh HSL;have h2:=uh HM;rw [List.length_map] at h2;omega))
     rintro e W2 ⟨rfl,B2⟩
     have BB:=qh (bk B2 (uh BB))
     clear B2 c0 HU HT
     go_wp2
     go_roundg (l.length - (i+1))
     case measure=>omega
     case rel=>exact ⟨i+1,by omega,rfl,by go_num,BB⟩
   · obtain rfl:i=l.length:=by omega
     go_wp2
     go_ret
     exact ⟨rfl,uh HB⟩
theorem run_make_k {P:Program} (t e:TypeId) (z:Value) (k bytes:Nat) (ht:P.underlying t=some (.slice e)) (hinfo:(P.info? e).map (fun i=>(i.zero,i.size,i.bytes))=some (some z,k,bytes))
   (kl kc:IntKind) (n:Nat) (hbytes:bytes*n≤281474976710656) (h63:n≤9223372036854775807) (w:World) :
   (Instr.makeSlice t (.int kl (n:Int)) (.int kc (n:Int))).run P w=.ok (.slice (some ⟨w.heap.size,0,none⟩) n n) (w.alloc (.cells (madeCells z.cells (n*k)) e)):=by
 obtain ⟨i,hi,hz,hs,hb⟩:=info_parts hinfo
 subst hb hs
 have hb':(i.bytes:Int)*(n:Int)≤281474976710656:=by
   have h:((i.bytes*n:Nat):Int)≤281474976710656:=by omega
   rwa [Int.natCast_mul] at h
 have hr:=run_make (P:=P) w t e i z ht hi hz kl kc n n (by omega) (Int.le_refl _) hb' (by omega)
 simp only [Int.toNat_natCast] at hr
 exact hr
theorem zkh {w:World}{g o:Nat}{cur:Array Value}{t:TypeId}{f:Nat×Nat} (h:w.heap[g]? = some (.cells cur t f)) (v:Value):(w.setCell ⟨g,o,none⟩ v).heap[g]? = some (.cells (cur.setIfInBounds o v) t f):=by
 simp [World.setCell,Array.getElem?_modify,h]
theorem zxj {K:Value→Prop}{w:World}{g o:Nat}{cur:Array Value}{t:TypeId}{f:Nat×Nat} (h:w.heap[g]? = some (.cells cur t f)) (hk:∀ u ∈ cur.toList,K u) (v:Value):Chg K t w (w.setCell ⟨g,o,none⟩ v):=by
 intro b c t' f' hb hc
 have hne:b≠g:=by
   rintro rfl
   rw [h] at hb
   obtain ⟨rfl,rfl,rfl⟩:cur=c∧t=t'∧f=f':=by simpa using hb
   rcases hc with hc | ⟨i,u,hu,hku⟩
   · exact hc rfl
   · exact hku (hk u (by rw [← Array.mem_def];exact Array.mem_of_getElem? hu))
 rw [Below.heap_setCell _ _ _ _ hne]
 exact hb
def Fill {α:Type} (K:Value→Prop) (k:Nat) (E:World→List Value → α → Prop) (t:TypeId) (w:World) (g n:Nat) (L:List α):Prop :=
 ∃ cur,w.heap[g]? = some (.cells cur t (0,0))∧cur.size=n*k∧(∀ u ∈ cur.toList,K u)∧L.length≤n∧∀ i x,L[i]? = some x→∃ cs,cs.length=k∧(∀ j u,cs[j]? = some u→cur[i*k+j]? = some u)∧E w cs x
theorem made_kinds {K:Value→Prop}{z:Array Value}{n:Nat} (hz:∀ u ∈ z.toList,K u) (hs:0<z.size):∀ u ∈ (madeCells z n).toList,K u:=by
 intro u hu
 simp only [madeCells,Array.toList_map,List.mem_map] at hu
 obtain ⟨i,_,rfl⟩:=hu
 have hi:i % z.size<z.size:=Nat.mod_lt _ hs
 rw [getElem!_pos z (i % z.size) hi]
 exact hz _ (by simp)
theorem Fill.new {α:Type}{K:Value→Prop}{k:Nat}{E:World→List Value → α → Prop}{t:TypeId} (w:World) {z:Array Value} (n:Nat) (hz:∀ u ∈ z.toList,K u) (hs:0<z.size):Fill K k E t (w.alloc (.cells (madeCells z (n*k)) t)) w.heap.size n [] :=
 ⟨_,heap_alloc_new w _,size_madeCells _ _,made_kinds hz hs,Nat.zero_le _,fun i x hx=>by simp at hx⟩
theorem Fill.later {α:Type}{K:Value→Prop}{k:Nat}{E:World→List Value → α → Prop}{t:TypeId}{w w':World}{g n:Nat}{L:List α} (h:Fill K k E t w g n L) (hE:Stays K t E) (hb:Below w.heap.size w w'):Fill K k E t w' g n L:=by
 obtain ⟨cur,h1,h2,h3,h4,h5⟩:=h
 refine ⟨cur,by rw [hb.block g (Array.getElem?_eq_some_iff.1 h1).1];exact h1,h2,h3,h4,fun i x hx => ?_⟩
 obtain ⟨cs,hl,hcs,he⟩:=h5 i x hx
 exact ⟨cs,hl,hcs,hE _ _ _ _ he (Chg.below hb)⟩
theorem Fill.lt {α:Type}{K:Value→Prop}{k:Nat}{E:World→List Value → α → Prop}{t:TypeId}{w:World}{g n:Nat}{L:List α} (h:Fill K k E t w g n L):g<w.heap.size:=by
 obtain ⟨cur,h1,_⟩:=h
 exact (Array.getElem?_eq_some_iff.1 h1).1
theorem Fill.cell {α:Type}{K:Value→Prop}{k:Nat}{E:World→List Value → α → Prop}{t:TypeId}{w:World}{g n o:Nat}{L:List α} (h:Fill K k E t w g n L) (ho:o<n*k):∃ u,w.cell? ⟨g,o,none⟩=some u:=by
 obtain ⟨cur,h1,h2,_⟩:=h
 exact ⟨cur[o]'(by omega),zqn h1 (by simp)⟩
theorem Fill.free {α:Type}{K:Value→Prop}{k:Nat}{E:World→List Value → α → Prop}{t:TypeId}{w:World}{g n:Nat}{L:List α} (h:Fill K k E t w g n L) (o:Nat):w.frozen? ⟨g,o,none⟩=false:=by
 obtain ⟨cur,h1,_⟩:=h
 simp [World.frozen?,h1]
theorem Fill.rows {α:Type}{K:Value→Prop}{k:Nat}{E:World→List Value → α → Prop}{t:TypeId}{w:World}{g n:Nat}{L:List α} (h:Fill K k E t w g n L) (hL:L.length=n) (hn:n≤maxLen):Rows k E w (.slice (some ⟨g,0,none⟩) n n) L:=by
 obtain ⟨cur,h1,h2,h3,h4,h5⟩:=h
 refine ⟨_,n,by rw [hL],by omega,hn,Or.inr ⟨g,0,rfl,fun i x hx => ?_⟩⟩
 obtain ⟨cs,hl,hcs,he⟩:=h5 i x hx
 exact ⟨cs,hl,fun j u hu=>by rw [Nat.zero_add];exact zqn h1 (hcs j u hu),he⟩
theorem Fill.store {α:Type}{K:Value→Prop}{k:Nat}{E:World→List Value → α → Prop}{t:TypeId}{w:World}{g n o:Nat}{L:List α}{v:Value} (h:Fill K k E t w g n L) (hE:Stays K t E) (ho:L.length*k≤o) (hv:K v):Fill K k E t (w.setCell ⟨g,o,none⟩ v) g n L∧Chg K t w (w.setCell ⟨g,o,none⟩ v):=by
 obtain ⟨cur,h1,h2,h3,h4,h5⟩:=h
 have hc:=zxj (o:=o) h1 h3 v
 refine ⟨⟨_,zkh h1 v,by simp [h2],fun u hu => ?_,h4,fun i x hx => ?_⟩,hc⟩
 · obtain ⟨i,hi⟩:=List.getElem?_of_mem hu
   rw [Array.getElem?_toList,Array.getElem?_setIfInBounds] at hi
   split at hi
   · split at hi
     · obtain rfl:v=u:=by simpa using hi
       exact hv
     · cases hi
   · exact h3 u (by rw [← Array.mem_def];exact Array.mem_of_getElem? hi)
 · obtain ⟨cs,hl,hcs,he⟩:=h5 i x hx
   refine ⟨cs,hl,fun j u hu => ?_,hE _ _ _ _ he hc⟩
   have hi:=(List.getElem?_eq_some_iff.1 hx).1
   have hj:=(List.getElem?_eq_some_iff.1 hu).1
   have h6:(i+1)*k≤L.length*k:=Nat.mul_le_mul_right _ hi
   rw [Nat.add_mul,Nat.one_mul] at h6
   rw [Array.getElem?_setIfInBounds,if_neg (by omega)]
   exact hcs j u hu
theorem Fill.snoc {α:Type}{K:Value→Prop}{k:Nat}{E:World→List Value → α → Prop}{t:TypeId}{w:World}{g n:Nat}{L:List α}{cs:List Value}{x:α} (h:Fill K k E t w g n L) (hlt:L.length<n) (hl:cs.length=k) (hcs:∀ j u,cs[j]? = some u→w.cell? ⟨g,L.length*k+j,none⟩=some u) (he:E w cs x):Fill K k E t w g n (L++[x]):=by
 obtain ⟨cur,h1,h2,h3,h4,h5⟩:=h
 refine ⟨cur,h1,h2,h3,by rw [List.length_append,List.length_singleton];exact hlt,fun i y hy => ?_⟩
 rcases Nat.lt_or_ge i L.length with hi | hi
 · rw [List.getElem?_append_left hi] at hy
   exact h5 i y hy
 · rw [List.getElem?_append_right hi] at hy
   have hi':i=L.length:=by
     have:=(List.getElem?_eq_some_iff.1 hy).1
     simp at this;omega
   subst hi'
   simp at hy
   subst hy
   refine ⟨cs,hl,fun j u hu => ?_,he⟩
   have:=hcs j u hu
   simpa [World.cell?,h1] using this
theorem Fill.put4 {α:Type}{K:Value→Prop}{E:World→List Value → α → Prop}{t:TypeId}{w:World}{g n:Nat}{L:List α}{u0 u1 u2 u3:Value}{x:α} (h:Fill K 4 E t w g n L) (hE:Stays K t E) (hlt:L.length<n) (hk:∀ u ∈ [u0,u1,u2,u3],K u) (he:E w [u0,u1,u2,u3] x) :
   Fill K 4 E t ((((w.setCell ⟨g,L.length*4,none⟩ u0).setCell ⟨g,L.length*4+1,none⟩ u1).setCell ⟨g,L.length*4+2,none⟩ u2).setCell ⟨g,L.length*4+3,none⟩ u3) g n (L++[x])∧Chg K t w ((((w.setCell ⟨g,L.length*4,none⟩ u0).setCell ⟨g,L.length*4+1,none⟩ u1).setCell ⟨g,L.length*4+2,none⟩ u2).setCell ⟨g,L.length*4+3,none⟩ u3):=by
 obtain ⟨a0,e0⟩:=h.cell (o:=L.length*4) (by omega)
 obtain ⟨a1,e1⟩:=h.cell (o:=L.length*4+1) (by omega)
 obtain ⟨a2,e2⟩:=h.cell (o:=L.length*4+2) (by omega)
 obtain ⟨a3,e3⟩:=h.cell (o:=L.length*4+3) (by omega)
 obtain ⟨f0,c0⟩:=h.store (o:=L.length*4) (v:=u0) hE (by omega) (hk _ (by simp))
 obtain ⟨f1,c1⟩:=f0.store (o:=L.length*4+1) (v:=u1) hE (by omega) (hk _ (by simp))
 obtain ⟨f2,c2⟩:=f1.store (o:=L.length*4+2) (v:=u2) hE (by omega) (hk _ (by simp))
 obtain ⟨f3,c3⟩:=f2.store (o:=L.length*4+3) (v:=u3) hE (by omega) (hk _ (by simp))
 have hc:=((c0.trans c1).trans c2).trans c3
 refine ⟨f3.snoc hlt rfl (fun j u hu => ?_) (hE _ _ _ _ he hc),hc⟩
 match j,hu with
 | 0,hu =>
   obtain rfl:u0=u:=by simpa using hu
   rw [Nat.add_zero,zqb _ _ _ _ _ _ (by omega),zqb _ _ _ _ _ _ (by omega),zqb _ _ _ _ _ _ (by omega)]
   exact zqd e0
 | 1,hu =>
   obtain rfl:u1=u:=by simpa using hu
   rw [zqb _ _ _ _ _ _ (by omega),zqb _ _ _ _ _ _ (by omega)]
   exact zqd (by rw [zqb _ _ _ _ _ _ (by omega)];exact e1)
 | 2,hu =>
   obtain rfl:u2=u:=by simpa using hu
   rw [zqb _ _ _ _ _ _ (by omega)]
   exact zqd (by rw [zqb _ _ _ _ _ _ (by omega),zqb _ _ _ _ _ _ (by omega)];exact e2)
 | 3,hu =>
   obtain rfl:u3=u:=by simpa using hu
   exact zqd (by rw [zqb _ _ _ _ _ _ (by omega),zqb _ _ _ _ _ _ (by omega),zqb _ _ _ _ _ _ (by omega)];exact e3)
theorem below_put4 {B:Nat}{w w':World}{g o:Nat} (h:Below B w w') (hg:B≤g) (u0 u1 u2 u3:Value):Below B w ((((w'.setCell ⟨g,o,none⟩ u0).setCell ⟨g,o+1,none⟩ u1).setCell ⟨g,o+2,none⟩ u2).setCell ⟨g,o+3,none⟩ u3) :=
 (((h.setCell (p:=⟨g,o,none⟩) hg _).setCell (p:=⟨g,o+1,none⟩) hg _).setCell (p:=⟨g,o+2,none⟩) hg _).setCell (p:=⟨g,o+3,none⟩) hg _
end Go.Proofs.YtkifiolkfdicoaaGreatDoor
