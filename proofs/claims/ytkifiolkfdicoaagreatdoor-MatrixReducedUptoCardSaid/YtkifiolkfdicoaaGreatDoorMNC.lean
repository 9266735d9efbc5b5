import Derived.Test.YtkifiolkfdicoaaGreatDoorMN1
namespace Go.Proofs.YtkifiolkfdicoaaGreatDoor
open Go.RowKit
def oneR (head:List (Int×Int)) (c:Int×Int):List (Int×Int):=head.map fun x=>qq x c
def redT (M:List (List (Int×Int))) (k at' col:Nat):List (List (Int×Int)) :=
 (List.range M.length).map fun i=>if i=k then oneR (M.getD at' []) ((M.getD at' []).getD col (0,1)) else wout (M.getD (if i=at' then k else i) []) (oneR (M.getD at' []) ((M.getD at' []).getD col (0,1))) ((M.getD (if i=at' then k else i) []).getD col (0,1))
theorem redT_len (M:List (List (Int×Int))) (k at' col:Nat):(redT M k at' col).length=M.length:=by simp [redT]
set_option maxHeartbeats 16000000 in
set_option maxRecDepth 8000 in
theorem rreduce_any {N T k at' col:Nat}{v:Value}{M:List (List (Int×Int))}{head:List (Int×Int)}{c:Int×Int} (w:World) (h:Rows 1 (LE 4 (QE N)) w v M) (hk:k<M.length) (hat:M[at']? = some head) (hcol:head[col]? = some c) (hw:∀ r ∈ M,r.length=head.length) (hc0:c.1≠0) (hl:M.length≤6) (hl2:head.length≤6) (hNT:N≤T) (hT:T≤38000)
   (hf1:∀ x ∈ oneR head c,Fit N x) (hf2:∀ r ∈ M,∀ y,r[col]? = some y→∀ x ∈ oneR head c,Fit T (qm x y)) (hf3:∀ r ∈ redT M k at' col,∀ x ∈ r,Fit N x) :
   Calls Tryz.prog 148 #[v,.int .i64 (k:Int),.int .i64 (at':Int),.int .i64 (col:Int)] w fun e w'=>(∃ v,e=.returned v∧Rows 1 (LE 4 (QE N)) w' v (redT M k at' col))∧Below w.heap.size w w':=by
 obtain ⟨sa,sc,rfl⟩:=h.shape
 have hatl:=(List.getElem?_eq_some_iff.1 hat).1
 have hcoll:=(List.getElem?_eq_some_iff.1 hcol).1
 obtain ⟨hd1,hd2⟩:M.getD at' []=head∧head.getD col (0,1)=c:=⟨by simp [List.getD,hat],by simp [List.getD,hcol]⟩
 obtain ⟨mb,mo,rfl,cs,_,hcs0,u,rfl,hH⟩:=h.at hat
 obtain ⟨ha,hcp,rfl⟩:=hH.shape
 have m0:w.cell? ⟨mb,mo+at',none⟩=some (.slice ha head.length hcp):=by simpa using hcs0 0 _ rfl
 have HM:=qh h
 have HH:=qh hH
 have HF:=qh (And.intro hf1 (And.intro hf2 hf3))
 have HD:=qh (And.intro hd1 hd2)
 have HW:=qh hw
 have HAT:=qh (And.intro hat hcol)
 have hk':(k:Int)<(M.length:Int):=by omega
 have hat':(at':Int)<(M.length:Int):=by omega
 have hcol':(col:Int)<(head.length:Int):=by omega
 have HKL:=qh (And.intro hk (And.intro hatl hcoll))
 obtain ⟨n,hn⟩:∃ n,n=M.length:=⟨_,rfl⟩
 obtain ⟨d,hd⟩:∃ n,n=head.length:=⟨_,rfl⟩
 rw [← hn] at HM hk' hat' hl HKL
 rw [← hd] at HH m0 hcol' hl2 HKL HW
 have HN:=qh hn
 have HDN:=qh hd
 rw [← hn]
 clear h hH hf1 hf2 hf3 hd1 hd2 hw hat hcol hk hatl hcoll hcs0 hn hd
 go_enter Tryz.func148,Tryz.ntmps148
 go_wp2_with fail
 go_loopg [10,11] d (fun gk ov iv wr=>∃ (i:Nat) (L:List (Int×Int)),i≤d∧gk=d - i∧iv=.int .i64 (i:Int)∧Hid (L=oneR (head.take i) c)∧Hid (Below w.heap.size w wr)∧Hid (OwnR NoInt 4 (QE (N+N)) 56 wr w.heap.size ov L))
 case atStart=>exact ⟨0,[],by omega,by omega,rfl,qh rfl,qh (Below.refl _ _),qh (OwnR.nil _ _ _ _ _ _)⟩
 case round =>
   obtain ⟨i,L,hi,hgk,rfl,HL,HB,HO⟩:=hrel
   obtain ⟨oa,oc,rfl⟩:=(uh HO).slice
   clear m0
   by_cases hil:i<d
   · obtain ⟨p,hp⟩:∃ s,head[i]? = some s:=⟨head[i]'(by have:=uh HDN;omega),by simp⟩
     obtain ⟨bb,bo,rfl,cs,_,hcs1,p1,p2,p3,p4,p5,p6,p7,p8,rfl,hA⟩:=(uh HH).at hp
     obtain ⟨bb',bo',hee,cs,_,hcs2,u1,u2,u3,u4,u5,u6,u7,u8,rfl,hP⟩:=(uh HH).at (uh HAT).2
     obtain ⟨rfl,rfl⟩:bb=bb'∧bo=bo':=by simpa using hee
     have c0:w.cell? ⟨bb,bo+i*4,none⟩=some (.bool p1):=by simpa using hcs1 0 _ rfl
     have c4:w.cell? ⟨bb,bo+col*4,none⟩=some (.bool u1):=by simpa using hcs2 0 _ rfl
     have hBB:=uh HB
     have hws:=hBB.size
     have l1:=World.block_lt_of_cell? w _ c0
     simp only at l1
     have HI:Hid (In2r wr N bb bo i col p1 p2 p3 p4 p5 p6 p7 p8 u1 u2 u3 u4 u5 u6 u7 u8 p c wr):=qh ⟨Below.refl _ _,⟨ck hBB c0,ck hBB (hcs1 1 _ rfl),ck hBB (hcs1 2 _ rfl),ck hBB (hcs1 3 _ rfl),ck hBB c4,ck hBB (hcs2 1 _ rfl),ck hBB (hcs2 2 _ rfl),ck hBB (hcs2 3 _ rfl)⟩,hA.later hBB,hP.later hBB,by omega,by omega⟩
     have HPR:=qh hp
     have hil':(i:Int)<(d:Int):=by omega
     have HG:=qh (And.intro hgk (And.intro hi hil))
     clear hcs1 hcs2 hA hP c0 c4 hBB hws l1 hp hgk hi hil hee
     go_upto_region 6 with fail
     obtain ⟨V,rfl⟩:∃ X,X=wr:=⟨_,rfl⟩
     have HI0:=HI
     go_cut [12] from 21 to 39 (fun vq wx=>∃ tq t1 t2 t3 t4 t5 t6 t7 t8 P D,vq=.pointer (some ⟨tq,0,none⟩)∧Hid (P*(p.2*c.1)=p.1*c.2*D)∧Hid (QB wx tq t1 t2 t3 t4 t5 t6 t7 t8 (N+N) P D)∧Hid (Below V.heap.size V wx))
     case first =>
       have HI:=qh (uh HI0).drew
       have n1:=(uh HI0).lt
       go_region_held3 (fun w'=>w'.cell? ⟨bb,bo+i*4,none⟩=some (.bool p1)∧w'.cell? ⟨bb,bo+i*4+1,none⟩=some (.slice p2 p3 p4)∧w'.cell? ⟨bb,bo+i*4+2,none⟩=some (.bool p5)∧w'.cell? ⟨bb,bo+i*4+3,none⟩=some (.slice p6 p7 p8)∧w'.cell? ⟨bb,bo+col*4,none⟩=some (.bool u1)∧w'.cell? ⟨bb,bo+col*4+1,none⟩=some (.slice u2 u3 u4)∧w'.cell? ⟨bb,bo+col*4+2,none⟩=some (.bool u5)∧w'.cell? ⟨bb,bo+col*4+3,none⟩=some (.slice u6 u7 u8))
         (first | with_reducible exact (uh HI).cs | with_reducible exact ((uh HI).keep (zqa _ _)).cs | with_reducible exact (((uh HI0).keep (zqa _ _)).drew).cs | with_reducible exact In2r.put (uh HI) (by omega) _ _ _ _)
         (first
           | (go_at_call 59;(first | go_fit (rqquo_any (N:=N) _ (uh HI).x (uh HI).y (by omega) hc0) | go_fit (rqquo_any (N:=N) _ ((uh HI).keep (zqa _ _)).x ((uh HI).keep (zqa _ _)).y (by omega) hc0) | go_fit (rqquo_any (N:=N) _ ((uh HI0).keep (zqa _ _)).drew.x ((uh HI0).keep (zqa _ _)).drew.y (by omega) hc0));rintro e9 Y1 ⟨⟨vm,P,D,rfl,hM,hE⟩,hb⟩;have HE:=qh hE;clear hE;obtain ⟨o1,o2,o3,o4,o5,o6,o7,o8,rfl⟩:=hM.shape;(first | (have HI:=qh ((uh HI).keep hb)) | (have HI:=qh (((uh HI).keep (zqa _ _)).keep hb);have hbx:=(zkj _ false none 0 0 false none 0 0).later hb) | (have HI:=qh ((((uh HI0).keep (zqa _ _)).drew).keep hb);have hbx:=(show QBox (V.alloc (.cells #[.bool false,.slice none 0 0,.bool false,.slice none 0 0] 56)).drew V.heap.size from zkj V false none 0 0 false none 0 0).later hb));have l0:=(uh HI).below.size;(try (obtain ⟨⟨g0,h0⟩,⟨g1,g2,g3,h1⟩,⟨g4,h2⟩,⟨g5,g6,g7,h3⟩,gf⟩:=hbx.cells;have hxlt:=hbx.lt));clear hb))
       all_goals
         go_wp2
         go_meet
         first
           | exact ⟨_,_,_,_,_,_,_,_,_,_,_,rfl,HE,qh (QB.new hM),qh ((uh HI).keep (zqa _ _)).below⟩
           | exact ⟨_,_,_,_,_,_,_,_,_,_,_,rfl,HE,qh (QB.put hbx hM),qh (zqe (uh HI).below (by omega) _ _ _ _)⟩
     case rest =>
       obtain ⟨xq,x1,x2,x3,x4,x5,x6,x7,x8,P,D,rfl,HE,HX,HB1⟩:=hcut
       have hpos:=(uh HX).qr.pos
       have hqq:qq p c=(P,D):=qq_is (uh HI0).x.pos.1 hc0 (uh HE) hpos.1 hpos.2
       have HQQ:=qh hqq
       have HBV:=qh (bk (uh HB1) (uh HB))
       have HO:=qh ((uh HO).later (QE.stays _ _ (by decide)) (uh HB1))
       obtain ⟨V1,rfl⟩:∃ X,X=wc:=⟨_,rfl⟩
       have c0:=(uh HX).c0
       have c1:=(uh HX).c1
       have c2:=(uh HX).c2
       have c3:=(uh HX).c3
       have hbs:w.heap.size≤V1.heap.size:=(uh HBV).size
       obtain ⟨hgk,hi,hil⟩:=uh HG
       have hLn:L.length≤100000000:=by have:=uh HL;rw [this,oneR,List.length_map,List.length_take];omega
       have him:(i:Int)+1≤100:=by omega
       clear hqq hpos HE HI HI0
       go_wp2_with (at_builtin;refine zqm (y:=(P,D)) rfl _ _ _ rfl Tryz.underlying115 info_q rfl (by decide) (by decide) zk_q (QE.stays _ _ (by decide)) w.heap.size _ rfl (uh HO) [.bool x1,.slice x2 x3 x4,.bool x5,.slice x6 x7 x8] rfl (one_q _ _ _ _ _ _ _ _) (kd_q _ _ _ _ _ _ _ _) ⟨_,_,_,_,_,_,_,_,rfl,(uh HX).qr⟩ rfl rfl hLn hbs ?_;intro ov' Z1 hO1 hc1 hgr1 hge1)
       go_roundg (d - (i+1))
       case measure=>omega
       case rel=>exact ⟨i+1,L++[(P,D)],by omega,rfl,by go_num,qh (by rw [tkn (uh HPR),uh HL,oneR,oneR,List.map_append];simp [uh HQQ]),qh ((bk (zqa _ _) (uh HBV)).grown hgr1 (bk (zqa _ _) (uh HBV)).size hge1),qh hO1⟩
   · obtain rfl:i=d:=by omega
     clear hil hi hgk
     have hL:L=oneR head c:=by have:=uh HL;rw [uh HDN,List.take_length] at this;exact this
     have HONE:=qh (show Rows 4 (QE N) wr (.slice oa L.length oc) L from (uh HO).rows.fits (by rw [hL];exact (uh HF).1))
     have HL:=qh hL
     have HLD:Hid (L.length=i):=qh (by rw [hL,oneR,List.length_map];exact (uh HDN).symm)
     clear hL HO
     obtain ⟨W2,rfl⟩:∃ X,X=wr:=⟨_,rfl⟩
     have HM:=qh ((uh HM).later (zqk N (e:=0) (by decide)) (uh HB))
     obtain ⟨ln,hln⟩:∃ n,n=L.length:=⟨_,rfl⟩
     rw [← hln] at HONE
     rw [← hln]
     have HLN:=qh hln
     clear hln
     go_wp2_with fail
     go_loopg [13,14] n (fun gk ov iv wr=>∃ (j:Nat) (O:List (List (Int×Int))),j≤n∧gk=n - j∧iv=.int .i64 (j:Int)∧Hid (O=(redT M k at' col).take j)∧Hid (Below W2.heap.size W2 wr)∧Hid (OwnR IsSl 1 (LE 4 (QE N)) 115 wr W2.heap.size ov O))
     case atStart=>exact ⟨0,[],by omega,by omega,rfl,qh rfl,qh (Below.refl _ _),qh (OwnR.nil _ _ _ _ _ _)⟩
     case round =>
       obtain ⟨j,O,hj,hgj,rfl,HOE,HB2,HO⟩:=hrel
       obtain ⟨ya,yc,rfl⟩:=(uh HO).slice
       have hrl:(redT M k at' col).length=n:=by rw [redT_len,uh HN]
       have HRL:=qh hrl
       have hOl:O.length≤100000000:=by have:=uh HOE;rw [this,List.length_take];omega
       clear hrl
       by_cases hjl:j<n
       · have hjl':(j:Int)<(n:Int):=by omega
         have him:(j:Int)+1≤100:=by omega
         have HG:=qh (And.intro hgj (And.intro hj hjl))
         obtain ⟨hkn,hatn,hcd⟩:=uh HKL
         obtain ⟨s,hs⟩:∃ s,M[j]? = some s:=⟨M[j]'(by have:=uh HN;omega),by simp⟩
         obtain ⟨b1,o1,hee,cs,_,hcs1,u,rfl,hS⟩:=(uh HM).at hs
         obtain ⟨rfl,rfl⟩:mb=b1∧mo=o1:=by simpa using hee
         obtain ⟨s2,hs2⟩:∃ s,M[k]? = some s:=⟨M[k]'(by have:=uh HN;omega),by simp⟩
         obtain ⟨b1,o1,hee2,cs,_,hcs2,u',rfl,hS2⟩:=(uh HM).at hs2
         obtain ⟨rfl,rfl⟩:mb=b1∧mo=o1:=by simpa using hee2
         have r0:wr.cell? ⟨mb,mo+j,none⟩=some u:=ck (uh HB2) (by simpa using hcs1 0 _ rfl)
         have r1:wr.cell? ⟨mb,mo+k,none⟩=some u':=ck (uh HB2) (by simpa using hcs2 0 _ rfl)
         have hbs:W2.heap.size≤wr.heap.size:=(uh HB2).size
         obtain ⟨ua,uc,rfl⟩:=hS.shape
         obtain ⟨va,vc,rfl⟩:=hS2.shape
         by_cases hjk:j=k
         · subst hjk
           -- the row itself
           have hRO:=(uh HONE).later (QE.stays N IsSl (e:=0) (by decide)) (uh HB2)
           have hget:(redT M j at' col)[j]? = some L:=by
             rw [redT,List.getElem?_map,List.getElem?_range (by have:=uh HN;omega)]
             simp only [Option.map_some,if_true]
             rw [(uh HD).1,(uh HD).2,uh HL]
           have HGET:=qh hget
           have HRO:=qh hRO
           clear hget hRO hcs1 hcs2 hS hS2 hs hs2 hee hee2 hgj hj hjl
           by_cases hja:j=at'
           · subst hja
             go_wp2_with (at_builtin;refine zqm (y:=L) rfl _ _ _ rfl Tryz.underlying88 info_qs rfl (by decide) (by decide) zk_sl (zqk _ (by decide)) W2.heap.size _ rfl (uh HO) [.slice oa ln oc] rfl (one_sl _ _ _) (kd_sl _ _ _) ⟨_,rfl,uh HRO⟩ rfl rfl hOl hbs ?_;intro ov' Z1 hO1 hc1 hgr1 hge1)
             obtain ⟨hgj,hj,hjl⟩:=uh HG
             go_roundg (n - (j+1))
             case measure=>omega
             case rel=>exact ⟨j+1,O++[L],by omega,rfl,by go_num,qh (by rw [tkn (uh HGET),uh HOE]),qh ((bk (zqa _ _) (uh HB2)).grown hgr1 (bk (zqa _ _) (uh HB2)).size hge1),qh hO1⟩
           · have hja':¬ (j:Int)=(at':Int):=by omega
             clear hja
             go_wp2_with (at_builtin;refine zqm (y:=L) rfl _ _ _ rfl Tryz.underlying88 info_qs rfl (by decide) (by decide) zk_sl (zqk _ (by decide)) W2.heap.size _ rfl (uh HO) [.slice oa ln oc] rfl (one_sl _ _ _) (kd_sl _ _ _) ⟨_,rfl,uh HRO⟩ rfl rfl hOl hbs ?_;intro ov' Z1 hO1 hc1 hgr1 hge1)
             obtain ⟨hgj,hj,hjl⟩:=uh HG
             go_roundg (n - (j+1))
             case measure=>omega
             case rel=>exact ⟨j+1,O++[L],by omega,rfl,by go_num,qh (by rw [tkn (uh HGET),uh HOE]),qh ((bk (zqa _ _) (uh HB2)).grown hgr1 (bk (zqa _ _) (uh HB2)).size hge1),qh hO1⟩
         · have hjk':¬ (j:Int)=(k:Int):=by omega
           have key:∀ (r:List (Int×Int)) (ur:Value),Rows 4 (QE N) W2 ur r→r ∈ M→(redT M k at' col)[j]? = some (wout r L (r.getD col (0,1)))→∃ ra rc rb ro z1 z2 z3 z4 z5 z6 z7 z8,ur=.slice (some ⟨rb,ro,none⟩) r.length rc∧ra=some (⟨rb,ro,none⟩:Addr)∧Hid ((col:Int)<(r.length:Int))∧Hid (W2.cell? ⟨rb,ro+col*4,none⟩=some (.bool z1)∧W2.cell? ⟨rb,ro+col*4+1,none⟩=some (.slice z2 z3 z4)∧W2.cell? ⟨rb,ro+col*4+2,none⟩=some (.bool z5)∧W2.cell? ⟨rb,ro+col*4+3,none⟩=some (.slice z6 z7 z8))∧Hid (∀ V:World,Below W2.heap.size W2 V→Calls Tryz.prog 211 #[.slice (some ⟨rb,ro,none⟩) r.length rc,.slice oa ln oc,.agg #[.bool z1,.slice z2 z3 z4,.bool z5,.slice z6 z7 z8]] V fun e w'=>(∃ v,e=.returned v∧Rows 4 (QE N) w' v (wout r L (r.getD col (0,1))))∧Below V.heap.size V w'):=by
             intro r ur hr hrM hget
             have hrl:=uh HW r hrM
             obtain ⟨y,hy⟩:∃ y,r[col]? = some y:=⟨r[col]'(by omega),by simp⟩
             have hyd:r.getD col (0,1)=y:=by simp [List.getD,hy]
             obtain ⟨ra,rc,rfl⟩:=hr.shape
             obtain ⟨rb,ro,rfl,cs,_,hcs,z1,z2,z3,z4,z5,z6,z7,z8,rfl,hz⟩:=hr.at hy
             refine ⟨_,rc,rb,ro,z1,z2,z3,z4,z5,z6,z7,z8,rfl,rfl,qh (by omega),qh ⟨by simpa using hcs 0 _ rfl,hcs 1 _ rfl,hcs 2 _ rfl,hcs 3 _ rfl⟩,qh fun V hV => ?_⟩
             have hLd:=uh HLD
             refine (rwithout_any (N:=N) (T:=T) (y:=y) V (hr.later (QE.stays N NoInt (e:=0) (by decide)) hV) ((uh HONE).later (QE.stays N NoInt (e:=0) (by decide)) hV) (hz.later hV) (by omega) (by omega) hNT hT (fun x hx => ?_)).mono fun e w' hh => ?_
             · rw [uh HL] at hx
               exact (uh HF).2.1 r hrM y hy x hx
             · obtain ⟨⟨v,rfl,hv⟩,hb⟩:=hh
               rw [hyd]
               refine ⟨⟨v,rfl,hv.fits (fun x hx => ?_)⟩,hb⟩
               rw [hyd] at hget
               exact (uh HF).2.2 _ (List.mem_of_getElem? hget) x hx
           have hgets:∀ r,M.getD (if j=at' then k else j) []=r→(redT M k at' col)[j]? = some (wout r L (r.getD col (0,1))):=fun r hr=>by
             rw [redT,List.getElem?_map,List.getElem?_range (by have:=uh HN;omega)]
             simp only [Option.map_some]
             rw [if_neg hjk,(uh HD).1,(uh HD).2,uh HL,hr]
           have HB2':=HB2
           by_cases hja:j=at'
           · have hget:=hgets s2 (by rw [if_pos hja];simp [List.getD,hs2])
             subst hja
             obtain ⟨ra,rc,rb,ro,z1,z2,z3,z4,z5,z6,z7,z8,hur,_,HC,HZ,HCALL⟩:=key s2 _ hS2 (List.mem_of_getElem? hs2) hget
             obtain ⟨rfl,rfl⟩:va=some ⟨rb,ro,none⟩∧vc=rc:=by simpa using hur
             clear hur
             have hcr:=uh HC
             have z0c:=ck (uh HB2) (uh HZ).1
             have z1c:=ck (uh HB2) (uh HZ).2.1
             have z2c:=ck (uh HB2) (uh HZ).2.2.1
             have z3c:=ck (uh HB2) (uh HZ).2.2.2
             have HGET:=qh hget
             clear key hgets hget hcs1 hcs2 hS hS2 hs hs2 hee hee2 hgj hj hjl HC HZ hjk
             go_wp2_with fail
             go_fit (uh HCALL _ (uh HB2))
             rintro e V1 ⟨⟨vx,rfl,hX⟩,B1⟩
             obtain ⟨xa,xc,rfl⟩:=hX.shape
             have HX:=qh hX
             have HBV:=qh (bk B1 (uh HB2))
             have HO:=qh ((uh HO).later (zqk _ (by decide)) B1)
             have hbs:W2.heap.size≤V1.heap.size:=(uh HBV).size
             clear hX B1 z0c z1c z2c z3c r0 r1 HCALL
             obtain ⟨xl,hxl⟩:∃ n,n=(wout s2 L (s2.getD col (0,1))).length:=⟨_,rfl⟩
             rw [← hxl] at HX ⊢
             clear hxl
             go_wp2_with (at_builtin;refine zqm (y:=wout s2 L (s2.getD col (0,1))) rfl _ _ _ rfl Tryz.underlying88 info_qs rfl (by decide) (by decide) zk_sl (zqk _ (by decide)) W2.heap.size _ rfl (uh HO) [.slice xa xl xc] rfl (one_sl _ _ _) (kd_sl _ _ _) ⟨_,rfl,uh HX⟩ rfl rfl hOl hbs ?_;intro ov' Z1 hO1 hc1 hgr1 hge1)
             obtain ⟨hgj,hj,hjl⟩:=uh HG
             go_roundg (n - (j+1))
             case measure=>omega
             case rel=>exact ⟨j+1,O++[_],by omega,rfl,by go_num,qh (by rw [tkn (uh HGET),uh HOE]),qh ((bk (zqa _ _) (uh HBV)).grown hgr1 (bk (zqa _ _) (uh HBV)).size hge1),qh hO1⟩
           · have hja':¬ (j:Int)=(at':Int):=by omega
             have hget:=hgets s (by rw [if_neg hja];simp [List.getD,hs])
             obtain ⟨ra,rc,rb,ro,z1,z2,z3,z4,z5,z6,z7,z8,hur,_,HC,HZ,HCALL⟩:=key s _ hS (List.mem_of_getElem? hs) hget
             obtain ⟨rfl,rfl⟩:ua=some ⟨rb,ro,none⟩∧uc=rc:=by simpa using hur
             clear hur
             have hcr:=uh HC
             have z0c:=ck (uh HB2) (uh HZ).1
             have z1c:=ck (uh HB2) (uh HZ).2.1
             have z2c:=ck (uh HB2) (uh HZ).2.2.1
             have z3c:=ck (uh HB2) (uh HZ).2.2.2
             have HGET:=qh hget
             clear key hgets hget hcs1 hcs2 hS hS2 hs hs2 hee hee2 hgj hj hjl HC HZ hjk hja
             go_wp2_with fail
             go_fit (uh HCALL _ (uh HB2))
             rintro e V1 ⟨⟨vx,rfl,hX⟩,B1⟩
             obtain ⟨xa,xc,rfl⟩:=hX.shape
             have HX:=qh hX
             have HBV:=qh (bk B1 (uh HB2))
             have HO:=qh ((uh HO).later (zqk _ (by decide)) B1)
             have hbs:W2.heap.size≤V1.heap.size:=(uh HBV).size
             clear hX B1 z0c z1c z2c z3c r0 r1 HCALL
             obtain ⟨xl,hxl⟩:∃ n,n=(wout s L (s.getD col (0,1))).length:=⟨_,rfl⟩
             rw [← hxl] at HX ⊢
             clear hxl
             go_wp2_with (at_builtin;refine zqm (y:=wout s L (s.getD col (0,1))) rfl _ _ _ rfl Tryz.underlying88 info_qs rfl (by decide) (by decide) zk_sl (zqk _ (by decide)) W2.heap.size _ rfl (uh HO) [.slice xa xl xc] rfl (one_sl _ _ _) (kd_sl _ _ _) ⟨_,rfl,uh HX⟩ rfl rfl hOl hbs ?_;intro ov' Z1 hO1 hc1 hgr1 hge1)
             obtain ⟨hgj,hj,hjl⟩:=uh HG
             go_roundg (n - (j+1))
             case measure=>omega
             case rel=>exact ⟨j+1,O++[_],by omega,rfl,by go_num,qh (by rw [tkn (uh HGET),uh HOE]),qh ((bk (zqa _ _) (uh HBV)).grown hgr1 (bk (zqa _ _) (uh HBV)).size hge1),qh hO1⟩
       · obtain rfl:j=n:=by omega
         clear hjl hj hgj
         go_wp2
         go_ret
         refine ⟨⟨_,rfl,?_⟩,bk (uh HB2) (uh HB)⟩
         have h1:=(uh HO).rows
         have h2:=uh HOE
         rw [← uh HRL,List.take_length] at h2
         rw [← h2]
         exact h1
end Go.Proofs.YtkifiolkfdicoaaGreatDoor
