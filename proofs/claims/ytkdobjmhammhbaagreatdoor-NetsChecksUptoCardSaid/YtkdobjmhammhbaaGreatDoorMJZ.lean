import Derived.Test.YtkdobjmhammhbaaGreatDoorMJW
namespace Go.Proofs.YtkdobjmhammhbaaGreatDoor
open Go.RowKit
structure PlnR (w:World) (pg:Nat) (nn:Bool) (fa:Option Addr) (fn fc:Nat) (pa:Option Addr) (pn pc:Nat) (sa:Option Addr) (sn sc:Nat) (x:F8 Int):Prop where
 c0:w.cell? ⟨pg,0,none⟩=some (.bool nn)
 c1:w.cell? ⟨pg,1,none⟩=some (.slice fa fn fc)
 c2:w.cell? ⟨pg,2,none⟩=some (.slice pa pn pc)
 c3:w.cell? ⟨pg,3,none⟩=some (.slice sa sn sc)
 c4:R4 w pg 4 x
theorem PlnR.keep {w w1:World}{pg:Nat}{nn:Bool}{fa:Option Addr}{fn fc:Nat}{pa:Option Addr}{pn pc:Nat}{sa:Option Addr}{sn sc:Nat}{x:F8 Int} (h:PlnR w pg nn fa fn fc pa pn pc sa sn sc x) (hb:Below w.heap.size w w1):PlnR w1 pg nn fa fn fc pa pn pc sa sn sc x:=⟨ck hb h.c0,ck hb h.c1,ck hb h.c2,ck hb h.c3,h.c4.keep hb⟩
def chk (D:Int) (n:Nat) (nn:Bool) (L:List (Int×Int×Int×Int)) (S F P:List Int) (side:List Bool) (c:Int):Prop:=if nn=true then side.length=n∧thru side L<hsum side S else shipOk D n L S F P c
theorem suit_of {n:Int}{L:List (Int×Int×Int×Int)}{S:List Int} (h:suitV n L S=0):¬ (n<1∨60<n∨300<L.length)∧(∀ x ∈ L,¬ badArc n x)∧(S.length:Int)=n:=by
 unfold suitV at h
 by_cases h0:netV n L=0
 · rw [if_pos h0] at h
   by_cases h1:(S.length:Int)=n
   · unfold netV at h0
     split at h0
     · cases h0
     · rename_i h2
       split at h0
       · cases h0
       · rename_i h3
         refine ⟨h2,fun x hx hb=>h3 (List.any_eq_true.2 ⟨x,hx,decide_eq_true hb⟩),h1⟩
   · rw [if_neg h1] at h;cases h
 · rw [if_neg h0] at h;exact absurd h h0
theorem rest_none {n:Nat}{L:List (Int×Int×Int×Int)}{S F:List Int} (hn:∀ x ∈ L,¬ badArc n x) (hS:S.length=n):(mvs L (F.map fun f => -f) S L.length).any (fun s=>decide (s≠0))=false↔mvs L F (List.replicate n 0) L.length=S:=by
 have key:∀ j,(mvs L (F.map fun f => -f) S L.length).getD j 0=S.getD j 0 - (mvs L F (List.replicate n 0) L.length).getD j 0:=fun j=>mvs_opp hn (by simp) hS (fun j=>by rw [List.getD_eq_getElem?_getD (l:=List.replicate n (0:Int)),List.getElem?_replicate];split <;> simp) L.length j
 have l1:(mvs L (F.map fun f => -f) S L.length).length=n:=by rw [zkh,hS]
 have l2:(mvs L F (List.replicate n 0) L.length).length=n:=by rw [zkh,List.length_replicate]
 rw [List.any_eq_false]
 constructor
 · intro h
   refine List.ext_getElem? fun j => ?_
   rcases Nat.lt_or_ge j n with hj | hj
   · have h1:=key j
     obtain ⟨a,ha⟩:∃ a,(mvs L (F.map fun f => -f) S L.length)[j]? = some a:=⟨_,List.getElem?_eq_getElem (by omega)⟩
     obtain ⟨b,hb⟩:∃ b,(mvs L F (List.replicate n 0) L.length)[j]? = some b:=⟨_,List.getElem?_eq_getElem (by omega)⟩
     obtain ⟨c,hc⟩:∃ c,S[j]? = some c:=⟨_,List.getElem?_eq_getElem (by omega)⟩
     rw [zxv ha,zxv hb,zxv hc] at h1
     have h2:=h a (List.mem_of_getElem? ha)
     simp at h2
     rw [hb,hc]
     congr 1
     omega
   · rw [List.getElem?_eq_none (by omega),List.getElem?_eq_none (by omega)]
 · intro h x hx
   obtain ⟨j,hj⟩:=List.getElem?_of_mem hx
   have h1:=key j
   rw [zxv hj,h] at h1
   simp
   omega
set_option maxHeartbeats 16000000 in
set_option maxRecDepth 8000 in
theorem ncheck_any {A:Nat→Addr}{K N pg:Nat}{T D B c n:Int}{nn:Bool}{v kv:Value}{L:List (Int×Int×Int×Int)}{S F P:List Int}{side:List Bool}{fa pa sa:Option Addr}{fn fc pn pc sn sc:Nat}{x:F8 Int} (w:World) (hSe:Sents w A) (hBg:Big K N T) (hD:Dn T D) (hDD:Dn T (D*D)) (hT64:Tab64 w) (h:Rows 10 (ArE (RsE K D)) w v L) (hk:Rows 4 (RsE K D) w kv S) (hp:PlnR w pg nn fa fn fc pa pn pc sa sn sc x) (hf:Rows 4 (RsE K D) w (.slice fa fn fc) F) (hpr:Rows 4 (RsE K D) w (.slice pa pn pc) P) (hs:Rows 1 BE w (.slice sa sn sc) side) (hc:Rs K D w (vr x) c) (hb:ShB T B L S F P) :
   Calls Tryz.prog 11 #[.int .i64 n,v,kv,.pointer (some ⟨pg,0,none⟩)] w fun e w'=>(∃ b:Bool,e=.returned (.tuple #[.bool b,errV A (suitV n L S)])∧(suitV n L S≠0→b=false)∧(suitV n L S=0→(b=true↔chk D n.toNat nn L S F P side c)))∧Below w.heap.size w w':=by
 have sl1:=hf.small
 have sl2:=hpr.small
 have sl3:=hs.small
 unfold maxLen at sl1 sl2 sl3
 obtain rfl:=hf.len
 obtain rfl:=hpr.len
 obtain rfl:=hs.len
 obtain ⟨la,lc,rfl⟩:=h.shape
 have HSe:=qh hSe
 have HG:=qh (And.intro hBg (And.intro hD (And.intro hDD hT64)))
 have HR:=qh h
 have HK:=qh hk
 have HPL:=qh hp
 have HF:=qh hf
 have HPR:=qh hpr
 have HSD:=qh hs
 have HCQ:=qh hc
 have HBD:=qh hb
 clear hSe hBg hD hDD hT64 h hk hp hf hpr hs hc hb
 go_enter Tryz.func11,Tryz.ntmps11
 go_wp2_with fail
 go_fit (suits_any _ (uh HSe) (uh HG).2.1.1 (uh HR) (uh HK))
 rintro e W0 ⟨rfl,B0⟩
 have HBB:=qh B0
 clear B0
 by_cases h0:suitV n L S=0
 rotate_left
 · have hcod:suitV n L S=2∨suitV n L S=4:=by
     unfold suitV at h0 ⊢
     rcases netV_codes n L with e | e | e <;> rw [e] at h0 ⊢
     · simp only [if_true] at h0 ⊢
       split at h0
       · exact absurd rfl h0
       · rename_i h1;rw [if_neg h1];exact Or.inr rfl
     · exact Or.inl rfl
     · exact Or.inr rfl
   have HN0:=qh h0
   clear h0
   rcases hcod with e | e
   · have HE:=qh e
     rw [e,show errV A 2=.iface 324 (.pointer (some (A 1))) from rfl]
     clear e
     go_wp2
     exact bodyPost_ret (v:=.tuple #[.bool false,.iface 324 (.pointer (some (A 1)))]) (by simp [results,Tryz.results11,go_sem]) rfl ⟨⟨false,by rw [uh HE];rfl,fun _=>rfl,fun h=>absurd h (uh HN0)⟩,uh HBB⟩
   · have HE:=qh e
     rw [e,show errV A 4=.iface 324 (.pointer (some (A 3))) from rfl]
     clear e
     go_wp2
     exact bodyPost_ret (v:=.tuple #[.bool false,.iface 324 (.pointer (some (A 3)))]) (by simp [results,Tryz.results11,go_sem]) rfl ⟨⟨false,by rw [uh HE];rfl,fun _=>rfl,fun h=>absurd h (uh HN0)⟩,uh HBB⟩
 obtain ⟨hbd,hbad,hSn⟩:=suit_of h0
 obtain ⟨m,rfl⟩:∃ m:Nat,n=(m:Int):=⟨n.toNat,by omega⟩
 have HFN:=qh (And.intro hbad (show S.length=m∧m≤60∧1≤m∧L.length≤300 by omega))
 have HE0:=qh h0
 rw [h0,show errV A 0=.nilIface from rfl]
 simp only []
 have HPW:=HPL
 have HPL:=qh ((uh HPL).keep (uh HBB))
 have p0:=(uh HPL).c0
 have p3:=(uh HPL).c3
 have p1:=(uh HPL).c1
 have p2:=(uh HPL).c2
 clear h0 hbd hbad hSn
 have HQ:=qh (fun (W:World) (hb:Below w.heap.size w W)=>And.intro ((uh HR).later (ArE.stays (RsE.stays K D 0 nww)) hb) (And.intro ((uh HK).later (RsE.stays K D 0 nww) hb) (And.intro ((uh HF).later (RsE.stays K D 0 nww) hb) (And.intro ((uh HPR).later (RsE.stays K D 0 nww) hb) ((uh HSD).later (BE.stays NoWord 0) hb)))))
 rcases nn with _ | _
 rotate_left
 · by_cases hsd:side.length=m
   rotate_left
   · have hd:((side.length:Int) == (m:Int))=false:=by simp;omega
     have HFIN:=qh (show ¬ chk D m true L S F P side c from fun h=>hsd (by unfold chk at h;rw [if_pos rfl] at h;exact h.1))
     go_wp2
     exact bodyPost_ret (v:=.tuple #[.bool false,.nilIface]) (by simp [results,Tryz.results11,go_sem]) rfl ⟨⟨false,by rw [uh HE0];rfl,fun h=>absurd (uh HE0) h,fun _=>iff_of_false (by simp) (uh HFIN)⟩,uh HBB⟩
   · have hd:((side.length:Int) == (m:Int))=true:=by simp;omega
     have HSL:=qh hsd
     clear hsd
     go_wp2_with fail
     go_fit (tooMuch_any (B:=B) (n:=m) _ (uh HG).1 (uh HG).2.1 ((uh HG).2.2.2.later (uh HBB)) (uh HQ _ (uh HBB)).1 (uh HQ _ (uh HBB)).2.1 (uh HQ _ (uh HBB)).2.2.2.2 (uh HFN).2.1 (uh HSL) (uh HFN).1 (uh HFN).2.2.2.2 (uh HFN).2.2.1 (fun x hx=>((uh HBD).l x hx).1) (uh HBD).s (uh HBD).b (uh HBD).t)
     rintro e W1 ⟨⟨b1,rfl,hb1⟩,B1⟩
     have HBB:=qh (bk B1 (uh HBB))
     have HFIN:=qh (show b1=true↔chk D m true L S F P side c by rw [hb1];unfold chk;rw [if_pos rfl];exact ⟨fun h=>⟨uh HSL,h⟩,fun h=>h.2⟩)
     clear B1 hb1
     go_wp2
     exact bodyPost_ret (v:=.tuple #[.bool b1,.nilIface]) (by simp [results,Tryz.results11,go_sem]) rfl ⟨⟨b1,by rw [uh HE0];rfl,fun h=>absurd (uh HE0) h,fun _=>uh HFIN⟩,uh HBB⟩
 · have hfx:∀ q:Prop,(¬ q→¬ shipOk D m L S F P c)→¬ q→¬ chk D m false L S F P side c:=fun q h1 h2 h=>h1 h2 (by unfold chk at h;rw [if_neg (by simp)] at h;exact h)
   by_cases hl1:F.length=L.length
   rotate_left
   · have hd:((F.length:Int) != (L.length:Int))=true:=by simp;omega
     have HFIN:=qh (hfx _ (fun h1 h=>h1 h.1.1) hl1)
     clear hfx
     go_wp2
     exact bodyPost_ret (v:=.tuple #[.bool false,.nilIface]) (by simp [results,Tryz.results11,go_sem]) rfl ⟨⟨false,by rw [uh HE0];rfl,fun h=>absurd (uh HE0) h,fun _=>iff_of_false (by simp) (uh HFIN)⟩,uh HBB⟩
   have hd:((F.length:Int) != (L.length:Int))=false:=by simp;omega
   by_cases hl2:P.length=m
   rotate_left
   · have hd2:((P.length:Int) != (m:Int))=true:=by simp;omega
     have HFIN:=qh (hfx _ (fun h1 h=>h1 h.2.1) hl2)
     clear hfx
     go_wp2
     exact bodyPost_ret (v:=.tuple #[.bool false,.nilIface]) (by simp [results,Tryz.results11,go_sem]) rfl ⟨⟨false,by rw [uh HE0];rfl,fun h=>absurd (uh HE0) h,fun _=>iff_of_false (by simp) (uh HFIN)⟩,uh HBB⟩
   have hd2:((P.length:Int) != (m:Int))=false:=by simp;omega
   have HLL:=qh (And.intro hl1 hl2)
   have HSA:=qh (fun (W:World) (hb:Below w.heap.size w W)=>sendsAll_any (B:=B) (n:=m) W (uh HG).1 (uh HG).2.1 ((uh HG).2.2.2.later hb) (uh HQ W hb).1 (uh HQ W hb).2.1 (uh HQ W hb).2.2.1 (uh HFN).2.1 (uh HFN).2.2.2.1 (uh HLL).1 (uh HFN).1 (uh HFN).2.2.2.2 (uh HFN).2.2.1 (uh HBD).s (uh HBD).f (uh HBD).b (uh HBD).t)
   have HBI:=qh (fun (W:World) (hb:Below w.heap.size w W)=>bill_any W (uh HG).1 (uh HG).2.2.1 ((uh HG).2.2.2.later hb) (uh HQ W hb).1 (uh HQ W hb).2.2.1 (uh HLL).1 (uh HFN).2.2.2.2 (uh HBD))
   have hab:∀ (W:World) (hb:Below w.heap.size w W),Calls Tryz.prog 35 #[.slice la L.length lc,.pointer (some ⟨pg,0,none⟩)] W fun e w'=>YesP e (∀ (i:Nat) (x:Int×Int×Int×Int) (f:Int),L[i]? = some x→F[i]? = some f→bestP P x f)∧Below W.heap.size W w':=fun W hb=>by
     have h1:=uh HQ W hb
     have h2:=(uh HPW).keep hb
     have h3:=h1.2.2.1
     have h4:=h1.2.2.2.1
     have h5:=h2.c1
     have h6:=h2.c2
     rw [(uh HLL).1] at h3 h5
     rw [(uh HLL).2] at h4 h6
     exact areBest_any (n:=m) W (uh HG).1 (uh HG).2.1 ((uh HG).2.2.2.later hb) h1.1 h3 h4 h5 h6 (uh HFN).1 (uh HFN).2.2.2.2 (uh HFN).2.2.1 (uh HBD)
   have HAB:=qh hab
   have hsp:shipOk D m L S F P c↔sentP L S F∧billOf L F=c*D∧∀ (i:Nat) (x:Int×Int×Int×Int) (f:Int),L[i]? = some x→F[i]? = some f→bestP P x f:=by
     have hr:=rest_none (F:=F) (uh HFN).1 (uh HFN).2.1
     unfold shipOk sentP
     rw [hr]
     exact ⟨fun ⟨a,_,b,c,d⟩=>⟨⟨a,b⟩,d,c⟩,fun ⟨⟨a,b⟩,d,c⟩=>⟨a,(uh HLL).2,b,c,d⟩⟩
   have HCK:=qh (show chk D m false L S F P side c↔shipOk D m L S F P c by unfold chk;rw [if_neg (by simp)])
   have HS0:=qh (show W0.cell? ⟨pg,1,none⟩=_∧W0.cell? ⟨pg,4,none⟩=_∧W0.cell? ⟨pg,4+1,none⟩=_∧W0.cell? ⟨pg,4+2,none⟩=_∧W0.cell? ⟨pg,4+3,none⟩=_ from ⟨(uh HPL).c1,(uh HPL).c4.1,(uh HPL).c4.2.1,(uh HPL).c4.2.2.1,(uh HPL).c4.2.2.2⟩)
   have HSP:=qh hsp
   clear hab hsp hfx hl1 hl2
   go_upto_region 10 with fail
   clear p0 p1 p2 p3 hd hd2
   by_cases hc1:sentP L S F
   rotate_left
   · have HC1:=qh hc1
     have HFIN:=qh (show ¬ chk D m false L S F P side c from fun h=>hc1 ((uh HSP).1 ((uh HCK).1 h)).1)
     clear hc1
     have ne:=Abv.some W0
     have s0:∀ y:Abv W0,y.val.cell? ⟨pg,1,none⟩=_:=fun y=>ck y.property (uh HS0).1
     have HSN:=qh (show ∀ y:Abv W0,Calls Tryz.prog 32 #[.slice la L.length lc,kv,.slice fa F.length fc] y.val fun e w'=>e=.returned (.bool false)∧Below y.val.heap.size y.val w' from fun y=>(uh HSA y.val (bk y.property (uh HBB))).mono fun e w' ⟨⟨b1,he,hb1⟩,hb⟩=>⟨by rw [he];cases b1 with | false=>rfl | true=>exact absurd (hb1.1 rfl) (uh HC1),hb⟩)
     refine zqm (by kernel_rfl) (by kernel_rfl) ?_
     repeat (go_big_quiet_step (exact Calls.abv (uh HSN _)))
     refine wpQuiet_nil ?_
     rintro _ ⟨⟨W4,B4⟩,rfl⟩
     have HBB:=qh (bk B4 (uh HBB))
     clear s0 HSN ne
     all_goals
       go_wp2
       exact bodyPost_ret (v:=.tuple #[.bool false,.nilIface]) (by simp [results,Tryz.results11,go_sem]) rfl ⟨⟨false,by rw [uh HE0];rfl,fun h=>absurd (uh HE0) h,fun _=>iff_of_false (by simp) (uh HFIN)⟩,uh HBB⟩
   have HC1:=qh hc1
   clear hc1
   by_cases hc2:billOf L F=c*D
   rotate_left
   · obtain ⟨sg,hsg⟩:∃ s,s=sgn (billOf L F - c*D):=⟨_,rfl⟩
     have hg0:(sg == 0)=false:=by
       have h1:sg≠0:=fun h=>hc2 (by rw [hsg,sgn_nil] at h;omega)
       simpa using h1
     have HSG:=qh hsg.symm
     have HFIN:=qh (show ¬ chk D m false L S F P side c from fun h=>hc2 ((uh HSP).1 ((uh HCK).1 h)).2.1)
     clear hc2 hsg
     first
       | go_region_held (fun w'=>w'.cell? ⟨pg,1,none⟩=some (.slice fa F.length fc)∧w'.cell? ⟨pg,4,none⟩=some (.int .i64 x.a)∧w'.cell? ⟨pg,4+1,none⟩=some (.slice x.b x.c x.d)∧w'.cell? ⟨pg,4+2,none⟩=some (.int .i64 x.e)∧w'.cell? ⟨pg,4+3,none⟩=some (.slice x.f x.g x.h))
           (first | with_reducible exact ck5 (Below.refl _ _).drew (uh HS0) | with_reducible exact uh HS1)
           (first
           | (go_at_call 32;go_fit (uh HSA _ (uh HBB).drew);rintro e W1 ⟨⟨b1,rfl,hb1⟩,B1⟩;obtain rfl:b1=true:=hb1.2 (uh HC1);have HS1:=qh (ck5 B1 (ck5 (Below.refl _ _).drew (uh HS0)));have HBB:=qh (bk B1 (uh HBB).drew);clear B1 hb1)
           | (go_at_call 33;go_fit (uh HBI _ (uh HBB));rintro e W2 ⟨⟨v2,rfl,hv2⟩,B2⟩;have HS1:=qh (ck5 B2 (uh HS1));have HBB:=qh (bk B2 (uh HBB));have HV2:=qh hv2;clear B2 hv2)
           | (go_at_call 34;go_fit (rs_cmp _ (uh HG).1 (uh HG).2.2.1.1 (uh HV2) (((uh HCQ).later (uh HBB)).up D));rintro e W3 ⟨rfl,B3⟩;rw [uh HSG];have HS1:=qh (ck5 B3 (uh HS1));have HBB:=qh (bk B3 (uh HBB));clear B3))
       | skip
     all_goals
       go_wp2
       exact bodyPost_ret (v:=.tuple #[.bool false,.nilIface]) (by simp [results,Tryz.results11,go_sem]) rfl ⟨⟨false,by rw [uh HE0];rfl,fun h=>absurd (uh HE0) h,fun _=>iff_of_false (by simp) (uh HFIN)⟩,uh HBB⟩
   have HSG:=qh (show sgn (billOf L F - c*D)=0 by rw [sgn_nil];omega)
   have HC2:=qh hc2
   clear hc2
   by_cases hc3:∀ (i:Nat) (x:Int×Int×Int×Int) (f:Int),L[i]? = some x→F[i]? = some f→bestP P x f
   rotate_left
   · have HC3:=qh hc3
     have HFIN:=qh (show ¬ chk D m false L S F P side c from fun h=>hc3 ((uh HSP).1 ((uh HCK).1 h)).2.2)
     clear hc3
     go_region_held3 (fun w'=>w'.cell? ⟨pg,1,none⟩=some (.slice fa F.length fc)∧w'.cell? ⟨pg,4,none⟩=some (.int .i64 x.a)∧w'.cell? ⟨pg,4+1,none⟩=some (.slice x.b x.c x.d)∧w'.cell? ⟨pg,4+2,none⟩=some (.int .i64 x.e)∧w'.cell? ⟨pg,4+3,none⟩=some (.slice x.f x.g x.h))
       (first | with_reducible exact ck5 (Below.refl _ _).drew (uh HS0) | with_reducible exact uh HS1)
       (first
       | (go_at_call 32;go_fit (uh HSA _ (uh HBB).drew);rintro e W1 ⟨⟨b1,rfl,hb1⟩,B1⟩;obtain rfl:b1=true:=hb1.2 (uh HC1);have HS1:=qh (ck5 B1 (ck5 (Below.refl _ _).drew (uh HS0)));have HBB:=qh (bk B1 (uh HBB).drew);clear B1 hb1)
       | (go_at_call 33;go_fit (uh HBI _ (uh HBB));rintro e W2 ⟨⟨v2,rfl,hv2⟩,B2⟩;have HS1:=qh (ck5 B2 (uh HS1));have HBB:=qh (bk B2 (uh HBB));have HV2:=qh hv2;clear B2 hv2)
       | (go_at_call 34;go_fit (rs_cmp _ (uh HG).1 (uh HG).2.2.1.1 (uh HV2) (((uh HCQ).later (uh HBB)).up D));rintro e W3 ⟨rfl,B3⟩;rw [uh HSG];have HS1:=qh (ck5 B3 (uh HS1));have HBB:=qh (bk B3 (uh HBB));clear B3)
       | (go_at_call 35;go_fit (uh HAB _ (uh HBB));rintro e W4 ⟨⟨b4,rfl,hb4⟩,B4⟩;obtain rfl:b4=false:=(by cases b4 with | false=>rfl | true=>exact absurd (hb4.1 rfl) (uh HC3));have HS1:=qh (ck5 B4 (uh HS1));have HBB:=qh (bk B4 (uh HBB));clear B4 hb4))
     all_goals
       go_wp2
       exact bodyPost_ret (v:=.tuple #[.bool false,.nilIface]) (by simp [results,Tryz.results11,go_sem]) rfl ⟨⟨false,by rw [uh HE0];rfl,fun h=>absurd (uh HE0) h,fun _=>iff_of_false (by simp) (uh HFIN)⟩,uh HBB⟩
   · have HC3:=qh hc3
     have HFIN:=qh (show chk D m false L S F P side c from (uh HCK).2 ((uh HSP).2 ⟨uh HC1,uh HC2,hc3⟩))
     clear hc3
     go_region_held3 (fun w'=>w'.cell? ⟨pg,1,none⟩=some (.slice fa F.length fc)∧w'.cell? ⟨pg,4,none⟩=some (.int .i64 x.a)∧w'.cell? ⟨pg,4+1,none⟩=some (.slice x.b x.c x.d)∧w'.cell? ⟨pg,4+2,none⟩=some (.int .i64 x.e)∧w'.cell? ⟨pg,4+3,none⟩=some (.slice x.f x.g x.h))
       (first | with_reducible exact ck5 (Below.refl _ _).drew (uh HS0) | with_reducible exact uh HS1)
       (first
       | (go_at_call 32;go_fit (uh HSA _ (uh HBB).drew);rintro e W1 ⟨⟨b1,rfl,hb1⟩,B1⟩;obtain rfl:b1=true:=hb1.2 (uh HC1);have HS1:=qh (ck5 B1 (ck5 (Below.refl _ _).drew (uh HS0)));have HBB:=qh (bk B1 (uh HBB).drew);clear B1 hb1)
       | (go_at_call 33;go_fit (uh HBI _ (uh HBB));rintro e W2 ⟨⟨v2,rfl,hv2⟩,B2⟩;have HS1:=qh (ck5 B2 (uh HS1));have HBB:=qh (bk B2 (uh HBB));have HV2:=qh hv2;clear B2 hv2)
       | (go_at_call 34;go_fit (rs_cmp _ (uh HG).1 (uh HG).2.2.1.1 (uh HV2) (((uh HCQ).later (uh HBB)).up D));rintro e W3 ⟨rfl,B3⟩;rw [uh HSG];have HS1:=qh (ck5 B3 (uh HS1));have HBB:=qh (bk B3 (uh HBB));clear B3)
       | (go_at_call 35;go_fit (uh HAB _ (uh HBB));rintro e W4 ⟨⟨b4,rfl,hb4⟩,B4⟩;obtain rfl:b4=true:=hb4.2 (uh HC3);have HS1:=qh (ck5 B4 (uh HS1));have HBB:=qh (bk B4 (uh HBB));clear B4 hb4))
     all_goals
       go_wp2
       exact bodyPost_ret (v:=.tuple #[.bool true,.nilIface]) (by simp [results,Tryz.results11,go_sem]) rfl ⟨⟨true,by rw [uh HE0];rfl,fun h=>absurd (uh HE0) h,fun _=>iff_of_true rfl (uh HFIN)⟩,uh HBB⟩
end Go.Proofs.YtkdobjmhammhbaaGreatDoor
