import Derived.Test.YtkdobjmhammhbaaGreatDoorMRA
namespace Go.Proofs.YtkdobjmhammhbaaGreatDoor
open Go.RowKit
theorem decDigits_dig (u:Nat):Dig10 (Lib.decDigits u):=by
 induction u using Nat.strongRecOn with
 | ind u ih =>
   rw [Lib.decDigits]
   split
   · intro c hc
     have:c=UInt8.ofNat (48+u):=by simpa using hc
     subst this
     rw [UInt8.toNat_ofNat_of_lt' (show 48+u<256 by omega)];omega
   · intro c hc
     rcases List.mem_append.1 hc with hc | hc
     · exact ih (u / 10) (by omega) c hc
     · have:c=UInt8.ofNat (48+u % 10):=by simpa using hc
       subst this
       rw [UInt8.toNat_ofNat_of_lt' (show 48+u % 10<256 by omega)];omega
theorem decDigits_dec (u:Nat):dec (Lib.decDigits u)=u:=by
 induction u using Nat.strongRecOn with
 | ind u ih =>
   rw [Lib.decDigits]
   split
   · simp only [dec,List.foldl]
     rw [UInt8.toNat_ofNat_of_lt' (show 48+u<256 by omega)];omega
   · rw [dec_snoc,ih (u / 10) (by omega),UInt8.toNat_ofNat_of_lt' (show 48+u % 10<256 by omega)];omega
theorem decDigits_head {u:Nat} (h:0<u):(Lib.decDigits u).head? ≠ some 48:=by
 induction u using Nat.strongRecOn with
 | ind u ih =>
   rw [Lib.decDigits]
   split
   · intro e
     have e1:UInt8.ofNat (48+u)=48:=by simpa using e
     have e2:=congrArg UInt8.toNat e1
     rw [UInt8.toNat_ofNat_of_lt' (show 48+u<256 by omega)] at e2
     have:(48:UInt8).toNat=48:=rfl
     omega
   · have:=ih (u / 10) (by omega) (by omega)
     cases hl:Lib.decDigits (u / 10) with
     | nil =>
       have h0:=decDigits_dec (u / 10)
       rw [hl] at h0
       simp [dec] at h0
       omega
     | cons a t=>rw [hl] at this;simpa using this
structure TxC (w:World) (pre:List UInt8) (G:List Int) (g:Nat) (T:List UInt8) (wr:World):Prop where
 bld:Lib.IsBuilderF 196 5 (w.heap.size+1) (w.heap.size+1) (Lib.byteCells (pre++T)) wr
 below:Below w.heap.size w wr
 row:Row wr g 0 G
 typ:∃ cur,wr.heap[g]? = some (.cells cur 200 (0,0))
theorem TxC.size {w:World}{pre:List UInt8}{G:List Int}{g:Nat}{T:List UInt8}{wr:World} (h:TxC w pre G g T wr):w.heap.size+1≤wr.heap.size:=by
 rcases h.bld with ⟨_,v,e,_⟩ | ⟨_,v,e,_⟩ <;> exact Nat.le_of_lt (Array.getElem?_eq_some_iff.1 e).1
theorem TxC.later {w:World}{pre:List UInt8}{G:List Int}{g:Nat}{T:List UInt8}{wr w1:World} (h:TxC w pre G g T wr) (hb:Below wr.heap.size wr w1):TxC w pre G g T w1:=by
 obtain ⟨cur,hc⟩:=h.typ
 exact ⟨builder_later h.bld hb,bk hb h.below,h.row.later hb,cur,by rw [hb.block g (Array.getElem?_eq_some_iff.1 hc).1];exact hc⟩
end Go.Proofs.YtkdobjmhammhbaaGreatDoor
