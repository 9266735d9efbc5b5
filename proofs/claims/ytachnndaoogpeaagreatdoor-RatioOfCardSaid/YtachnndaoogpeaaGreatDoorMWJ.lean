/-
  strconv.FormatUint at base 10: the numeral, for every uint64.
  strings.Builder at this program: WriteString, WriteByte.
  Mathematics of Text: groups of nineteen digits and the numeral.
-/
import Derived.Test.YtachnndaoogpeaaGreatDoorMWH
import Derived.Test.YtachnndaoogpeaaGreatDoorMRA
import Derived.Test.YtachnndaoogpeaaGreatDoorMWI
import Derived.Laws.IdiomStrings
import Derived.Lib.AppendIntMem
namespace Go.Proofs.YtachnndaoogpeaaGreatDoor
open Go.RowKit

set_option maxRecDepth 100000 in
set_option maxHeartbeats 2000000 in
theorem formatUintIn_any (u : Nat) (hu64 : u < 18446744073709551616) (w : World) (htab : Lib.TabIs Tryz.prog w "internal/strconv.uint64pow10" .u64 Lib.pow10Tab) :
    Calls Tryz.prog 132 #[.int .u64 u, .int .i64 10] w fun e w' => e = .returned (.string ⟨(Lib.decDigits u).toArray⟩) ∧ Below w.heap.size w w' := by
  by_cases hs : u < 100
  · have hsi : (u : Int) < 100 := by omega
    go_enter Tryz.func132, Tryz.ntmps132
    go_wp2_with fail
    go_fit (Tryz.internal_strconv_small u hs _)
    rintro e w1 ⟨rfl, rfl⟩
    go_wp2
    go_ret
    exact ⟨rfl, Below.refl _ _⟩
  · have hu1 : 1 ≤ u := by omega
    have hsi : ¬ (u : Int) < 100 := by omega
    have hnd20 : Lib.nDigits u ≤ 20 := by have := Lib.numDigits_eq u hu1 hu64; split at this <;> omega
    have hal : Tryz.prog.arrayLen 187 = 24 := by simp [Program.arrayLen, Tryz.underlying187]
    have hsl1 : ∀ W, (Instr.sliceAt 187 (.pointer (some ⟨w.heap.size, 0, none⟩)) none (some (.int .i64 (Lib.nDigits u : Int))) none).run Tryz.prog W = .ok (.slice (some ⟨w.heap.size, 0, none⟩) (Lib.nDigits u) 24) W := fun W => by
      rw [run_sliceAt_array_h W 187 ⟨w.heap.size, 0, none⟩ (by simp [Program.arrayLen, Program.elem, Tryz.underlying187]) .i64 (Lib.nDigits u : Int) (by omega) (by rw [hal]; omega)]
      go_simp
    have hH0 := Lib.holds_zero0 w 187 (Lib.nDigits u) (by omega)
    have hfmt := Tryz.internal_strconv_formatBase10 w.heap.size 0 24 u (Array.replicate (Lib.nDigits u) 0) (w.alloc (.cells Lib.zeros24 187)) hH0 (by rw [Array.size_replicate]; exact Lib.lt_pow_nDigits u) hu64 (by rw [Array.size_replicate]; omega)
    rw [Array.size_replicate] at hfmt
    have HH0 := hide hH0
    have HF := hide hfmt
    have HTAB := hide (Lib.tabIs_alloc htab (.cells Lib.zeros24 187))
    clear hH0 hal hfmt htab
    go_enter Tryz.func132, Tryz.ntmps132
    go_wp2_with fail
    go_fit (Tryz.internal_strconv_numDigits u hu1 hu64 _ (unhide HTAB))
    rintro e w1 ⟨rfl, rfl⟩
    go_wp2_with fail
    go_fit (unhide HF)
    rintro e w2 ⟨rfl, k, v', dk, hw2, hF⟩
    have hcv : (convert 113 9 (.slice (some ⟨w.heap.size, 0, none⟩) (Lib.nDigits u) 24)).run Tryz.prog w2 = .ok (.string ⟨(Lib.decDigits u).toArray⟩) w2 := by
      have h := run_convert_bytes_back (P := Tryz.prog) w2 113 9 5 ⟨w.heap.size, 0, none⟩ 24 (Lib.decDigits u) Tryz.underlying113 Tryz.underlying5 Tryz.underlying9 (fun j hj => by
        rw [Lib.row_is_numeral hF j hj, Lib.add_plain, hw2, World.cell?_drewN]
        exact Sort.cell?_putRow (fun (b : UInt8) => Value.int .u8 (b.toNat : Int)) _ w.heap.size 0 _ dk (unhide HH0) (by rw [hF.size, Array.size_replicate]) j (by rw [hF.size]; rw [Lib.decDigits_length] at hj; exact hj))
      rw [Lib.decDigits_length] at h
      exact h
    have hB : Below w.heap.size w w2 := by
      rw [hw2, Sort.alloc_eq_grow]
      obtain ⟨os', _, e⟩ := Sort.putRow_grow_new (fun (b : UInt8) => Value.int .u8 (b.toNat : Int)) w #[.cells Lib.zeros24 187] w.heap.size 0 dk (Nat.le_refl _)
      rw [e]
      exact below_grow w k os'
    have HFF := hide hF
    clear hF hw2
    go_wp2
    go_ret
    exact ⟨rfl, hB⟩

set_option maxHeartbeats 1000000 in
theorem formatUint_any (u : Nat) (hu64 : u < 18446744073709551616) (w : World) (htab : Lib.TabIs Tryz.prog w "internal/strconv.uint64pow10" .u64 Lib.pow10Tab) :
    Calls Tryz.prog 89 #[.int .u64 u, .int .i64 10] w fun e w' => e = .returned (.string ⟨(Lib.decDigits u).toArray⟩) ∧ Below w.heap.size w w' := by
  have HTAB := hide htab
  clear htab
  go_enter Tryz.func89, Tryz.ntmps89
  go_wp2_with fail
  go_fit (formatUintIn_any u hu64 _ (unhide HTAB))
  rintro e w1 ⟨rfl, hb⟩
  go_wp2
  go_ret
  exact ⟨rfl, hb⟩
end Go.Proofs.YtachnndaoogpeaaGreatDoor
namespace Go.Proofs.YtachnndaoogpeaaGreatDoor
open Go.RowKit

theorem wstr_any (B b : Nat) (bs : List Value) (s : ByteArray) (w : World) (h : Lib.IsBuilderF 115 5 B b bs w) (hlen : bs.length + s.size ≤ 140737488355328) (hBw : B ≤ w.heap.size) :
    Calls Tryz.prog 90 #[.pointer (some ⟨b, 0, none⟩), .string s] w fun e w' => e = .returned (.tuple #[.int .i64 s.size, .nilIface]) ∧ (Lib.BuilderAtF 115 5 B b (.pointer (some ⟨b, 0, none⟩)) (bs ++ Lib.strCells s) w' ∧ Below B w w' ∧ Lib.OthersKept 5 (some b) w w') :=
  Any.Builder_WriteString_k { Tryz.lays105 with } Tryz.Builder_Extra_105 B b bs s w h hlen hBw
def lays167_ren : Go.Shelf.Ren := ⟨fun | 167 => 87 | n => Tryz.lays105_ren.f n, fun n => Tryz.lays105_ren.t n, fun n => Tryz.lays105_ren.g n⟩
theorem lays167 : Go.Proofs.Lays.n167 Tryz.prog lays167_ren := { Tryz.lays105 with
  f167 := Tryz.func87.trans (congrArg some (by kernel_rfl)) }
set_option maxRecDepth 100000 in
theorem wbyte_any (B b : Nat) (bs : List Value) (c : Int) (w : World) (h : Lib.IsBuilderF 115 5 B b bs w) (hlen : bs.length + 1 ≤ 140737488355328) (hBw : B ≤ w.heap.size) :
    Calls Tryz.prog 87 #[.pointer (some ⟨b, 0, none⟩), .int .u8 c] w fun e w' => e = .returned .nilIface ∧ (Lib.BuilderAtF 115 5 B b (.pointer (some ⟨b, 0, none⟩)) (bs ++ [.int .u8 c]) w' ∧ Below B w w' ∧ Lib.OthersKept 5 (some b) w w') :=
  Any.Builder_WriteByte_k lays167 { Tryz.Builder_Extra_105 with } B b bs c w h hlen hBw
theorem grown_new {w w' : World} (h : Below w.heap.size w w') : w.grownBy w' none := ⟨h.os, h.tape, h.output, h.size, fun k hk _ => h.block k hk⟩
theorem builderAt_later {T e : TypeId} {B b : Nat} {p : Value} {bs : List Value} {w w' : World} (h : Lib.BuilderAtF T e B b p bs w) (hb : Below w.heap.size w w') : Lib.BuilderAtF T e B b p bs w' := by
  obtain ⟨hB, v, hv, hown, hne⟩ := h
  refine ⟨hB, v, by rw [hb.block b (Array.getElem?_eq_some_iff.1 hv).1]; exact hv, hown.kept (grown_new hb) ?_, hne⟩
  cases e : v.ownBlock with
  | none => exact Or.inl rfl
  | some k => exact Or.inr (by simp)
theorem builder_later {T e : TypeId} {B b : Nat} {bs : List Value} {w w' : World} (h : Lib.IsBuilderF T e B b bs w) (hb : Below w.heap.size w w') : Lib.IsBuilderF T e B b bs w' :=
  h.elim (fun x => .inl (builderAt_later x hb)) (fun x => .inr (builderAt_later x hb))
theorem builder_new (w : World) (B : Nat) (hB : B ≤ w.heap.size) : Lib.IsBuilderF 115 5 B w.heap.size [] (w.alloc (.cells #[.pointer none, .slice none 0 0] 115)) :=
  .inl ⟨hB, .slice none 0 0, heap_alloc_new w _, Go.World.ownsRowF_nil _ _ _ _, by simp [Value.ownBlock]⟩
end Go.Proofs.YtachnndaoogpeaaGreatDoor
namespace Go.Proofs.YtachnndaoogpeaaGreatDoor
open Go.RowKit

theorem decDigits_dig (u : Nat) : Dig10 (Lib.decDigits u) := by
  induction u using Nat.strongRecOn with
  | ind u ih =>
    rw [Lib.decDigits]
    split
    · intro c hc
      have : c = UInt8.ofNat (48 + u) := by simpa using hc
      subst this
      rw [UInt8.toNat_ofNat_of_lt' (show 48 + u < 256 by omega)]; omega
    · intro c hc
      rcases List.mem_append.1 hc with hc | hc
      · exact ih (u / 10) (by omega) c hc
      · have : c = UInt8.ofNat (48 + u % 10) := by simpa using hc
        subst this
        rw [UInt8.toNat_ofNat_of_lt' (show 48 + u % 10 < 256 by omega)]; omega
theorem decDigits_dec (u : Nat) : dec (Lib.decDigits u) = u := by
  induction u using Nat.strongRecOn with
  | ind u ih =>
    rw [Lib.decDigits]
    split
    · simp only [dec, List.foldl]
      rw [UInt8.toNat_ofNat_of_lt' (show 48 + u < 256 by omega)]; omega
    · rw [dec_snoc, ih (u / 10) (by omega), UInt8.toNat_ofNat_of_lt' (show 48 + u % 10 < 256 by omega)]; omega
theorem decDigits_head {u : Nat} (h : 0 < u) : (Lib.decDigits u).head? ≠ some 48 := by
  induction u using Nat.strongRecOn with
  | ind u ih =>
    rw [Lib.decDigits]
    split
    · intro e
      have e1 : UInt8.ofNat (48 + u) = 48 := by simpa using e
      have e2 := congrArg UInt8.toNat e1
      rw [UInt8.toNat_ofNat_of_lt' (show 48 + u < 256 by omega)] at e2
      have : (48 : UInt8).toNat = 48 := rfl
      omega
    · have := ih (u / 10) (by omega) (by omega)
      cases hl : Lib.decDigits (u / 10) with
      | nil =>
        have h0 := decDigits_dec (u / 10)
        rw [hl] at h0
        simp [dec] at h0
        omega
      | cons a t => rw [hl] at this; simpa using this
theorem decDigits_ne (u : Nat) : Lib.decDigits u ≠ [] := by
  rw [Lib.decDigits]; split <;> simp
theorem decDigits_len19 {u : Nat} (h : u < 10000000000000000000) : (Lib.decDigits u).length ≤ 19 := by
  rw [Lib.decDigits_length]
  rcases Nat.eq_zero_or_pos u with rfl | hp
  · rw [Lib.nDigits]; simp
  · have h1 := Lib.numDigits_eq u hp (by omega)
    rcases Nat.lt_or_ge 19 (Lib.nDigits u) with h2 | h2
    · exfalso
      have h3 := decDigits_head hp
      have h4 := decDigits_dec u
      have h5 := decDigits_dig u
      have h6 : (Lib.decDigits u).length = Lib.nDigits u := Lib.decDigits_length u
      cases hl : Lib.decDigits u with
      | nil => exact decDigits_ne u hl
      | cons a t =>
        rw [hl] at h3 h4 h5 h6
        have ha := h5 a (List.mem_cons_self ..)
        have ha48 : a.toNat ≠ 48 := fun e => h3 (by rw [show a = 48 from UInt8.toNat.inj e]; rfl)
        have e : dec (a :: t) = ((a.toNat : Int) - 48) * 10 ^ t.length + dec t := by
          rw [show a :: t = [a] ++ t from rfl, dec_append]
          simp [dec]
        have ht := (dec_bound (l := t) (fun c hc => h5 c (List.mem_cons_of_mem _ hc))).1
        have hlt : 19 ≤ t.length := by simp at h6; omega
        have hp19 := ten_mono hlt
        have : (1 : Int) * 10 ^ t.length ≤ ((a.toNat : Int) - 48) * 10 ^ t.length := Int.mul_le_mul_of_nonneg_right (by omega) (Int.le_of_lt (Int.pow_pos (by decide)))
        have h19 : (10 : Int) ^ 19 = 10000000000000000000 := by decide
        omega
    · exact h2
/-- Noughts ahead. -/
theorem repeat_len (c : Nat) : (Lib.repeatL [48] c).length = c := by
  induction c with
  | zero => rfl
  | succ c ih => simp [Lib.repeatL, ih]
theorem repeat_dig (c : Nat) : Dig10 (Lib.repeatL [48] c) := by
  induction c with
  | zero => intro d hd; simp [Lib.repeatL] at hd
  | succ c ih =>
    intro d hd
    simp only [Lib.repeatL, List.cons_append, List.nil_append, List.mem_cons] at hd
    rcases hd with rfl | hd
    · exact ⟨by decide, by decide⟩
    · exact ih d hd
theorem repeat_dec (c : Nat) : dec (Lib.repeatL [48] c) = 0 := by
  induction c with
  | zero => simp [Lib.repeatL, dec]
  | succ c ih =>
    have : Lib.repeatL [48] (c + 1) = 48 :: Lib.repeatL [48] c := rfl
    rw [this]
    have e : dec (48 :: Lib.repeatL [48] c) = ((48 : UInt8).toNat - 48 : Int) * 10 ^ (Lib.repeatL [48] c).length + dec (Lib.repeatL [48] c) := by
      rw [show (48 : UInt8) :: Lib.repeatL [48] c = [48] ++ Lib.repeatL [48] c from rfl, dec_append]
      simp [dec]
    rw [e, ih]
    simp
/-- A group's nineteen digits behind a numeral. -/
theorem numeral_next {v : Int} {g : Nat} (hv : 0 < v) (hg : g < 10000000000000000000) : Lib.decDigits v.toNat ++ (Lib.repeatL [48] (19 - (Lib.decDigits g).length) ++ Lib.decDigits g) = Lib.decDigits ((g : Int) + p19 * v).toNat := by
  have hd : Dig10 (Lib.decDigits v.toNat ++ (Lib.repeatL [48] (19 - (Lib.decDigits g).length) ++ Lib.decDigits g)) := by
    intro c hc
    rcases List.mem_append.1 hc with hc | hc
    · exact decDigits_dig _ c hc
    · rcases List.mem_append.1 hc with hc | hc
      · exact repeat_dig _ c hc
      · exact decDigits_dig _ c hc
  have hne : Lib.decDigits v.toNat ++ (Lib.repeatL [48] (19 - (Lib.decDigits g).length) ++ Lib.decDigits g) ≠ [] := by
    intro e
    exact decDigits_ne v.toNat (List.append_eq_nil_iff.1 e).1
  have hh : (Lib.decDigits v.toNat ++ (Lib.repeatL [48] (19 - (Lib.decDigits g).length) ++ Lib.decDigits g)).head? ≠ some 48 := by
    have := decDigits_head (u := v.toNat) (by omega)
    cases hl : Lib.decDigits v.toNat with
    | nil => exact absurd hl (decDigits_ne _)
    | cons a t => rw [hl] at this; simpa using this
  have hu := dec_unique hd hne hh
  rw [← hu]
  congr 1
  congr 1
  rw [dec_append, dec_append, repeat_dec, decDigits_dec, decDigits_dec, List.length_append, repeat_len]
  have hl := decDigits_len19 hg
  rw [show 19 - (Lib.decDigits g).length + (Lib.decDigits g).length = 19 by omega, show (10 : Int) ^ 19 = p19 by decide]
  unfold p19
  omega
theorem v19_drop {l : List Int} {k : Nat} (hk : k < l.length) : v19 (l.drop k) = nth l k + p19 * v19 (l.drop (k + 1)) := by
  rw [List.drop_eq_getElem_cons hk]
  simp [v19, nth, hk]
theorem v19_pos {l : List Int} (h : P19 l) (t : Trim l) {k : Nat} (hk : k < l.length) : 0 < v19 (l.drop k) := by
  have hne : l ≠ [] := fun e => by rw [e] at hk; simp at hk
  have ht := t.resolve_left hne
  have hp : P19 (l.drop k) := fun d hd => h d (List.mem_of_mem_drop hd)
  have e : l.drop k = (l.drop k).take (l.length - 1 - k) ++ [nth l (l.length - 1)] := by
    have := List.take_append_getElem (l := l.drop k) (i := l.length - 1 - k) (by rw [List.length_drop]; omega)
    rw [show l.length - 1 - k + 1 = (l.drop k).length by rw [List.length_drop]; omega, List.take_length] at this
    rw [← this]
    congr 2
    · rw [this]
    · unfold nth
      rw [List.getElem?_eq_getElem (by omega), List.getElem_drop]
      simp only [Option.getD_some]
      congr 1
      omega
  have hn : 0 ≤ nth l (l.length - 1) := by
    unfold nth
    rw [List.getElem?_eq_getElem (by omega)]
    exact (h _ (List.getElem_mem _)).1
  rw [e, v19_append]
  have h1 := v19_nonneg (l := (l.drop k).take (l.length - 1 - k)) (fun d hd => hp d (List.mem_of_mem_take hd))
  have h2 : (0 : Int) < p19 ^ ((l.drop k).take (l.length - 1 - k)).length := Int.pow_pos (by decide)
  have h4 := Int.mul_pos h2 (show 0 < nth l (l.length - 1) by omega)
  simp only [v19, Int.mul_zero, Int.add_zero]
  omega
end Go.Proofs.YtachnndaoogpeaaGreatDoor
