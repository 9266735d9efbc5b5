/-
  Walks over package whole: a copy of words; groups of digits.
-/
import Derived.Test.YtmdmcmkfhmnbeaaGreatDoorW28
import Derived.OwnWalk
namespace Go.Proofs.YtmdmcmkfhmnbeaaGreatDoor
open Go.RowKit

theorem info_u64 : (Tryz.prog.info? 75).map (fun i => (i.zero, i.size, i.bytes)) = some (some (.int .u64 0), 1, 8) := by kernel_rfl
set_option maxRecDepth 8000 in
set_option maxHeartbeats 1000000 in
theorem clone_any (b off cap : Nat) (l : List Int) (w : World) (hr : Row w b off l) (hne : l ≠ []) (hl : l.length ≤ cap) (hcap : cap ≤ 1000000) :
    Calls Tryz.prog 70 #[.slice (some ⟨b, off, none⟩) l.length cap] w fun e w' => (∃ g c, e = .returned (.slice (some ⟨g, 0, none⟩) l.length c) ∧ w.heap.size ≤ g ∧ Row w' g 0 l ∧ Free w' g ∧ l.length ≤ c ∧ c ≤ maxLen) ∧ Below w.heap.size w w' := by
  obtain ⟨i0, hi, hz0, hz1, hz2⟩ := info_parts info_u64
  have hq := eql_any (some ⟨b, off, none⟩) l.length cap
  go_enter Tryz.func70, Tryz.ntmps70
  have hown0 : (w.alloc (.cells #[] 75)).ownsRow w.heap.size 75 1 (.slice (some ⟨w.heap.size, 0, none⟩) 0 0) 0 [] := World.ownsRow_lit w #[] 0 (Nat.le_refl _) (Nat.zero_le _) rfl
  have hk := below_new w (.cells #[] 75)
  have hr' := hr.later hk
  go_wp2_with (at_builtin; refine wpList_append_own _ rfl _ _ 22 rfl w.heap.size 75 i0 (.int .u64 0) 1 8 Tryz.underlying22 hi hz0 hz1 hz2 rfl (by decide) _ _ _ rfl hown0 ⟨b, off, none⟩ l.length cap (l.map (Value.int .u64)) rfl ?hl ?c1 ?c2 ?c3 ?c4 ?c5 ?_)
  case hl => simp
  case c1 =>
    intro j u hj
    have hjl : j < l.length := by
      have := (List.getElem?_eq_some_iff.1 hj).1
      simpa using this
    have hu : u = .int .u64 (nth l j) := by
      rw [List.getElem?_map, List.getElem?_eq_getElem hjl] at hj
      simp only [Option.map_some, Option.some.injEq] at hj
      rw [← hj]
      simp [nth, hjl]
    rw [hu, show (⟨b, off, none⟩ : Addr).add j = ⟨b, off + j, none⟩ by unfold Addr.add; split <;> simp_all]
    exact hr' j hjl
  case c2 =>
    intro u hu
    obtain ⟨x, _, rfl⟩ := List.mem_map.1 hu
    rfl
  case c3 => unfold maxLen; omega
  case c4 => omega
  case c5 => simp
  intro v' w1 hown' hgrow hnil
  have hB : Below w.heap.size w w1 := hk.grown hgrow (by simp) (fun k hk' => by simp [Value.ownBlock] at hk'; omega)
  obtain ⟨q1, ⟨rfl, q2⟩ | ⟨g, c, cur, rfl, q3, q4, q5, q6, q7, q8⟩⟩ := hown'
  · exfalso; exact hne (List.eq_nil_of_length_eq_zero (by omega))
  · have hrow : Row w1 g 0 l := by
      intro k hk'
      have e : cur[k]? = (cur.toList.take (l.length * 1))[k]? := by
        rw [List.getElem?_take, if_pos (by omega)]; simp
      simp only [World.cell?, Nat.zero_add, q4]
      rw [e, q8]
      simp [nth, hk']
    have hfree : Free w1 g := ⟨cur, _, q4⟩
    have hle : l.length ≤ c := by omega
    have hcm := q6
    clear hgrow hnil hown0 hr' hk q1 q4 q5 q6 q7 q8
    go_wp2
    go_ret
    exact ⟨⟨g, c, by simp, q3, hrow, hfree, hle, hcm⟩, hB⟩
end Go.Proofs.YtmdmcmkfhmnbeaaGreatDoor
