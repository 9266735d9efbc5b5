/-
  Plain mathematics of lists of words of 64 bits: what a list of words is worth, sums and products of such lists. No program in sight.
  Plain mathematics of dividing two words by one, by halves of 32 bits (Knuth's step). No program in sight.
-/

namespace Go.Proofs.YtachnndaoogpeaaGreatDoor

/-- A word of 64 bits. -/
def W64 (x : Int) : Prop := 0 ≤ x ∧ x < 18446744073709551616
/-- A list of words. -/
def Ws (l : List Int) : Prop := ∀ x ∈ l, W64 x
/-- The k-th word, 0 beyond the end (a name of its own, so that nothing rewrites it). -/
def nth (l : List Int) (k : Nat) : Int := l[k]?.getD 0
theorem nth_lt {l : List Int} {k : Nat} (h : k < l.length) : nth l k = l[k] := by simp [nth, h]
theorem nth_ge {l : List Int} {k : Nat} (h : l.length ≤ k) : nth l k = 0 := by simp [nth, h]
/-- 2^64 to the power n. -/
def pw : Nat → Int
  | 0 => 1
  | n + 1 => 18446744073709551616 * pw n
/-- What a list of words is worth, the lowest first. -/
def val : List Int → Int
  | [] => 0
  | x :: xs => x + 18446744073709551616 * val xs

theorem pw_pos (n : Nat) : 0 < pw n := by
  induction n with
  | zero => simp [pw]
  | succ n ih => simp only [pw]; omega
theorem pw_add (m n : Nat) : pw (m + n) = pw m * pw n := by
  induction m with
  | zero => simp [pw]
  | succ m ih => rw [Nat.succ_add, pw, pw, ih, Int.mul_assoc]
theorem pw_succ (n : Nat) : pw (n + 1) = 18446744073709551616 * pw n := rfl
theorem Ws.cons {x : Int} {l : List Int} (h : Ws (x :: l)) : W64 x ∧ Ws l := ⟨h x (by simp), fun y hy => h y (by simp [hy])⟩
theorem Ws.mk {x : Int} {l : List Int} (h : W64 x) (h' : Ws l) : Ws (x :: l) := by
  intro y hy
  rcases List.mem_cons.1 hy with rfl | hy
  · exact h
  · exact h' y hy
theorem Ws.nil : Ws [] := fun _ h => by cases h
theorem Ws.append {a b : List Int} (h : Ws a) (h' : Ws b) : Ws (a ++ b) := by
  intro y hy
  rcases List.mem_append.1 hy with hy | hy
  · exact h y hy
  · exact h' y hy
theorem Ws.take {a : List Int} (h : Ws a) (n : Nat) : Ws (a.take n) := fun y hy => h y (List.mem_of_mem_take hy)
theorem Ws.drop {a : List Int} (h : Ws a) (n : Nat) : Ws (a.drop n) := fun y hy => h y (List.mem_of_mem_drop hy)
theorem Ws.get {a : List Int} (h : Ws a) (k : Nat) : W64 (nth a k) := by
  by_cases hk : k < a.length
  · rw [nth_lt hk]; exact h _ (List.getElem_mem hk)
  · rw [nth_ge (by omega)]; exact ⟨by decide, by decide⟩
theorem val_nonneg {l : List Int} (h : Ws l) : 0 ≤ val l := by
  induction l with
  | nil => simp [val]
  | cons x l ih =>
    obtain ⟨⟨h1, _⟩, h2⟩ := h.cons
    have := ih h2
    simp only [val]; omega
theorem val_lt {l : List Int} (h : Ws l) : val l < pw l.length := by
  induction l with
  | nil => simp [val, pw]
  | cons x l ih =>
    obtain ⟨⟨h1, h3⟩, h2⟩ := h.cons
    have := ih h2
    simp only [val, List.length_cons, pw]; omega
theorem val_append (a b : List Int) : val (a ++ b) = val a + pw a.length * val b := by
  induction a with
  | nil => simp [val, pw]
  | cons x a ih => simp only [List.cons_append, val, List.length_cons, pw, ih]; grind
theorem val_snoc (a : List Int) (x : Int) : val (a ++ [x]) = val a + pw a.length * x := by
  rw [val_append]; simp [val]
theorem take_snoc (l : List Int) (k : Nat) (h : k < l.length) : l.take (k + 1) = l.take k ++ [nth l k] := by
  rw [List.take_succ_eq_append_getElem h, nth_lt h]
theorem val_take_succ (l : List Int) (k : Nat) (h : k < l.length) : val (l.take (k + 1)) = val (l.take k) + pw k * nth l k := by
  rw [take_snoc l k h, val_snoc, List.length_take, Nat.min_eq_left (by omega)]
theorem val_replicate (n : Nat) : val (List.replicate n 0) = 0 := by
  induction n with
  | zero => rfl
  | succ n ih => simp [List.replicate_succ, val, ih]
theorem val_drop_succ (l : List Int) (k : Nat) (h : k < l.length) : val (l.drop k) = nth l k + 18446744073709551616 * val (l.drop (k + 1)) := by
  rw [List.drop_eq_getElem_cons h, val, nth_lt h]
theorem val_split (l : List Int) (k : Nat) (h : k ≤ l.length) : val l = val (l.take k) + pw k * val (l.drop k) := by
  have := val_append (l.take k) (l.drop k)
  rw [List.take_append_drop, List.length_take, Nat.min_eq_left h] at this
  exact this
/-- The highest word is not 0. -/
def Trim (l : List Int) : Prop := l = [] ∨ nth l (l.length - 1) ≠ 0
theorem val_ge {l : List Int} (h : Ws l) (t : Trim l) (hl : l ≠ []) : pw (l.length - 1) ≤ val l := by
  rcases t with t | t
  · exact absurd t hl
  have hn : 0 < l.length := List.length_pos_iff.2 hl
  have e := val_take_succ l (l.length - 1) (by omega)
  rw [Nat.sub_add_cancel hn, List.take_length] at e
  have h1 := val_nonneg (h.take (l.length - 1))
  have h2 := (h.get (l.length - 1)).1
  have h3 := pw_pos (l.length - 1)
  have h4 : pw (l.length - 1) * 1 ≤ pw (l.length - 1) * nth l (l.length - 1) := Int.mul_le_mul_of_nonneg_left (by omega) (by omega)
  omega
theorem val_zero {l : List Int} (h : Ws l) (t : Trim l) (hz : val l = 0) : l = [] := by
  by_cases hl : l = []
  · exact hl
  · have := val_ge h t hl
    have := pw_pos (l.length - 1)
    omega
theorem pw_mono {m n : Nat} (h : m ≤ n) : pw m ≤ pw n := by
  obtain ⟨d, rfl⟩ := Nat.exists_eq_add_of_le h
  rw [pw_add]
  have h1 := pw_pos m
  have h2 := pw_pos d
  have : pw m * 1 ≤ pw m * pw d := Int.mul_le_mul_of_nonneg_left (by omega) (by omega)
  omega
/-- A longer trimmed list is worth more. -/
theorem val_lt_of_length {a b : List Int} (ha : Ws a) (hb : Ws b) (tb : Trim b) (h : a.length < b.length) : val a < val b := by
  have h1 := val_lt ha
  have h2 := val_ge hb tb (by intro e; simp [e] at h)
  have h3 := pw_mono (show a.length ≤ b.length - 1 by omega)
  omega
/-- Same length: the highest word that parts decides. -/
theorem val_lt_of_word {a b : List Int} (ha : Ws a) (hb : Ws b) (k : Nat) (hl : a.length = b.length) (hk : k < a.length) (he : a.drop (k + 1) = b.drop (k + 1)) (h : nth a k < nth b k) : val a < val b := by
  have e1 := val_split a k (by omega)
  have e2 := val_split b k (by omega)
  have e3 := val_drop_succ a k hk
  have e4 := val_drop_succ b k (by omega)
  have h1 := val_lt (ha.take k)
  have h2 := val_nonneg (hb.take k)
  rw [List.length_take, Nat.min_eq_left (by omega)] at h1
  rw [he] at e3
  have h3 : val (a.drop k) + 1 ≤ val (b.drop k) := by omega
  have h4 := Int.mul_le_mul_of_nonneg_left h3 (Int.le_of_lt (pw_pos k))
  rw [Int.mul_add] at h4
  omega
theorem drop_eq_of {a b : List Int} (k : Nat) (hk : k < a.length) (hl : a.length = b.length) (he : a.drop (k + 1) = b.drop (k + 1)) (h : nth a k = nth b k) : a.drop k = b.drop k := by
  rw [List.drop_eq_getElem_cons hk, List.drop_eq_getElem_cons (show k < b.length by omega), he]
  rw [nth_lt hk, nth_lt (l := b) (by omega)] at h
  rw [h]
/-- One step of a sum with a carry: both lists go on. -/
theorem raise_round {W b out : List Int} {c : Int} {i : Nat} (hi : out.length = i) (h1 : i < W.length) (h2 : i < b.length) (h : val out + pw i * c = val (W.take i) + val (b.take i)) :
    val (out ++ [(nth W i + nth b i + c) % 18446744073709551616]) + pw (i + 1) * ((nth W i + nth b i + c) / 18446744073709551616) = val (W.take (i + 1)) + val (b.take (i + 1)) := by
  rw [val_snoc, hi, val_take_succ W i h1, val_take_succ b i h2, pw_succ]
  have e := Int.mul_ediv_add_emod (nth W i + nth b i + c) 18446744073709551616
  generalize (nth W i + nth b i + c) / 18446744073709551616 = k at *
  generalize (nth W i + nth b i + c) % 18446744073709551616 = o at *
  have e2 : pw i * (18446744073709551616 * k + o) = pw i * (nth W i + nth b i + c) := by rw [e]
  grind
/-- One step of a sum with a carry: one list alone goes on. -/
theorem raise_round' {W out : List Int} {S c : Int} {i : Nat} (hi : out.length = i) (h1 : i < W.length) (h : val out + pw i * c = val (W.take i) + S) :
    val (out ++ [(nth W i + c) % 18446744073709551616]) + pw (i + 1) * ((nth W i + c) / 18446744073709551616) = val (W.take (i + 1)) + S := by
  rw [val_snoc, hi, val_take_succ W i h1, pw_succ]
  have e := Int.mul_ediv_add_emod (nth W i + c) 18446744073709551616
  generalize (nth W i + c) / 18446744073709551616 = k at *
  generalize (nth W i + c) % 18446744073709551616 = o at *
  have e2 : pw i * (18446744073709551616 * k + o) = pw i * (nth W i + c) := by rw [e]
  grind
/-- The borrow. -/
def bor (x y : Int) : Int := if x < y then 1 else 0
theorem bor_01 (x y : Int) : 0 ≤ bor x y ∧ bor x y ≤ 1 := by unfold bor; split <;> omega
theorem bor_eq {u v : Int} (hu : W64 u) (h0 : 0 ≤ v) (hv : v ≤ 18446744073709551616) : (u - v) % 18446744073709551616 - 18446744073709551616 * bor u v = u - v := by
  obtain ⟨h1, h2⟩ := hu
  unfold bor; split <;> omega
/-- One step of a difference with a borrow: both lists go on. -/
theorem lower_round {W b out : List Int} {c : Int} {i : Nat} (hi : out.length = i) (h1 : i < W.length) (h2 : i < b.length) (hW : Ws W) (hb : Ws b) (hc0 : 0 ≤ c) (hc : c ≤ 1) (h : val out - pw i * c = val (W.take i) - val (b.take i)) :
    val (out ++ [(nth W i - nth b i - c) % 18446744073709551616]) - pw (i + 1) * bor (nth W i) (nth b i + c) = val (W.take (i + 1)) - val (b.take (i + 1)) := by
  rw [val_snoc, hi, val_take_succ W i h1, val_take_succ b i h2, pw_succ]
  have hbi := hb.get i
  have e := bor_eq (v := nth b i + c) (hW.get i) (by have := hbi.1; omega) (by have := hbi.2; omega)
  rw [show nth W i - (nth b i + c) = nth W i - nth b i - c by omega] at e
  generalize bor (nth W i) (nth b i + c) = k at *
  generalize (nth W i - nth b i - c) % 18446744073709551616 = o at *
  have e2 : pw i * (o - 18446744073709551616 * k) = pw i * (nth W i - nth b i - c) := by rw [e]
  grind
/-- One step of a difference with a borrow: one list alone goes on. -/
theorem lower_round' {W out : List Int} {S c : Int} {i : Nat} (hi : out.length = i) (h1 : i < W.length) (hW : Ws W) (hc0 : 0 ≤ c) (hc : c ≤ 1) (h : val out - pw i * c = val (W.take i) - S) :
    val (out ++ [(nth W i - c) % 18446744073709551616]) - pw (i + 1) * bor (nth W i) c = val (W.take (i + 1)) - S := by
  rw [val_snoc, hi, val_take_succ W i h1, pw_succ]
  have e := bor_eq (v := c) (hW.get i) (by omega) (by omega)
  generalize bor (nth W i) c = k at *
  generalize (nth W i - c) % 18446744073709551616 = o at *
  have e2 : pw i * (o - 18446744073709551616 * k) = pw i * (nth W i - c) := by rw [e]
  grind
theorem w64_mod (x : Int) : W64 (x % 18446744073709551616) := ⟨by omega, by omega⟩
/-- One step of adding a multiple. -/
theorem raiseTimes_round {W b out : List Int} {y c : Int} {i : Nat} (hi : out.length = i) (h1 : i < W.length) (h2 : i < b.length) (h : val out + pw i * c = val (W.take i) + val (b.take i) * y)
    {o k : Int} (e : o + 18446744073709551616 * k = nth W i + nth b i * y + c) :
    val (out ++ [o]) + pw (i + 1) * k = val (W.take (i + 1)) + val (b.take (i + 1)) * y := by
  rw [val_snoc, hi, val_take_succ W i h1, val_take_succ b i h2, pw_succ]
  have e2 : pw i * (o + 18446744073709551616 * k) = pw i * (nth W i + nth b i * y + c) := by rw [e]
  grind
/-- One step of taking a multiple away. -/
theorem lowerTimes_round {W b out : List Int} {y c : Int} {i : Nat} (hi : out.length = i) (h1 : i < W.length) (h2 : i < b.length) (h : val out - pw i * c = val (W.take i) - val (b.take i) * y)
    {o k : Int} (e : o - 18446744073709551616 * k = nth W i - nth b i * y - c) :
    val (out ++ [o]) - pw (i + 1) * k = val (W.take (i + 1)) - val (b.take (i + 1)) * y := by
  rw [val_snoc, hi, val_take_succ W i h1, val_take_succ b i h2, pw_succ]
  have e2 : pw i * (o - 18446744073709551616 * k) = pw i * (nth W i - nth b i * y - c) := by rw [e]
  grind
/-- A product of two words, and what is added to it, has room in two words. -/
theorem prod_bound {x y : Int} (hx : W64 x) (hy : W64 y) : 0 ≤ x * y ∧ x * y ≤ 340282366920938463426481119284349108225 := by
  obtain ⟨x0, x1⟩ := hx; obtain ⟨y0, y1⟩ := hy
  refine ⟨Int.mul_nonneg x0 y0, ?_⟩
  have h1 : x * y ≤ 18446744073709551615 * y := Int.mul_le_mul_of_nonneg_right (by omega) y0
  omega
end Go.Proofs.YtachnndaoogpeaaGreatDoor
namespace Go.Proofs.YtachnndaoogpeaaGreatDoor
/-- One half step: u stands for what is divided ahead (below y), n for the next half; q is not below the true digit. -/
structure Half (y1 y0 u n q r : Int) : Prop where
  y1lo : 2147483648 ≤ y1
  y1hi : y1 < 4294967296
  y0lo : 0 ≤ y0
  y0hi : y0 < 4294967296
  ulo : 0 ≤ u
  uhi : u < y1 * 4294967296 + y0
  nlo : 0 ≤ n
  nhi : n < 4294967296
  q0 : 0 ≤ q
  qhi : q ≤ 4294967297
  r0 : 0 ≤ r
  rhi : r < 4294967296
  eq : q * y1 + r = u
  top : u * 4294967296 + n < (q + 1) * (y1 * 4294967296 + y0)

theorem half_start {y1 y0 u n : Int} (y1lo : 2147483648 ≤ y1) (y1hi : y1 < 4294967296) (y0lo : 0 ≤ y0) (y0hi : y0 < 4294967296) (ulo : 0 ≤ u) (uhi : u < y1 * 4294967296 + y0)
    (nlo : 0 ≤ n) (nhi : n < 4294967296) : Half y1 y0 u n (u / y1) (u - u / y1 * y1) := by
  have e := Int.mul_ediv_add_emod u y1
  have e' : u / y1 * y1 = y1 * (u / y1) := Int.mul_comm _ _
  have m0 := Int.emod_nonneg u (show y1 ≠ 0 by omega)
  have m1 := Int.emod_lt_of_pos u (show 0 < y1 by omega)
  have q0 : 0 ≤ u / y1 := Int.ediv_nonneg ulo (by omega)
  generalize hq : u / y1 = q at *
  generalize u % y1 = r at *
  have qhi : q ≤ 4294967297 := by
    by_cases h : q ≤ 4294967297
    · exact h
    · have : y1 * 4294967298 ≤ y1 * q := Int.mul_le_mul_of_nonneg_left (by omega) (by omega)
      omega
  have h1 : (q + 1) * (y1 * 4294967296 + y0) = 4294967296 * (y1 * q) + 4294967296 * y1 + (q + 1) * y0 := by grind
  have h2 : 0 ≤ (q + 1) * y0 := Int.mul_nonneg (by omega) y0lo
  exact ⟨y1lo, y1hi, y0lo, y0hi, ulo, uhi, nlo, nhi, q0, qhi, by omega, by omega, by omega, by rw [h1]; omega⟩

/-- The test says: too much; and the rest stays a half. -/
theorem half_next {y1 y0 u n q r : Int} (h : Half y1 y0 u n q r) (ht : 4294967296 ≤ q ∨ 4294967296 * r + n < q * y0) (hr : r + y1 < 4294967296) : Half y1 y0 u n (q - 1) (r + y1) := by
  obtain ⟨a1, a2, a3, a4, a5, a6, a7, a8, a9, a10, a11, a12, a13, a14⟩ := h
  have key : u * 4294967296 + n < q * (y1 * 4294967296 + y0) ∧ 1 ≤ q := by
    have e : q * (y1 * 4294967296 + y0) = 4294967296 * (q * y1) + q * y0 := by grind
    rcases ht with ht | ht
    · have : 4294967296 * (y1 * 4294967296 + y0) ≤ q * (y1 * 4294967296 + y0) := Int.mul_le_mul_of_nonneg_right ht (by omega)
      exact ⟨by omega, by omega⟩
    · refine ⟨by omega, ?_⟩
      by_cases hq : q = 0
      · subst hq; omega
      · omega
  have e2 : (q - 1) * y1 = q * y1 - y1 := by grind
  exact ⟨a1, a2, a3, a4, a5, a6, a7, a8, by omega, by omega, by omega, hr, by omega, by rw [show q - 1 + 1 = q by omega]; exact key.1⟩

/-- The digit, and the rest, as the step leaves them. -/
structure Done (y1 y0 u n q : Int) : Prop where
  q0 : 0 ≤ q
  qhi : q < 4294967296
  lo : q * (y1 * 4294967296 + y0) ≤ u * 4294967296 + n
  hi : u * 4294967296 + n < (q + 1) * (y1 * 4294967296 + y0)

theorem half_done {y1 y0 u n q r : Int} (h : Half y1 y0 u n q r) (h1 : q < 4294967296) (h2 : q * y0 ≤ 4294967296 * r + n) : Done y1 y0 u n q := by
  obtain ⟨a1, a2, a3, a4, a5, a6, a7, a8, a9, a10, a11, a12, a13, a14⟩ := h
  have e : q * (y1 * 4294967296 + y0) = 4294967296 * (q * y1) + q * y0 := by grind
  exact ⟨a9, h1, by omega, a14⟩

/-- The test says: too much; the rest is no half any more: the loop is left. -/
theorem half_break {y1 y0 u n q r : Int} (h : Half y1 y0 u n q r) (ht : 4294967296 ≤ q ∨ 4294967296 * r + n < q * y0) (hr : 4294967296 ≤ r + y1) : Done y1 y0 u n (q - 1) := by
  obtain ⟨a1, a2, a3, a4, a5, a6, a7, a8, a9, a10, a11, a12, a13, a14⟩ := h
  have e : q * (y1 * 4294967296 + y0) = 4294967296 * (q * y1) + q * y0 := by grind
  have key : u * 4294967296 + n < q * (y1 * 4294967296 + y0) ∧ 1 ≤ q := by
    rcases ht with ht | ht
    · have : 4294967296 * (y1 * 4294967296 + y0) ≤ q * (y1 * 4294967296 + y0) := Int.mul_le_mul_of_nonneg_right ht (by omega)
      exact ⟨by omega, by omega⟩
    · refine ⟨by omega, ?_⟩
      by_cases hq : q = 0
      · subst hq; omega
      · omega
  have e2 : (q - 1) * (y1 * 4294967296 + y0) = 4294967296 * (q * y1) - 4294967296 * y1 + (q - 1) * y0 := by grind
  have h3 : (q - 1) * y0 ≤ 4294967296 * y0 := Int.mul_le_mul_of_nonneg_right (by omega) a3
  have lo : (q - 1) * (y1 * 4294967296 + y0) ≤ u * 4294967296 + n := by omega
  refine ⟨by omega, ?_, lo, by rw [show q - 1 + 1 = q by omega]; exact key.1⟩
  by_cases h : q - 1 < 4294967296
  · exact h
  · have : 4294967296 * (y1 * 4294967296 + y0) ≤ (q - 1) * (y1 * 4294967296 + y0) := Int.mul_le_mul_of_nonneg_right (by omega) (by omega)
    omega
theorem Done.rest {y1 y0 u n q : Int} (h : Done y1 y0 u n q) : 0 ≤ u * 4294967296 + n - q * (y1 * 4294967296 + y0) ∧ u * 4294967296 + n - q * (y1 * 4294967296 + y0) < y1 * 4294967296 + y0 := by
  obtain ⟨h1, h2, h3, h4⟩ := h
  rw [Int.add_mul] at h4
  omega
/-- Both halves: the quotient and the rest of two words by one, both shifted by p. -/
theorem halves_div {N y p y1 y0 u n1 n0 q1 q0 t : Int} (hp : 0 < p) (hy : y1 * 4294967296 + y0 = y * p) (hN : (u * 4294967296 + n1) * 4294967296 + n0 = N * p)
    (_h1 : Done y1 y0 u n1 q1) (ht : t = u * 4294967296 + n1 - q1 * (y1 * 4294967296 + y0)) (h0 : Done y1 y0 t n0 q0) :
    q1 * 4294967296 + q0 = N / y ∧ (t * 4294967296 + n0 - q0 * (y1 * 4294967296 + y0)) / p = N % y := by
  obtain ⟨r0, r1⟩ := h0.rest
  rw [hy] at ht r0 r1
  have e : t * 4294967296 + n0 - q0 * (y * p) = p * (N - (q1 * 4294967296 + q0) * y) := by
    subst ht; grind
  rw [hy, e]
  rw [e] at r0 r1
  rw [Int.mul_ediv_cancel_left _ (by omega)]
  generalize hq : q1 * 4294967296 + q0 = q at *
  have g0 : 0 ≤ N - q * y := by
    by_cases g : 0 ≤ N - q * y
    · exact g
    · have : p * (N - q * y) ≤ p * (-1) := Int.mul_le_mul_of_nonneg_left (by omega) (by omega)
      omega
  have g1 : N - q * y < y := by
    by_cases g : N - q * y < y
    · exact g
    · have : p * y ≤ p * (N - q * y) := Int.mul_le_mul_of_nonneg_left (by omega) (by omega)
      rw [Int.mul_comm p y] at this
      omega
  have hy0 : 0 < y := by omega
  have d := Int.mul_ediv_add_emod N y
  have d0 := Int.emod_nonneg N (show y ≠ 0 by omega)
  have d1 := Int.emod_lt_of_pos N hy0
  have : q = N / y := by
    have hk : y * (N / y - q) + (N % y - (N - q * y)) = 0 := by grind
    generalize N / y = a at *
    generalize N % y = b at *
    generalize N - q * y = c at *
    by_cases g : a - q = 0
    · omega
    · by_cases g' : 1 ≤ a - q
      · have : y * 1 ≤ y * (a - q) := Int.mul_le_mul_of_nonneg_left (by omega) (by omega)
        omega
      · have : y * (a - q) ≤ y * (-1) := Int.mul_le_mul_of_nonneg_left (by omega) (by omega)
        omega
  refine ⟨this, ?_⟩
  rw [this, Int.mul_comm] ; omega
/-- The first guess of a digit is not too small. -/
theorem digit_top {wn w1 b1 : Int} {lo by' P d : Int} (hP : 0 < P) (hb1 : 0 < b1) (hd : d = (wn * 18446744073709551616 + w1) / b1) (hlo : lo < P) (hby : P * b1 ≤ by') (d0 : 0 ≤ d) :
    lo + P * (w1 + 18446744073709551616 * wn) < (d + 1) * by' := by
  have e := Int.mul_ediv_add_emod (wn * 18446744073709551616 + w1) b1
  have m1 := Int.emod_lt_of_pos (wn * 18446744073709551616 + w1) hb1
  rw [← hd] at e
  generalize (wn * 18446744073709551616 + w1) % b1 = r at *
  have h1 : (d + 1) * (P * b1) ≤ (d + 1) * by' := Int.mul_le_mul_of_nonneg_left hby (by omega)
  have h2 : P * (w1 + 18446744073709551616 * wn + 1) ≤ P * ((d + 1) * b1) := Int.mul_le_mul_of_nonneg_left (by rw [Int.add_mul, Int.mul_comm d b1]; omega) (by omega)
  have h3 : (d + 1) * (P * b1) = P * ((d + 1) * b1) := by grind
  rw [Int.mul_add] at h2
  omega
end Go.Proofs.YtachnndaoogpeaaGreatDoor
