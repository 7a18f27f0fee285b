/-
  Rights as numbers: what 'and', 'or' and a shift of them are, their names, and the document's answers as functions. Conditions: each theorem's own.
-/
import Derived.Test.YtoobohbghobfhaaLib
import Derived.Laws.BitsAllLaws
namespace Go.Proofs.Ytoobohbghobfhaa
open Go.RowKit
set_option linter.unusedVariables false

theorem ofInt_i64 (a : Nat) (ha : a < 18446744073709551616) : (BitVec.ofInt 64 (a : Int)).toNat = a := by
  rw [BitVec.ofInt_natCast, BitVec.toNat_ofNat]; exact Nat.mod_eq_of_lt (by omega)
theorem i64_and_nat (a b : Nat) (ha : a < 9223372036854775808) (hb : b < 9223372036854775808) : bits .and .i64 (a : Int) (b : Int) = ((a &&& b : Nat) : Int) := by
  have hx : a &&& b < 2 ^ 63 := Nat.and_lt_two_pow _ (by omega)
  show IntKind.i64.wrap ((BitVec.ofInt 64 (a : Int) &&& BitVec.ofInt 64 (b : Int)).toNat : Int) = _
  rw [BitVec.toNat_and, ofInt_i64 a (by omega), ofInt_i64 b (by omega), IntKind.wrap_i64]
  omega
theorem i64_or_nat (a b : Nat) (ha : a < 9223372036854775808) (hb : b < 9223372036854775808) : bits .or .i64 (a : Int) (b : Int) = ((a ||| b : Nat) : Int) := by
  have hx : a ||| b < 2 ^ 63 := Nat.or_lt_two_pow (by omega) (by omega)
  show IntKind.i64.wrap ((BitVec.ofInt 64 (a : Int) ||| BitVec.ofInt 64 (b : Int)).toNat : Int) = _
  rw [BitVec.toNat_or, ofInt_i64 a (by omega), ofInt_i64 b (by omega), IntKind.wrap_i64]
  omega
theorem and15 (n : Int) : bits .and .i64 15 n = n % 16 := by
  show IntKind.i64.wrap ((BitVec.ofInt 64 15 &&& BitVec.ofInt 64 n).toNat : Int) = _
  rw [BitVec.toNat_and, BitVec.toNat_ofInt n, show (BitVec.ofInt 64 15).toNat = 15 from rfl, Nat.and_comm, Nat.and_two_pow_sub_one_eq_mod _ 4, IntKind.wrap_i64]
  omega

/-- a number of a one-cell integer -/
def natI (n : Nat) : Value := .int .i64 n

/-- the names, in their row -/
def nm : Nat → ByteArray
  | 0 => ⟨#[115, 101, 101]⟩
  | 1 => ⟨#[99, 104, 97, 110, 103, 101]⟩
  | 2 => ⟨#[107, 101, 101, 112]⟩
  | 3 => ⟨#[103, 105, 118, 101]⟩
  | _ => ⟨#[]⟩

theorem ba_beq (a b : ByteArray) : (a.toList == b.toList) = decide (a = b) := by
  by_cases h : a = b
  · subst h; simp
  · rw [decide_eq_false h]
    refine beq_eq_false_iff_ne.2 fun e => h ?_
    rw [ByteArray.toList_eq, ByteArray.toList_eq] at e
    have e' := Array.toList_inj.1 e
    cases a
    cases b
    simp only at e'
    rw [e']
theorem ba_ne (a b : ByteArray) (h : a.data.toList ≠ b.data.toList) : a ≠ b := fun e => h (by rw [e])
theorem nm01 : nm 0 ≠ nm 1 := ba_ne _ _ (by decide)
theorem nm02 : nm 0 ≠ nm 2 := ba_ne _ _ (by decide)
theorem nm03 : nm 0 ≠ nm 3 := ba_ne _ _ (by decide)
theorem nm12 : nm 1 ≠ nm 2 := ba_ne _ _ (by decide)
theorem nm13 : nm 1 ≠ nm 3 := ba_ne _ _ (by decide)
theorem nm23 : nm 2 ≠ nm 3 := ba_ne _ _ (by decide)

/-- the one right of a name -/
def rg (s : ByteArray) : Nat := if nm 0 = s then 1 else if nm 1 = s then 2 else if nm 2 = s then 4 else if nm 3 = s then 8 else 0
theorem rg_lt (s : ByteArray) : rg s < 16 := by
  unfold rg
  repeat' split
  all_goals omega
/-- what the document's Parse has of a name behind k looks -/
def rn (s : ByteArray) : Nat → Int
  | 0 => -1
  | k + 1 => if nm k = s then ((2 ^ k : Nat) : Int) else rn s k
theorem rn_yes (s : ByteArray) (k : Nat) (h : nm k = s) : rn s (k + 1) = ((2 ^ k : Nat) : Int) := if_pos h
theorem rn_no (s : ByteArray) (k : Nat) (h : nm k ≠ s) : rn s (k + 1) = rn s k := if_neg h
theorem rn_four (s : ByteArray) : rn s 4 = if rg s = 0 then -1 else (rg s : Int) := by
  unfold rg
  by_cases h0 : nm 0 = s
  · subst h0
    simp [rn, nm01.symm, nm02.symm, nm03.symm]
  by_cases h1 : nm 1 = s
  · subst h1
    simp [rn, nm01, nm12.symm, nm13.symm]
  by_cases h2 : nm 2 = s
  · subst h2
    simp [rn, nm02, nm12, nm23.symm]
  by_cases h3 : nm 3 = s
  · subst h3
    simp [rn, nm03, nm13, nm23]
  simp [rn, h0, h1, h2, h3]
theorem rn_nat (s : ByteArray) (k : Nat) : -1 ≤ rn s k ∧ rn s k ≤ 2 ^ k := by
  induction k with
  | zero => exact ⟨by simp [rn], by simp [rn]⟩
  | succ k ih =>
    by_cases h : nm k = s
    · rw [rn_yes s k h]
      have : (0 : Int) < 2 ^ k := Int.pow_pos (by decide)
      refine ⟨?_, ?_⟩
      · simp; omega
      · rw [Int.pow_succ]; simp; omega
    · rw [rn_no s k h]
      have : (0 : Int) < 2 ^ k := Int.pow_pos (by decide)
      refine ⟨ih.1, ?_⟩
      rw [Int.pow_succ]; omega

/-- rights together -/
def orL (l : List Nat) : Nat := l.foldl (· ||| ·) 0
theorem orL_snoc (l : List Nat) (x : Nat) : orL (l ++ [x]) = orL l ||| x := by simp [orL]
theorem orL_take (l : List Nat) (j : Nat) (h : j < l.length) : orL (l.take (j + 1)) = orL (l.take j) ||| l.getD j 0 := by
  rw [List.take_succ_eq_append_getElem h, orL_snoc]
  simp [List.getD, List.getElem?_eq_getElem h]
theorem or_lt16 {a b : Nat} (ha : a < 16) (hb : b < 16) : a ||| b < 16 := Nat.or_lt_two_pow (n := 4) (by omega) (by omega)
theorem orF_lt (l : List Nat) (a : Nat) (ha : a < 16) (h : ∀ x ∈ l, x < 16) : l.foldl (· ||| ·) a < 16 := by
  induction l generalizing a with
  | nil => exact ha
  | cons x l ih => exact ih (a ||| x) (or_lt16 ha (h x (by simp))) (fun y hy => h y (by simp [hy]))
theorem orL_lt (l : List Nat) (h : ∀ x ∈ l, x < 16) : orL l < 16 := orF_lt l 0 (by omega) h
theorem orL_take_lt (l : List Nat) (j : Nat) (h : ∀ x ∈ l, x < 16) : orL (l.take j) < 16 := orL_lt _ (fun x hx => h x (List.mem_of_mem_take hx))
theorem getD_lt (l : List Nat) (j : Nat) (h : ∀ x ∈ l, x < 16) : l.getD j 0 < 16 := by
  by_cases hj : j < l.length
  · have : l.getD j 0 = l[j] := by simp [List.getD, List.getElem?_eq_getElem hj]
    rw [this]; exact h _ (List.getElem_mem hj)
  · simp [List.getD, List.getElem?_eq_none (Nat.le_of_not_lt hj)]

/-- whether a right is among others -/
def hasB (x y : Nat) : Bool := decide (x &&& y = y)
theorem has_bit : ∀ s, s < 16 → ∀ j, j < 4 → hasB s (2 ^ j) = s.testBit j := by decide
theorem has_all : ∀ x, x < 16 → ∀ y, y < 16 → (∀ i, i < 4 → y.testBit i = true → x.testBit i = true) → hasB x y = true := by decide
theorem has_not : ∀ x, x < 16 → ∀ y, y < 16 → ∀ i, i < 4 → y.testBit i = true → x.testBit i = false → hasB x y = false := by decide
theorem has_or : ∀ x, x < 16 → ∀ y, y < 16 → hasB (x ||| y) x = true := by decide
theorem has_more : ∀ x, x < 16 → ∀ y, y < 16 → ∀ n, n < 16 → hasB x n = true → hasB (x ||| y) n = true := by decide
theorem has_15 : ∀ x, x < 16 → hasB 15 x = true := by decide
theorem bit_is : ∀ s, s < 16 → ∀ j, j < 4 → decide (s / 2 ^ j % 2 = 1) = s.testBit j := by decide
/-- the bits below j -/
theorem low_next : ∀ s, s < 16 → ∀ j, j < 4 → s % 2 ^ (j + 1) = s % 2 ^ j + (if s.testBit j then 2 ^ j else 0) := by decide
theorem low_all : ∀ s, s < 16 → s % 2 ^ 4 = s := by decide
theorem or_bit (l : List Nat) (i j : Nat) (h : j < l.length) : (orL (l.take (j + 1))).testBit i = ((orL (l.take j)).testBit i || (l.getD j 0).testBit i) := by
  rw [orL_take l j h, Nat.testBit_or]

/-- the names of the rights below j -/
def nmL (s : Nat) : Nat → List ByteArray
  | 0 => []
  | j + 1 => if s.testBit j then nmL s j ++ [nm j] else nmL s j
theorem nmL_yes (s j : Nat) (h : s.testBit j = true) : nmL s (j + 1) = nmL s j ++ [nm j] := if_pos h
theorem nmL_no (s j : Nat) (h : s.testBit j = false) : nmL s (j + 1) = nmL s j := if_neg (by rw [h]; exact Bool.false_ne_true)
theorem nmL_len (s j : Nat) : (nmL s j).length ≤ j := by
  induction j with
  | zero => exact Nat.le_refl _
  | succ j ih =>
    cases h : s.testBit j
    · rw [nmL_no s j h]; omega
    · rw [nmL_yes s j h, List.length_append]; simp; omega
theorem nmL_five : nmL 5 4 = [nm 0, nm 2] := by decide

/-- whether all are names; their rights -/
def allN (l : List ByteArray) : Bool := l.all fun s => decide (rg s ≠ 0)
def parS (l : List ByteArray) : Nat := orL (l.map rg)
theorem allN_take (l : List ByteArray) (d : ByteArray) (j : Nat) (h : j < l.length) : allN (l.take (j + 1)) = (allN (l.take j) && decide (rg (l.getD j d) ≠ 0)) := by
  have e : l.getD j d = l[j] := by simp [List.getD, List.getElem?_eq_getElem h]
  rw [List.take_succ_eq_append_getElem h, e, allN, List.all_append, List.all_cons, List.all_nil, Bool.and_true]
  rfl
theorem allN_not (l : List ByteArray) (d : ByteArray) (j : Nat) (h : j < l.length) (hr : rg (l.getD j d) = 0) : allN l = false := by
  have hm : l.getD j d ∈ l := by
    have : l.getD j d = l[j] := by simp [List.getD, List.getElem?_eq_getElem h]
    rw [this]; exact List.getElem_mem h
  rw [allN, List.all_eq_false]
  exact ⟨_, hm, by rw [hr]; decide⟩
theorem parS_take (l : List ByteArray) (d : ByteArray) (j : Nat) (h : j < l.length) : parS (l.take (j + 1)) = parS (l.take j) ||| rg (l.getD j d) := by
  have e : l.getD j d = l[j] := by simp [List.getD, List.getElem?_eq_getElem h]
  rw [List.take_succ_eq_append_getElem h, e, parS, List.map_append, List.map_cons, List.map_nil, orL_snoc]
  rfl
theorem parS_lt (l : List ByteArray) : parS l < 16 := orL_lt _ (fun x hx => by obtain ⟨s, _, rfl⟩ := List.mem_map.1 hx; exact rg_lt s)

theorem nm_rg (j : Nat) (h : j < 4) : rg (nm j) = 2 ^ j := by
  rcases (show j = 0 ∨ j = 1 ∨ j = 2 ∨ j = 3 by omega) with rfl | rfl | rfl | rfl
  · simp [rg]
  · simp [rg, nm01]
  · simp [rg, nm02, nm12]
  · simp [rg, nm03, nm13, nm23]
/-- names are read as they were told -/
theorem allN_nmL (s j : Nat) (h : j ≤ 4) : allN (nmL s j) = true := by
  induction j with
  | zero => rfl
  | succ j ih =>
    cases hb : s.testBit j
    · rw [nmL_no s j hb]; exact ih (by omega)
    · rw [nmL_yes s j hb]
      have := ih (by omega)
      have h2 : (2 : Nat) ^ j ≠ 0 := Nat.ne_of_gt (Nat.two_pow_pos j)
      simp only [allN, List.all_append, List.all_cons, List.all_nil, nm_rg j (by omega), Bool.and_true, Bool.and_eq_true, decide_eq_true_eq] at this ⊢
      exact ⟨this, h2⟩
theorem low_or : ∀ s, s < 16 → ∀ j, j < 4 → s.testBit j = true → s % 2 ^ (j + 1) = s % 2 ^ j ||| 2 ^ j := by decide
theorem low_no : ∀ s, s < 16 → ∀ j, j < 4 → s.testBit j = false → s % 2 ^ (j + 1) = s % 2 ^ j := by decide
theorem parS_nmL (s j : Nat) (hs : s < 16) (h : j ≤ 4) : parS (nmL s j) = s % 2 ^ j := by
  induction j with
  | zero => simp [nmL, parS, orL, Nat.mod_one]
  | succ j ih =>
    cases hb : s.testBit j
    · rw [nmL_no s j hb, ih (by omega), low_no s hs j (by omega) hb]
    · rw [nmL_yes s j hb, low_or s hs j (by omega) hb, ← ih (by omega)]
      simp [parS, orL, nm_rg j (by omega)]
theorem parS_all (s : Nat) (hs : s < 16) : parS (nmL s 4) = s := by rw [parS_nmL s 4 hs (Nat.le_refl _), low_all s hs]

/-- what an operation needs -/
def ndS (n : Int) : Nat := if n = 1 ∨ n = 2 ∨ n = 4 ∨ n = 8 then 1 else if n = 3 ∨ n = 7 then 2 else if n = 5 ∨ n = 6 then 4 else 0
theorem ndS_lt (n : Int) : ndS n < 16 := by
  unfold ndS
  repeat' split
  all_goals omega
end Go.Proofs.Ytoobohbghobfhaa
