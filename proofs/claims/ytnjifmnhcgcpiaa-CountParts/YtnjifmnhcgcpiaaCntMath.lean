/-
  Six counters as numbers: together, add, sum; in whatever row, in whatever parts. Conditions: each theorem's own.
-/
namespace Go.Proofs.Ytnjifmnhcgcpiaa
set_option linter.unusedVariables false

/-- two numbers together -/
def tog (a b : Int) : Int := if a + b ≤ 18446744073709551615 then a + b else 18446744073709551615

/-- a number of 64 bits, from 0 on -/
def U (a : Int) : Prop := 0 ≤ a ∧ a ≤ 18446744073709551615

theorem tog_u {a b : Int} (ha : U a) (hb : U b) : U (tog a b) := by unfold U tog at *; split <;> omega
theorem tog_le {a b : Int} (ha : U a) (hb : U b) : a ≤ tog a b := by unfold U tog at *; split <;> omega
theorem tog_zero {a : Int} (ha : U a) : tog a 0 = a := by unfold U tog at *; split <;> omega
theorem zero_tog {a : Int} (ha : U a) : tog 0 a = a := by unfold U tog at *; split <;> omega
theorem tog_swap {a b c : Int} (hb : U b) (hc : U c) : tog (tog a b) c = tog (tog a c) b := by
  unfold U tog at *
  by_cases h1 : a + b ≤ 18446744073709551615 <;> by_cases h2 : a + c ≤ 18446744073709551615 <;> simp only [h1, h2, if_true, if_false] <;> split <;> split <;> omega
theorem tog_assoc {a b c : Int} (ha : U a) (hb : U b) (hc : U c) : tog (tog a b) c = tog a (tog b c) := by
  unfold U tog at *
  by_cases h1 : a + b ≤ 18446744073709551615 <;> by_cases h2 : b + c ≤ 18446744073709551615 <;> simp only [h1, h2, if_true, if_false] <;> split <;> split <;> omega

/-- six numbers, by their kinds -/
structure C6 where
  c0 : Int
  c1 : Int
  c2 : Int
  c3 : Int
  c4 : Int
  c5 : Int

/-- each a number of 64 bits -/
def C6.Ok (c : C6) : Prop := U c.c0 ∧ U c.c1 ∧ U c.c2 ∧ U c.c3 ∧ U c.c4 ∧ U c.c5

def C6.zero : C6 := ⟨0, 0, 0, 0, 0, 0⟩
theorem C6.zero_ok : C6.zero.Ok := by
  have : U 0 := ⟨by omega, by omega⟩
  exact ⟨this, this, this, this, this, this⟩

/-- one more of a kind -/
def addC (c : C6) (k n : Int) : C6 :=
  ⟨if k = 0 then tog c.c0 n else c.c0, if k = 1 then tog c.c1 n else c.c1, if k = 2 then tog c.c2 n else c.c2, if k = 3 then tog c.c3 n else c.c3, if k = 4 then tog c.c4 n else c.c4, if k = 5 then tog c.c5 n else c.c5⟩

/-- the number of a kind -/
def getC (c : C6) (k : Int) : Int := if k = 0 then c.c0 else if k = 1 then c.c1 else if k = 2 then c.c2 else if k = 3 then c.c3 else if k = 4 then c.c4 else if k = 5 then c.c5 else 0

/-- is it a kind? -/
def isK (k : Int) : Bool := decide (0 ≤ k ∧ k < 6)

theorem kinds {k : Int} (h : 0 ≤ k ∧ k < 6) : k = 0 ∨ k = 1 ∨ k = 2 ∨ k = 3 ∨ k = 4 ∨ k = 5 := by omega

theorem addC_ok {c : C6} {k n : Int} (h : c.Ok) (hn : U n) : (addC c k n).Ok := by
  obtain ⟨h0, h1, h2, h3, h4, h5⟩ := h
  refine ⟨?_, ?_, ?_, ?_, ?_, ?_⟩ <;> (unfold addC; dsimp only; split <;> first | assumption | (exact tog_u (by assumption) hn))

theorem getC_u {c : C6} {k : Int} (h : c.Ok) : U (getC c k) := by
  obtain ⟨h0, h1, h2, h3, h4, h5⟩ := h
  unfold getC
  repeat' split
  all_goals first | assumption | exact ⟨by omega, by omega⟩

theorem addC_none {c : C6} {k n : Int} (h : ¬ (0 ≤ k ∧ k < 6)) : addC c k n = c := by
  unfold addC
  rw [if_neg (by omega), if_neg (by omega), if_neg (by omega), if_neg (by omega), if_neg (by omega), if_neg (by omega)]

theorem getC_none {c : C6} {k : Int} (h : ¬ (0 ≤ k ∧ k < 6)) : getC c k = 0 := by
  unfold getC
  rw [if_neg (by omega), if_neg (by omega), if_neg (by omega), if_neg (by omega), if_neg (by omega), if_neg (by omega)]

theorem addC_zero {c : C6} {k : Int} (h : c.Ok) : addC c k 0 = c := by
  obtain ⟨h0, h1, h2, h3, h4, h5⟩ := h
  cases c
  unfold addC
  simp only [C6.mk.injEq]
  refine ⟨?_, ?_, ?_, ?_, ?_, ?_⟩ <;> (split <;> first | rfl | exact tog_zero (by assumption))

/-- what was added is got -/
theorem getC_addC {c : C6} {k n j : Int} (hj : 0 ≤ j ∧ j < 6) : getC (addC c k n) j = if j = k then tog (getC c j) n else getC c j := by
  rcases kinds hj with rfl | rfl | rfl | rfl | rfl | rfl <;> simp only [getC, addC] <;> simp <;> (by_cases h : k = 0 <;> by_cases h1 : k = 1 <;> by_cases h2 : k = 2 <;> by_cases h3 : k = 3 <;> by_cases h4 : k = 4 <;> by_cases h5 : k = 5 <;> simp_all <;> omega)

/-- no kind's number falls -/
theorem getC_le {c : C6} {k n j : Int} (h : c.Ok) (hn : U n) (hj : 0 ≤ j ∧ j < 6) : getC c j ≤ getC (addC c k n) j := by
  rw [getC_addC hj]
  split
  · exact tog_le (getC_u h) hn
  · exact Int.le_refl _

theorem addC_swap {c : C6} {k n k' n' : Int} (hn : U n) (hn' : U n') : addC (addC c k n) k' n' = addC (addC c k' n') k n := by
  have one : ∀ (a : Int) (i : Int), (if k' = i then tog (if k = i then tog a n else a) n' else (if k = i then tog a n else a)) = (if k = i then tog (if k' = i then tog a n' else a) n else (if k' = i then tog a n' else a)) := fun a i => by
    by_cases h1 : k = i <;> by_cases h2 : k' = i <;> simp only [h1, h2, if_true, if_false]
    exact tog_swap hn hn'
  unfold addC
  simp only [C6.mk.injEq]
  exact ⟨one _ _, one _ _, one _ _, one _ _, one _ _, one _ _⟩

/-- numbers of kinds, one behind the other -/
def addL (c : C6) (l : List (Int × Int)) : C6 := l.foldl (fun c x => addC c x.1 x.2) c

theorem addL_out {c : C6} {x : Int × Int} {l : List (Int × Int)} (hx : U x.2) (hl : ∀ y ∈ l, U y.2) : addL (addC c x.1 x.2) l = addC (addL c l) x.1 x.2 := by
  induction l generalizing c with
  | nil => rfl
  | cons y l ih =>
    show addL (addC (addC c x.1 x.2) y.1 y.2) l = addC (addL (addC c y.1 y.2) l) x.1 x.2
    rw [addC_swap hx (hl y (by simp)), ih (fun z hz => hl z (by simp [hz]))]

/-- from the front and from the back -/
theorem addL_reverse {c : C6} {l : List (Int × Int)} (hl : ∀ y ∈ l, U y.2) : addL c l.reverse = addL c l := by
  induction l generalizing c with
  | nil => rfl
  | cons x l ih =>
    have h1 : addL c (x :: l).reverse = addC (addL c l.reverse) x.1 x.2 := by
      unfold addL; rw [List.reverse_cons, List.foldl_append]; rfl
    rw [h1, ih (fun z hz => hl z (by simp [hz]))]
    show _ = addL (addC c x.1 x.2) l
    rw [addL_out (hl x (by simp)) (fun z hz => hl z (by simp [hz]))]

theorem addL_ok {c : C6} {l : List (Int × Int)} (h : c.Ok) (hl : ∀ y ∈ l, U y.2) : (addL c l).Ok := by
  induction l generalizing c with
  | nil => exact h
  | cons x l ih => exact ih (c := addC c x.1 x.2) (addC_ok h (hl x (by simp))) (fun z hz => hl z (by simp [hz]))

theorem addL_snoc (c : C6) (l : List (Int × Int)) (x : Int × Int) : addL c (l ++ [x]) = addC (addL c l) x.1 x.2 := by
  unfold addL; rw [List.foldl_append]; rfl

/-- the first j of six -/
def addTo (c d : C6) (j : Nat) : C6 :=
  ⟨if 0 < j then tog c.c0 d.c0 else c.c0, if 1 < j then tog c.c1 d.c1 else c.c1, if 2 < j then tog c.c2 d.c2 else c.c2, if 3 < j then tog c.c3 d.c3 else c.c3, if 4 < j then tog c.c4 d.c4 else c.c4, if 5 < j then tog c.c5 d.c5 else c.c5⟩

theorem addTo_zero (c d : C6) : addTo c d 0 = c := by cases c; rfl
theorem addTo_succ (c d : C6) (j : Nat) (h : j < 6) : addTo c d (j + 1) = addC (addTo c d j) (j : Int) (getC d (j : Int)) := by
  have hj : j = 0 ∨ j = 1 ∨ j = 2 ∨ j = 3 ∨ j = 4 ∨ j = 5 := by omega
  rcases hj with rfl | rfl | rfl | rfl | rfl | rfl <;> rfl
theorem addTo_ok {c d : C6} {j : Nat} (h : c.Ok) (hd : d.Ok) : (addTo c d j).Ok := by
  obtain ⟨h0, h1, h2, h3, h4, h5⟩ := h
  obtain ⟨d0, d1, d2, d3, d4, d5⟩ := hd
  refine ⟨?_, ?_, ?_, ?_, ?_, ?_⟩ <;> (unfold addTo; dsimp only; split <;> first | assumption | (exact tog_u (by assumption) (by assumption)))

/-- two together -/
def plusC (c d : C6) : C6 := addTo c d 6
theorem plusC_ok {c d : C6} (h : c.Ok) (hd : d.Ok) : (plusC c d).Ok := addTo_ok h hd
theorem plusC_eq (c d : C6) : plusC c d = ⟨tog c.c0 d.c0, tog c.c1 d.c1, tog c.c2 d.c2, tog c.c3 d.c3, tog c.c4 d.c4, tog c.c5 d.c5⟩ := rfl
theorem plusC_assoc {a b c : C6} (ha : a.Ok) (hb : b.Ok) (hc : c.Ok) : plusC (plusC a b) c = plusC a (plusC b c) := by
  obtain ⟨a0, a1, a2, a3, a4, a5⟩ := ha
  obtain ⟨b0, b1, b2, b3, b4, b5⟩ := hb
  obtain ⟨c0, c1, c2, c3, c4, c5⟩ := hc
  simp only [plusC_eq, C6.mk.injEq]
  exact ⟨tog_assoc a0 b0 c0, tog_assoc a1 b1 c1, tog_assoc a2 b2 c2, tog_assoc a3 b3 c3, tog_assoc a4 b4 c4, tog_assoc a5 b5 c5⟩
theorem zero_plusC {a : C6} (ha : a.Ok) : plusC C6.zero a = a := by
  obtain ⟨a0, a1, a2, a3, a4, a5⟩ := ha
  cases a
  simp only [plusC_eq, C6.mk.injEq, C6.zero]
  exact ⟨zero_tog a0, zero_tog a1, zero_tog a2, zero_tog a3, zero_tog a4, zero_tog a5⟩

/-- all together -/
def sumC (l : List C6) : C6 := l.foldl plusC C6.zero
theorem sumC_from {c : C6} {l : List C6} (hc : c.Ok) (hl : ∀ y ∈ l, C6.Ok y) : l.foldl plusC c = plusC c (sumC l) := by
  induction l generalizing c with
  | nil =>
    show c = plusC c C6.zero
    obtain ⟨a0, a1, a2, a3, a4, a5⟩ := hc
    cases c
    simp only [plusC_eq, C6.mk.injEq, C6.zero]
    exact ⟨(tog_zero a0).symm, (tog_zero a1).symm, (tog_zero a2).symm, (tog_zero a3).symm, (tog_zero a4).symm, (tog_zero a5).symm⟩
  | cons x l ih =>
    have hx : x.Ok := hl x (by simp)
    have hl' : ∀ y ∈ l, C6.Ok y := fun z hz => hl z (by simp [hz])
    have hs : (sumC l).Ok := by
      unfold sumC
      clear ih
      have : ∀ (l : List C6) (c : C6), c.Ok → (∀ y ∈ l, C6.Ok y) → (l.foldl plusC c).Ok := by
        intro l
        induction l with
        | nil => intro c h _; exact h
        | cons y l ih => intro c h hl; exact ih (plusC c y) (plusC_ok h (hl y (by simp))) (fun z hz => hl z (by simp [hz]))
      exact this l _ C6.zero_ok hl'
    show l.foldl plusC (plusC c x) = plusC c (l.foldl plusC (plusC C6.zero x))
    rw [ih (plusC_ok hc hx) hl', zero_plusC hx, ih hx hl', plusC_assoc hc hx hs]
theorem sumC_ok {l : List C6} (hl : ∀ y ∈ l, C6.Ok y) : (sumC l).Ok := by
  have : ∀ (l : List C6) (c : C6), c.Ok → (∀ y ∈ l, C6.Ok y) → (l.foldl plusC c).Ok := by
    intro l
    induction l with
    | nil => intro c h _; exact h
    | cons y l ih => intro c h hl; exact ih (plusC c y) (plusC_ok h (hl y (by simp))) (fun z hz => hl z (by simp [hz]))
  exact this l _ C6.zero_ok hl
/-- in parts -/
theorem sumC_parts {l m : List C6} (hl : ∀ y ∈ l, C6.Ok y) (hm : ∀ y ∈ m, C6.Ok y) : sumC [sumC l, sumC m] = sumC (l ++ m) := by
  show plusC (plusC C6.zero (sumC l)) (sumC m) = (l ++ m).foldl plusC C6.zero
  rw [zero_plusC (sumC_ok hl), List.foldl_append]
  exact (sumC_from (sumC_ok hl) hm).symm
theorem sumC_snoc (l : List C6) (x : C6) : sumC (l ++ [x]) = plusC (sumC l) x := by
  unfold sumC; rw [List.foldl_append]; rfl
end Go.Proofs.Ytnjifmnhcgcpiaa
