/-
  The schedule's numbers: whose a tick is, a tenant's next tick, how many ticks are a tenant's, tick by tick and at once. Conditions: each theorem's own.
-/
namespace Go.Proofs.Ytfbhngmolifkaaa
set_option linter.unusedVariables false

/-- the first tick from t on that is i's -/
def nxt (n t i : Int) : Int := t + (i - t % n + n) % n
/-- how many ticks from a on, ahead of b, are i's: at once -/
def cnt (n a b i : Int) : Int := if b ≤ nxt n a i then 0 else 1 + (b - 1 - nxt n a i) / n
/-- how many of the k ticks from a on are i's: tick by tick -/
def tic (n i a : Int) : Nat → Int
  | 0 => 0
  | k + 1 => tic n i a k + (if (a + k) % n = i then 1 else 0)
/-- how many ticks ahead of x are i's -/
def upto (n i x : Int) : Int := x / n + (if i < x % n then 1 else 0)

theorem cases16 {P : Int → Prop} {n : Int} (h1 : 1 ≤ n) (h2 : n ≤ 16) (p1 : P 1) (p2 : P 2) (p3 : P 3) (p4 : P 4) (p5 : P 5) (p6 : P 6) (p7 : P 7) (p8 : P 8) (p9 : P 9) (p10 : P 10) (p11 : P 11) (p12 : P 12) (p13 : P 13) (p14 : P 14) (p15 : P 15) (p16 : P 16) : P n := by
  have h : n = 1 ∨ n = 2 ∨ n = 3 ∨ n = 4 ∨ n = 5 ∨ n = 6 ∨ n = 7 ∨ n = 8 ∨ n = 9 ∨ n = 10 ∨ n = 11 ∨ n = 12 ∨ n = 13 ∨ n = 14 ∨ n = 15 ∨ n = 16 := by omega
  rcases h with rfl | rfl | rfl | rfl | rfl | rfl | rfl | rfl | rfl | rfl | rfl | rfl | rfl | rfl | rfl | rfl <;> assumption

theorem own_bd {n t : Int} (h1 : 1 ≤ n) : 0 ≤ t % n ∧ t % n < n := ⟨Int.emod_nonneg _ (by omega), Int.emod_lt_of_pos _ (by omega)⟩

theorem own_doc (n t : Int) : t - t / n * n = t % n := by
  have := Int.mul_ediv_add_emod t n
  rw [Int.mul_comm] at this
  omega

theorem nxt_bd {n t i : Int} (h1 : 1 ≤ n) : t ≤ nxt n t i ∧ nxt n t i < t + n := by
  unfold nxt
  have := own_bd (n := n) (t := i - t % n + n) h1
  omega

theorem nxt_own {n : Int} (h1 : 1 ≤ n) (h2 : n ≤ 16) : ∀ t i : Int, 0 ≤ i → i < n → nxt n t i % n = i := by
  unfold nxt
  refine cases16 (P := fun n => ∀ t i : Int, 0 ≤ i → i < n → (t + (i - t % n + n) % n) % n = i) h1 h2 ?_ ?_ ?_ ?_ ?_ ?_ ?_ ?_ ?_ ?_ ?_ ?_ ?_ ?_ ?_ ?_ <;> (intro t i h3 h4; omega)

theorem nxt_hit {n : Int} (h1 : 1 ≤ n) (h2 : n ≤ 16) : ∀ a t i : Int, 0 ≤ i → i < n → a ≤ t → t ≤ nxt n a i → t % n = i → t = nxt n a i := by
  unfold nxt
  refine cases16 (P := fun n => ∀ a t i : Int, 0 ≤ i → i < n → a ≤ t → t ≤ a + (i - a % n + n) % n → t % n = i → t = a + (i - a % n + n) % n) h1 h2 ?_ ?_ ?_ ?_ ?_ ?_ ?_ ?_ ?_ ?_ ?_ ?_ ?_ ?_ ?_ ?_ <;> (intro a t i h3 h4 h5 h6 h7; omega)

theorem nxt_more {n a t i : Int} (h1 : 1 ≤ n) (h2 : n ≤ 16) (h3 : 0 ≤ i) (h4 : i < n) (h6 : t ≤ nxt n a i) (h7 : ¬ t % n = i) : t + 1 ≤ nxt n a i := by
  have h := nxt_own h1 h2 a i h3 h4
  by_cases he : t = nxt n a i
  · rw [← he] at h; exact absurd h h7
  · omega

theorem cnt_upto {n : Int} (h1 : 1 ≤ n) (h2 : n ≤ 16) : ∀ a b i : Int, 0 ≤ i → i < n → a ≤ b → cnt n a b i = upto n i b - upto n i a := by
  unfold cnt upto nxt
  refine cases16 (P := fun n => ∀ a b i : Int, 0 ≤ i → i < n → a ≤ b → (if b ≤ a + (i - a % n + n) % n then 0 else 1 + (b - 1 - (a + (i - a % n + n) % n)) / n) = b / n + (if i < b % n then 1 else 0) - (a / n + (if i < a % n then 1 else 0))) h1 h2 ?_ ?_ ?_ ?_ ?_ ?_ ?_ ?_ ?_ ?_ ?_ ?_ ?_ ?_ ?_ ?_ <;> (intro a b i h3 h4 h5; omega)

theorem cnt_none {n a b i : Int} (h1 : 1 ≤ n) (h : b ≤ a) : cnt n a b i = 0 := by
  have := nxt_bd (t := a) (i := i) h1
  unfold cnt
  rw [if_pos (by omega)]

theorem upto_next {n : Int} (h1 : 1 ≤ n) (h2 : n ≤ 16) : ∀ x i : Int, 0 ≤ i → i < n → upto n i (x + 1) = upto n i x + (if x % n = i then 1 else 0) := by
  unfold upto
  refine cases16 (P := fun n => ∀ x i : Int, 0 ≤ i → i < n → (x + 1) / n + (if i < (x + 1) % n then 1 else 0) = x / n + (if i < x % n then 1 else 0) + (if x % n = i then 1 else 0)) h1 h2 ?_ ?_ ?_ ?_ ?_ ?_ ?_ ?_ ?_ ?_ ?_ ?_ ?_ ?_ ?_ ?_ <;> (intro x i h3 h4; omega)

theorem tic_upto {n a i : Int} (h1 : 1 ≤ n) (h2 : n ≤ 16) (h3 : 0 ≤ i) (h4 : i < n) (k : Nat) : tic n i a k = upto n i (a + k) - upto n i a := by
  induction k with
  | zero => simp [tic]
  | succ k ih =>
    rw [tic, ih, show a + ((k + 1 : Nat) : Int) = a + (k : Int) + 1 from by omega, upto_next h1 h2 (a + k) i h3 h4]
    omega

theorem tic_bd (n i a : Int) (k : Nat) : 0 ≤ tic n i a k ∧ tic n i a k ≤ k := by
  induction k with
  | zero => simp [tic]
  | succ k ih =>
    rw [tic]
    by_cases h : (a + k) % n = i
    · rw [if_pos h]; omega
    · rw [if_neg h]; omega

/-- at once and tick by tick are one -/
theorem cnt_tic {n a b i : Int} (h1 : 1 ≤ n) (h2 : n ≤ 16) (h3 : 0 ≤ i) (h4 : i < n) : cnt n a b i = tic n i a (b - a).toNat := by
  by_cases h : a ≤ b
  · rw [cnt_upto h1 h2 a b i h3 h4 h, tic_upto h1 h2 h3 h4, show a + ((b - a).toNat : Int) = b from by omega]
  · rw [cnt_none h1 (by omega), show (b - a).toNat = 0 from by omega]; rfl

theorem cnt_bd {n a b i : Int} (h1 : 1 ≤ n) (h2 : n ≤ 16) (h3 : 0 ≤ i) (h4 : i < n) : 0 ≤ cnt n a b i ∧ (a ≤ b → cnt n a b i ≤ b - a) := by
  rw [cnt_tic h1 h2 h3 h4]
  have := tic_bd n i a (b - a).toNat
  omega

/-- of great numbers: whole rounds, and what is left -/
theorem cnt_far {n : Int} (h1 : 1 ≤ n) (h2 : n ≤ 16) : ∀ a b i : Int, 0 ≤ i → i < n → a ≤ b → cnt n a b i = (b - a) / n + tic n i a ((b - a) % n).toNat := by
  intro a b i h3 h4 h5
  have hb := own_bd (t := b - a) h1
  rw [cnt_upto h1 h2 a b i h3 h4 h5, tic_upto h1 h2 h3 h4, show (((b - a) % n).toNat : Int) = (b - a) % n from by omega]
  clear hb
  revert a b i
  unfold upto
  refine cases16 (P := fun n => ∀ a b i : Int, 0 ≤ i → i < n → a ≤ b → b / n + (if i < b % n then 1 else 0) - (a / n + (if i < a % n then 1 else 0)) = (b - a) / n + ((a + (b - a) % n) / n + (if i < (a + (b - a) % n) % n then 1 else 0) - (a / n + (if i < a % n then 1 else 0)))) h1 h2 ?_ ?_ ?_ ?_ ?_ ?_ ?_ ?_ ?_ ?_ ?_ ?_ ?_ ?_ ?_ ?_ <;> (intro a b i h3 h4 h5; omega)

/-- as many ticks as tenants: one; k times as many: k; one tick fewer: one fewer for one tenant -/
theorem cnt_each {n : Int} (h1 : 1 ≤ n) (h2 : n ≤ 16) : ∀ a i k : Int, 0 ≤ i → i < n → 0 ≤ k → cnt n a (a + n) i = 1 ∧ cnt n a (a + k * n) i = k ∧ (0 < k → cnt n a (a + k * n - 1) i = k - (if i = (a + n - 1) % n then 1 else 0)) := by
  have key : ∀ a i k : Int, 0 ≤ i → i < n → 0 ≤ k → upto n i (a + n) - upto n i a = 1 ∧ upto n i (a + k * n) - upto n i a = k ∧ (0 < k → upto n i (a + k * n - 1) - upto n i a = k - (if i = (a + n - 1) % n then 1 else 0)) := by
    unfold upto
    refine cases16 (P := fun n => ∀ a i k : Int, 0 ≤ i → i < n → 0 ≤ k → ((a + n) / n + (if i < (a + n) % n then 1 else 0)) - (a / n + (if i < a % n then 1 else 0)) = 1 ∧ ((a + k * n) / n + (if i < (a + k * n) % n then 1 else 0)) - (a / n + (if i < a % n then 1 else 0)) = k ∧ (0 < k → ((a + k * n - 1) / n + (if i < (a + k * n - 1) % n then 1 else 0)) - (a / n + (if i < a % n then 1 else 0)) = k - (if i = (a + n - 1) % n then 1 else 0))) h1 h2 ?_ ?_ ?_ ?_ ?_ ?_ ?_ ?_ ?_ ?_ ?_ ?_ ?_ ?_ ?_ ?_ <;> (intro a i k h3 h4 h5; refine ⟨?_, ?_, fun h => ?_⟩ <;> omega)
  intro a i k h3 h4 h5
  obtain ⟨e1, e2, e3⟩ := key a i k h3 h4 h5
  have hk : 0 ≤ k * n := Int.mul_nonneg h5 (by omega)
  refine ⟨by rw [cnt_upto h1 h2 _ _ i h3 h4 (by omega), e1], by rw [cnt_upto h1 h2 _ _ i h3 h4 (by omega), e2], fun h => ?_⟩
  have hk1 : 1 ≤ k * n := by have := Int.mul_le_mul (show (1 : Int) ≤ k by omega) h1 (by omega) (by omega); omega
  rw [cnt_upto h1 h2 _ _ i h3 h4 (by omega), e3 h]

/-- the tenants' ticks together, of the first j of them -/
def sumC (n a b : Int) : Nat → Int
  | 0 => 0
  | j + 1 => sumC n a b j + cnt n a b j

theorem sum_upto (n x : Int) (h1 : 1 ≤ n) : ∀ j : Nat, (j : Int) ≤ n → ∀ f : Nat → Int, f 0 = 0 → (∀ i, f (i + 1) = f i + upto n i x) → f j = j * (x / n) + min (j : Int) (x % n) := by
  intro j
  have hb := own_bd (t := x) h1
  induction j with
  | zero => intro _ f h0 _; rw [h0]; simp; omega
  | succ j ih =>
    intro hj f h0 hs
    rw [hs, ih (by omega) f h0 hs, show ((j + 1 : Nat) : Int) = (j : Int) + 1 from by omega, Int.add_mul]
    unfold upto
    generalize (j : Int) * (x / n) = y
    by_cases h : (j : Int) < x % n
    · rw [if_pos h]; omega
    · rw [if_neg h]; omega

/-- how many ticks ahead of x are the first j tenants' -/
def sumU (n x : Int) : Nat → Int
  | 0 => 0
  | j + 1 => sumU n x j + upto n j x

theorem sumC_all {n a b : Int} (h1 : 1 ≤ n) (h2 : n ≤ 16) : sumC n a b n.toNat = if a ≤ b then b - a else 0 := by
  by_cases h : a ≤ b
  · rw [if_pos h]
    have hs : ∀ j : Nat, (j : Int) ≤ n → sumC n a b j = sumU n b j - sumU n a j := by
      intro j
      induction j with
      | zero => intro _; rfl
      | succ j ih =>
        intro hj
        rw [sumC, ih (by omega), cnt_upto h1 h2 a b j (by omega) (by omega) h, sumU, sumU]
        omega
    have hb := own_bd (t := b) h1
    have ha := own_bd (t := a) h1
    rw [hs _ (by omega), sum_upto n b h1 n.toNat (by omega) (sumU n b) rfl (fun _ => rfl), sum_upto n a h1 n.toNat (by omega) (sumU n a) rfl (fun _ => rfl)]
    rw [show ((n.toNat : Nat) : Int) = n from by omega, Int.min_eq_right (by omega), Int.min_eq_right (by omega), Int.mul_ediv_add_emod, Int.mul_ediv_add_emod]
  · rw [if_neg h]
    have hs : ∀ j : Nat, sumC n a b j = 0 := by
      intro j
      induction j with
      | zero => rfl
      | succ j ih => rw [sumC, ih, cnt_none h1 (by omega)]; rfl
    exact hs _
theorem sumC_bd {n a b : Int} (h1 : 1 ≤ n) (h2 : n ≤ 16) (ha : 0 ≤ a) (hb : b ≤ 1000) : ∀ j : Nat, (j : Int) ≤ n → 0 ≤ sumC n a b j ∧ sumC n a b j ≤ 1000 * j := by
  intro j
  induction j with
  | zero => intro _; simp [sumC]
  | succ j ih =>
    intro hj
    have h := ih (by omega)
    have hc := cnt_bd (a := a) (b := b) (i := j) h1 h2 (by omega) (by omega)
    rw [sumC]
    by_cases hab : a ≤ b
    · have := hc.2 hab; omega
    · have := cnt_none (i := j) h1 (show b ≤ a by omega); omega
end Go.Proofs.Ytfbhngmolifkaaa
