/-
  The check of bytes as a function of numbers: bit by bit, by the table, and what follows when one byte is another one. Conditions: each theorem's own.
  The walk of the document's Few, and small facts. Conditions: each theorem's own.
  The walk of crc.halved: eight halvings. Conditions: each theorem's own.
  The walks of crc.numbers, crc.More and crc.Sum. Conditions: each theorem's own.
  The walks of crc's calls that put a check behind bytes and take it away (tail, Put, Take, bytes.Equal). Conditions: each theorem's own.
  The walks of the document's own check (More, Put, Good) and of the law's example. Conditions: each theorem's own.
  What follows of the check: what is taken of bytes with their check, and of such with one byte turned. Conditions: each theorem's own.
-/
import Derived.Test.YtgpigllimoafaaaLib
import Derived.Laws.BitsAllLaws
import Derived.Test.YtgpigllimoafaaaAround
import Derived.Test.YtgpigllimoafaaaRows
import Derived.WalkKit
import Derived.ProofKit
import Derived.OpenShut
import Derived.Outline
import Derived.Deep.LoopGhost
import Derived.WalkLawsBesides
import Derived.Test.YtgpigllimoafaaaArr

/- The check of bytes as a function of numbers: bit by bit, by the table, and what follows when one byte is another one. Conditions: each theorem's own. -/
namespace Go.Proofs.Ytgpigllimoafaaa
open Go.RowKit

/-- one halving -/
def hs (n : Nat) : Nat := if n % 2 = 1 then n / 2 ^^^ 3988292384 else n / 2
/-- so many halvings -/
def halve : Nat → Nat → Nat
  | 0, n => n
  | k + 1, n => hs (halve k n)

theorem hs_odd {n : Nat} (h : n % 2 = 1) : hs n = n / 2 ^^^ 3988292384 := if_pos h
theorem hs_even {n : Nat} (h : n % 2 = 0) : hs n = n / 2 := if_neg (by omega)

theorem hs_lt {n : Nat} (h : n < 4294967296) : hs n < 4294967296 := by
  unfold hs
  split
  · have : n / 2 ^^^ 3988292384 < 2 ^ 32 := Nat.xor_lt_two_pow (by omega) (by omega)
    omega
  · omega
theorem halve_lt (k : Nat) {n : Nat} (h : n < 4294967296) : halve k n < 4294967296 := by
  induction k with
  | zero => exact h
  | succ k ih => exact hs_lt ih

theorem xor4 (a b c : Nat) : (a ^^^ c) ^^^ (b ^^^ c) = a ^^^ b := by
  rw [Nat.xor_assoc, Nat.xor_comm b c, ← Nat.xor_assoc c c b, Nat.xor_self, Nat.zero_xor]

theorem hs_xor (a b : Nat) : hs (a ^^^ b) = hs a ^^^ hs b := by
  have hx := @Nat.xor_mod_two_eq_one a b
  have nx : (a % 2 = 1 ↔ b % 2 = 1) → (a ^^^ b) % 2 = 0 := fun h => by
    have hn : ¬ (a ^^^ b) % 2 = 1 := fun h' => hx.1 h' h
    omega
  by_cases ha : a % 2 = 1 <;> by_cases hb : b % 2 = 1
  · rw [hs_even (nx (by simp [ha, hb])), hs_odd ha, hs_odd hb, xor4, Nat.xor_div_two]
  · rw [hs_odd (hx.2 (by simp [ha, hb])), hs_odd ha, hs_even (by omega), Nat.xor_div_two, Nat.xor_assoc, Nat.xor_assoc, Nat.xor_comm (b / 2)]
  · rw [hs_odd (hx.2 (by simp [ha, hb])), hs_even (by omega), hs_odd hb, Nat.xor_div_two, Nat.xor_assoc]
  · rw [hs_even (nx (by simp [ha, hb])), hs_even (by omega), hs_even (by omega), Nat.xor_div_two]

theorem halve_xor (k a b : Nat) : halve k (a ^^^ b) = halve k a ^^^ halve k b := by
  induction k with
  | zero => rfl
  | succ k ih => rw [halve, ih, hs_xor]; rfl

theorem hs_double (m : Nat) : hs (2 * m) = m := by rw [hs_even (by omega)]; omega

theorem halve_pow (k m : Nat) : halve k (2 ^ k * m) = m := by
  induction k generalizing m with
  | zero => simp [halve]
  | succ k ih => rw [halve, Nat.pow_succ, Nat.mul_assoc, ih, hs_double]

theorem xor_zero_eq {a b : Nat} (h : a ^^^ b = 0) : a = b := by
  have : (a ^^^ b) ^^^ b = b := by rw [h, Nat.zero_xor]
  rwa [Nat.xor_assoc, Nat.xor_self, Nat.xor_zero] at this

theorem hs_zero {n : Nat} (hn : n < 4294967296) (h : hs n = 0) : n = 0 := by
  by_cases ho : n % 2 = 1
  · rw [hs_odd ho] at h
    have := xor_zero_eq h
    omega
  · rw [hs_even (by omega)] at h
    omega
theorem halve_zero (k : Nat) {n : Nat} (hn : n < 4294967296) (h : halve k n = 0) : n = 0 := by
  induction k with
  | zero => exact h
  | succ k ih => exact ih (hs_zero (halve_lt k hn) h)

theorem xor_lt32 {a b : Nat} (ha : a < 4294967296) (hb : b < 4294967296) : a ^^^ b < 4294967296 := by
  have : a ^^^ b < 2 ^ 32 := Nat.xor_lt_two_pow (by omega) (by omega)
  omega
theorem xor_lt8 {a b : Nat} (ha : a < 256) (hb : b < 256) : a ^^^ b < 256 := by
  have : a ^^^ b < 2 ^ 8 := Nat.xor_lt_two_pow (by omega) (by omega)
  omega

theorem halve_inj (k : Nat) {a b : Nat} (ha : a < 4294967296) (hb : b < 4294967296) (h : halve k a = halve k b) : a = b := by
  refine xor_zero_eq (halve_zero k (xor_lt32 ha hb) ?_)
  rw [halve_xor, h, Nat.xor_self]

/-- what one byte does -/
def step (n : Nat) (x : Int) : Nat := halve 8 (n ^^^ x.toNat)
/-- what bytes do -/
def cr (n : Nat) (bs : List Int) : Nat := bs.foldl step n
/-- bytes, each at least 0 and below 256 -/
def Oct (bs : List Int) : Prop := ∀ x ∈ bs, 0 ≤ x ∧ x < 256

theorem Oct.getD {bs : List Int} (h : Oct bs) (j : Nat) : 0 ≤ bs.getD j 0 ∧ bs.getD j 0 < 256 := by
  by_cases hj : j < bs.length
  · rw [List.getD, List.getElem?_eq_getElem hj]; exact h _ (List.getElem_mem hj)
  · rw [List.getD, List.getElem?_eq_none (by omega)]; simp
theorem Oct.take {bs : List Int} (h : Oct bs) (k : Nat) : Oct (bs.take k) := fun x hx => h x (List.mem_of_mem_take hx)
theorem Oct.drop {bs : List Int} (h : Oct bs) (k : Nat) : Oct (bs.drop k) := fun x hx => h x (List.mem_of_mem_drop hx)
theorem Oct.append {a b : List Int} (h : Oct a) (h' : Oct b) : Oct (a ++ b) := fun x hx => by
  rcases List.mem_append.1 hx with hx | hx
  · exact h x hx
  · exact h' x hx
theorem Oct.set {bs : List Int} (h : Oct bs) (k : Nat) {y : Int} (h0 : 0 ≤ y) (h1 : y < 256) : Oct (bs.set k y) := fun x hx => by
  rcases List.mem_or_eq_of_mem_set hx with hx | rfl
  · exact h x hx
  · exact ⟨h0, h1⟩
theorem oct_le (k : Nat) (n : Int) : Oct (le k n) := by
  induction k generalizing n with
  | zero => intro x hx; cases hx
  | succ k ih =>
    intro x hx
    rw [le] at hx
    rcases List.mem_cons.1 hx with rfl | hx
    · omega
    · exact ih _ x hx

theorem step_lt {n : Nat} {x : Int} (hn : n < 4294967296) (hx : x < 256) : step n x < 4294967296 := halve_lt 8 (xor_lt32 hn (by omega))
theorem cr_lt {n : Nat} (hn : n < 4294967296) {bs : List Int} (h : Oct bs) : cr n bs < 4294967296 := by
  induction bs generalizing n with
  | nil => exact hn
  | cons x bs ih => exact ih (step_lt hn (h x (by simp)).2) (fun y hy => h y (by simp [hy]))

theorem cr_nil (n : Nat) : cr n [] = n := rfl
theorem cr_append (n : Nat) (a b : List Int) : cr n (a ++ b) = cr (cr n a) b := by simp [cr]
theorem cr_take_succ (n : Nat) (bs : List Int) (j : Nat) (h : j < bs.length) : cr n (bs.take (j + 1)) = step (cr n (bs.take j)) (bs.getD j 0) := by
  rw [List.take_succ_eq_append_getElem h, cr_append]
  simp [cr, List.getD, List.getElem?_eq_getElem h]

theorem xor_split (n : Nat) : 2 ^ 8 * (n / 2 ^ 8) ^^^ n % 2 ^ 8 = n := by
  apply Nat.eq_of_testBit_eq
  intro i
  rw [Nat.testBit_xor, Nat.testBit_two_pow_mul, Nat.testBit_mod_two_pow, Nat.testBit_div_two_pow]
  by_cases h : i < 8
  · simp [h, show ¬ 8 ≤ i by omega]
  · have : i - 8 + 8 = i := by omega
    simp [h, this, show 8 ≤ i by omega]

/-- the table's way of a step -/
theorem step_table (n : Nat) (x : Int) : step n x = n / 256 ^^^ halve 8 (n % 256 ^^^ x.toNat) := by
  unfold step
  have e : n ^^^ x.toNat = 2 ^ 8 * (n / 2 ^ 8) ^^^ (n % 2 ^ 8 ^^^ x.toNat) := by rw [← Nat.xor_assoc, xor_split]
  rw [e, halve_xor, halve_pow]

theorem step_inj {a b : Nat} {x : Int} (ha : a < 4294967296) (hb : b < 4294967296) (hx : x < 256) (h : step a x = step b x) : a = b := by
  have := halve_inj 8 (xor_lt32 ha (by omega)) (xor_lt32 hb (by omega)) h
  have h2 : (a ^^^ x.toNat) ^^^ (b ^^^ x.toNat) = 0 := by rw [this, Nat.xor_self]
  rw [xor4] at h2
  exact xor_zero_eq h2
theorem cr_inj {a b : Nat} (ha : a < 4294967296) (hb : b < 4294967296) {bs : List Int} (ho : Oct bs) (h : cr a bs = cr b bs) : a = b := by
  induction bs generalizing a b with
  | nil => exact h
  | cons x bs ih =>
    have hx := (ho x (by simp)).2
    exact step_inj ha hb hx (ih (step_lt ha hx) (step_lt hb hx) (fun y hy => ho y (by simp [hy])) h)

theorem step_other {n : Nat} {x y : Int} (hn : n < 4294967296) (hx0 : 0 ≤ x) (hx : x < 256) (hy0 : 0 ≤ y) (hy : y < 256) (h : step n x = step n y) : x = y := by
  have := halve_inj 8 (xor_lt32 hn (by omega)) (xor_lt32 hn (by omega)) h
  rw [Nat.xor_comm n, Nat.xor_comm n] at this
  have h2 : (x.toNat ^^^ n) ^^^ (y.toNat ^^^ n) = 0 := by rw [this, Nat.xor_self]
  rw [xor4] at h2
  have := xor_zero_eq h2
  omega

theorem cr_set {n : Nat} (hn : n < 4294967296) {bs : List Int} (ho : Oct bs) {k : Nat} (hk : k < bs.length) {y : Int} (hy0 : 0 ≤ y) (hy : y < 256) (hne : y ≠ bs.getD k 0) : cr n (bs.set k y) ≠ cr n bs := by
  intro h
  have e1 : bs.set k y = bs.take k ++ y :: bs.drop (k + 1) := by rw [List.set_eq_take_append_cons_drop, if_pos hk]
  have e2 : bs = bs.take k ++ bs.getD k 0 :: bs.drop (k + 1) := by
    rw [List.getD, List.getElem?_eq_getElem hk, Option.getD_some]
    simp
  have hl := cr_lt hn (ho.take k)
  have hb := ho.getD k
  rw [e1, cr_append] at h
  rw [show cr n bs = cr n (bs.take k ++ bs.getD k 0 :: bs.drop (k + 1)) from congrArg (cr n) e2, cr_append] at h
  exact hne (step_other hl hy0 hy hb.1 hb.2 (cr_inj (step_lt hl hy) (step_lt hl hb.2) (ho.drop _) h))

/-- the check of bytes behind those whose check is s -/
def chk (s : Nat) (bs : List Int) : Nat := 4294967295 - cr (4294967295 - s) bs
theorem chk_lt (s : Nat) (bs : List Int) : chk s bs < 4294967296 := by unfold chk; omega
theorem chk_nil {s : Nat} (h : s < 4294967296) : chk s [] = s := by unfold chk; rw [cr_nil]; omega
theorem chk_append (s : Nat) (a b : List Int) (ha : Oct a) : chk (chk s a) b = chk s (a ++ b) := by
  unfold chk
  rw [cr_append]
  have : cr (4294967295 - s) a < 4294967296 := cr_lt (by omega) ha
  rw [show 4294967295 - (4294967295 - cr (4294967295 - s) a) = cr (4294967295 - s) a by omega]
theorem chk_set {bs : List Int} (ho : Oct bs) {k : Nat} (hk : k < bs.length) {y : Int} (hy0 : 0 ≤ y) (hy : y < 256) (hne : y ≠ bs.getD k 0) : chk 0 (bs.set k y) ≠ chk 0 bs := by
  intro h
  unfold chk at h
  have h1 : cr 4294967295 (bs.set k y) < 4294967296 := cr_lt (by omega) (ho.set k hy0 hy)
  have h2 : cr 4294967295 bs < 4294967296 := cr_lt (by omega) ho
  exact cr_set (n := 4294967295) (by omega) ho hk hy0 hy hne (by simp only [Nat.sub_zero] at h; omega)

/-! ### numbers and bytes -/
theorem le_inj (k : Nat) {a b : Int} (ha0 : 0 ≤ a) (ha : a < 256 ^ k) (hb0 : 0 ≤ b) (hb : b < 256 ^ k) (h : le k a = le k b) : a = b := by
  induction k generalizing a b with
  | zero => simp at ha hb; omega
  | succ k ih =>
    rw [le, le] at h
    injection h with h1 h2
    rw [Int.pow_succ] at ha hb
    have := ih (by omega) (by omega) (by omega) (by omega) h2
    omega

theorem strOfNums_inj {a b : List Int} (ha : Oct a) (hb : Oct b) (h : strOfNums a = strOfNums b) : a = b := by
  have h' : (strOfNums a).data.toList = (strOfNums b).data.toList := by rw [h]
  rw [strOfNums_data, strOfNums_data] at h'
  clear h
  induction a generalizing b with
  | nil =>
    cases b with
    | nil => rfl
    | cons y b => simp at h'
  | cons x a ih =>
    cases b with
    | nil => simp at h'
    | cons y b =>
      simp only [List.map_cons, List.cons.injEq] at h'
      have hx := ha x (by simp)
      have hy := hb y (by simp)
      have e : x.toNat = y.toNat := by
        have := congrArg UInt8.toNat h'.1
        rw [UInt8.toNat_ofNat', UInt8.toNat_ofNat'] at this
        omega
      rw [show x = y by omega, ih (fun z hz => ha z (by simp [hz])) (fun z hz => hb z (by simp [hz])) h'.2]

theorem str_eq {a b : List Int} (ha : Oct a) (hb : Oct b) : decide (strOfNums a = strOfNums b) = decide (a = b) := by
  by_cases h : a = b
  · subst h; simp
  · rw [decide_eq_false h, decide_eq_false (fun e => h (strOfNums_inj ha hb e))]

/-! ### the model's spelling -/
theorem u32_not (a : Nat) (ha : a < 4294967296) : bits .xor .u32 4294967295 (a : Int) = ((4294967295 - a : Nat) : Int) := by
  show IntKind.u32.wrap ((BitVec.ofInt 32 4294967295 ^^^ BitVec.ofInt 32 (a : Int)).toNat : Int) = _
  have h1 : BitVec.ofInt 32 4294967295 = BitVec.allOnes 32 := by decide
  rw [h1, BitVec.allOnes_xor, BitVec.toNat_not, ofInt_u32 a (by omega)]
  simp [IntKind.wrap, IntKind.bits, IntKind.signed]
  omega
end Go.Proofs.Ytgpigllimoafaaa

/- The walk of the document's Few, and small facts. Conditions: each theorem's own. -/
namespace Go.Proofs.Ytgpigllimoafaaa
open Go.RowKit
set_option linter.unusedVariables false
set_option linter.unusedSimpArgs false

theorem Try.info5 : (Try.prog.info? 5).map (fun i => (i.zero, i.size, i.bytes)) = some (some (.int .u8 0), 1, 1) := by kernel_rfl

theorem rd_new (k : IntKind) (n : Int) (e : TypeId) (w : World) : Rd k (w.heap.size + 1) (w.alloc (.cells #[.int k n] e)) (.slice (some ⟨w.heap.size, 0, none⟩) 1 1) [n] := by
  refine ⟨_, 1, rfl, by simp, by simp [maxLen], fun i hi => ⟨w.heap.size, 0, rfl, by omega, ?_⟩⟩
  obtain rfl : i = 0 := by simp at hi; omega
  refine (World.cell?_alloc_new w _ _ _).trans ?_
  simp
end Go.Proofs.Ytgpigllimoafaaa

/- The walk of crc.halved: eight halvings. Conditions: each theorem's own. -/
namespace Go.Proofs.Ytgpigllimoafaaa
open Go.RowKit

theorem and_one (q : Nat) (hq : q < 4294967296) : bits .and .u32 (q : Int) 1 = ((q % 2 : Nat) : Int) := by
  have := u32_and_nat q 1 hq (by omega)
  rw [nat_mask1] at this
  exact this

theorem xor_poly (q : Nat) (hq : q < 4294967296) : bits .xor .u32 ((q : Int) / 2) 3988292384 = ((q / 2 ^^^ 3988292384 : Nat) : Int) := by
  have := u32_xor_nat (q / 2) 3988292384 (by omega) (by omega)
  simpa using this

end Go.Proofs.Ytgpigllimoafaaa

/- The walks of crc.numbers, crc.More and crc.Sum. Conditions: each theorem's own. -/
namespace Go.Proofs.Ytgpigllimoafaaa
open Go.RowKit
set_option linter.unusedVariables false

/-- the table -/
def tab : List Value := (List.range 256).map fun i => .int .u32 ((halve 8 i : Nat) : Int)
theorem tab_length : tab.length = 256 := by simp [tab]
theorem tab_one : tab.toArray.all (·.oneCell') = true := all_oneCell_toArray fun v hv => by
  simp only [tab, List.mem_map] at hv
  obtain ⟨i, _, rfl⟩ := hv
  rfl
theorem tab_at (i : Nat) (h : i < 256) : tab[i]? = some (.int .u32 ((halve 8 i : Nat) : Int)) := by simp [tab, h]

/-- block g's first 256 cells are there and may be written -/
def Room (g : Nat) (w : World) : Prop := ∀ i, i < 256 → (w.cell? ⟨g, i, none⟩).isSome = true ∧ w.frozen? ⟨g, i, none⟩ = false
theorem Room.there {g : Nat} {w : World} (h : Room g w) : w.there g 0 256 := fun j hj => by rw [Nat.zero_add]; exact h j hj
theorem room_new (w : World) (t : TypeId) (v : Value) : Room w.heap.size (w.alloc (.cells (Array.replicate 256 v) t)) := fun i hi => by
  refine ⟨?_, World.frozen?_alloc_new w _ _ _⟩
  refine (congrArg Option.isSome (World.cell?_alloc_new w _ _ i)).trans ?_
  rw [Array.getElem?_eq_getElem (by simpa using hi)]
  rfl
theorem Room.alloc {g : Nat} {w : World} (h : Room g w) (o : Obj) : Room g (w.alloc o) := fun i hi => by
  obtain ⟨h1, h2⟩ := h i hi
  obtain ⟨u, hu⟩ := Option.isSome_iff_exists.1 h1
  have hb := World.block_lt_of_cell? w _ hu
  exact ⟨by rw [World.cell?_alloc_lt _ _ _ hb]; exact h1, by rw [World.frozen?_alloc_past _ _ _ hb]; exact h2⟩
theorem Room.set {g : Nat} {w : World} (h : Room g w) (p : Addr) (v : Value) : Room g (w.setCell p v) := fun i hi => by
  refine ⟨?_, by rw [World.frozen?_setCell]; exact (h i hi).2⟩
  obtain ⟨u, hu⟩ := Option.isSome_iff_exists.1 (h i hi).1
  by_cases e : p = ⟨g, i, none⟩
  · subst e; rw [World.cell?_setCell_same _ _ _ hu]; rfl
  · rw [World.cell?_setCell_other _ _ _ _ e, hu]; rfl

theorem wrap32 (j : Nat) (h : j < 4294967296) : IntKind.u32.wrap (j : Int) = (j : Int) := by rw [IntKind.wrap_u32']; omega

end Go.Proofs.Ytgpigllimoafaaa

/- The walks of crc's calls that put a check behind bytes and take it away (tail, Put, Take, bytes.Equal). Conditions: each theorem's own. -/
namespace Go.Proofs.Ytgpigllimoafaaa
open Go.RowKit
set_option linter.unusedVariables false
set_option linter.unusedSimpArgs false






theorem str_beq {a b : List Int} (ha : Oct a) (hb : Oct b) : ((strOfNums a).toList == (strOfNums b).toList) = decide (a = b) := by
  by_cases h : a = b
  · subst h; simp
  · rw [decide_eq_false h]
    refine beq_eq_false_iff_ne.2 fun e => h (strOfNums_inj ha hb ?_)
    rw [ByteArray.toList_eq, ByteArray.toList_eq] at e
    have e' := Array.toList_inj.1 e
    cases hx : strOfNums a
    cases hy : strOfNums b
    rw [hx, hy] at e'
    simp only at e'
    rw [e']


/-- what Take tells -/
def taken (zs : List Int) : List Int × Int :=
  if zs.length < 4 then ([], 2)
  else if zs.drop (zs.length - 4) = le 4 (chk 0 (zs.take (zs.length - 4)) : Nat) then (zs.take (zs.length - 4), 0) else ([], 9)

end Go.Proofs.Ytgpigllimoafaaa

/- The walks of the document's own check (More, Put, Good) and of the law's example. Conditions: each theorem's own. -/
namespace Go.Proofs.Ytgpigllimoafaaa
open Go.RowKit
set_option linter.unusedVariables false
set_option linter.unusedSimpArgs false

/-- with their check? -/
def isGood (zs : List Int) : Bool := decide (4 ≤ zs.length ∧ zs.take (zs.length - 4) ++ le 4 (chk 0 (zs.take (zs.length - 4)) : Nat) = zs)

end Go.Proofs.Ytgpigllimoafaaa

/- What follows of the check: what is taken of bytes with their check, and of such with one byte turned. Conditions: each theorem's own. -/
namespace Go.Proofs.Ytgpigllimoafaaa
open Go.RowKit
set_option linter.unusedVariables false
set_option linter.unusedSimpArgs false

theorem xor_ne {x b : Int} (hx0 : 0 ≤ x) (hb0 : 0 < b) : ((x.toNat ^^^ b.toNat : Nat) : Int) ≠ x := by
  intro h
  have h1 : x.toNat ^^^ b.toNat = x.toNat := by omega
  have h2 : x.toNat ^^^ (x.toNat ^^^ b.toNat) = 0 := by rw [h1, Nat.xor_self]
  rw [← Nat.xor_assoc, Nat.xor_self, Nat.zero_xor] at h2
  omega

theorem taken_append (ys t : List Int) (ht : t.length = 4) : taken (ys ++ t) = if t = le 4 (chk 0 ys : Nat) then (ys, 0) else ([], 9) := by
  have hl : (ys ++ t).length = ys.length + 4 := by rw [List.length_append, ht]
  unfold taken
  rw [if_neg (by omega), hl, Nat.add_sub_cancel, List.drop_left, List.take_left]

theorem taken_turned {ys : List Int} (ho : Oct ys) {k : Nat} (hk : k < (ys ++ le 4 (chk 0 ys : Nat)).length) {y : Int} (hy0 : 0 ≤ y) (hy : y < 256) (hne : y ≠ (ys ++ le 4 (chk 0 ys : Nat)).getD k 0) :
    taken ((ys ++ le 4 (chk 0 ys : Nat)).set k y) = ([], 9) := by
  have h4 : (le 4 (chk 0 ys : Nat)).length = 4 := le_length _ _
  by_cases hkn : k < ys.length
  · rw [List.set_append_left _ _ hkn, taken_append _ _ h4, if_neg]
    intro e
    have e' := le_inj 4 (by omega) (by have := chk_lt 0 ys; omega) (by omega) (by have := chk_lt 0 (ys.set k y); omega) e
    refine chk_set ho hkn hy0 hy ?_ (by omega)
    intro e2
    apply hne
    rw [e2]
    simp [List.getD, List.getElem?_append_left hkn]
  · rw [List.set_append_right _ _ (by omega), taken_append _ _ (by rw [List.length_set]; exact h4), if_neg]
    intro e
    apply hne
    rw [List.length_append, h4] at hk
    have hj : k - ys.length < (le 4 (chk 0 ys : Nat)).length := by rw [h4]; omega
    have e2 : ((le 4 (chk 0 ys : Nat)).set (k - ys.length) y).getD (k - ys.length) 0 = (le 4 (chk 0 ys : Nat)).getD (k - ys.length) 0 := by rw [e]
    have e3 : ((le 4 (chk 0 ys : Nat)).set (k - ys.length) y).getD (k - ys.length) 0 = y := by simp [List.getD, hj]
    rw [← e3, e2]
    simp [List.getD, List.getElem?_append_right (Nat.le_of_not_lt hkn)]

theorem isGood_eq (L : List Int) (m : Nat) (hm : L.length = m + 4) : isGood L = decide (L.drop m = le 4 (chk 0 (L.take m) : Nat)) := by
  unfold isGood
  rw [hm, Nat.add_sub_cancel]
  by_cases h : L.drop m = le 4 (chk 0 (L.take m) : Nat)
  · rw [decide_eq_true h]
    refine decide_eq_true ⟨by omega, ?_⟩
    rw [← h, List.take_append_drop]
  · rw [decide_eq_false h]
    refine decide_eq_false fun e => h ?_
    have e2 : L.take m ++ le 4 (chk 0 (L.take m) : Nat) = L.take m ++ L.drop m := by rw [List.take_append_drop]; exact e.2
    exact (List.append_cancel_left e2).symm
theorem taken_eq (L : List Int) (m : Nat) (hm : L.length = m + 4) : taken L = if L.drop m = le 4 (chk 0 (L.take m) : Nat) then (L.take m, 0) else ([], 9) := by
  unfold taken
  rw [if_neg (by omega), hm, Nat.add_sub_cancel]
end Go.Proofs.Ytgpigllimoafaaa
