/-
  A sector's and a page's bytes as lists of numbers; a copy into the middle of a row. Conditions: each theorem's own.
-/
import Derived.Test.YtcmehefaceaioaaWords
import Derived.Test.YtcmehefaceaioaaLibV
import Derived.Test.YtcmehefaceaioaaCrcFacts
import Derived.Test.YtcmehefaceaioaaBase
import Derived.Test.YtcmehefaceaioaaEnds
namespace Go.Proofs.Ytcmehefaceaioaa
open Go.RowKit
set_option linter.unusedVariables false

/-- 'Fill': so many bytes, made of any -/
def fillL (zs : List Int) (n : Nat) : List Int := (List.range n).map fun i => zs.getD (i % zs.length) 0
theorem fillL_length (zs : List Int) (n : Nat) : (fillL zs n).length = n := by simp [fillL]
theorem fillL_succ (zs : List Int) (j : Nat) : fillL zs (j + 1) = fillL zs j ++ [zs.getD (j % zs.length) 0] := by simp [fillL, List.range_succ]
theorem oct_fill {zs : List Int} (h : Oct zs) (n : Nat) : Oct (fillL zs n) := fun x hx => by
  unfold fillL at hx
  obtain ⟨i, _, rfl⟩ := List.mem_map.1 hx
  exact h.getD _

/-- what is wrong with n bytes from off on of so many -/
def fitE (l : Nat) (off n : Int) : Int := if l ≠ 32 then 2 else if off < 0 ∨ n < 0 ∨ 32 < off + n then 4 else 0
theorem fitE_form {l : Nat} (h : l ≠ 32) (off n : Int) : fitE l off n = 2 := if_pos h
theorem fitE_range {off n : Int} (h : off < 0 ∨ n < 0 ∨ 32 < off + n) : fitE 32 off n = 4 := by unfold fitE; rw [if_neg (by omega), if_pos h]
theorem fitE_ok {off n : Int} (h : ¬ (off < 0 ∨ n < 0 ∨ 32 < off + n)) : fitE 32 off n = 0 := by unfold fitE; rw [if_neg (by omega), if_neg h]
theorem fitE_cases (l : Nat) (off n : Int) : (l ≠ 32 ∧ fitE l off n = 2) ∨ (l = 32 ∧ (off < 0 ∨ n < 0 ∨ 32 < off + n) ∧ fitE l off n = 4) ∨ (l = 32 ∧ 0 ≤ off ∧ 0 ≤ n ∧ off + n ≤ 32 ∧ fitE l off n = 0) := by
  by_cases h : l = 32
  · subst h
    by_cases h2 : off < 0 ∨ n < 0 ∨ 32 < off + n
    · exact .inr (.inl ⟨rfl, h2, fitE_range h2⟩)
    · exact .inr (.inr ⟨rfl, by omega, by omega, by omega, fitE_ok h2⟩)
  · exact .inl ⟨h, fitE_form h _ _⟩

/-- what Open tells -/
def opened (zs : List Int) : List Int × Int := if zs.length = 20 then taken zs else ([], 2)
/-- what Get tells -/
def got (zs : List Int) (off n : Int) : List Int × Int := if fitE zs.length off n = 0 then ((zs.drop off.toNat).take n.toNat, 0) else ([], fitE zs.length off n)
/-- a list with others in its middle -/
def midL {α : Type} (zs : List α) (l : Nat) (ys : List α) : List α := zs.take l ++ ys ++ zs.drop (l + ys.length)
/-- what Put tells -/
def putted (zs : List Int) (off : Int) (ys : List Int) : List Int × Int := if fitE zs.length off ys.length = 0 then (midL zs off.toNat ys, 0) else ([], fitE zs.length off ys.length)

theorem midL_length {α : Type} {zs ys : List α} {l : Nat} (h : l + ys.length ≤ zs.length) : (midL zs l ys).length = zs.length := by
  unfold midL
  simp only [List.length_append, List.length_take, List.length_drop]
  omega
theorem midL_in {α : Type} {zs ys : List α} {l : Nat} (h : l + ys.length ≤ zs.length) (d : α) {j : Nat} (h1 : l ≤ j) (h2 : j < l + ys.length) : (midL zs l ys).getD j d = ys.getD (j - l) d := by
  unfold midL
  have e1 : (zs.take l).length = l := by rw [List.length_take]; omega
  rw [List.append_assoc]
  simp only [List.getD]
  rw [List.getElem?_append_right (by omega), e1, List.getElem?_append_left (by omega)]
theorem midL_out {α : Type} {zs ys : List α} {l : Nat} (h : l + ys.length ≤ zs.length) (d : α) {j : Nat} (h1 : j < l ∨ l + ys.length ≤ j) : (midL zs l ys).getD j d = zs.getD j d := by
  unfold midL
  have e1 : (zs.take l).length = l := by rw [List.length_take]; omega
  rw [List.append_assoc]
  simp only [List.getD]
  rcases h1 with h1 | h1
  · rw [List.getElem?_append_left (by omega), List.getElem?_take, if_pos h1]
  · rw [List.getElem?_append_right (by omega), e1, List.getElem?_append_right (by omega), List.getElem?_drop]
    rw [show l + ys.length + (j - l - ys.length) = j by omega]
theorem oct_mid {zs ys : List Int} (h : Oct zs) (k : Oct ys) (l : Nat) : Oct (midL zs l ys) := ((h.take l).append k).append (h.drop _)

theorem got_oct {zs : List Int} (h : Oct zs) (off n : Int) : Oct (got zs off n).1 := by
  unfold got
  split
  · exact (h.drop _).take _
  · intro x hx; cases hx
theorem putted_oct {zs ys : List Int} (h : Oct zs) (k : Oct ys) (off : Int) : Oct (putted zs off ys).1 := by
  unfold putted
  split
  · exact oct_mid h k _
  · intro x hx; cases hx
theorem taken_oct {zs : List Int} (h : Oct zs) : Oct (taken zs).1 := by
  unfold taken
  split
  · intro x hx; cases hx
  · split
    · exact h.take _
    · intro x hx; cases hx
theorem opened_oct {zs : List Int} (h : Oct zs) : Oct (opened zs).1 := by
  unfold opened
  split
  · exact taken_oct h
  · intro x hx; cases hx

/-- a slice by its three parts: for slices of slices -/
def slF (s : Option Addr × Nat × Nat) : Value := .slice s.1 s.2.1 s.2.2
theorem oneS (s : Option Addr × Nat × Nat) : (slF s).oneCell' = true := rfl

section
variable {P : Program} {α : Type} {f : α → Value} {d : α}
/-- a new slice, empty, of a capacity -/
theorem wpList_makeV0 {w : World} {ops : Array Oper} {rest : List Oper} {o : Oper} {a : Act} {Q : Exit → Act → World → Prop} (hgd : o.guard = none) (l c : Operand) (t : TypeId) (ho : o.op = .makeSlice t l c)
    (f : α → Value) (d : α) (e : TypeId) (i : TypeInfo) (z : Value) (ht : P.underlying t = some (.slice e)) (hi : P.info? e = some i) (hz : i.zero = some z) (hsize : i.size = 1) (bytes : Nat) (hby : i.bytes = bytes)
    (kl kc : IntKind) (n : Nat) (hl : a.eval l = .int kl 0) (hc : a.eval c = .int kc n) (hn0 : 0 < n) (hn : n ≤ 100000) (hb : bytes ≤ 1000)
    (hK : ∀ v' w', OwnV f d (fun i => i = w.heap.size) w' v' [] → Grow w w' → w.heap.size < w'.heap.size → wpList P ops Q rest (a.put o.dst v') w') : wpList P ops Q (o :: rest) a w := by
  refine wpList_plain hgd fun K hK' => ?_
  have hbb : (i.bytes : Int) * (n : Int) ≤ 1000 * 100000 := by
    rw [hby]
    exact Int.mul_le_mul (by omega) (by omega) (by omega) (by omega)
  have hrun := run_make (P := P) w t e i z ht hi hz kl kc 0 n (by omega) (by omega) (by omega) (by omega)
  unfold Oper.wp
  simp [execOp, ho, hl, hc, hrun, Result.andThen]
  refine hK' _ _ (hK _ _ (.inr ⟨w.heap.size, 0, n, rfl, rfl, hn0, Nat.zero_le _, by simp only [maxLen]; omega, fun j hj => absurd hj (Nat.not_lt_zero _), fun j hj => ⟨?_, ?_⟩⟩) ((Grow.refl w).alloc _) (by simp))
  · rw [Nat.zero_add]
    refine (congrArg Option.isSome (World.cell?_alloc_new w _ _ j)).trans ?_
    rw [Array.getElem?_eq_getElem (by rw [size_madeCells, hsize]; omega)]
    rfl
  · exact World.frozen?_alloc_new w _ _ _

/-- THE COPY into the middle of a row of the call's own: 'copy(s[l:], x)', where all of x fits. -/
theorem run_copyMid {w : World} (dT sT ty elem : TypeId) (hu : P.underlying dT = some (.slice elem)) (hsz : (P.info? elem).map (·.size) = some 1)
    {p q : Nat → Prop} {a : Option Addr} {n c : Nat} {x : Value} {zs ys : List α} (l : Nat) (hown : OwnV f d p w (.slice a n c) zs) (hrd : RdV f d q w x ys) (hl : l + ys.length ≤ zs.length) (hf : ∀ x, (f x).oneCell' = true) :
    ∃ w', (Builtin.copy_ #[dT, sT] ty #[.slice (if c = l then a else a.map (·.add l)) (n - l) (c - l), x]).run P w = .ok (goInt ys.length) w' ∧ OwnV f d p w' (.slice a n c) (midL zs l ys) ∧ UpdS p w w' := by
  obtain ⟨ax, cs, rfl⟩ := hrd.shape
  by_cases h0 : ys.length = 0
  · have hy : ys = [] := List.eq_nil_of_length_eq_zero h0
    subst hy
    refine ⟨w, run_copy_none (P := P) w dT sT ty elem _ ax _ _ _ _ hu hsz (Nat.zero_min _), ?_, UpdS.refl _ _⟩
    have e : midL zs l [] = zs := by simp [midL]
    rw [e]; exact hown
  · obtain ⟨b, ob, rfl, hqb, hcell⟩ := hrd.addr (by omega)
    rcases hown with ⟨rfl, _⟩ | ⟨g, og, c', hv, hb, hc0, hnc, hcm, hc, ht⟩
    · exact absurd hl (by simp only [List.length_nil]; omega)
    · injection hv with e1 e2 e3
      subst e1 e2 e3
      rw [if_neg (show ¬ c = l by omega)]
      have hget : ∀ j, j < ys.length → (ys.map f)[j]? = some (f (ys.getD j d)) := fun j hj => by
        rw [List.getElem?_map, List.getElem?_eq_getElem hj]
        simp [List.getD, List.getElem?_eq_getElem hj]
      have hth : ∀ j, j < (ys.map f).length → (w.cell? ⟨g, og + l + j, none⟩).isSome = true ∧ w.frozen? ⟨g, og + l + j, none⟩ = false := fun j hj => by
        rw [List.length_map] at hj
        rw [Nat.add_assoc]
        exact ht (l + j) (by omega)
      have hrun := run_copy_cells (P := P) w dT sT ty elem g (og + l) (zs.length - l) (c - l) ⟨b, ob, none⟩ ys.length cs (ys.map f) hu hsz (by rw [List.length_map]; exact (Nat.min_eq_left (by omega)).symm)
        (fun j u hu' => by
          have hj : j < ys.length := by
            have := (List.getElem?_eq_some_iff.1 hu').1
            simpa using this
          rw [Addr.add_lit, hcell j hj, ← hget j hj]; exact hu')
        (fun j hj => (hth j hj).1) (fun j hj => (hth j hj).2)
        (fun u hu' => by obtain ⟨y, _, rfl⟩ := List.mem_map.1 hu'; exact hf y)
      rw [List.length_map] at hrun
      have hml := midL_length hl
      have hin : ∀ j, l ≤ j → j < l + ys.length → (w.setCells g (og + l) (ys.map f)).cell? ⟨g, og + j, none⟩ = some (f (ys.getD (j - l) d)) := fun j h1 h2 => by
        have := World.cell?_setCells_in g (ys.map f) (og + l) w (fun j hj => (hth j hj).1) (j - l) (by simp; omega)
        rw [show og + l + (j - l) = og + j by omega] at this
        rw [this]
        simp [List.getD, List.getElem?_eq_getElem (show j - l < ys.length by omega)]
      have hout : ∀ j, (j < l ∨ l + ys.length ≤ j) → (w.setCells g (og + l) (ys.map f)).cell? ⟨g, og + j, none⟩ = w.cell? ⟨g, og + j, none⟩ := fun j h1 =>
        World.cell?_setCells_out g _ _ _ _ (fun _ _ => by show og + j < og + l ∨ og + l + (ys.map f).length ≤ og + j; simp; omega)
      refine ⟨_, by simpa [Addr.add_lit] using hrun, .inr ⟨g, og, c, by rw [hml], hb, hc0, by omega, hcm, fun j hj => ?_, fun j hj => ⟨?_, ?_⟩⟩, (updS_cells g _ _ w).mono (fun k hk => by rw [hk]; exact hb)⟩
      · rw [hml] at hj
        by_cases h1 : l ≤ j ∧ j < l + ys.length
        · rw [hin j h1.1 h1.2, midL_in hl d h1.1 h1.2]
        · rw [hout j (by omega), midL_out hl d (by omega)]; exact hc j hj
      · by_cases h1 : l ≤ j ∧ j < l + ys.length
        · rw [hin j h1.1 h1.2]; rfl
        · rw [hout j (by omega)]; exact (ht j hj).1
      · rw [World.frozen?_setCells]
        exact (ht j hj).2
end
end Go.Proofs.Ytcmehefaceaioaa
