/-
  A region that draws its order and ends with an act for which all others have been (a store of what was read and reckoned): the walk in an order of one's own choosing, the last act free of the relation that the reads want. Conditions: each theorem's own.
-/
import Derived.Test.YtnjifmnhcgcpiaaSched
namespace Go.Proofs.Ytnjifmnhcgcpiaa
open Go.RowKit
set_option linter.unusedVariables false

section
variable {P : Program} {ops : Array Oper} {Q : Exit → Act → World → Prop} {G : World → World → Prop} {md : Region.Mode} {S : World → Prop} {L : Nat}

/-- Whatever order is picked from here on, and S holds behind every operation that is carried out, but for number L. -/
def wpAnyE (P : Program) (md : Region.Mode) (ops : Array Oper) (Q : Exit → Act → World → Prop) (S : World → Prop) (L : Nat) : Nat → Array Bool → Act → World → Prop
  | 0, listed, a, w => Region.ready md ops listed = [] ∧ Q .normal a w
  | fuel + 1, listed, a, w =>
    (Region.ready md ops listed = [] → Q .normal a w) ∧
    ∀ i ∈ Region.ready md ops listed, wpOp P ops Q i (fun a' w' => (i ≠ L → S w') ∧ wpAnyE P md ops Q S L fuel (listed.setIfInBounds i true) a' w') a w

theorem wpAny_of_E : ∀ (fuel : Nat) (listed : Array Bool) (a : Act) (w : World), wpAnyE P md ops Q S L fuel listed a w → wpAny P md ops Q fuel listed a w
  | 0, _, _, _, h => h
  | fuel + 1, _, _, _, h => ⟨h.1, fun i hi => wpOp_mono (fun a' w' h' => wpAny_of_E fuel _ a' w' h'.2) (h.2 i hi)⟩

theorem wpAnyE_weaken {S' : World → Prop} (hS : ∀ w, S w → S' w) : ∀ (fuel : Nat) (listed : Array Bool) (a : Act) (w : World), wpAnyE P md ops Q S L fuel listed a w → wpAnyE P md ops Q S' L fuel listed a w
  | 0, _, _, _, h => h
  | fuel + 1, _, _, _, h => ⟨h.1, fun i hi => wpOp_mono (fun a' w' h' => ⟨fun hn => hS _ (h'.1 hn), wpAnyE_weaken hS fuel _ a' w' h'.2⟩) (h.2 i hi)⟩

/-- number L waits for number i -/
def waitsB (md : Region.Mode) (ops : Array Oper) (L i : Nat) : Bool := ((ops[L]?).map fun o => o.after.any fun e => Region.binds md e && e.on == i).getD false

theorem not_last {listed : Array Bool} {i j : Nat} (hw : waitsB md ops L i = true) (hr : i ∈ Region.ready md ops listed) (hj : j ∈ Region.ready md ops listed) : j ≠ L := by
  intro h
  subst h
  obtain ⟨hjun, oj, hoj, hall⟩ := mem_ready.1 hj
  unfold waitsB at hw
  rw [hoj] at hw
  simp only [Option.map_some, Option.getD_some, Array.any_eq_true] at hw
  obtain ⟨k, hk, he⟩ := hw
  simp only [Bool.and_eq_true, beq_iff_eq] at he
  have h1 := hall _ (Array.getElem_mem hk) he.1
  have h0 := (mem_ready.1 hr).1
  rw [he.2] at h1
  rcases Nat.lt_or_ge i listed.size with h' | h'
  · simp [h'] at h0 h1; rw [h0] at h1; cases h1
  · simp [Array.getElem?_eq_none h'] at h1

theorem wpAnyE_first {i : Nat} {oi : Oper} {v : Value} (hi : ops[i]? = some oi) (hsel : ∀ (j : Nat) (o : Oper) cs b, ops[j]? = some o → o.op ≠ .select cs b)
    (hQ : ∀ c a w, Q (.panic c) (a.put oi.dst v) w → Q (.panic c) a w) (hwt : waitsB md ops L i = true) :
    ∀ (fuel : Nat) (listed : Array Bool) (a : Act) (w : World),
      (∀ j oj, ops[j]? = some oj → j ≠ i → listed.getD j true = false → (∀ e ∈ oj.after, Region.binds md e = true → e.on ≠ i) → oi.apart ops oj = true) →
      i ∈ Region.ready md ops listed → YieldsIf P ops S oi v a → S w →
      wpAnyE P md ops Q S L fuel (listed.setIfInBounds i true) (a.put oi.dst v) w → wpAnyE P md ops Q S L (fuel + 1) listed a w := by
  intro fuel
  induction fuel with
  | zero =>
    intro listed a w _ hr hy hS H
    refine ⟨fun h => (by rw [h] at hr; cases hr), fun j hj => ?_⟩
    by_cases hji : j = i
    · subst hji; exact hy.wpOp hi hS ⟨fun _ => hS, H⟩
    · have := ready_mono hj hji
      rw [H.1] at this
      cases this
  | succ fuel ih =>
    intro listed a w hfree hr hy hS H
    refine ⟨fun h => (by rw [h] at hr; cases hr), fun j hj => ?_⟩
    by_cases hji : j = i
    · subst hji; exact hy.wpOp hi hS ⟨fun _ => hS, H⟩
    · have hjL : j ≠ L := not_last hwt hr hj
      have h1 := H.2 j (ready_mono hj hji)
      obtain ⟨hjun, oj, hoj, hall⟩ := mem_ready.1 hj
      have hnot : ∀ e ∈ oj.after, Region.binds md e = true → e.on ≠ i := fun e he hb heq => by
        have h1 := hall e he hb
        have h0 := (mem_ready.1 hr).1
        rw [heq] at h1
        rcases Nat.lt_or_ge i listed.size with h' | h'
        · simp [h'] at h0 h1; rw [h0] at h1; cases h1
        · simp [Array.getElem?_eq_none h'] at h1
      have h2 := wpOp_putIf hoj (hfree j oj hoj hji hjun hnot) (fun cs b => hsel i oi cs b hi) (fun cs b => hsel j oj cs b hoj) hQ hy h1
      have hfree' : ∀ k ok, ops[k]? = some ok → k ≠ i → (listed.setIfInBounds j true).getD k true = false →
          (∀ e ∈ ok.after, Region.binds md e = true → e.on ≠ i) → oi.apart ops ok = true := fun k ok hk hki hun hno => by
        refine hfree k ok hk hki ?_ hno
        by_cases hjk : j = k
        · subst hjk; exact hjun
        · rw [getD_set_ne true hjk] at hun; exact hun
      refine wpOp_mono (fun a' w' h3 => ⟨fun _ => h3.2.1 hjL, ih (listed.setIfInBounds j true) a' w' hfree' (ready_mono hr (Ne.symm hji)) h3.1 (h3.2.1 hjL) ?_⟩) h2
      rw [Array.setIfInBounds_comm _ _ hji]
      exact h3.2.2

/-- The last act, and then Q. -/
def lastQ (P : Program) (ops : Array Oper) (L : Nat) (Q : Exit → Act → World → Prop) : Exit → Act → World → Prop
  | .normal, a, w => wpOp P ops Q L (fun a' w' => Q .normal a' w') a w
  | e, a, w => Q e a w

theorem wp_of_lastQ {o : Oper} {a : Act} {w : World} {K : Act → World → Prop} (hh : o.wp P a w K (lastQ P ops L Q)) : o.wp P a w K Q := by
  unfold Oper.wp at *
  generalize (execOp a.eval o).run P w = r at *
  cases r with
  | ok n w' =>
    cases n <;> simp only [Oper.upon] at hh ⊢ <;>
      first
        | exact hh
        | exact Calls.mono hh (fun e w'' he => by cases e <;> exact he)
  | halt x w' => cases x <;> simp only [Oper.upon] at hh ⊢ <;> exact hh

/-- Is this order one that serves, with number L last? -/
def schedLB (ops : Array Oper) (L : Nat) : List (Nat × Bool) → Array Bool → Bool
  | [], listed => (Region.ready .any ops listed == [L]) && (Region.ready .any ops (listed.setIfInBounds L true)).isEmpty
  | (i, true) :: rest, listed => (Region.ready .any ops listed == [i]) && schedLB ops L rest (listed.setIfInBounds i true)
  | (i, false) :: rest, listed => Region.free .any ops listed i && (Region.ready .any ops listed).contains i && waitsB .any ops L i && schedLB ops L rest (listed.setIfInBounds i true)

theorem wpAnyE_of_wpS (hr : ∀ w, G w w) (ht : ∀ a b c, G a b → G b c → G a c) (hs : Region.noSelect ops = true) (hQ : ∀ c a d v w, Q (.panic c) (a.put d v) w → Q (.panic c) a w) :
    ∀ (l : List (Nat × Bool)) (listed : Array Bool) (a : Act) (w : World), schedLB ops L l listed = true → wpS P ops (lastQ P ops L Q) G (inOrder ops l) a w → wpAnyE P .any ops Q (G w) L (l.length + 1) listed a w
  | [], listed, a, w, hB, h => by
    simp only [schedLB, Bool.and_eq_true, beq_iff_eq] at hB
    refine ⟨fun h0 => (by rw [h0] at hB; cases hB.1), fun j hj => ?_⟩
    rw [hB.1] at hj
    obtain rfl : j = L := by simpa using hj
    have h' : wpOp P ops Q j (fun a' w' => Q .normal a' w') a w := h
    exact wpOp_mono (fun a' w' hq => ⟨fun hn => absurd rfl hn, by simpa using hB.2, hq⟩) h'
  | (i, true) :: rest, listed, a, w, hB, h => by
    simp only [schedLB, Bool.and_eq_true, beq_iff_eq] at hB
    obtain ⟨hrd, hB'⟩ := hB
    have hi : i < ops.size := ready_lt (by rw [hrd]; simp)
    have ho : ops[i]? = some ops[i] := Array.getElem?_eq_getElem hi
    have hl : inOrder ops ((i, true) :: rest) = (ops[i], true) :: inOrder ops rest := by simp [inOrder, ho]
    rw [hl] at h
    refine ⟨fun h0 => (by rw [h0] at hrd; cases hrd), fun j hj => ?_⟩
    rw [hrd] at hj
    obtain rfl : j = i := by simpa using hj
    unfold wpOp
    simp only [ho]
    simp only [wpS] at h
    split
    · rename_i hw
      simp only [hw, if_true] at h
      exact .inl (Oper.wp_mono (fun a' w' h' => ⟨fun _ => h'.1, wpAnyE_weaken (fun x hx => ht _ _ _ h'.1 hx) _ _ _ _ (wpAnyE_of_wpS hr ht hs hQ rest _ a' w' hB' h'.2)⟩) (wp_of_lastQ h))
    · rename_i hw
      simp only [hw] at h
      exact ⟨fun _ => hr _, wpAnyE_of_wpS hr ht hs hQ rest _ _ w hB' h⟩
  | (i, false) :: rest, listed, a, w, hB, h => by
    simp only [schedLB, Bool.and_eq_true] at hB
    obtain ⟨⟨⟨hf, hrd⟩, hwt⟩, hB'⟩ := hB
    have hi : i < ops.size := ready_lt (listed := listed) (by simpa using hrd)
    have ho : ops[i]? = some ops[i] := Array.getElem?_eq_getElem hi
    have hl : inOrder ops ((i, false) :: rest) = (ops[i], false) :: inOrder ops rest := by simp [inOrder, ho]
    rw [hl] at h
    obtain ⟨v, hy, h⟩ := h
    exact wpAnyE_first ho (Region.noSelect_spec hs) (fun c a' w' => hQ c a' _ v w') hwt _ _ _ _ (Region.free_spec ho hf) (by simpa using hrd) hy (hr _) (wpAnyE_of_wpS hr ht hs hQ rest _ _ w hB' h)

/-- THE BEGINNING: all but number L by the relation 'more memory'; number L last, whatever it does. -/
theorem wp_region_last {id : Nat} {a : Act} {w : World} (L : Nat) (hm : P.follows .mixedOrders = true) (l : List (Nat × Bool)) (hs : Region.noSelect ops = true) (hB : schedLB ops L l (Array.replicate ops.size false) = true) (hlen : l.length + 1 = ops.size)
    (hQ : ∀ c a d v w, Q (.panic c) (a.put d v) w → Q (.panic c) a w) (h : wpS P ops (lastQ P ops L Q) Grow (inOrder ops l) a w.drew) : (Code.region id ops true).wp P Q a w := by
  refine wp_region_any hm (wpAny_of_E (S := Grow w.drew) (L := L) _ _ _ _ ?_)
  have := wpAnyE_of_wpS Grow.refl (fun _ _ _ => Grow.trans) hs hQ l _ a w.drew hB h
  rw [hlen] at this
  exact this

/-- .. and the last is a store. -/
theorem last_store {o : Oper} {a : Act} {w w' : World} (ho : ops[L]? = some o) (hw : Region.wanted o (yielded ops a.tmps) = true) (he : (execOp a.eval o).run P w = .ok .skip w')
    (h : Q .normal (a.put o.dst undef) w') : lastQ P ops L Q .normal a w := by
  show wpOp P ops Q L (fun a' w' => Q .normal a' w') a w
  unfold wpOp
  simp only [ho, hw, if_true]
  refine .inl ?_
  unfold Oper.wp
  rw [he]
  exact h
end
end Go.Proofs.Ytnjifmnhcgcpiaa
