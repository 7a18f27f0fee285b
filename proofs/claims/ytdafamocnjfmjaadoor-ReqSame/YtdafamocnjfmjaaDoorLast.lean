/-
  A region that draws its order and ends with an act that waits for all others (a store of what was read and reckoned): that act is set apart, and the rest is walked in an order of one's own choosing. Conditions: each theorem's own.
-/
import Derived.Test.YtdafamocnjfmjaaDoorSched
namespace Go.Proofs.YtdafamocnjfmjaaDoor
open Go.RowKit
set_option linter.unusedVariables false

section
variable {P : Program} {ops : Array Oper} {Q : Exit → Act → World → Prop} {md : Region.Mode} {L : Nat}

/-- Number L, and then Q. -/
def lastQ (P : Program) (ops : Array Oper) (L : Nat) (Q : Exit → Act → World → Prop) : Exit → Act → World → Prop
  | .normal, a, w => wpOp P ops Q L (fun a' w' => Q .normal a' w') a w
  | e, a, w => Q e a w

theorem oper_of_lastQ {o : Oper} {a : Act} {w : World} {K : Act → World → Prop} (h : o.wp P a w K (lastQ P ops L Q)) : o.wp P a w K Q := by
  unfold Oper.wp at *
  revert h
  cases (execOp a.eval o).run P w with
  | ok n w' =>
    intro h
    cases n
    case enter f args => exact Calls.mono h fun e w'' he => by cases e <;> exact he
    all_goals exact h
  | halt x w' =>
    intro h
    cases x <;> exact h

theorem op_of_lastQ {i : Nat} {a : Act} {w : World} {K : Act → World → Prop} (h : wpOp P ops (lastQ P ops L Q) i K a w) : wpOp P ops Q i K a w := by
  unfold wpOp at *
  split
  · rename_i hn; rw [hn] at h; exact h
  · rename_i o ho
    rw [ho] at h
    split
    · rename_i hw
      simp only [hw, if_true] at h
      exact h.imp oper_of_lastQ (fun x => ⟨x.1, x.2⟩)
    · rename_i hw
      dsimp only at h
      rw [if_neg hw] at h
      exact h

/-- number L waits for number i -/
def waitsB (md : Region.Mode) (ops : Array Oper) (L i : Nat) : Bool := ((ops[L]?).map fun o => o.after.any fun e => Region.binds md e && e.on == i).getD false
/-- number L waits for all others -/
def allWaitB (md : Region.Mode) (ops : Array Oper) (L : Nat) : Bool := (List.range ops.size).all fun i => i == L || waitsB md ops L i
/-- nobody waits for one behind it in the text -/
def downB (md : Region.Mode) (ops : Array Oper) : Bool := (List.range ops.size).all fun i => ((ops[i]?).map fun o => o.after.all fun e => !Region.binds md e || decide (e.on < i)).getD true

/-- as long as one has not come up, one can -/
theorem some_ready (hd : downB md ops = true) (listed : Array Bool) : ∀ (k : Nat), k < ops.size → listed.getD k true = false → ∃ i, i ∈ Region.ready md ops listed := by
  intro k
  induction k using Nat.strongRecOn with
  | ind k ih =>
    intro hk hu
    have ho : ops[k]? = some ops[k] := Array.getElem?_eq_getElem hk
    by_cases hall : ∀ e ∈ ops[k].after, Region.binds md e = true → listed.getD e.on false = true
    · exact ⟨k, mem_ready.2 ⟨hu, ops[k], ho, hall⟩⟩
    · simp only [Classical.not_forall] at hall
      obtain ⟨e, he, hb, hn⟩ := hall
      have hlt : e.on < k := by
        unfold downB at hd
        rw [List.all_eq_true] at hd
        have h1 := hd k (List.mem_range.2 hk)
        rw [ho] at h1
        simp only [Option.map_some, Option.getD_some, Array.all_eq_true] at h1
        obtain ⟨m, hm, rfl⟩ := Array.getElem_of_mem he
        have h2 := h1 m hm
        simp [hb] at h2
        exact h2
      refine ih e.on hlt (by omega) ?_
      have hnf : listed.getD e.on false = false := by simpa using hn
      by_cases hs : e.on < listed.size
      · simpa [hs] using hnf
      · exact absurd hu (by simp [Array.getElem?_eq_none (by omega : listed.size ≤ k)])

/-- if it can come up, nobody else is left -/
theorem last_alone (hw : allWaitB md ops L = true) {listed : Array Bool} (hL : L ∈ Region.ready md ops listed) : Region.ready md ops (listed.setIfInBounds L true) = [] := by
  rw [List.eq_nil_iff_forall_not_mem]
  intro j hj
  obtain ⟨hju, oj, hoj, -⟩ := mem_ready.1 hj
  obtain ⟨hLu, oL, hoL, hall⟩ := mem_ready.1 hL
  have hLs : L < listed.size := by
    rcases Nat.lt_or_ge L listed.size with h | h
    · exact h
    · exact absurd hLu (by simp [Array.getElem?_eq_none h])
  have hne : j ≠ L := by
    rintro rfl
    simp [hLs] at hju
  unfold allWaitB at hw
  rw [List.all_eq_true] at hw
  have h1 := hw j (List.mem_range.2 (Array.getElem?_eq_some_iff.1 hoj).1)
  simp only [Bool.or_eq_true, beq_iff_eq, hne, false_or] at h1
  unfold waitsB at h1
  rw [hoL] at h1
  simp only [Option.map_some, Option.getD_some, Array.any_eq_true, Bool.and_eq_true, beq_iff_eq] at h1
  obtain ⟨k, hk, hb, hon⟩ := h1
  have h2 := hall _ (Array.getElem_mem hk) hb
  rw [hon] at h2
  rw [getD_set_ne true (Ne.symm hne)] at hju
  rcases Nat.lt_or_ge j listed.size with h | h
  · simp [h] at h2 hju; rw [hju] at h2; cases h2
  · simp [Array.getElem?_eq_none h] at h2

/-- NUMBER L SET APART: whatever order the others come up in, and then it. -/
theorem wpAny_last (hw : allWaitB md ops L = true) (hd : downB md ops = true) (hLs : L < ops.size) : ∀ (fuel : Nat) (listed : Array Bool) (a : Act) (w : World), listed.getD L true = false →
    wpAny P md ops (lastQ P ops L Q) fuel (listed.setIfInBounds L true) a w → wpAny P md ops Q (fuel + 1) listed a w := by
  intro fuel
  induction fuel with
  | zero =>
    intro listed a w hu h
    obtain ⟨i0, hi0⟩ := some_ready hd listed L hLs hu
    refine ⟨fun h0 => (by rw [h0] at hi0; cases hi0), fun i hi => ?_⟩
    by_cases hiL : i = L
    · subst hiL
      exact wpOp_mono (fun a' w' hq => ⟨h.1, hq⟩) (show wpOp P ops Q i (fun a' w' => Q .normal a' w') a w from h.2)
    · have := ready_mono hi hiL
      rw [h.1] at this
      cases this
  | succ fuel ih =>
    intro listed a w hu h
    obtain ⟨i0, hi0⟩ := some_ready hd listed L hLs hu
    refine ⟨fun h0 => (by rw [h0] at hi0; cases hi0), fun i hi => ?_⟩
    by_cases hiL : i = L
    · subst hiL
      have hn := last_alone hw hi
      exact wpOp_mono (fun a' w' hq => ⟨fun _ => hq, fun j hj => (by rw [hn] at hj; cases hj)⟩) (show wpOp P ops Q i (fun a' w' => Q .normal a' w') a w from h.1 hn)
    · refine wpOp_mono (fun a' w' hq => ih (listed.setIfInBounds i true) a' w' ?_ ?_) (op_of_lastQ (h.2 i (ready_mono hi hiL)))
      · rw [getD_set_ne true hiL]; exact hu
      · rw [Array.setIfInBounds_comm _ _ hiL]; exact hq

/-- Is this an order that serves, number L apart? -/
def lastB (ops : Array Oper) (L : Nat) (l : List (Nat × Bool)) : Bool :=
  schedB ops l ((Array.replicate ops.size false).setIfInBounds L true) && allWaitB .any ops L && downB .any ops && decide (L < ops.size)

/-- THE BEGINNING: all but number L add memory at most; number L comes last, whatever it does. -/
theorem wp_region_last {id : Nat} {a : Act} {w : World} (L : Nat) (hm : P.follows .mixedOrders = true) (l : List (Nat × Bool)) (hs : Region.noSelect ops = true) (hB : lastB ops L l = true) (hlen : l.length + 1 = ops.size)
    (hQ : ∀ c a d v w, Q (.panic c) (a.put d v) w → Q (.panic c) a w) (h : wpS P ops (lastQ P ops L Q) Grow (inOrder ops l) a w.drew) : (Code.region id ops true).wp P Q a w := by
  simp only [lastB, Bool.and_eq_true, decide_eq_true_eq] at hB
  obtain ⟨⟨⟨hB1, hB2⟩, hB3⟩, hB4⟩ := hB
  refine wp_region_any hm ?_
  have h1 := wpAny_of_held _ _ _ _ (wpAnyH_of_wpS (Q := lastQ P ops L Q) Grow.refl (fun _ _ _ => Grow.trans) hs (fun c a d v w' hq => hQ c a d v w' hq) l _ a w.drew hB1 h)
  have h2 := wpAny_last hB2 hB3 hB4 l.length (Array.replicate ops.size false) a w.drew (by simp [hB4]) h1
  rw [hlen] at h2
  exact h2

/-- .. over whatever relation of worlds that holds of a world and itself and goes on. -/
theorem wp_region_lastG (G : World → World → Prop) (hr : ∀ w, G w w) (htr : ∀ a b c, G a b → G b c → G a c) {id : Nat} {a : Act} {w : World} (L : Nat) (hm : P.follows .mixedOrders = true) (l : List (Nat × Bool)) (hs : Region.noSelect ops = true) (hB : lastB ops L l = true) (hlen : l.length + 1 = ops.size)
    (hQ : ∀ c a d v w, Q (.panic c) (a.put d v) w → Q (.panic c) a w) (h : wpS P ops (lastQ P ops L Q) G (inOrder ops l) a w.drew) : (Code.region id ops true).wp P Q a w := by
  simp only [lastB, Bool.and_eq_true, decide_eq_true_eq] at hB
  obtain ⟨⟨⟨hB1, hB2⟩, hB3⟩, hB4⟩ := hB
  refine wp_region_any hm ?_
  have h1 := wpAny_of_held _ _ _ _ (wpAnyH_of_wpS (Q := lastQ P ops L Q) hr htr hs (fun c a d v w' hq => hQ c a d v w' hq) l _ a w.drew hB1 h)
  have h2 := wpAny_last hB2 hB3 hB4 l.length (Array.replicate ops.size false) a w.drew (by simp [hB4]) h1
  rw [hlen] at h2
  exact h2

/-- .. and number L is a store. -/
theorem last_store {o : Oper} {a : Act} {w w' : World} (ho : ops[L]? = some o) (hw : Region.wanted o (yielded ops a.tmps) = true) (he : (execOp a.eval o).run P w = .ok .skip w')
    (h : Q .normal (a.put o.dst undef) w') : lastQ P ops L Q .normal a w := by
  show wpOp P ops Q L (fun a' w' => Q .normal a' w') a w
  unfold wpOp
  simp only [ho, hw, if_true]
  refine .inl ?_
  unfold Oper.wp
  rw [he]
  exact h
end
end Go.Proofs.YtdafamocnjfmjaaDoor
