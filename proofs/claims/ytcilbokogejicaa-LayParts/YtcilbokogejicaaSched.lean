/-
  A region that draws its order, whose operations only read or only add memory: walked once, in an order of one's own choosing (the reads first, each act when nothing else can come up). Conditions: each theorem's own.
-/
import Derived.OrdersHeld
import Derived.Below
namespace Go.Proofs.Ytcilbokogejicaa
open Go.RowKit
set_option linter.unusedVariables false

/-- w' is w with, maybe, blocks more: nothing that was there has turned. -/
def Grow (w w' : World) : Prop := Below w.heap.size w w'
theorem Grow.refl (w : World) : Grow w w := Below.refl _ _
theorem Grow.trans {a b c : World} (h : Grow a b) (k : Grow b c) : Grow a c := Below.trans h (Below.mono k h.size)
theorem Grow.drew {a b : World} (h : Grow a b) : Grow a b.drew := Below.drew h
theorem Grow.alloc {a b : World} (h : Grow a b) (o : Obj) : Grow a (b.alloc o) := Below.alloc h h.size o
theorem Grow.below {a b : World} (h : Grow a b) {B : Nat} (hB : B ≤ a.heap.size) : Below B a b := Below.mono h hB
theorem Grow.of {a b : World} (h : Below a.heap.size a b) : Grow a b := h

section
variable {P : Program} {ops : Array Oper} {Q : Exit → Act → World → Prop}

theorem wpAnyH_weaken {md : Region.Mode} {S S' : World → Prop} (hS : ∀ w, S w → S' w) : ∀ (fuel : Nat) (listed : Array Bool) (a : Act) (w : World), wpAnyH P md ops Q S fuel listed a w → wpAnyH P md ops Q S' fuel listed a w
  | 0, _, _, _, h => h
  | fuel + 1, _, _, _, h => ⟨h.1, fun i hi => wpOp_mono (fun a' w' h' => ⟨hS _ h'.1, wpAnyH_weaken hS fuel _ a' w' h'.2⟩) (h.2 i hi)⟩

/-- Is this order one that serves? '(i, true)': number i acts, and nothing else can come up then; '(i, false)': it only reads, it can come up, and nobody who could come before it touches its temporaries. -/
def schedB (ops : Array Oper) : List (Nat × Bool) → Array Bool → Bool
  | [], listed => (Region.ready .any ops listed).isEmpty
  | (i, true) :: rest, listed => (Region.ready .any ops listed == [i]) && schedB ops rest (listed.setIfInBounds i true)
  | (i, false) :: rest, listed => Region.free .any ops listed i && (Region.ready .any ops listed).contains i && schedB ops rest (listed.setIfInBounds i true)

/-- The operations in that order. -/
def inOrder (ops : Array Oper) (l : List (Nat × Bool)) : List (Oper × Bool) := l.filterMap fun x => (ops[x.1]?).map fun o => (o, x.2)

/-- The walk in that order. -/
def wpS (P : Program) (ops : Array Oper) (Q : Exit → Act → World → Prop) : List (Oper × Bool) → Act → World → Prop
  | [], a, w => Q .normal a w
  | (o, true) :: rest, a, w => if Region.wanted o (yielded ops a.tmps) then o.wp P a w (fun a' w' => Grow w w' ∧ wpS P ops Q rest a' w') Q else wpS P ops Q rest (a.put o.dst undef) w
  | (o, false) :: rest, a, w => ∃ v, YieldsIf P ops (Grow w) o v a ∧ wpS P ops Q rest (a.put o.dst v) w

theorem ready_lt {listed : Array Bool} {i : Nat} (h : i ∈ Region.ready .any ops listed) : i < ops.size := by
  obtain ⟨_, o, ho, _⟩ := mem_ready.1 h
  exact (Array.getElem?_eq_some_iff.1 ho).1

theorem wpAnyH_of_wpS (hs : Region.noSelect ops = true) (hQ : ∀ c a d v w, Q (.panic c) (a.put d v) w → Q (.panic c) a w) :
    ∀ (l : List (Nat × Bool)) (listed : Array Bool) (a : Act) (w : World), schedB ops l listed = true → wpS P ops Q (inOrder ops l) a w → wpAnyH P .any ops Q (Grow w) l.length listed a w
  | [], listed, a, w, hB, h => ⟨by simpa [schedB] using hB, h⟩
  | (i, true) :: rest, listed, a, w, hB, h => by
    simp only [schedB, Bool.and_eq_true, beq_iff_eq] at hB
    obtain ⟨hr, hB'⟩ := hB
    have hi : i < ops.size := ready_lt (by rw [hr]; simp)
    have ho : ops[i]? = some ops[i] := Array.getElem?_eq_getElem hi
    have hl : inOrder ops ((i, true) :: rest) = (ops[i], true) :: inOrder ops rest := by simp [inOrder, ho]
    rw [hl] at h
    refine wpAnyH_all hr (by simp) fun j hj => ?_
    obtain rfl : j = i := by simpa using hj
    unfold wpOp
    simp only [ho]
    simp only [wpS] at h
    split
    · rename_i hw
      simp only [hw, if_true] at h
      exact .inl (Oper.wp_mono (fun a' w' h' => ⟨h'.1, wpAnyH_weaken (fun x hx => Grow.trans h'.1 hx) _ _ _ _ (wpAnyH_of_wpS hs hQ rest _ a' w' hB' h'.2)⟩) h)
    · rename_i hw
      simp only [hw] at h
      exact ⟨Grow.refl _, wpAnyH_of_wpS hs hQ rest _ _ w hB' h⟩
  | (i, false) :: rest, listed, a, w, hB, h => by
    simp only [schedB, Bool.and_eq_true] at hB
    obtain ⟨⟨hf, hr⟩, hB'⟩ := hB
    have hi : i < ops.size := ready_lt (listed := listed) (by simpa using hr)
    have ho : ops[i]? = some ops[i] := Array.getElem?_eq_getElem hi
    have hl : inOrder ops ((i, false) :: rest) = (ops[i], false) :: inOrder ops rest := by simp [inOrder, ho]
    rw [hl] at h
    obtain ⟨v, hy, h⟩ := h
    exact wpAnyH_take ho hs hf hr (fun c a' w' => hQ c a' _ v w') hy (Grow.refl _) (wpAnyH_of_wpS hs hQ rest _ _ w hB' h)

/-- THE BEGINNING. -/
theorem wp_region_sched {id : Nat} {a : Act} {w : World} (hm : P.follows .mixedOrders = true) (l : List (Nat × Bool)) (hs : Region.noSelect ops = true) (hB : schedB ops l (Array.replicate ops.size false) = true) (hlen : l.length = ops.size)
    (hQ : ∀ c a d v w, Q (.panic c) (a.put d v) w → Q (.panic c) a w) (h : wpS P ops Q (inOrder ops l) a w.drew) : (Code.region id ops true).wp P Q a w := by
  refine wp_region_held (S := Grow w.drew) hm ?_
  have := wpAnyH_of_wpS hs hQ l _ a w.drew hB h
  rw [hlen] at this
  exact this

theorem wpS_nil {a : Act} {w : World} (h : Q .normal a w) : wpS P ops Q [] a w := h

theorem wpS_read {o : Oper} {rest : List (Oper × Bool)} {a : Act} {w : World} {v : Value} (hw : Region.wanted o (yielded ops a.tmps) = true) (h : ∀ w', Grow w w' → (execOp a.eval o).run P w' = .ok (.value v) w')
    (hk : wpS P ops Q rest (a.put o.dst v) w) : wpS P ops Q ((o, false) :: rest) a w := ⟨v, .inl ⟨hw, h⟩, hk⟩

theorem wpS_skip {o : Oper} {rest : List (Oper × Bool)} {a : Act} {w : World} (hw : Region.wanted o (yielded ops a.tmps) = false)
    (hk : wpS P ops Q rest (a.put o.dst undef) w) : wpS P ops Q ((o, false) :: rest) a w := ⟨undef, .inr ⟨hw, rfl⟩, hk⟩

theorem wpS_skipAct {o : Oper} {rest : List (Oper × Bool)} {a : Act} {w : World} (hw : Region.wanted o (yielded ops a.tmps) = false)
    (hk : wpS P ops Q rest (a.put o.dst undef) w) : wpS P ops Q ((o, true) :: rest) a w := by simp only [wpS, hw]; exact hk

theorem wpS_call {o : Oper} {rest : List (Oper × Bool)} {a : Act} {w : World} {f : FuncId} {args : Array Value} (hw : Region.wanted o (yielded ops a.tmps) = true)
    (he : (execOp a.eval o).run P w = .ok (.enter f args) w)
    (h : Calls P f args w fun e w' => ∃ v, e = .returned v ∧ Grow w w' ∧ wpS P ops Q rest (a.put o.dst v) w') : wpS P ops Q ((o, true) :: rest) a w := by
  simp only [wpS, hw, if_true]
  unfold Oper.wp
  rw [he]
  simp only [Oper.upon]
  exact h.mono fun e w' ⟨v, hv, hg, hk⟩ => by subst hv; exact ⟨hg, hk⟩

theorem wpS_act {o : Oper} {rest : List (Oper × Bool)} {a : Act} {w w' : World} {v : Value} (hw : Region.wanted o (yielded ops a.tmps) = true)
    (he : (execOp a.eval o).run P w = .ok (.value v) w') (hg : Grow w w')
    (h : wpS P ops Q rest (a.put o.dst v) w') : wpS P ops Q ((o, true) :: rest) a w := by
  simp only [wpS, hw, if_true]
  unfold Oper.wp
  rw [he]
  exact ⟨hg, h⟩

theorem wpS_move {d : Option Tmp} {x : Operand} {t : TypeId} {p : String} {af : Array Edge} {g : Option (Nat × Bool)} {rest : List (Oper × Bool)} {a : Act} {w : World} (hw : Region.wanted ⟨d, .move x, t, p, af, g⟩ (yielded ops a.tmps) = true)
    (hk : wpS P ops Q rest (a.put d (a.eval x)) w) : wpS P ops Q ((⟨d, .move x, t, p, af, g⟩, false) :: rest) a w :=
  wpS_read hw (fun _ _ => rfl) hk

theorem wpS_assign {d : Option Tmp} {x : Operand} {t : TypeId} {p : String} {af : Array Edge} {g : Option (Nat × Bool)} {rest : List (Oper × Bool)} {a : Act} {w : World} (hw : Region.wanted ⟨d, .assign x, t, p, af, g⟩ (yielded ops a.tmps) = true)
    (hk : wpS P ops Q rest (a.put d (a.eval x)) w) : wpS P ops Q ((⟨d, .assign x, t, p, af, g⟩, false) :: rest) a w :=
  wpS_read hw (fun _ _ => rfl) hk
end
end Go.Proofs.Ytcilbokogejicaa
