/-
  A region that draws its order, walked along a tree of one's own: reads first, each act when nothing else can come up, and where two acts can come up (a call and the making of a variable) both ways. Conditions: each theorem's own.
-/
import Derived.Test.YthdhfojogckflaaSched
namespace Go.Proofs.Ythdhfojogckflaa
open Go.RowKit
set_option linter.unusedVariables false

/-- the tree, by the operations' numbers -/
inductive Tr where
  | done : Tr
  | read : Nat → Tr → Tr
  | act : Nat → Tr → Tr
  | fork : Nat → Tr → Nat → Tr → Tr
def Tr.len : Tr → Nat
  | .done => 0
  | .read _ t => t.len + 1
  | .act _ t => t.len + 1
  | .fork _ t _ _ => t.len + 1
/-- .. and with the operations themselves -/
inductive TrO where
  | done : TrO
  | bad : TrO
  | read : Oper → TrO → TrO
  | act : Oper → TrO → TrO
  | fork : Oper → TrO → Oper → TrO → TrO
def Tr.over (ops : Array Oper) : Tr → TrO
  | .done => .done
  | .read i t => match ops[i]? with
    | some o => .read o (t.over ops)
    | none => .bad
  | .act i t => match ops[i]? with
    | some o => .act o (t.over ops)
    | none => .bad
  | .fork i t j u => match ops[i]?, ops[j]? with
    | some o, some o' => .fork o (t.over ops) o' (u.over ops)
    | _, _ => .bad

/-- Does this tree serve? -/
def treeB (ops : Array Oper) : Tr → Array Bool → Bool
  | .done, l => (Region.ready .any ops l).isEmpty
  | .read i t, l => Region.free .any ops l i && (Region.ready .any ops l).contains i && treeB ops t (l.setIfInBounds i true)
  | .act i t, l => (Region.ready .any ops l == [i]) && treeB ops t (l.setIfInBounds i true)
  | .fork i t j u, l => (Region.ready .any ops l == [i, j]) && (t.len == u.len) && treeB ops t (l.setIfInBounds i true) && treeB ops u (l.setIfInBounds j true)

/-- The walk along it. -/
def wpT (P : Program) (ops : Array Oper) (Q : Exit → Act → World → Prop) (G : World → World → Prop) : TrO → Act → World → Prop
  | .done, a, w => Q .normal a w
  | .bad, _, _ => False
  | .read o t, a, w => ∃ v, YieldsIf P ops (G w) o v a ∧ wpT P ops Q G t (a.put o.dst v) w
  | .act o t, a, w => if Region.wanted o (yielded ops a.tmps) then o.wp P a w (fun a' w' => G w w' ∧ wpT P ops Q G t a' w') Q else wpT P ops Q G t (a.put o.dst undef) w
  | .fork o t o' u, a, w => (if Region.wanted o (yielded ops a.tmps) then o.wp P a w (fun a' w' => G w w' ∧ wpT P ops Q G t a' w') Q else wpT P ops Q G t (a.put o.dst undef) w) ∧
      (if Region.wanted o' (yielded ops a.tmps) then o'.wp P a w (fun a' w' => G w w' ∧ wpT P ops Q G u a' w') Q else wpT P ops Q G u (a.put o'.dst undef) w)

section
variable {P : Program} {ops : Array Oper} {Q : Exit → Act → World → Prop} {G : World → World → Prop}

theorem tree_act (hr : ∀ w, G w w) (ht : ∀ a b c, G a b → G b c → G a c) {i : Nat} {o : Oper} {t : TrO} {n : Nat} {l : Array Bool} {a : Act} {w : World} (ho : ops[i]? = some o)
    (ih : ∀ a' w', wpT P ops Q G t a' w' → wpAnyH P .any ops Q (G w') n (l.setIfInBounds i true) a' w')
    (h : if Region.wanted o (yielded ops a.tmps) then o.wp P a w (fun a' w' => G w w' ∧ wpT P ops Q G t a' w') Q else wpT P ops Q G t (a.put o.dst undef) w) :
    wpOp P ops Q i (fun a' w' => G w w' ∧ wpAnyH P .any ops Q (G w) n (l.setIfInBounds i true) a' w') a w := by
  unfold wpOp
  simp only [ho]
  split
  · rename_i hw
    simp only [hw, if_true] at h
    exact .inl (Oper.wp_mono (fun a' w' h' => ⟨h'.1, wpAnyH_weaken (fun x hx => ht _ _ _ h'.1 hx) _ _ _ _ (ih a' w' h'.2)⟩) h)
  · rename_i hw
    simp only [hw] at h
    exact ⟨hr _, ih _ _ h⟩

theorem wpAnyH_of_wpT (hr : ∀ w, G w w) (ht : ∀ a b c, G a b → G b c → G a c) (hs : Region.noSelect ops = true) (hQ : ∀ c a d v w, Q (.panic c) (a.put d v) w → Q (.panic c) a w) :
    ∀ (t : Tr) (l : Array Bool) (a : Act) (w : World), treeB ops t l = true → wpT P ops Q G (t.over ops) a w → wpAnyH P .any ops Q (G w) t.len l a w
  | .done, l, a, w, hB, h => ⟨by simpa [treeB] using hB, h⟩
  | .read i t, l, a, w, hB, h => by
    simp only [treeB, Bool.and_eq_true] at hB
    obtain ⟨⟨hf, hrd⟩, hB'⟩ := hB
    have hi : i < ops.size := ready_lt (listed := l) (by simpa using hrd)
    have ho : ops[i]? = some ops[i] := Array.getElem?_eq_getElem hi
    simp only [Tr.over, ho, wpT] at h
    obtain ⟨v, hy, h⟩ := h
    exact wpAnyH_take ho hs hf hrd (fun c a' w' => hQ c a' _ v w') hy (hr _) (wpAnyH_of_wpT hr ht hs hQ t _ _ w hB' h)
  | .act i t, l, a, w, hB, h => by
    simp only [treeB, Bool.and_eq_true, beq_iff_eq] at hB
    obtain ⟨hrd, hB'⟩ := hB
    have hi : i < ops.size := ready_lt (listed := l) (by rw [hrd]; simp)
    have ho : ops[i]? = some ops[i] := Array.getElem?_eq_getElem hi
    simp only [Tr.over, ho, wpT] at h
    refine wpAnyH_all hrd (by simp) fun j hj => ?_
    obtain rfl : j = i := by simpa using hj
    exact tree_act hr ht ho (fun a' w' h' => wpAnyH_of_wpT hr ht hs hQ t _ a' w' hB' h') h
  | .fork i t j u, l, a, w, hB, h => by
    simp only [treeB, Bool.and_eq_true, beq_iff_eq] at hB
    obtain ⟨⟨⟨hrd, hlen⟩, hBt⟩, hBu⟩ := hB
    have hi : i < ops.size := ready_lt (listed := l) (by rw [hrd]; simp)
    have hj : j < ops.size := ready_lt (listed := l) (by rw [hrd]; simp)
    have ho : ops[i]? = some ops[i] := Array.getElem?_eq_getElem hi
    have ho' : ops[j]? = some ops[j] := Array.getElem?_eq_getElem hj
    simp only [Tr.over, ho, ho', wpT] at h
    refine wpAnyH_all hrd (by simp) fun k hk => ?_
    have hk' : k = i ∨ k = j := by simpa using hk
    rcases hk' with rfl | rfl
    · exact tree_act hr ht ho (fun a' w' h' => wpAnyH_of_wpT hr ht hs hQ t _ a' w' hBt h') h.1
    · refine tree_act hr ht ho' (fun a' w' h' => ?_) h.2
      have := wpAnyH_of_wpT hr ht hs hQ u _ a' w' hBu h'
      rw [← hlen] at this
      exact this

/-- THE BEGINNING, over whatever relation of worlds. -/
theorem wp_region_treeG (G : World → World → Prop) (hr : ∀ w, G w w) (ht : ∀ a b c, G a b → G b c → G a c) {id : Nat} {a : Act} {w : World} (hm : P.follows .mixedOrders = true) (t : Tr) (hs : Region.noSelect ops = true) (hB : treeB ops t (Array.replicate ops.size false) = true) (hlen : t.len = ops.size)
    (hQ : ∀ c a d v w, Q (.panic c) (a.put d v) w → Q (.panic c) a w) (h : wpT P ops Q G (t.over ops) a w.drew) : (Code.region id ops true).wp P Q a w := by
  refine wp_region_held (S := G w.drew) hm ?_
  have := wpAnyH_of_wpT hr ht hs hQ t _ a w.drew hB h
  rw [hlen] at this
  exact this
/-- .. where all that is done adds memory -/
theorem wp_region_tree {id : Nat} {a : Act} {w : World} (hm : P.follows .mixedOrders = true) (t : Tr) (hs : Region.noSelect ops = true) (hB : treeB ops t (Array.replicate ops.size false) = true) (hlen : t.len = ops.size)
    (hQ : ∀ c a d v w, Q (.panic c) (a.put d v) w → Q (.panic c) a w) (h : wpT P ops Q Grow (t.over ops) a w.drew) : (Code.region id ops true).wp P Q a w :=
  wp_region_treeG Grow Grow.refl (fun _ _ _ => Grow.trans) hm t hs hB hlen hQ h

theorem wpT_done {a : Act} {w : World} (h : Q .normal a w) : wpT P ops Q G .done a w := h
theorem wpT_fork {o o' : Oper} {t u : TrO} {a : Act} {w : World} (h1 : wpT P ops Q G (.act o t) a w) (h2 : wpT P ops Q G (.act o' u) a w) : wpT P ops Q G (.fork o t o' u) a w := by
  simp only [wpT] at h1 h2 ⊢
  exact ⟨h1, h2⟩
theorem wpT_read {o : Oper} {t : TrO} {a : Act} {w : World} {v : Value} (hw : Region.wanted o (yielded ops a.tmps) = true) (h : ∀ w', G w w' → (execOp a.eval o).run P w' = .ok (.value v) w')
    (hk : wpT P ops Q G t (a.put o.dst v) w) : wpT P ops Q G (.read o t) a w := ⟨v, .inl ⟨hw, h⟩, hk⟩
theorem wpT_skip {o : Oper} {t : TrO} {a : Act} {w : World} (hw : Region.wanted o (yielded ops a.tmps) = false)
    (hk : wpT P ops Q G t (a.put o.dst undef) w) : wpT P ops Q G (.read o t) a w := ⟨undef, .inr ⟨hw, rfl⟩, hk⟩
theorem wpT_move {d : Option Tmp} {x : Operand} {t : TypeId} {p : String} {af : Array Edge} {g : Option (Nat × Bool)} {r : TrO} {a : Act} {w : World} (hw : Region.wanted ⟨d, .move x, t, p, af, g⟩ (yielded ops a.tmps) = true)
    (hk : wpT P ops Q G r (a.put d (a.eval x)) w) : wpT P ops Q G (.read ⟨d, .move x, t, p, af, g⟩ r) a w := wpT_read hw (fun _ _ => rfl) hk
theorem wpT_assign {d : Option Tmp} {x : Operand} {t : TypeId} {p : String} {af : Array Edge} {g : Option (Nat × Bool)} {r : TrO} {a : Act} {w : World} (hw : Region.wanted ⟨d, .assign x, t, p, af, g⟩ (yielded ops a.tmps) = true)
    (hk : wpT P ops Q G r (a.put d (a.eval x)) w) : wpT P ops Q G (.read ⟨d, .assign x, t, p, af, g⟩ r) a w := wpT_read hw (fun _ _ => rfl) hk
theorem wpT_call {o : Oper} {t : TrO} {a : Act} {w : World} {f : FuncId} {args : Array Value} (hw : Region.wanted o (yielded ops a.tmps) = true)
    (he : (execOp a.eval o).run P w = .ok (.enter f args) w)
    (h : Calls P f args w fun e w' => ∃ v, e = .returned v ∧ G w w' ∧ wpT P ops Q G t (a.put o.dst v) w') : wpT P ops Q G (.act o t) a w := by
  simp only [wpT, hw, if_true]
  unfold Oper.wp
  rw [he]
  simp only [Oper.upon]
  exact h.mono fun e w' ⟨v, hv, hg, hk⟩ => by subst hv; exact ⟨hg, hk⟩
theorem wpT_act {o : Oper} {t : TrO} {a : Act} {w w' : World} {v : Value} (hw : Region.wanted o (yielded ops a.tmps) = true)
    (he : (execOp a.eval o).run P w = .ok (.value v) w') (hg : G w w')
    (h : wpT P ops Q G t (a.put o.dst v) w') : wpT P ops Q G (.act o t) a w := by
  simp only [wpT, hw, if_true]
  unfold Oper.wp
  rw [he]
  exact ⟨hg, h⟩
theorem wpT_store {o : Oper} {t : TrO} {a : Act} {w w' : World} (hw : Region.wanted o (yielded ops a.tmps) = true)
    (he : (execOp a.eval o).run P w = .ok .skip w') (hg : G w w')
    (h : wpT P ops Q G t (a.put o.dst undef) w') : wpT P ops Q G (.act o t) a w := by
  simp only [wpT, hw, if_true]
  unfold Oper.wp
  rw [he]
  exact ⟨hg, h⟩
end
end Go.Proofs.Ythdhfojogckflaa
