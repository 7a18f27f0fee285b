/-
  A region that draws its order, walked along a tree of one's own: reads first, each act when nothing else can come up, and where two acts can come up (a call and the making of a variable) both ways. Conditions: each theorem's own.
-/
import Derived.Test.YtpmmlocigaehnaaDoorSched
namespace Go.Proofs.YtpmmlocigaehnaaDoor
open Go.RowKit
set_option linter.unusedVariables false

/-- a tree with the operations themselves: what is to be shown of it -/
structure TrO where
  run : Program → Array Oper → (Exit → Act → World → Prop) → (World → World → Prop) → Act → World → Prop
/-- The walk along it. -/
def wpT (P : Program) (ops : Array Oper) (Q : Exit → Act → World → Prop) (G : World → World → Prop) (t : TrO) (a : Act) (w : World) : Prop := t.run P ops Q G a w
def TrO.done : TrO := ⟨fun _ _ Q _ a w => Q .normal a w⟩
def TrO.bad : TrO := ⟨fun _ _ _ _ _ _ => False⟩
def TrO.read (o : Oper) (t : TrO) : TrO := ⟨fun P ops Q G a w => ∃ v, YieldsIf P ops (G w) o v a ∧ wpT P ops Q G t (a.put o.dst v) w⟩
def TrO.act (o : Oper) (t : TrO) : TrO := ⟨fun P ops Q G a w => if Region.wanted o (yielded ops a.tmps) then o.wp P a w (fun a' w' => G w w' ∧ wpT P ops Q G t a' w') Q else wpT P ops Q G t (a.put o.dst undef) w⟩
def TrO.fork (o : Oper) (t : TrO) (o' : Oper) (u : TrO) : TrO := ⟨fun P ops Q G a w => wpT P ops Q G (.act o t) a w ∧ wpT P ops Q G (.act o' u) a w⟩

section
variable {P : Program} {ops : Array Oper} {Q : Exit → Act → World → Prop} {G : World → World → Prop}

theorem tree_act (hr : ∀ w, G w w) (ht : ∀ a b c, G a b → G b c → G a c) {i : Nat} {o : Oper} {t : TrO} {n : Nat} {l : Array Bool} {a : Act} {w : World} (ho : ops[i]? = some o)
    (ih : ∀ a' w', wpT P ops Q G t a' w' → wpAnyH P .any ops Q (G w') n (l.setIfInBounds i true) a' w')
    (h : if Region.wanted o (yielded ops a.tmps) then o.wp P a w (fun a' w' => G w w' ∧ wpT P ops Q G t a' w') Q else wpT P ops Q G t (a.put o.dst undef) w) :
    wpOp P ops Q i (fun a' w' => G w w' ∧ wpAnyH P .any ops Q (G w) n (l.setIfInBounds i true) a' w') a w := by
  unfold wpOp
  simp only [ho]
  split
  · rename_i hw
    simp only [hw, if_true] at h
    exact .inl (Oper.wp_mono (fun a' w' h' => ⟨h'.1, wpAnyH_weaken (fun x hx => ht _ _ _ h'.1 hx) _ _ _ _ (ih a' w' h'.2)⟩) h)
  · rename_i hw
    simp only [hw] at h
    exact ⟨hr _, ih _ _ h⟩

/-- What one has of the walk along a tree that serves -/
def Serves (n : Nat) (ok : Array Oper → Array Bool → Bool) (ov : Array Oper → TrO) : Prop :=
  ∀ (P : Program) (ops : Array Oper) (Q : Exit → Act → World → Prop) (G : World → World → Prop), (∀ w, G w w) → (∀ a b c, G a b → G b c → G a c) → Region.noSelect ops = true → (∀ c a d v w, Q (.panic c) (a.put d v) w → Q (.panic c) a w) →
    ∀ (l : Array Bool) (a : Act) (w : World), ok ops l = true → wpT P ops Q G (ov ops) a w → wpAnyH P .any ops Q (G w) n l a w
end

/-- a tree, by the operations' numbers: how long it is, whether it serves, the operations themselves, and that it does -/
structure Tr where
  len : Nat
  ok : Array Oper → Array Bool → Bool
  ov : Array Oper → TrO
  so : Serves len ok ov
def Tr.done : Tr := ⟨0, fun ops l => (Region.ready .any ops l).isEmpty, fun _ => .done, fun P ops Q G hr ht hs hQ l a w hB h => ⟨by simpa using hB, h⟩⟩

theorem read_serves (i : Nat) (t : Tr) : Serves (t.len + 1) (fun ops l => Region.free .any ops l i && (Region.ready .any ops l).contains i && t.ok ops (l.setIfInBounds i true)) (fun ops => match ops[i]? with | some o => .read o (t.ov ops) | none => .bad) := by
  intro P ops Q G hr ht hs hQ l a w hB h
  simp only [Bool.and_eq_true] at hB
  obtain ⟨⟨hf, hrd⟩, hB'⟩ := hB
  have hi : i < ops.size := ready_lt (listed := l) (by simpa using hrd)
  have ho : ops[i]? = some ops[i] := Array.getElem?_eq_getElem hi
  simp only [ho] at h
  obtain ⟨v, hy, h⟩ := h
  exact wpAnyH_take ho hs hf hrd (fun c a' w' => hQ c a' _ v w') hy (hr _) (t.so P ops Q G hr ht hs hQ _ _ w hB' h)
def Tr.read (i : Nat) (t : Tr) : Tr := ⟨t.len + 1, fun ops l => Region.free .any ops l i && (Region.ready .any ops l).contains i && t.ok ops (l.setIfInBounds i true), fun ops => match ops[i]? with | some o => .read o (t.ov ops) | none => .bad, read_serves i t⟩

theorem act_serves (i : Nat) (t : Tr) : Serves (t.len + 1) (fun ops l => (Region.ready .any ops l == [i]) && t.ok ops (l.setIfInBounds i true)) (fun ops => match ops[i]? with | some o => .act o (t.ov ops) | none => .bad) := by
  intro P ops Q G hr ht hs hQ l a w hB h
  simp only [Bool.and_eq_true, beq_iff_eq] at hB
  obtain ⟨hrd, hB'⟩ := hB
  have hi : i < ops.size := ready_lt (listed := l) (by rw [hrd]; simp)
  have ho : ops[i]? = some ops[i] := Array.getElem?_eq_getElem hi
  simp only [ho] at h
  refine wpAnyH_all hrd (by simp) fun j hj => ?_
  obtain rfl : j = i := by simpa using hj
  exact tree_act hr ht ho (fun a' w' h' => t.so P ops Q G hr ht hs hQ _ a' w' hB' h') h
def Tr.act (i : Nat) (t : Tr) : Tr := ⟨t.len + 1, fun ops l => (Region.ready .any ops l == [i]) && t.ok ops (l.setIfInBounds i true), fun ops => match ops[i]? with | some o => .act o (t.ov ops) | none => .bad, act_serves i t⟩

theorem fork_serves (i : Nat) (t : Tr) (j : Nat) (u : Tr) : Serves (t.len + 1) (fun ops l => (Region.ready .any ops l == [i, j]) && (t.len == u.len) && t.ok ops (l.setIfInBounds i true) && u.ok ops (l.setIfInBounds j true))
    (fun ops => match ops[i]?, ops[j]? with | some o, some o' => .fork o (t.ov ops) o' (u.ov ops) | _, _ => .bad) := by
  intro P ops Q G hr ht hs hQ l a w hB h
  simp only [Bool.and_eq_true, beq_iff_eq] at hB
  obtain ⟨⟨⟨hrd, hlen⟩, hBt⟩, hBu⟩ := hB
  have hi : i < ops.size := ready_lt (listed := l) (by rw [hrd]; simp)
  have hj : j < ops.size := ready_lt (listed := l) (by rw [hrd]; simp)
  have ho : ops[i]? = some ops[i] := Array.getElem?_eq_getElem hi
  have ho' : ops[j]? = some ops[j] := Array.getElem?_eq_getElem hj
  simp only [ho, ho'] at h
  refine wpAnyH_all hrd (by simp) fun k hk => ?_
  have hk' : k = i ∨ k = j := by simpa using hk
  rcases hk' with rfl | rfl
  · exact tree_act hr ht ho (fun a' w' h' => t.so P ops Q G hr ht hs hQ _ a' w' hBt h') h.1
  · refine tree_act hr ht ho' (fun a' w' h' => ?_) h.2
    have := u.so P ops Q G hr ht hs hQ _ a' w' hBu h'
    rw [← hlen] at this
    exact this
def Tr.fork (i : Nat) (t : Tr) (j : Nat) (u : Tr) : Tr := ⟨t.len + 1, fun ops l => (Region.ready .any ops l == [i, j]) && (t.len == u.len) && t.ok ops (l.setIfInBounds i true) && u.ok ops (l.setIfInBounds j true), fun ops => match ops[i]?, ops[j]? with | some o, some o' => .fork o (t.ov ops) o' (u.ov ops) | _, _ => .bad, fork_serves i t j u⟩

/-- .. with the operations themselves -/
theorem Tr.over : (∀ ops, Tr.done.ov ops = .done) ∧ (∀ i t ops, (Tr.read i t).ov ops = match ops[i]? with | some o => .read o (t.ov ops) | none => .bad) ∧ (∀ i t ops, (Tr.act i t).ov ops = match ops[i]? with | some o => .act o (t.ov ops) | none => .bad) ∧
    (∀ i t j u ops, (Tr.fork i t j u).ov ops = match ops[i]?, ops[j]? with | some o, some o' => .fork o (t.ov ops) o' (u.ov ops) | _, _ => .bad) := ⟨fun _ => rfl, fun _ _ _ => rfl, fun _ _ _ => rfl, fun _ _ _ _ _ => rfl⟩

section
variable {P : Program} {ops : Array Oper} {Q : Exit → Act → World → Prop} {G : World → World → Prop}

/-- THE BEGINNING, over whatever relation of worlds. -/
theorem wp_region_treeG (G : World → World → Prop) (hr : ∀ w, G w w) (ht : ∀ a b c, G a b → G b c → G a c) {id : Nat} {a : Act} {w : World} (hm : P.follows .mixedOrders = true) (t : Tr) (hs : Region.noSelect ops = true) (hB : t.ok ops (Array.replicate ops.size false) = true) (hlen : t.len = ops.size)
    (hQ : ∀ c a d v w, Q (.panic c) (a.put d v) w → Q (.panic c) a w) (h : wpT P ops Q G (t.ov ops) a w.drew) : (Code.region id ops true).wp P Q a w := by
  refine wp_region_held (S := G w.drew) hm ?_
  have := t.so P ops Q G hr ht hs hQ _ a w.drew hB h
  rw [hlen] at this
  exact this
/-- .. where all that is done adds memory -/
theorem wp_region_tree {id : Nat} {a : Act} {w : World} (hm : P.follows .mixedOrders = true) (t : Tr) (hs : Region.noSelect ops = true) (hB : t.ok ops (Array.replicate ops.size false) = true) (hlen : t.len = ops.size)
    (hQ : ∀ c a d v w, Q (.panic c) (a.put d v) w → Q (.panic c) a w) (h : wpT P ops Q Grow (t.ov ops) a w.drew) : (Code.region id ops true).wp P Q a w :=
  wp_region_treeG Grow Grow.refl (fun _ _ _ => Grow.trans) hm t hs hB hlen hQ h

theorem wpT_done {a : Act} {w : World} (h : Q .normal a w) : wpT P ops Q G .done a w := h
theorem wpT_fork {o o' : Oper} {t u : TrO} {a : Act} {w : World} (h1 : wpT P ops Q G (.act o t) a w) (h2 : wpT P ops Q G (.act o' u) a w) : wpT P ops Q G (.fork o t o' u) a w := by
  exact ⟨h1, h2⟩
theorem wpT_read {o : Oper} {t : TrO} {a : Act} {w : World} {v : Value} (hw : Region.wanted o (yielded ops a.tmps) = true) (h : ∀ w', G w w' → (execOp a.eval o).run P w' = .ok (.value v) w')
    (hk : wpT P ops Q G t (a.put o.dst v) w) : wpT P ops Q G (.read o t) a w := ⟨v, .inl ⟨hw, h⟩, hk⟩
theorem wpT_skip {o : Oper} {t : TrO} {a : Act} {w : World} (hw : Region.wanted o (yielded ops a.tmps) = false)
    (hk : wpT P ops Q G t (a.put o.dst undef) w) : wpT P ops Q G (.read o t) a w := ⟨undef, .inr ⟨hw, rfl⟩, hk⟩
theorem wpT_move {d : Option Tmp} {x : Operand} {t : TypeId} {p : String} {af : Array Edge} {g : Option (Nat × Bool)} {r : TrO} {a : Act} {w : World} (hw : Region.wanted ⟨d, .move x, t, p, af, g⟩ (yielded ops a.tmps) = true)
    (hk : wpT P ops Q G r (a.put d (a.eval x)) w) : wpT P ops Q G (.read ⟨d, .move x, t, p, af, g⟩ r) a w := wpT_read hw (fun _ _ => rfl) hk
theorem wpT_assign {d : Option Tmp} {x : Operand} {t : TypeId} {p : String} {af : Array Edge} {g : Option (Nat × Bool)} {r : TrO} {a : Act} {w : World} (hw : Region.wanted ⟨d, .assign x, t, p, af, g⟩ (yielded ops a.tmps) = true)
    (hk : wpT P ops Q G r (a.put d (a.eval x)) w) : wpT P ops Q G (.read ⟨d, .assign x, t, p, af, g⟩ r) a w := wpT_read hw (fun _ _ => rfl) hk
theorem wpT_call {o : Oper} {t : TrO} {a : Act} {w : World} {f : FuncId} {args : Array Value} (hw : Region.wanted o (yielded ops a.tmps) = true)
    (he : (execOp a.eval o).run P w = .ok (.enter f args) w)
    (h : Calls P f args w fun e w' => ∃ v, e = .returned v ∧ G w w' ∧ wpT P ops Q G t (a.put o.dst v) w') : wpT P ops Q G (.act o t) a w := by
  unfold wpT TrO.act
  simp only [hw, if_true]
  unfold Oper.wp
  rw [he]
  simp only [Oper.upon]
  exact h.mono fun e w' ⟨v, hv, hg, hk⟩ => by subst hv; exact ⟨hg, hk⟩
theorem wpT_act {o : Oper} {t : TrO} {a : Act} {w w' : World} {v : Value} (hw : Region.wanted o (yielded ops a.tmps) = true)
    (he : (execOp a.eval o).run P w = .ok (.value v) w') (hg : G w w')
    (h : wpT P ops Q G t (a.put o.dst v) w') : wpT P ops Q G (.act o t) a w := by
  unfold wpT TrO.act
  simp only [hw, if_true]
  unfold Oper.wp
  rw [he]
  exact ⟨hg, h⟩
theorem wpT_store {o : Oper} {t : TrO} {a : Act} {w w' : World} (hw : Region.wanted o (yielded ops a.tmps) = true)
    (he : (execOp a.eval o).run P w = .ok .skip w') (hg : G w w')
    (h : wpT P ops Q G t (a.put o.dst undef) w') : wpT P ops Q G (.act o t) a w := by
  unfold wpT TrO.act
  simp only [hw, if_true]
  unfold Oper.wp
  rw [he]
  exact ⟨hg, h⟩
end
end Go.Proofs.YtpmmlocigaehnaaDoor
