/-
  A region that draws its order, whose operations only read or only add memory: walked once, in an order of one's own choosing (the reads first, each act when nothing else can come up). Conditions: each theorem's own.
-/
import Derived.OrdersHeld
import Derived.Below
namespace Go.Proofs.YtpmmlocigaehnaaDoor
open Go.RowKit
set_option linter.unusedVariables false

/-- w' is w with, maybe, blocks more: nothing that was there has turned. -/
def Grow (w w' : World) : Prop := Below w.heap.size w w'
theorem Grow.refl (w : World) : Grow w w := Below.refl _ _
theorem Grow.trans {a b c : World} (h : Grow a b) (k : Grow b c) : Grow a c := Below.trans h (Below.mono k h.size)
theorem Grow.drew {a b : World} (h : Grow a b) : Grow a b.drew := Below.drew h
theorem Grow.alloc {a b : World} (h : Grow a b) (o : Obj) : Grow a (b.alloc o) := Below.alloc h h.size o
theorem Grow.below {a b : World} (h : Grow a b) {B : Nat} (hB : B ≤ a.heap.size) : Below B a b := Below.mono h hB
theorem Grow.of {a b : World} (h : Below a.heap.size a b) : Grow a b := h

/-- Of the blocks that were there those of S alone may have turned. -/
structure UpdS (S : Nat → Prop) (w w' : World) : Prop where
  os : w'.os = w.os
  tape : w'.tape = w.tape
  output : w'.output = w.output
  size : w.heap.size ≤ w'.heap.size
  block : ∀ k, k < w.heap.size → ¬ S k → w'.heap[k]? = w.heap[k]?
theorem UpdS.refl (S : Nat → Prop) (w : World) : UpdS S w w := ⟨rfl, rfl, rfl, Nat.le_refl _, fun _ _ _ => rfl⟩
theorem UpdS.trans {S : Nat → Prop} {x y z : World} (h : UpdS S x y) (k : UpdS S y z) : UpdS S x z :=
  ⟨k.os.trans h.os, k.tape.trans h.tape, k.output.trans h.output, Nat.le_trans h.size k.size, fun i hi hne => (k.block i (Nat.lt_of_lt_of_le hi h.size) hne).trans (h.block i hi hne)⟩
theorem UpdS.mono {S S' : Nat → Prop} {x y : World} (h : UpdS S x y) (hS : ∀ k, S k → S' k) : UpdS S' x y := ⟨h.os, h.tape, h.output, h.size, fun k hk hn => h.block k hk (fun hs => hn (hS k hs))⟩
theorem UpdS.drew {S : Nat → Prop} {x y : World} (h : UpdS S x y) : UpdS S x y.drew := ⟨h.os, h.tape, h.output, h.size, h.block⟩
theorem UpdS.setCell (S : Nat → Prop) (p : Addr) (v : Value) (w : World) (h : S p.block) : UpdS S w (w.setCell p v) :=
  ⟨rfl, rfl, rfl, by simp, fun k _ hne => Below.heap_setCell _ _ _ _ (fun e => hne (by rw [e]; exact h))⟩
theorem UpdS.cell {S : Nat → Prop} {x y : World} (h : UpdS S x y) {p : Addr} (hp : p.block < x.heap.size) (hn : ¬ S p.block) : y.cell? p = x.cell? p := World.cell?_of_block (w := x) (h.block p.block hp hn)
theorem UpdS.frozen {S : Nat → Prop} {x y : World} (h : UpdS S x y) {p : Addr} (hp : p.block < x.heap.size) (hn : ¬ S p.block) : y.frozen? p = x.frozen? p := World.frozen?_of_block (w := x) (h.block p.block hp hn)
theorem UpdS.below {S : Nat → Prop} {x y : World} (h : UpdS S x y) {B : Nat} (hB : B ≤ x.heap.size) (hS : ∀ k, S k → B ≤ k) : Below B x y :=
  ⟨h.os, h.tape, h.output, h.size, fun k hk => h.block k (by omega) (fun hs => by have := hS k hs; omega)⟩
theorem Grow.s {S : Nat → Prop} {x y : World} (h : Grow x y) : UpdS S x y := ⟨h.os, h.tape, h.output, h.size, fun k hk _ => h.block k hk⟩
/-- what turned is new: nothing that was there has turned -/
theorem UpdS.new {S : Nat → Prop} {x y z : World} (h : Grow x y) (k : UpdS S y z) (hS : ∀ i, S i → x.heap.size ≤ i) : Grow x z :=
  Below.trans h (k.below h.size hS)

section
variable {P : Program} {ops : Array Oper} {Q : Exit → Act → World → Prop} {G : World → World → Prop}

theorem wpAnyH_weaken {md : Region.Mode} {S S' : World → Prop} (hS : ∀ w, S w → S' w) : ∀ (fuel : Nat) (listed : Array Bool) (a : Act) (w : World), wpAnyH P md ops Q S fuel listed a w → wpAnyH P md ops Q S' fuel listed a w
  | 0, _, _, _, h => h
  | fuel + 1, _, _, _, h => ⟨h.1, fun i hi => wpOp_mono (fun a' w' h' => ⟨hS _ h'.1, wpAnyH_weaken hS fuel _ a' w' h'.2⟩) (h.2 i hi)⟩

/-- Is this order one that serves? '(i, true)': number i acts, and nothing else can come up then; '(i, false)': it only reads, it can come up, and nobody who could come before it touches its temporaries. -/
def schedB (ops : Array Oper) : List (Nat × Bool) → Array Bool → Bool
  | [], listed => (Region.ready .any ops listed).isEmpty
  | (i, true) :: rest, listed => (Region.ready .any ops listed == [i]) && schedB ops rest (listed.setIfInBounds i true)
  | (i, false) :: rest, listed => Region.free .any ops listed i && (Region.ready .any ops listed).contains i && schedB ops rest (listed.setIfInBounds i true)

/-- The operations in that order. -/
def inOrder (ops : Array Oper) (l : List (Nat × Bool)) : List (Oper × Bool) := l.filterMap fun x => (ops[x.1]?).map fun o => (o, x.2)

/-- The walk in that order. -/
def wpS (P : Program) (ops : Array Oper) (Q : Exit → Act → World → Prop) (G : World → World → Prop) : List (Oper × Bool) → Act → World → Prop
  | [], a, w => Q .normal a w
  | (o, true) :: rest, a, w => if Region.wanted o (yielded ops a.tmps) then o.wp P a w (fun a' w' => G w w' ∧ wpS P ops Q G rest a' w') Q else wpS P ops Q G rest (a.put o.dst undef) w
  | (o, false) :: rest, a, w => ∃ v, YieldsIf P ops (G w) o v a ∧ wpS P ops Q G rest (a.put o.dst v) w

theorem ready_lt {listed : Array Bool} {i : Nat} (h : i ∈ Region.ready .any ops listed) : i < ops.size := by
  obtain ⟨_, o, ho, _⟩ := mem_ready.1 h
  exact (Array.getElem?_eq_some_iff.1 ho).1

theorem wpAnyH_of_wpS (hr : ∀ w, G w w) (ht : ∀ a b c, G a b → G b c → G a c) (hs : Region.noSelect ops = true) (hQ : ∀ c a d v w, Q (.panic c) (a.put d v) w → Q (.panic c) a w) :
    ∀ (l : List (Nat × Bool)) (listed : Array Bool) (a : Act) (w : World), schedB ops l listed = true → wpS P ops Q G (inOrder ops l) a w → wpAnyH P .any ops Q (G w) l.length listed a w
  | [], listed, a, w, hB, h => ⟨by simpa [schedB] using hB, h⟩
  | (i, true) :: rest, listed, a, w, hB, h => by
    simp only [schedB, Bool.and_eq_true, beq_iff_eq] at hB
    obtain ⟨hrd, hB'⟩ := hB
    have hi : i < ops.size := ready_lt (by rw [hrd]; simp)
    have ho : ops[i]? = some ops[i] := Array.getElem?_eq_getElem hi
    have hl : inOrder ops ((i, true) :: rest) = (ops[i], true) :: inOrder ops rest := by simp [inOrder, ho]
    rw [hl] at h
    refine wpAnyH_all hrd (by simp) fun j hj => ?_
    obtain rfl : j = i := by simpa using hj
    unfold wpOp
    simp only [ho]
    simp only [wpS] at h
    split
    · rename_i hw
      simp only [hw, if_true] at h
      exact .inl (Oper.wp_mono (fun a' w' h' => ⟨h'.1, wpAnyH_weaken (fun x hx => ht _ _ _ h'.1 hx) _ _ _ _ (wpAnyH_of_wpS hr ht hs hQ rest _ a' w' hB' h'.2)⟩) h)
    · rename_i hw
      simp only [hw] at h
      exact ⟨hr _, wpAnyH_of_wpS hr ht hs hQ rest _ _ w hB' h⟩
  | (i, false) :: rest, listed, a, w, hB, h => by
    simp only [schedB, Bool.and_eq_true] at hB
    obtain ⟨⟨hf, hrd⟩, hB'⟩ := hB
    have hi : i < ops.size := ready_lt (listed := listed) (by simpa using hrd)
    have ho : ops[i]? = some ops[i] := Array.getElem?_eq_getElem hi
    have hl : inOrder ops ((i, false) :: rest) = (ops[i], false) :: inOrder ops rest := by simp [inOrder, ho]
    rw [hl] at h
    obtain ⟨v, hy, h⟩ := h
    exact wpAnyH_take ho hs hf hrd (fun c a' w' => hQ c a' _ v w') hy (hr _) (wpAnyH_of_wpS hr ht hs hQ rest _ _ w hB' h)

/-- THE BEGINNING, over whatever relation of worlds that holds of a world and itself and goes on. -/
theorem wp_region_schedG (G : World → World → Prop) (hr : ∀ w, G w w) (ht : ∀ a b c, G a b → G b c → G a c) {id : Nat} {a : Act} {w : World} (hm : P.follows .mixedOrders = true) (l : List (Nat × Bool)) (hs : Region.noSelect ops = true) (hB : schedB ops l (Array.replicate ops.size false) = true) (hlen : l.length = ops.size)
    (hQ : ∀ c a d v w, Q (.panic c) (a.put d v) w → Q (.panic c) a w) (h : wpS P ops Q G (inOrder ops l) a w.drew) : (Code.region id ops true).wp P Q a w := by
  refine wp_region_held (S := G w.drew) hm ?_
  have := wpAnyH_of_wpS hr ht hs hQ l _ a w.drew hB h
  rw [hlen] at this
  exact this

/-- .. where all that is done adds memory. -/
theorem wp_region_sched {id : Nat} {a : Act} {w : World} (hm : P.follows .mixedOrders = true) (l : List (Nat × Bool)) (hs : Region.noSelect ops = true) (hB : schedB ops l (Array.replicate ops.size false) = true) (hlen : l.length = ops.size)
    (hQ : ∀ c a d v w, Q (.panic c) (a.put d v) w → Q (.panic c) a w) (h : wpS P ops Q Grow (inOrder ops l) a w.drew) : (Code.region id ops true).wp P Q a w :=
  wp_region_schedG Grow Grow.refl (fun _ _ _ => Grow.trans) hm l hs hB hlen hQ h

theorem wpS_nil {a : Act} {w : World} (h : Q .normal a w) : wpS P ops Q G [] a w := h

theorem wpS_read {o : Oper} {rest : List (Oper × Bool)} {a : Act} {w : World} {v : Value} (hw : Region.wanted o (yielded ops a.tmps) = true) (h : ∀ w', G w w' → (execOp a.eval o).run P w' = .ok (.value v) w')
    (hk : wpS P ops Q G rest (a.put o.dst v) w) : wpS P ops Q G ((o, false) :: rest) a w := ⟨v, .inl ⟨hw, h⟩, hk⟩

theorem wpS_skip {o : Oper} {rest : List (Oper × Bool)} {a : Act} {w : World} (hw : Region.wanted o (yielded ops a.tmps) = false)
    (hk : wpS P ops Q G rest (a.put o.dst undef) w) : wpS P ops Q G ((o, false) :: rest) a w := ⟨undef, .inr ⟨hw, rfl⟩, hk⟩

theorem wpS_skipAct {o : Oper} {rest : List (Oper × Bool)} {a : Act} {w : World} (hw : Region.wanted o (yielded ops a.tmps) = false)
    (hk : wpS P ops Q G rest (a.put o.dst undef) w) : wpS P ops Q G ((o, true) :: rest) a w := by simp only [wpS, hw]; exact hk

theorem wpS_call {o : Oper} {rest : List (Oper × Bool)} {a : Act} {w : World} {f : FuncId} {args : Array Value} (hw : Region.wanted o (yielded ops a.tmps) = true)
    (he : (execOp a.eval o).run P w = .ok (.enter f args) w)
    (h : Calls P f args w fun e w' => ∃ v, e = .returned v ∧ G w w' ∧ wpS P ops Q G rest (a.put o.dst v) w') : wpS P ops Q G ((o, true) :: rest) a w := by
  simp only [wpS, hw, if_true]
  unfold Oper.wp
  rw [he]
  simp only [Oper.upon]
  exact h.mono fun e w' ⟨v, hv, hg, hk⟩ => by subst hv; exact ⟨hg, hk⟩

theorem wpS_act {o : Oper} {rest : List (Oper × Bool)} {a : Act} {w w' : World} {v : Value} (hw : Region.wanted o (yielded ops a.tmps) = true)
    (he : (execOp a.eval o).run P w = .ok (.value v) w') (hg : G w w')
    (h : wpS P ops Q G rest (a.put o.dst v) w') : wpS P ops Q G ((o, true) :: rest) a w := by
  simp only [wpS, hw, if_true]
  unfold Oper.wp
  rw [he]
  exact ⟨hg, h⟩

theorem wpS_store {o : Oper} {rest : List (Oper × Bool)} {a : Act} {w w' : World} (hw : Region.wanted o (yielded ops a.tmps) = true)
    (he : (execOp a.eval o).run P w = .ok .skip w') (hg : G w w')
    (h : wpS P ops Q G rest (a.put o.dst undef) w') : wpS P ops Q G ((o, true) :: rest) a w := by
  simp only [wpS, hw, if_true]
  unfold Oper.wp
  rw [he]
  exact ⟨hg, h⟩

theorem wpS_move {d : Option Tmp} {x : Operand} {t : TypeId} {p : String} {af : Array Edge} {g : Option (Nat × Bool)} {rest : List (Oper × Bool)} {a : Act} {w : World} (hw : Region.wanted ⟨d, .move x, t, p, af, g⟩ (yielded ops a.tmps) = true)
    (hk : wpS P ops Q G rest (a.put d (a.eval x)) w) : wpS P ops Q G ((⟨d, .move x, t, p, af, g⟩, false) :: rest) a w :=
  wpS_read hw (fun _ _ => rfl) hk

theorem wpS_assign {d : Option Tmp} {x : Operand} {t : TypeId} {p : String} {af : Array Edge} {g : Option (Nat × Bool)} {rest : List (Oper × Bool)} {a : Act} {w : World} (hw : Region.wanted ⟨d, .assign x, t, p, af, g⟩ (yielded ops a.tmps) = true)
    (hk : wpS P ops Q G rest (a.put d (a.eval x)) w) : wpS P ops Q G ((⟨d, .assign x, t, p, af, g⟩, false) :: rest) a w :=
  wpS_read hw (fun _ _ => rfl) hk
end
end Go.Proofs.YtpmmlocigaehnaaDoor
