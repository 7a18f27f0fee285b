/-
  Slices of counts told by what they read as; their opener, and that of counts by value. Conditions: each theorem's own.
-/
import Derived.Test.YtnjifmnhcgcpiaaCnt
import Derived.ProofKit
import Derived.OpenShut
import Derived.Deep.Slices
import Derived.Lib.SmallJoins
namespace Go.Proofs.Ytnjifmnhcgcpiaa
open Go.RowKit Go.ChangeShapes Go.WideShapes Go.Joins
set_option linter.unusedVariables false

/-- six numbers from a place on -/
def CIn (w : World) (b o : Nat) (c : C6) : Prop :=
  w.cell? ⟨b, o, none⟩ = some (.int .u64 c.c0) ∧ w.cell? ⟨b, o + 1, none⟩ = some (.int .u64 c.c1) ∧ w.cell? ⟨b, o + 2, none⟩ = some (.int .u64 c.c2) ∧ w.cell? ⟨b, o + 3, none⟩ = some (.int .u64 c.c3) ∧ w.cell? ⟨b, o + 4, none⟩ = some (.int .u64 c.c4) ∧ w.cell? ⟨b, o + 5, none⟩ = some (.int .u64 c.c5)
theorem CIn.lt {w : World} {b o : Nat} {c : C6} (h : CIn w b o c) : b < w.heap.size := World.block_lt_of_cell? _ _ h.1
theorem CIn.grow {w w' : World} {b o : Nat} {c : C6} (h : CIn w b o c) (hu : Grow w w') : CIn w' b o c := by
  have hlt := h.lt
  obtain ⟨h0, h1, h2, h3, h4, h5⟩ := h
  refine ⟨?_, ?_, ?_, ?_, ?_, ?_⟩
  · rw [Below.cell (p := ⟨b, o, none⟩) hu hlt]; exact h0
  · rw [Below.cell (p := ⟨b, o + 1, none⟩) hu hlt]; exact h1
  · rw [Below.cell (p := ⟨b, o + 2, none⟩) hu hlt]; exact h2
  · rw [Below.cell (p := ⟨b, o + 3, none⟩) hu hlt]; exact h3
  · rw [Below.cell (p := ⟨b, o + 4, none⟩) hu hlt]; exact h4
  · rw [Below.cell (p := ⟨b, o + 5, none⟩) hu hlt]; exact h5

/-- The value v is a slice of counts that reads, in w, as cs. -/
def RdC (w : World) (v : Value) (cs : List C6) : Prop :=
  ∃ a c, v = .slice a cs.length c ∧ cs.length ≤ c ∧ c ≤ maxLen ∧ ∀ i, i < cs.length → ∃ b o, a = some ⟨b, o, none⟩ ∧ CIn w b (o + i * 6) (cs.getD i C6.zero)
theorem RdC.grow {w w' : World} {v : Value} {cs : List C6} (h : RdC w v cs) (hu : Grow w w') : RdC w' v cs := by
  obtain ⟨a, c, hv, h1, h2, h3⟩ := h
  exact ⟨a, c, hv, h1, h2, fun i hi => by obtain ⟨b, o, e, hc⟩ := h3 i hi; exact ⟨b, o, e, hc.grow hu⟩⟩
theorem RdC.nil (w : World) (a : Option Addr) (c : Nat) (hc : c ≤ maxLen) : RdC w (.slice a 0 c) [] :=
  ⟨a, c, rfl, Nat.zero_le _, hc, fun i hi => absurd hi (Nat.not_lt_zero _)⟩
theorem RdC.caps {w : World} {a : Option Addr} {n c : Nat} {cs : List C6} (h : RdC w (.slice a n c) cs) : n = cs.length ∧ n ≤ c ∧ c ≤ maxLen := by
  obtain ⟨a', c', hv, h1, h2, h3⟩ := h
  injection hv with ea en ec
  subst ec
  exact ⟨en, by omega, h2⟩
theorem RdC.at {w : World} {a : Option Addr} {n c : Nat} {cs : List C6} (h : RdC w (.slice a n c) cs) {i : Nat} (hi : i < cs.length) : ∃ b o, a = some ⟨b, o, none⟩ ∧ CIn w b (o + i * 6) (cs.getD i C6.zero) := by
  obtain ⟨a', c', hv, h1, h2, h3⟩ := h
  injection hv with ea en ec
  subst ea
  exact h3 i hi
theorem RdC.take {w : World} {a : Option Addr} {n c : Nat} {cs : List C6} (h : RdC w (.slice a n c) cs) (m : Nat) (hm : m ≤ cs.length) : RdC w (.slice a m c) (cs.take m) := by
  obtain ⟨a', c', hv, h1, h2, h3⟩ := h
  injection hv with ea en ec
  subst ea; subst ec
  have hl : (cs.take m).length = m := by rw [List.length_take]; omega
  refine ⟨a, c, by rw [hl], by omega, h2, fun i hi => ?_⟩
  obtain ⟨b, o, e, hc⟩ := h3 i (by omega)
  refine ⟨b, o, e, ?_⟩
  have e1 : (cs.take m).getD i C6.zero = cs.getD i C6.zero := by simp [List.getD, show i < m by omega]
  rw [e1]; exact hc
/-- what 's[l:]' reads as -/
theorem RdC.drop {w : World} {a : Option Addr} {n c : Nat} {cs : List C6} (h : RdC w (.slice a n c) cs) (l : Nat) (hl : l ≤ cs.length) :
    RdC w (.slice (if c = l then a else a.map (·.add (l * 6))) (n - l) (c - l)) (cs.drop l) := by
  obtain ⟨a', c', hv, h1, h2, h3⟩ := h
  injection hv with ea en ec
  subst ea; subst ec
  refine ⟨_, _, by rw [List.length_drop, en], by rw [List.length_drop]; omega, by omega, fun i hi => ?_⟩
  rw [List.length_drop] at hi
  obtain ⟨b, o, e, hc⟩ := h3 (l + i) (by omega)
  refine ⟨b, o + l * 6, ?_, ?_⟩
  · rw [if_neg (by omega), e]
    simp [Addr.add_lit]
  · have e1 : o + l * 6 + i * 6 = o + (l + i) * 6 := by omega
    have e2 : (cs.drop l).getD i C6.zero = cs.getD (l + i) C6.zero := by simp [List.getD, List.getElem?_drop]
    rw [e1, e2]; exact hc

section
variable {H : Type} {enc : TypeId × Value → H} {P : Program} {w : World} {base : Nat} {spare : Nat → Bool} {held : Bool}

theorem list6 {α : Type} {l : List α} (h : l.length = 6) : ∃ a b c d e f, l = [a, b, c, d, e, f] := by
  match l, h with
  | [a, b, c, d, e, f], _ => exact ⟨a, b, c, d, e, f, rfl⟩

theorem u_of {n : Int} (h : (Lit.int .u64 n).wf = true) : U n := bounds_u64 h

/-- six cells that read as counts -/
theorem open_six {t e : TypeId} {fs : Array Field} {fuel : Nat} {cs : List Value} {x : DataW H × List MemPlace} (ht : P.underlying t = some (.struct fs)) (hfs : fs.toList.map (fun f => (f.offset, f.type)) = [(0, e), (1, e), (2, e), (3, e), (4, e), (5, e)])
    (he : P.underlying e = some (.int .u64)) (ce : P.cellsOf e = 1) (ct : P.cellsOf t = 6) (h : DataW.trod enc P w base spare held fuel t cs = some x) : ∃ c : C6, cs = #[.int .u64 c.c0, .int .u64 c.c1, .int .u64 c.c2, .int .u64 c.c3, .int .u64 c.c4, .int .u64 c.c5].toList ∧ c.Ok := by
  obtain ⟨xs, n, _, _, hl, hxl, hx⟩ := DataW.trod_struct ht h
  have h6 : fs.size = 6 := by
    have := congrArg List.length hfs
    simpa using this
  have one : ∀ (i : Nat) (hi : i < 6), ∃ z : Int, cs[i]? = some (.int .u64 z) ∧ U z := fun i hi => by
    have hf : fs[i]? = some (fs[i]'(by omega)) := Array.getElem?_eq_getElem (by omega)
    have hq : (fs.toList.map (fun f => (f.offset, f.type)))[i]? = some ((fs[i]'(by omega)).offset, (fs[i]'(by omega)).type) := by
      rw [List.getElem?_map, Array.getElem?_toList, hf]; rfl
    have hq' : ([(0, e), (1, e), (2, e), (3, e), (4, e), (5, e)] : List (Nat × TypeId))[i]? = some (i, e) := by
      have hj : i = 0 ∨ i = 1 ∨ i = 2 ∨ i = 3 ∨ i = 4 ∨ i = 5 := by omega
      rcases hj with rfl | rfl | rfl | rfl | rfl | rfl <;> rfl
    rw [hfs, hq'] at hq
    injection hq with hq
    injection hq with hq1 hq2
    have ht := hx i _ hf
    rw [← hq1, ← hq2, ce] at ht
    have hlen : i < cs.length := by omega
    have ec : (cs.drop i).take 1 = [cs[i]] := by
      rw [List.drop_eq_getElem_cons hlen]; rfl
    rw [ec, List.getElem?_eq_getElem (by omega)] at ht
    obtain ⟨z, e0, _, wz⟩ := DataW.trod_int he ht
    simp at e0
    exact ⟨z, by rw [List.getElem?_eq_getElem hlen, e0], u_of wz⟩
  obtain ⟨v0, v1, v2, v3, v4, v5, rfl⟩ := list6 (hl.trans ct)
  obtain ⟨z0, e0, u0⟩ := one 0 (by omega)
  obtain ⟨z1, e1, u1⟩ := one 1 (by omega)
  obtain ⟨z2, e2, u2⟩ := one 2 (by omega)
  obtain ⟨z3, e3, u3⟩ := one 3 (by omega)
  obtain ⟨z4, e4, u4⟩ := one 4 (by omega)
  obtain ⟨z5, e5, u5⟩ := one 5 (by omega)
  simp at e0 e1 e2 e3 e4 e5
  subst e0 e1 e2 e3 e4 e5
  exact ⟨⟨z0, z1, z2, z3, z4, z5⟩, rfl, u0, u1, u2, u3, u4, u5⟩

/-- counts by value -/
theorem open_count {t e : TypeId} {fs : Array Field} {r : Reach} {b0 : Nat} {v : Value} {d : DataW H} {p : List MemPlace} (ht : P.underlying t = some (.struct fs)) (hfs : fs.toList.map (fun f => (f.offset, f.type)) = [(0, e), (1, e), (2, e), (3, e), (4, e), (5, e)])
    (he : P.underlying e = some (.int .u64)) (ce : P.cellsOf e = 1) (ct : P.cellsOf t = 6) (hv : Value.okWide P w r b0 t v) (h : DataW.Trod enc P w base spare held t v d p) : ∃ c : C6, v = .agg #[.int .u64 c.c0, .int .u64 c.c1, .int .u64 c.c2, .int .u64 c.c3, .int .u64 c.c4, .int .u64 c.c5] ∧ c.Ok := by
  obtain ⟨l, rfl, hsz⟩ := okWide_struct ht hv
  obtain ⟨fuel, hf⟩ := h
  obtain ⟨c, hc, ho⟩ := open_six ht hfs he ce ct hf
  refine ⟨c, ?_, ho⟩
  have hc' : l.toList = #[.int .u64 c.c0, .int .u64 c.c1, .int .u64 c.c2, .int .u64 c.c3, .int .u64 c.c4, .int .u64 c.c5].toList := hc
  have : l = #[.int .u64 c.c0, .int .u64 c.c1, .int .u64 c.c2, .int .u64 c.c3, .int .u64 c.c4, .int .u64 c.c5] := by
    cases l
    simpa using hc'
  rw [this]

/-- a slice of counts -/
theorem open_counts {t e q : TypeId} {fs : Array Field} {fuel : Nat} {a : Option Addr} {len cap : Nat} {x : DataW H × List MemPlace} (ht : P.underlying t = some (.slice e)) (he : P.underlying e = some (.struct fs)) (hfs : fs.toList.map (fun f => (f.offset, f.type)) = [(0, q), (1, q), (2, q), (3, q), (4, q), (5, q)])
    (hq : P.underlying q = some (.int .u64)) (cq : P.cellsOf q = 1) (ce : P.cellsOf e = 6)
    (h : DataW.trod enc P w base spare held fuel t [.slice a len cap] = some x) : ∃ cs, RdC w (.slice a len cap) cs ∧ ∀ c ∈ cs, C6.Ok c := by
  rcases Deep.open_slice ht h with ⟨hcs, _⟩ | ⟨a', len', cap', m, n, D, Pl, hcs, _, hl, hm, hmm, _, hx⟩
  · simp at hcs
    obtain ⟨rfl, rfl, rfl⟩ := hcs
    exact ⟨[], RdC.nil _ _ _ (Nat.zero_le _), fun c hc => by cases hc⟩
  · simp at hcs
    obtain ⟨rfl, rfl, rfl⟩ := hcs
    have hlm : len ≤ m := by rw [hmm]; split <;> omega
    rw [ce] at hx
    obtain ⟨b, off, spot⟩ := a'
    have one : ∀ i, i < len → ∃ c : C6, (∀ j, j < 6 → w.cell? ((Addr.add ⟨b, off, spot⟩ (i * 6)).add j) = #[.int .u64 c.c0, .int .u64 c.c1, .int .u64 c.c2, .int .u64 c.c3, .int .u64 c.c4, .int .u64 c.c5].toList[j]?) ∧ c.Ok := fun i hi => by
      obtain ⟨cs', h1, h2⟩ := hx i (by omega)
      obtain ⟨hb, hlen, hcell⟩ := World.cells?_some h1
      obtain ⟨c, hc, ho⟩ := open_six he hfs hq cq ce h2
      refine ⟨c, fun j hj => ?_, ho⟩
      rw [← hc]
      exact hcell j (by omega)
    have inh : Inhabited C6 := ⟨C6.zero⟩
    obtain ⟨f, hf⟩ := Deep.choose_lt (α := C6) one
    have hlen : ((List.range len).map f).length = len := by simp
    refine ⟨(List.range len).map f, ⟨some ⟨b, off, spot⟩, cap, by rw [hlen], by omega, hm, fun i hi => ?_⟩, fun c hc => ?_⟩
    · rw [hlen] at hi
      have hspot : spot = none := by
        have := (hf 0 (by omega)).1 0 (by omega)
        simpa [Addr.add] using World.cell?_spot this
      subst hspot
      have e1 : ((List.range len).map f).getD i C6.zero = f i := by simp [List.getD, hi]
      rw [e1]
      have hj := (hf i hi).1
      simp only [Addr.add_lit] at hj
      exact ⟨b, off, rfl, hj 0 (by omega), hj 1 (by omega), hj 2 (by omega), hj 3 (by omega), hj 4 (by omega), hj 5 (by omega)⟩
    · simp only [List.mem_map, List.mem_range] at hc
      obtain ⟨i, hi, rfl⟩ := hc
      exact (hf i hi).2
end
end Go.Proofs.Ytnjifmnhcgcpiaa
