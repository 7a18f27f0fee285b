/-
  The walks of what an operation names: naming and its closure, operations, zero, formed, within, size. Conditions: each theorem's own.
-/
import Derived.Test.YtdafamocnjfmjaaDoorReqV
import Derived.Deep.LoopGhost
namespace Go.Proofs.YtdafamocnjfmjaaDoor
open Go.RowKit
set_option linter.unusedVariables false
set_option linter.unusedSimpArgs false

set_option maxHeartbeats 1000000 in
theorem naming_any (w : World) (p : Nat → Prop) (v : Value) (ns : List Int) (h : RdV (Value.int .i64) 0 p w v ns) (hp : p w.heap.size) : Calls Tryd.prog 43 #[v] w fun e w' => e = .returned (.func (.func 51) #[] #[.pointer (some ⟨w.heap.size, 0, none⟩)]) ∧ NamesAt p w' w.heap.size ns ∧ Grow w w' := by
  have hg : Grow w (w.alloc (.cells #[v] 80)) := (Grow.refl w).alloc _
  have HN : Hid (NamesAt p (w.alloc (.cells #[v] 80)) w.heap.size ns) := ⟨hp, v, VarAt.new w [v] _, h.grow hg⟩
  obtain ⟨a, c, rfl⟩ := h.shape
  clear h
  go_enter Tryd.func43, Tryd.ntmps43
  go_wp2
  go_ret
  exact ⟨rfl, HN.out, hg⟩

set_option maxHeartbeats 1000000 in
theorem named_any (w : World) (p : Nat → Prop) (b : Nat) (ns : List Int) (f : Int) (h : NamesAt p w b ns) : Calls Tryd.prog 51 #[.int .i64 f, .pointer (some ⟨b, 0, none⟩)] w fun e w' => e = .returned (.bool (decide (f ∈ ns))) ∧ w = w' := by
  obtain ⟨-, v, hv, hr⟩ := h
  have hl := hr.len
  unfold maxLen at hl
  have HR : Hid (RdV (Value.int .i64) 0 p w v ns) := hr
  obtain ⟨a, c, rfl⟩ := hr.shape
  have c0 := (hv.2 0 (by show 0 < 1; omega)).1
  simp only [List.getElem?_cons_zero] at c0
  clear hv hr
  go_enter Tryd.func51, Tryd.ntmps51
  go_wp2
  go_loopg [8] ns.length (fun k i wr => ∃ j : Nat, k = ns.length - j ∧ j ≤ ns.length ∧ i = .int .i64 j ∧ Hid (∀ m, m < j → ns.getD m 0 ≠ f) ∧ w = wr)
  case atStart => exact ⟨0, rfl, Nat.zero_le _, rfl, fun m hm => absurd hm (Nat.not_lt_zero _), rfl⟩
  case round =>
    obtain ⟨j, hk, hj, rfl, HN, rfl⟩ := hrel
    by_cases hlt : j < ns.length
    · have hlt' : (j : Int) < (ns.length : Int) := by omega
      obtain ⟨b1, o1, e1, -, hc1⟩ := HR.out.addr (by omega)
      have f1 := hc1 j hlt
      have HJ : Hid (j < ns.length ∧ gk = ns.length - j) := ⟨hlt, hk⟩
      have HY : Hid (ns.getD j 0 ∈ ns) := by
        show ns.getD j 0 ∈ ns
        rw [List.getD, List.getElem?_eq_getElem hlt]
        exact List.getElem_mem hlt
      have HX : Hid (ns.getD j 0 ≠ f → ∀ m, m < j + 1 → ns.getD m 0 ≠ f) := fun hne m hm => by
        by_cases e : m = j
        · rw [e]; exact hne
        · exact HN.out m (by omega)
      generalize ns.getD j 0 = y at f1 HY HX
      clear hc1 hk hlt
      subst e1
      by_cases hyf : y = f
      · subst hyf
        have HE : Hid (decide (y ∈ ns) = true) := decide_eq_true HY.out
        go_wp2
        go_ret
        exact ⟨ret_bool HE.out.symm, rfl⟩
      · have hyb : (y == f) = false := beq_eq_false_iff_ne.2 hyf
        have HY2 : Hid (∀ m, m < j + 1 → ns.getD m 0 ≠ f) := HX.out hyf
        clear hyf HX
        go_wp2
        go_roundg (ns.length - (j + 1))
        case measure => have := HJ.out; omega
        case rel => exact ⟨j + 1, rfl, HJ.out.1, by go_num, HY2, rfl⟩
    · obtain rfl : j = ns.length := by omega
      have HE : Hid (decide (f ∈ ns) = false) := decide_eq_false (fun hm => by
        obtain ⟨m, hm1, hm2⟩ := List.mem_iff_getElem.1 hm
        refine HN.out m hm1 ?_
        rw [List.getD, List.getElem?_eq_getElem hm1]
        exact hm2)
      clear hlt hj hk
      go_wp2
      go_ret
      exact ⟨ret_bool HE.out.symm, rfl⟩

theorem zeB_0 (p f l : Int) (n : Nat) : zeB p f l n 0 = decide (p = 0) := rfl
theorem zeB_1 (p f l : Int) (n : Nat) : zeB p f l n 1 = decide (f = 0) := rfl
theorem zeB_2 (p f l : Int) (n : Nat) : zeB p f l n 2 = decide (l = 0) := rfl
theorem zeB_3 (p f l : Int) (n : Nat) : zeB p f l n 3 = decide (n = 0) := rfl
theorem eqd (x y : Int) : (x == y) = decide (x = y) := by
  by_cases h : x = y
  · rw [decide_eq_true h]; exact beq_iff_eq.2 h
  · rw [decide_eq_false h]; exact beq_eq_false_iff_ne.2 h
theorem eqn0 (n : Nat) : ((n : Int) == 0) = decide (n = 0) := by
  rw [eqd]; exact decide_eq_decide.2 (by omega)

set_option maxHeartbeats 2000000 in
theorem zero_any (w : World) (o p f l : Int) (a : Option Addr) (n c : Nat) (j : Nat) (hj : j < 4) : Calls Tryd.prog 44 #[.agg #[.int .i64 o, .int .i64 p, .int .i64 f, .int .i64 l, .slice a n c], .int .i64 j] w fun e w' => e = .returned (.bool (zeB p f l n j)) ∧ Grow w w' := by
  have hg : ∀ o, Grow w (w.alloc o) := fun o => (Grow.refl w).alloc o
  rcases (show j = 0 ∨ j = 1 ∨ j = 2 ∨ j = 3 by omega) with rfl | rfl | rfl | rfl
  · have HE : Hid (zeB p f l n ((0 : Nat) : Int) = (p == 0)) := (zeB_0 p f l n).trans (eqd p 0).symm
    go_enter Tryd.func44, Tryd.ntmps44
    go_wp2
    go_ret
    exact ⟨ret_bool HE.out.symm, hg _⟩
  · have HE : Hid (zeB p f l n ((1 : Nat) : Int) = (f == 0)) := (zeB_1 p f l n).trans (eqd f 0).symm
    go_enter Tryd.func44, Tryd.ntmps44
    go_wp2
    go_ret
    exact ⟨ret_bool HE.out.symm, hg _⟩
  · have HE : Hid (zeB p f l n ((2 : Nat) : Int) = (l == 0)) := (zeB_2 p f l n).trans (eqd l 0).symm
    go_enter Tryd.func44, Tryd.ntmps44
    go_wp2
    go_ret
    exact ⟨ret_bool HE.out.symm, hg _⟩
  · have HE : Hid (zeB p f l n ((3 : Nat) : Int) = ((n : Int) == 0)) := (zeB_3 p f l n).trans (eqn0 n).symm
    go_enter Tryd.func44, Tryd.ntmps44
    go_wp2
    go_ret
    exact ⟨ret_bool HE.out.symm, hg _⟩

set_option maxHeartbeats 2000000 in
theorem within_any (w : World) (f n : Int) (hf : (Lit.int .i64 f).wf = true) : Calls Tryd.prog 28 #[.int .i64 f, .int .i64 n] w fun e w' => e = .returned (.bool (inB f n)) ∧ w = w' := by
  have hb := bounds_i64 hf
  by_cases h0 : 0 ≤ f
  · have hw : IntKind.i64.wrap (32 - f) = 32 - f := by rw [IntKind.wrap_i64]; omega
    by_cases h1 : 0 ≤ n
    · have HE : Hid (inB f n = decide (n ≤ 32 - f)) := decide_eq_decide.2 (by omega)
      clear hb hf
      go_enter Tryd.func28, Tryd.ntmps28
      go_wp2
      go_ret
      exact ⟨ret_bool HE.out.symm, rfl⟩
    · have HE : Hid (inB f n = false) := inB_no (by omega)
      have h1' : n < 0 := by omega
      clear hb hf
      go_enter Tryd.func28, Tryd.ntmps28
      go_wp2
      go_ret
      exact ⟨ret_bool HE.out.symm, rfl⟩
  · have HE : Hid (inB f n = false) := inB_no (by omega)
    have h0' : f < 0 := by omega
    clear hb hf
    go_enter Tryd.func28, Tryd.ntmps28
    go_wp2
    go_ret
    exact ⟨ret_bool HE.out.symm, rfl⟩

set_option maxHeartbeats 2000000 in
theorem size_any (w : World) (o p f l : Int) (a : Option Addr) (n c : Nat) (hw : IntKind.i64.wrap (l + (n : Int)) = l + (n : Int)) : Calls Tryd.prog 29 #[.agg #[.int .i64 o, .int .i64 p, .int .i64 f, .int .i64 l, .slice a n c]] w fun e w' => e = .returned (.int .i64 (l + (n : Int))) ∧ Grow w w' := by
  have hg : ∀ o, Grow w (w.alloc o) := fun o => (Grow.refl w).alloc o
  go_enter Tryd.func29, Tryd.ntmps29
  go_wp2
  go_ret
  exact ⟨rfl, hg _⟩

set_option maxHeartbeats 2000000 in
theorem formed_any (w : World) (o p f l : Int) (a : Option Addr) (n c : Nat) (q : Nat → Prop) (b : Nat) (ns : List Int) (hN : NamesAt q w b ns) : Calls Tryd.prog 27 #[.agg #[.int .i64 o, .int .i64 p, .int .i64 f, .int .i64 l, .slice a n c], .func (.func 51) #[] #[.pointer (some ⟨b, 0, none⟩)]] w fun e w' => e = .returned (.bool (fmB ns p f l n)) ∧ Grow w w' := by
  have HV : Hid (VarAt (w.alloc (.cells #[.int .i64 o, .int .i64 p, .int .i64 f, .int .i64 l, .slice a n c] 24)) w.heap.size [.int .i64 o, .int .i64 p, .int .i64 f, .int .i64 l, .slice a n c] ∧ Grow w (w.alloc (.cells #[.int .i64 o, .int .i64 p, .int .i64 f, .int .i64 l, .slice a n c] 24))) := ⟨VarAt.new w _ _, (Grow.refl w).alloc _⟩
  have HN : Hid (NamesAt q w b ns) := hN
  clear hN
  go_enter Tryd.func27, Tryd.ntmps27
  go_wp2
  go_loopg [6] 4 (fun k i wr => ∃ j : Nat, k = 4 - j ∧ j ≤ 4 ∧ i = .int .i64 j ∧ Hid ((∀ m : Nat, m < j → (m : Int) ∈ ns ∨ zeB p f l n m = true) ∧ Grow (w.alloc (.cells #[.int .i64 o, .int .i64 p, .int .i64 f, .int .i64 l, .slice a n c] 24)) wr))
  case atStart => exact ⟨0, rfl, Nat.zero_le _, rfl, fun m hm => absurd hm (Nat.not_lt_zero _), Grow.refl _⟩
  case round =>
    obtain ⟨j, hk, hj, rfl, HJ⟩ := hrel
    by_cases hlt : j < 4
    · have hlt' : (j : Int) < 4 := by omega
      have hn := named_any wr q b ns j (HN.out.grow (HV.out.2.trans HJ.out.2))
      obtain ⟨⟨c0, c1, c2, c3, c4⟩, -⟩ := (HV.out.1.grow HJ.out.2).five
      have hz := fun u => zero_any u o p f l a n c j hlt
      have HK : Hid (gk = 4 - j ∧ j < 4) := ⟨hk, hlt⟩
      clear hk hlt
      by_cases hm : (j : Int) ∈ ns
      · rw [decide_eq_true hm] at hn
        have HM : Hid ((j : Int) ∈ ns) := hm
        clear hm
        go_wp2_with fail
        refine hn.mono ?_
        rintro e w1 ⟨rfl, rfl⟩
        clear hn
        go_wp2
        go_roundg (4 - (j + 1))
        case measure => have := HK.out; omega
        case rel =>
          refine ⟨j + 1, rfl, HK.out.2, by go_num, fun m hm => ?_, HJ.out.2⟩
          by_cases e : m = j
          · rw [e]; exact .inl HM.out
          · exact HJ.out.1 m (by omega)
      · rw [decide_eq_false hm] at hn
        have HM : Hid (¬ (j : Int) ∈ ns) := hm
        clear hm
        go_wp2_with fail
        refine hn.mono ?_
        rintro e w1 ⟨rfl, rfl⟩
        clear hn
        cases hzb : zeB p f l n j
        · simp only [hzb] at hz
          have HF : Hid (fmB ns p f l n = false) := decide_eq_false (fun h => by
            rcases h j HK.out.2 with h | h
            · exact HM.out h
            · rw [hzb] at h; cases h)
          clear hzb
          go_wp2_with fail
          refine (hz _).mono ?_
          rintro e w2 ⟨rfl, g2⟩
          clear c0 c1 c2 c3 c4 hz
          go_wp2
          go_ret
          exact ⟨ret_bool HF.out.symm, (HV.out.2.trans HJ.out.2).trans g2⟩
        · simp only [hzb] at hz
          have HZ : Hid (zeB p f l n j = true) := hzb
          clear hzb
          go_wp2_with fail
          refine (hz _).mono ?_
          rintro e w2 ⟨rfl, g2⟩
          clear c0 c1 c2 c3 c4 hz
          go_wp2
          go_roundg (4 - (j + 1))
          case measure => have := HK.out; omega
          case rel =>
            refine ⟨j + 1, rfl, HK.out.2, by go_num, fun m hm => ?_, HJ.out.2.trans g2⟩
            by_cases e : m = j
            · rw [e]; exact .inr HZ.out
            · exact HJ.out.1 m (by omega)
    · obtain rfl : j = 4 := by omega
      have HF : Hid (fmB ns p f l n = true) := decide_eq_true HJ.out.1
      clear hlt hj hk
      go_wp2
      go_ret
      exact ⟨ret_bool HF.out.symm, HV.out.2.trans HJ.out.2⟩

end Go.Proofs.YtdafamocnjfmjaaDoor
