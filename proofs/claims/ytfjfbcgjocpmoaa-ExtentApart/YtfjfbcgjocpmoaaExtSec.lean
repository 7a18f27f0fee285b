/-
  The walks of Sector, of the document's Sector, and of the document's example. Conditions: each theorem's own.
-/
import Derived.Test.YtfjfbcgjocpmoaaExtAll
namespace Go.Proofs.Ytfjfbcgjocpmoaa
open Go.RowKit
set_option linter.unusedVariables false
set_option linter.unusedSimpArgs false

/-- parts whose numbers are no ends -/
def InB (ps : List Pt) : Prop := ∀ j, j < ps.length → 0 ≤ (ps.getD j Pt.zero).g ∧ (ps.getD j Pt.zero).g ≤ 1000 ∧ 0 ≤ (ps.getD j Pt.zero).b ∧ (ps.getD j Pt.zero).b ≤ 100000
theorem GoodC.inb {fr dp se : Int} {ps : List Pt} (h : GoodC fr dp se ps) : InB ps := by
  intro j hj
  have hb := h.bounds
  have := h.within hj
  exact ⟨by omega, by omega, by omega, by omega⟩

theorem all_any {p : Nat → Prop} (fr dp se t g : Int) (v : Value) (ps : List Pt) (w : World) (h : RdP p w v ps) (hb : InB ps) :
    Calls Try.prog 12 #[.agg #[.int .i64 fr, .int .i64 dp, .int .i64 se, v], .int .i64 t, .int .i64 g] w fun e w' => e = .returned (.tuple #[.agg #[.int .i64 (secS ps t g 0).1, .int .i64 (secS ps t g 1).1], .int .i64 (secS ps t g 0).2]) ∧ Grow w w' := by
  by_cases ht : 0 ≤ t ∧ t < (ps.length : Int)
  · obtain ⟨i, rfl⟩ : ∃ i : Nat, t = i := ⟨t.toNat, by omega⟩
    have hi : i < ps.length := by omega
    by_cases hg : 0 ≤ g ∧ g < (ps.getD i Pt.zero).g
    · rw [secS_ok hi (k := 0) ⟨hg.1, hg.2, by omega, by omega⟩, secS_ok hi (k := 1) ⟨hg.1, hg.2, by omega, by omega⟩, Int.add_zero]
      exact all_ok fr dp se i g v ps w h hi hg.1 hg.2 (hb i hi)
    · rw [secS_rng hi (k := 0) (by omega), secS_rng hi (k := 1) (by omega)]
      exact all_rng fr dp se i g v ps w h hi hg
  · rw [secS_arg g 0 ht, secS_arg g 1 ht]
    exact all_arg fr dp se t g v ps w h ht

set_option maxHeartbeats 4000000 in
theorem sec_bad {p : Nat → Prop} (fr dp se t g k : Int) (v : Value) (ps : List Pt) (w : World) (h : RdP p w v ps) (E : Int) (hE : ¬ E = 0)
    (hall : ∀ w', Grow w w' → Calls Try.prog 12 #[.agg #[.int .i64 fr, .int .i64 dp, .int .i64 se, v], .int .i64 t, .int .i64 g] w' fun e w'' => e = .returned (.tuple #[.agg #[.int .i64 0, .int .i64 0], .int .i64 E]) ∧ Grow w' w'') :
    Calls Try.prog 10 #[.agg #[.int .i64 fr, .int .i64 dp, .int .i64 se, v], .int .i64 t, .int .i64 g, .int .i64 k] w fun e w' => e = .returned (.tuple #[.int .i64 0, .int .i64 E]) ∧ Grow w w' := by
  have HG : Hid (Grow w (w.alloc (.cells #[.int .i64 fr, .int .i64 dp, .int .i64 se, v] 24))) := (Grow.refl w).alloc _
  have hp := hall _ HG.out
  obtain ⟨a, cp, rfl, h1, h2, -⟩ := h
  clear hall h1 h2
  go_enter Try.func10, Try.ntmps10
  go_wp2_with fail
  refine hp.mono ?_
  rintro e w2 ⟨rfl, g2⟩
  have H2 : Hid (Grow w w2) := HG.out.trans g2
  clear g2 hp HG
  go_wp2
  go_ret2
  exact ⟨rfl, H2.out.alloc _⟩

set_option maxHeartbeats 4000000 in
theorem sec_k {p : Nat → Prop} (fr dp se t g k A B : Int) (v : Value) (ps : List Pt) (w : World) (h : RdP p w v ps) (hk : ¬ (0 ≤ k ∧ k < 2))
    (hall : ∀ w', Grow w w' → Calls Try.prog 12 #[.agg #[.int .i64 fr, .int .i64 dp, .int .i64 se, v], .int .i64 t, .int .i64 g] w' fun e w'' => e = .returned (.tuple #[.agg #[.int .i64 A, .int .i64 B], .int .i64 0]) ∧ Grow w' w'') :
    Calls Try.prog 10 #[.agg #[.int .i64 fr, .int .i64 dp, .int .i64 se, v], .int .i64 t, .int .i64 g, .int .i64 k] w fun e w' => e = .returned (.tuple #[.int .i64 0, .int .i64 4]) ∧ Grow w w' := by
  have HG : Hid (Grow w (w.alloc (.cells #[.int .i64 fr, .int .i64 dp, .int .i64 se, v] 24))) := (Grow.refl w).alloc _
  have hp := hall _ HG.out
  have hw := fun w' => within_no (w := w') hk
  obtain ⟨a, cp, rfl, h1, h2, -⟩ := h
  clear hall h1 h2 hk
  go_enter Try.func10, Try.ntmps10
  go_wp2_with fail
  refine hp.mono ?_
  rintro e w2 ⟨rfl, g2⟩
  have H2 : Hid (Grow w w2) := HG.out.trans g2
  clear g2 hp HG
  go_wp2_with fail
  refine (hw _).mono ?_
  rintro e w3 ⟨rfl, rfl⟩
  go_wp2
  go_ret2
  exact ⟨rfl, H2.out.alloc _⟩

set_option maxHeartbeats 4000000 in
theorem sec_0 {p : Nat → Prop} (fr dp se t g A B : Int) (v : Value) (ps : List Pt) (w : World) (h : RdP p w v ps)
    (hall : ∀ w', Grow w w' → Calls Try.prog 12 #[.agg #[.int .i64 fr, .int .i64 dp, .int .i64 se, v], .int .i64 t, .int .i64 g] w' fun e w'' => e = .returned (.tuple #[.agg #[.int .i64 A, .int .i64 B], .int .i64 0]) ∧ Grow w' w'') :
    Calls Try.prog 10 #[.agg #[.int .i64 fr, .int .i64 dp, .int .i64 se, v], .int .i64 t, .int .i64 g, .int .i64 0] w fun e w' => e = .returned (.tuple #[.int .i64 A, .int .i64 0]) ∧ Grow w w' := by
  have HG : Hid (Grow w (w.alloc (.cells #[.int .i64 fr, .int .i64 dp, .int .i64 se, v] 24))) := (Grow.refl w).alloc _
  have hp := hall _ HG.out
  have hw := fun w' => within_yes (w := w') (n := 0) (a := 0) (b := 2) (by omega) (by omega)
  obtain ⟨a, cp, rfl, h1, h2, -⟩ := h
  clear hall h1 h2
  go_enter Try.func10, Try.ntmps10
  go_wp2_with fail
  refine hp.mono ?_
  rintro e w2 ⟨rfl, g2⟩
  have H2 : Hid (Grow w w2) := HG.out.trans g2
  clear g2 hp HG
  go_wp2_with fail
  refine (hw _).mono ?_
  rintro e w3 ⟨rfl, rfl⟩
  go_wp2
  go_ret2
  exact ⟨rfl, H2.out.alloc _⟩

set_option maxHeartbeats 4000000 in
theorem sec_1 {p : Nat → Prop} (fr dp se t g A B : Int) (v : Value) (ps : List Pt) (w : World) (h : RdP p w v ps)
    (hall : ∀ w', Grow w w' → Calls Try.prog 12 #[.agg #[.int .i64 fr, .int .i64 dp, .int .i64 se, v], .int .i64 t, .int .i64 g] w' fun e w'' => e = .returned (.tuple #[.agg #[.int .i64 A, .int .i64 B], .int .i64 0]) ∧ Grow w' w'') :
    Calls Try.prog 10 #[.agg #[.int .i64 fr, .int .i64 dp, .int .i64 se, v], .int .i64 t, .int .i64 g, .int .i64 1] w fun e w' => e = .returned (.tuple #[.int .i64 B, .int .i64 0]) ∧ Grow w w' := by
  have HG : Hid (Grow w (w.alloc (.cells #[.int .i64 fr, .int .i64 dp, .int .i64 se, v] 24))) := (Grow.refl w).alloc _
  have hp := hall _ HG.out
  have hw := fun w' => within_yes (w := w') (n := 1) (a := 0) (b := 2) (by omega) (by omega)
  obtain ⟨a, cp, rfl, h1, h2, -⟩ := h
  clear hall h1 h2
  go_enter Try.func10, Try.ntmps10
  go_wp2_with fail
  refine hp.mono ?_
  rintro e w2 ⟨rfl, g2⟩
  have H2 : Hid (Grow w w2) := HG.out.trans g2
  clear g2 hp HG
  go_wp2_with fail
  refine (hw _).mono ?_
  rintro e w3 ⟨rfl, rfl⟩
  go_wp2
  go_ret2
  exact ⟨rfl, H2.out.alloc _⟩

theorem sec_any {p : Nat → Prop} (fr dp se t g k : Int) (v : Value) (ps : List Pt) (w : World) (h : RdP p w v ps) (hb : InB ps) :
    Calls Try.prog 10 #[.agg #[.int .i64 fr, .int .i64 dp, .int .i64 se, v], .int .i64 t, .int .i64 g, .int .i64 k] w fun e w' => e = .returned (.tuple #[.int .i64 (secS ps t g k).1, .int .i64 (secS ps t g k).2]) ∧ Grow w w' := by
  have hall := fun w' (gr : Grow w w') => all_any fr dp se t g v ps w' (RdS.grow h gr) hb
  by_cases ht : 0 ≤ t ∧ t < (ps.length : Int)
  · obtain ⟨i, rfl⟩ : ∃ i : Nat, t = i := ⟨t.toNat, by omega⟩
    have hi : i < ps.length := by omega
    by_cases hg : 0 ≤ g ∧ g < (ps.getD i Pt.zero).g
    · rw [secS_ok hi (k := 0) ⟨hg.1, hg.2, by omega, by omega⟩, secS_ok hi (k := 1) ⟨hg.1, hg.2, by omega, by omega⟩] at hall
      by_cases hk : 0 ≤ k ∧ k < 2
      · rw [secS_ok hi ⟨hg.1, hg.2, hk.1, hk.2⟩]
        obtain rfl | rfl : k = 0 ∨ k = 1 := by omega
        · exact sec_0 fr dp se i g _ _ v ps w h hall
        · exact sec_1 fr dp se i g _ _ v ps w h hall
      · rw [secS_rng hi (by omega)]
        exact sec_k fr dp se i g k _ _ v ps w h hk hall
    · rw [secS_rng hi (k := 0) (by omega), secS_rng hi (k := 1) (by omega)] at hall
      rw [secS_rng hi (by omega)]
      exact sec_bad fr dp se i g k v ps w h 4 (by omega) hall
  · rw [secS_arg g 0 ht, secS_arg g 1 ht] at hall
    rw [secS_arg g k ht]
    exact sec_bad fr dp se t g k v ps w h 1 (by omega) hall

set_option maxHeartbeats 4000000 in
theorem rsec_neg {p : Nat → Prop} (fr dp se t g k : Int) (v : Value) (ps : List Pt) (w : World) (h : RdP p w v ps) (ht : t < 0) :
    Calls Try.prog 11 #[.agg #[.int .i64 fr, .int .i64 dp, .int .i64 se, v], .int .i64 t, .int .i64 g, .int .i64 k] w fun e w' => e = .returned (.tuple #[.int .i64 0, .int .i64 1]) ∧ Grow w w' := by
  obtain ⟨a, cp, rfl, h1, h2, -⟩ := h
  clear h1 h2
  go_enter Try.func11, Try.ntmps11
  go_wp2
  go_ret2
  exact ⟨rfl, (Grow.refl w).alloc _⟩
set_option maxHeartbeats 4000000 in
theorem rsec_far {p : Nat → Prop} (fr dp se t g k : Int) (v : Value) (ps : List Pt) (w : World) (h : RdP p w v ps) (ht : ¬ t < 0) (h3 : (ps.length : Int) ≤ t) :
    Calls Try.prog 11 #[.agg #[.int .i64 fr, .int .i64 dp, .int .i64 se, v], .int .i64 t, .int .i64 g, .int .i64 k] w fun e w' => e = .returned (.tuple #[.int .i64 0, .int .i64 1]) ∧ Grow w w' := by
  obtain ⟨a, cp, rfl, h1, h2, -⟩ := h
  clear h1 h2
  go_enter Try.func11, Try.ntmps11
  go_wp2
  go_ret2
  exact ⟨rfl, (Grow.refl w).alloc _⟩
set_option maxHeartbeats 8000000 in
theorem rsec_in {p : Nat → Prop} (fr dp se : Int) (i : Nat) (g k : Int) (v : Value) (ps : List Pt) (w : World) (h : RdP p w v ps) (hi : i < ps.length) (hd : 0 ≤ (ps.getD i Pt.zero).g ∧ (ps.getD i Pt.zero).g ≤ 1000 ∧ 0 ≤ (ps.getD i Pt.zero).b ∧ (ps.getD i Pt.zero).b ≤ 100000) :
    Calls Try.prog 11 #[.agg #[.int .i64 fr, .int .i64 dp, .int .i64 se, v], .int .i64 i, .int .i64 g, .int .i64 k] w fun e w' => e = .returned (.tuple #[.int .i64 (secS ps i g k).1, .int .i64 (secS ps i g k).2]) ∧ Grow w w' := by
  have HG : Hid (VarAt (w.alloc (.cells #[.int .i64 fr, .int .i64 dp, .int .i64 se, v] 24)) w.heap.size [.int .i64 fr, .int .i64 dp, .int .i64 se, v] ∧ Grow w (w.alloc (.cells #[.int .i64 fr, .int .i64 dp, .int .i64 se, v] 24))) := ⟨VarAt.new w [.int .i64 fr, .int .i64 dp, .int .i64 se, v] _, (Grow.refl w).alloc _⟩
  have HR : Hid (RdP p w v ps) := h
  obtain ⟨a, cp, rfl, h1, h2, -⟩ := h
  unfold maxLen at h2
  have hlt : (i : Int) < (ps.length : Int) := by omega
  obtain ⟨bb, oo, rfl, _, _, hin⟩ := rdP_at HR.out hi
  obtain ⟨k0, k1, k2⟩ := hin.grow HG.out.2
  have hng : ¬ (ps.length : Int) ≤ (i : Int) := by omega
  have hnn : ¬ (i : Int) < 0 := by omega
  by_cases hg : 0 ≤ g
  · have hg' : ¬ g < 0 := by omega
    by_cases hg2 : g < (ps.getD i Pt.zero).g
    · have hg2' : ¬ (ps.getD i Pt.zero).g ≤ g := by omega
      by_cases hk : 0 ≤ k
      · have hk' : ¬ k < 0 := by omega
        by_cases hk2 : k ≤ 1
        · rw [secS_ok hi ⟨hg, hg2, hk, by omega⟩]
          have hk2' : ¬ 1 < k := by omega
          generalize ps.getD i Pt.zero = d at k0 k1 k2 hg2 hg2' hd ⊢
          have hw1 : IntKind.i64.wrap (2 * g) = 2 * g := by rw [IntKind.wrap_i64]; omega
          have hw2 : IntKind.i64.wrap (d.b + 2 * g) = d.b + 2 * g := by rw [IntKind.wrap_i64]; omega
          have hw3 : IntKind.i64.wrap (d.b + 2 * g + k) = d.b + 2 * g + k := by rw [IntKind.wrap_i64]; omega
          obtain ⟨d1, d2, d3, d4⟩ := hd
          clear hin
          go_enter Try.func11, Try.ntmps11
          go_wp2
          go_ret2
          exact ⟨rfl, HG.out.2⟩
        · rw [secS_rng hi (by omega)]
          have hk2' : 1 < k := by omega
          clear hd hin
          generalize ps.getD i Pt.zero = d at k0 k1 k2 hg2 hg2'
          go_enter Try.func11, Try.ntmps11
          go_wp2
          go_ret2
          exact ⟨rfl, HG.out.2⟩
      · rw [secS_rng hi (by omega)]
        have hk' : k < 0 := by omega
        clear hd hin
        generalize ps.getD i Pt.zero = d at k0 k1 k2 hg2 hg2'
        go_enter Try.func11, Try.ntmps11
        go_wp2
        go_ret2
        exact ⟨rfl, HG.out.2⟩
    · rw [secS_rng hi (by omega)]
      have hg2' : (ps.getD i Pt.zero).g ≤ g := by omega
      clear hd hin
      generalize ps.getD i Pt.zero = d at k0 k1 k2 hg2 hg2'
      go_enter Try.func11, Try.ntmps11
      go_wp2
      go_ret2
      exact ⟨rfl, HG.out.2⟩
  · rw [secS_rng hi (by omega)]
    have hg' : g < 0 := by omega
    clear hd hin
    generalize ps.getD i Pt.zero = d at k0 k1 k2
    go_enter Try.func11, Try.ntmps11
    go_wp2
    go_ret2
    exact ⟨rfl, HG.out.2⟩
theorem rsec_any {p : Nat → Prop} (fr dp se t g k : Int) (v : Value) (ps : List Pt) (w : World) (h : RdP p w v ps) (hb : InB ps) :
    Calls Try.prog 11 #[.agg #[.int .i64 fr, .int .i64 dp, .int .i64 se, v], .int .i64 t, .int .i64 g, .int .i64 k] w fun e w' => e = .returned (.tuple #[.int .i64 (secS ps t g k).1, .int .i64 (secS ps t g k).2]) ∧ Grow w w' := by
  by_cases ht : 0 ≤ t ∧ t < (ps.length : Int)
  · obtain ⟨i, rfl⟩ : ∃ i : Nat, t = i := ⟨t.toNat, by omega⟩
    exact rsec_in fr dp se i g k v ps w h (by omega) (hb i (by omega))
  · rw [secS_arg g k ht]
    by_cases h0 : t < 0
    · exact rsec_neg fr dp se t g k v ps w h h0
    · exact rsec_far fr dp se t g k v ps w h h0 (by omega)

theorem lives_good : GoodC 2 1 8 [⟨1, 0, 2⟩, ⟨1, 4, 2⟩] := by
  refine ⟨by simp, by simp, by omega, by omega, by simp [qsum], ?_, 8, ⟨by simp, by simp, by simp, by simp, rfl⟩, by omega, by omega⟩
  intro x hx
  simp only [List.mem_cons, List.not_mem_nil, or_false] at hx
  rcases hx with rfl | rfl <;> exact ⟨by simp, by simp, by simp, by simp⟩
set_option maxHeartbeats 2000000 in
theorem lives_any (w : World) : Calls Try.prog 13 #[] w fun e w' => e = .returned (.bool true) ∧ Grow w w' := by
  have hl := rdS_new (f := Pt.cs) (k := 3) w 46 [⟨1, 0, 2⟩, ⟨1, 4, 2⟩] Pt.cs_length (by unfold maxLen; decide)
  have hm := fun w' (g : Grow _ w') => sec_any 2 1 8 1 1 0 _ _ w' (RdS.grow hl g) lives_good.inb
  have e : secS [⟨1, 0, 2⟩, ⟨1, 4, 2⟩] 1 1 0 = (6, 0) := by decide
  rw [e] at hm
  have HG : Hid (Grow w (w.alloc (.cells (List.flatMap Pt.cs [⟨1, 0, 2⟩, ⟨1, 4, 2⟩]).toArray 46))) := (Grow.refl w).alloc _
  clear e hl
  go_enter Try.func13, Try.ntmps13
  go_wp2_with fail
  refine (hm _ ((Grow.refl _).alloc _)).mono ?_
  rintro e w2 ⟨rfl, g2⟩
  go_wp2
  go_ret
  exact ⟨rfl, (HG.out.alloc _).trans g2⟩
end Go.Proofs.Ytfjfbcgjocpmoaa
