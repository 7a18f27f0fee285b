/-
  The device: its memory as lists of cells; the walks of its small calls (Clone, Len, has, Lasting, Read, Write, Head, SetHead). Conditions: each theorem's own.
-/
import Derived.Test.YtpkoiogdkaklfaaDevMap
import Derived.Test.YtpkoiogdkaklfaaDevMath
import Derived.Test.YtpkoiogdkaklfaaCel
import Derived.Test.YtpkoiogdkaklfaaLibS
import Derived.Lib.SliceRun
namespace Go.Proofs.Ytpkoiogdkaklfaa
open Go.RowKit
set_option linter.unusedVariables false
set_option linter.unusedSimpArgs false

/-- The device at block b, its maps at bl and bt, its rows in blocks of p. -/
def DevAt (w : World) (p : Nat → Prop) (b bl bt s : Nat) (las lat : List (List Int)) (hd : List Int) : Prop :=
  ∃ s' a c, VarAt w b [.map (some bl), .map (some bt), .slice a hd.length c] ∧ CMap Try.prog 3 p w bl las.length (lastF las) ∧ CMap Try.prog 3 p w bt s' (latF lat) ∧ s' ≤ s ∧
    RdV (Value.int .u8) 0 p w (.slice a hd.length c) hd ∧ DevOk las lat hd ∧ b ≠ bl ∧ b ≠ bt ∧ bl ≠ bt ∧ ¬ p b

section
variable {w w' : World} {p q : Nat → Prop} {b bl bt s : Nat} {las lat : List (List Int)} {hd : List Int}
theorem DevAt.ok (h : DevAt w p b bl bt s las lat hd) : DevOk las lat hd := by
  obtain ⟨_, _, _, _, _, _, _, _, h, _⟩ := h
  exact h
theorem DevAt.lt (h : DevAt w p b bl bt s las lat hd) : b < w.heap.size ∧ bl < w.heap.size ∧ bt < w.heap.size ∧ b ≠ bl ∧ b ≠ bt ∧ bl ≠ bt := by
  obtain ⟨_, _, _, h1, h2, h3, _, _, _, h4, h5, h6, _⟩ := h
  exact ⟨h1.lt, h2.lt, h3.lt, h4, h5, h6⟩
theorem DevAt.nots (h : DevAt w p b bl bt s las lat hd) : ¬ p b ∧ ¬ p bl ∧ ¬ p bt := by
  obtain ⟨_, _, _, h1, h2, h3, _, _, _, h4, h5, h6, h7⟩ := h
  exact ⟨h7, h2.not, h3.not⟩
theorem DevAt.upd {S : Nat → Prop} (h : DevAt w p b bl bt s las lat hd) (hu : UpdS S w w') (hb : ¬ S b) (hbl : ¬ S bl) (hbt : ¬ S bt) (hS : ∀ i, i < w.heap.size → p i → ¬ S i) : DevAt w' p b bl bt s las lat hd := by
  obtain ⟨s', a, c, h1, h2, h3, h4, h5, h6⟩ := h
  exact ⟨s', a, c, h1.upd hu hb, h2.upd hu hbl hS, h3.upd hu hbt hS, h4, h5.upd hu hS, h6⟩
theorem DevAt.grow (h : DevAt w p b bl bt s las lat hd) (hu : Grow w w') : DevAt w' p b bl bt s las lat hd := h.upd (S := fun _ => False) hu.s (fun f => f) (fun f => f) (fun f => f) (fun _ _ _ f => f)
theorem DevAt.mono (h : DevAt w p b bl bt s las lat hd) (hp : ∀ i, i < w.heap.size → p i → q i) (hb : ¬ q b) (hbl : ¬ q bl) (hbt : ¬ q bt) : DevAt w q b bl bt s las lat hd := by
  obtain ⟨s', a, c, h1, h2, h3, h4, h5, h6, h7, h8, h9, h10⟩ := h
  exact ⟨s', a, c, h1, h2.mono hp hbl, h3.mono hp hbt, h4, h5.mono hp, h6, h7, h8, h9, hb⟩
theorem DevAt.more (h : DevAt w p b bl bt s las lat hd) {s2 : Nat} (hs : s ≤ s2) : DevAt w p b bl bt s2 las lat hd := by
  obtain ⟨s', a, c, h1, h2, h3, h4, h6⟩ := h
  exact ⟨s', a, c, h1, h2, h3, by omega, h6⟩
end

theorem zeroBS (w : World) : (zeroValue 29).run Try.prog w = .ok (.slice none 0 0) w := by kernel_rfl

set_option maxHeartbeats 1000000 in
theorem clone_any (v : Value) (zs : List Int) (B : Nat) (w : World) (h : Rd .u8 B w v zs) (hl : zs.length ≤ 1000000) :
    Calls Try.prog 42 #[v] w fun e w' => ∃ v', e = .returned v' ∧ Own .u8 w.heap.size w' v' zs ∧ Grow w w' := by
  obtain ⟨i0, hi, hz0, hz1, hz2⟩ := info_parts Try.info5
  have h' := h.size
  obtain ⟨a, c, rfl, h1, h2, h3⟩ := h
  cases a with
  | none =>
    have hz : zs = [] := by
      cases zs with
      | nil => rfl
      | cons x xs => obtain ⟨b, o, e, _⟩ := h3 0 (by simp); cases e
    subst hz
    have hq := fun w => Lib.run_eql_slice_nil (P := Try.prog) w 29 5 none ([] : List Int).length c 0 0 Try.underlying29
    simp only [List.length_nil, Option.isNone_none] at hq
    go_enter Try.func42, Try.ntmps42
    go_wp2
    go_ret
    exact ⟨_, rfl, Own.nil _ _ _ _, Grow.refl _⟩
  | some a =>
    have hsrc : ∀ o, Src Try.prog 1 29 (.slice (some a) zs.length c) zs.length (zs.map (Value.int .u8)) (w.alloc o) := fun o => (RdV.i (RdV.grow (Rd.v h') ((Grow.refl w).alloc o))).src (P := Try.prog) Try.underlying29
    clear h3
    have hq := fun w => Lib.run_eql_slice_nil (P := Try.prog) w 29 5 (some a) zs.length c 0 0 Try.underlying29
    simp only [Option.isNone_some] at hq
    go_enter Try.func42, Try.ntmps42
    go_wp2_with (at_builtin; refine wpList_app rfl (.tmp 5) (.tmp 6) 29 29 rfl i0 (.int .u8 0) 1 Try.underlying29 hi hz0 hz1 hz2 rfl rfl rfl (Own.nil .u8 w.heap.size _ _) (hsrc _) (by simp only [maxLen, List.length_nil]; omega) (by simp only [List.length_nil]; omega) (by simp) ?_)
    intro v3 w3 ho3 hb3
    go_wp2
    go_ret
    exact ⟨_, rfl, by simpa using ho3, Below.trans ((Grow.refl w).alloc _) hb3⟩



set_option maxHeartbeats 1000000 in
theorem dlen_any (w : World) (p : Nat → Prop) (b bl bt s : Nat) (las lat : List (List Int)) (hd : List Int) (h : DevAt w p b bl bt s las lat hd) : Calls Try.prog 16 #[.pointer (some ⟨b, 0, none⟩)] w fun e w' => e = .returned (.int .i64 las.length) ∧ w = w' := by
  obtain ⟨s', a, c, h1, h2, -⟩ := h
  obtain ⟨⟨c0, c1, c2⟩, -⟩ := h1.three
  have hr := h2.len Try.underlying62 3
  clear h1 h2
  go_enter Try.func16, Try.ntmps16
  go_wp2
  go_ret
  exact ⟨rfl, rfl⟩

set_option maxHeartbeats 1000000 in
theorem dhas_any (w : World) (p : Nat → Prop) (b bl bt s : Nat) (las lat : List (List Int)) (hd : List Int) (h : DevAt w p b bl bt s las lat hd) (k : Int) (hk : (Lit.int .i64 k).wf = true) : Calls Try.prog 43 #[.pointer (some ⟨b, 0, none⟩), .int .i64 k] w fun e w' => e = .returned (.bool (decide (0 ≤ k ∧ k < las.length))) ∧ w = w' := by
  obtain ⟨s', a, c, h1, h2, -⟩ := h
  obtain ⟨⟨c0, c1, c2⟩, -⟩ := h1.three
  by_cases hin : 0 ≤ k ∧ k < las.length
  · obtain ⟨i, rfl⟩ := Int.eq_ofNat_of_zero_le hin.1
    obtain ⟨a1, n1, hr, -, -⟩ := h2.look_some Try.underlying3 Try.underlying62 (zeroBS w) hk (lastF_in (by omega))
    have E : Hid (decide (0 ≤ (i : Int) ∧ (i : Int) < las.length) = true) := decide_eq_true hin
    clear h1 h2 hin
    go_enter Try.func43, Try.ntmps43
    go_wp2
    go_ret
    exact ⟨ret_bool E.out.symm, rfl⟩
  · obtain ⟨hr, -⟩ := h2.look_none Try.underlying3 Try.underlying62 (zeroBS w) hk (lastF_out hin)
    have E : Hid (decide (0 ≤ k ∧ k < las.length) = false) := decide_eq_false hin
    clear h1 h2 hin
    go_enter Try.func43, Try.ntmps43
    go_wp2
    go_ret
    exact ⟨ret_bool E.out.symm, rfl⟩

/-- what Lasting tells -/
def lastingL (las : List (List Int)) (k : Int) : List Int × Int := if 0 ≤ k ∧ k < las.length then opened (las.getD k.toNat []) else ([], 4)
/-- what Read tells -/
def readL (las lat : List (List Int)) (k : Int) : List Int × Int := if lat.getD k.toNat [] ≠ [] ∧ 0 ≤ k ∧ k < lat.length then opened (lat.getD k.toNat []) else lastingL las k

set_option maxHeartbeats 1000000 in
theorem dlasting_any (w : World) (p : Nat → Prop) (b bl bt s : Nat) (las lat : List (List Int)) (hd : List Int) (h : DevAt w p b bl bt s las lat hd) (k : Int) (hk : (Lit.int .i64 k).wf = true) : Calls Try.prog 23 #[.pointer (some ⟨b, 0, none⟩), .int .i64 k] w fun e w' => ∃ v', e = .returned (.tuple #[v', .int .i64 (lastingL las k).2]) ∧ Own .u8 w.heap.size w' v' (lastingL las k).1 ∧ Grow w w' := by
  have hc := dhas_any w p b bl bt s las lat hd h k hk
  have ok := h.ok
  obtain ⟨s', a, c, h1, h2, -⟩ := h
  obtain ⟨⟨c0, c1, c2⟩, -⟩ := h1.three
  by_cases hin : 0 ≤ k ∧ k < las.length
  · rw [decide_eq_true hin] at hc
    obtain ⟨i, rfl⟩ := Int.eq_ofNat_of_zero_le hin.1
    have hi : i < las.length := by omega
    obtain ⟨a1, n1, -, hr, hrd⟩ := h2.look_some Try.underlying3 Try.underlying62 (zeroBS w) hk (lastF_in hi)
    obtain ⟨hl, ho⟩ := ok.2.1 i hi
    have hop := open_any _ _ _ w hrd.i ho (by omega)
    have E : Hid (lastingL las i = opened (las.getD i [])) := by show lastingL las i = _; unfold lastingL; rw [if_pos hin]; rfl
    rw [E.out]
    generalize opened (las.getD i []) = T at hop
    obtain ⟨T1, T2⟩ := T
    generalize (las.getD i []).length = L at hr hop
    clear h1 h2 hin E hrd hl ho ok
    go_enter Try.func23, Try.ntmps23
    go_wp2_with fail
    refine hc.mono ?_
    rintro e w1 ⟨rfl, rfl⟩
    go_wp2_with fail
    refine hop.mono ?_
    rintro e w1 ⟨v1, rfl, ho1, hb1⟩
    go_wp2
    go_ret2
    exact ⟨_, rfl, ho1, hb1⟩
  · rw [decide_eq_false hin] at hc
    have E : Hid (lastingL las k = ([], 4)) := if_neg hin
    rw [E.out]
    clear h1 h2 hin E ok
    go_enter Try.func23, Try.ntmps23
    go_wp2_with fail
    refine hc.mono ?_
    rintro e w1 ⟨rfl, rfl⟩
    go_wp2
    go_ret2
    exact ⟨_, rfl, Own.nil _ _ _ _, Grow.refl _⟩

set_option maxHeartbeats 1000000 in
theorem dread_any (w : World) (p : Nat → Prop) (b bl bt s : Nat) (las lat : List (List Int)) (hd : List Int) (h : DevAt w p b bl bt s las lat hd) (k : Int) (hk : (Lit.int .i64 k).wf = true) : Calls Try.prog 15 #[.pointer (some ⟨b, 0, none⟩), .int .i64 k] w fun e w' => ∃ v', e = .returned (.tuple #[v', .int .i64 (readL las lat k).2]) ∧ Own .u8 w.heap.size w' v' (readL las lat k).1 ∧ Grow w w' := by
  have hc := dlasting_any w p b bl bt s las lat hd h k hk
  have ok := h.ok
  obtain ⟨s', a, c, h1, -, h2, -⟩ := h
  obtain ⟨⟨c0, c1, c2⟩, -⟩ := h1.three
  by_cases hin : lat.getD k.toNat [] ≠ [] ∧ 0 ≤ k ∧ k < lat.length
  · obtain ⟨i, rfl⟩ := Int.eq_ofNat_of_zero_le hin.2.1
    have hi : lat.getD i [] ≠ [] := by simpa using hin.1
    obtain ⟨a1, n1, hr, -, hrd⟩ := h2.look_some Try.underlying3 Try.underlying62 (zeroBS w) hk (latF_in hi)
    obtain ⟨hl, ho⟩ := ok.2.2.1 i hi
    have hop := open_any _ _ _ w hrd.i ho (by omega)
    have E : Hid (readL las lat i = opened (lat.getD i [])) := by show readL las lat i = _; unfold readL; rw [if_pos hin]; rfl
    rw [E.out]
    generalize opened (lat.getD i []) = T at hop
    obtain ⟨T1, T2⟩ := T
    generalize (lat.getD i []).length = L at hr hop
    clear h1 h2 hin E hrd hl ho ok hi hc
    go_enter Try.func15, Try.ntmps15
    go_wp2_with fail
    refine hop.mono ?_
    rintro e w1 ⟨v1, rfl, ho1, hb1⟩
    go_wp2
    go_ret2
    exact ⟨_, rfl, ho1, hb1⟩
  · obtain ⟨hr, -⟩ := h2.look_none Try.underlying3 Try.underlying62 (zeroBS w) hk (if_neg hin)
    have E : Hid (readL las lat k = lastingL las k) := if_neg hin
    rw [E.out]
    generalize lastingL las k = T at hc
    obtain ⟨T1, T2⟩ := T
    clear h1 h2 hin E ok
    go_enter Try.func15, Try.ntmps15
    go_wp2_with fail
    refine hc.mono ?_
    rintro e w1 ⟨v1, rfl, ho1, hb1⟩
    go_wp2
    go_ret2
    exact ⟨_, rfl, ho1, hb1⟩

set_option maxHeartbeats 1000000 in
theorem dhead_any (w : World) (p : Nat → Prop) (b bl bt s : Nat) (las lat : List (List Int)) (hd : List Int) (h : DevAt w p b bl bt s las lat hd) : Calls Try.prog 17 #[.pointer (some ⟨b, 0, none⟩)] w fun e w' => ∃ v', e = .returned v' ∧ Own .u8 w.heap.size w' v' hd ∧ Grow w w' := by
  have ok := h.ok
  obtain ⟨s', a, c, h1, -, -, -, hrd, -⟩ := h
  obtain ⟨⟨c0, c1, c2⟩, -⟩ := h1.three
  have hc := clone_any _ _ _ w hrd.i ok.2.2.2.2.1
  generalize hd.length = L at c2 hc
  clear h1 ok
  go_enter Try.func17, Try.ntmps17
  go_wp2_with fail
  refine hc.mono ?_
  rintro e w1 ⟨v1, rfl, ho1, hb1⟩
  go_wp2
  go_ret
  exact ⟨_, rfl, ho1, hb1⟩

end Go.Proofs.Ytpkoiogdkaklfaa
