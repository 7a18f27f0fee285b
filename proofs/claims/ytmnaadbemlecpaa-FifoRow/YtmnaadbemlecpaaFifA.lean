/-
  The walks of fifo's All and Clear on a queue of numbers, of the copy of a row, and of the law's example. Conditions: each theorem's own.
-/
import Derived.Test.YtmnaadbemlecpaaFifI
namespace Go.Proofs.Ytmnaadbemlecpaa
open Go.RowKit
set_option linter.unusedVariables false
set_option linter.unusedSimpArgs false

set_option maxHeartbeats 1000000 in
theorem iclone_any (w : World) (p : Nat → Prop) (v : Value) (zs : List Int) (h : RdV (Value.int .i64) 0 p w v zs) (hl : zs.length ≤ 1000000) :
    Calls Try.prog 27 #[v] w fun e w' => ∃ v', e = .returned v' ∧ OwnV (Value.int .i64) 0 (fun i => w.heap.size ≤ i) w' v' zs ∧ Grow w w' := by
  obtain ⟨i0, hi, hz0, hz1, hz2⟩ := info_parts Try.infoIq
  have h' := h
  obtain ⟨a, c, rfl, h1, h2, h3⟩ := h
  cases a with
  | none =>
    have hz : zs = [] := by
      cases zs with
      | nil => rfl
      | cons x xs => obtain ⟨b, o, e, _⟩ := h3 0 (by simp); cases e
    subst hz
    have hq := fun w => Lib.run_eql_slice_nil (P := Try.prog) w 22 3 none ([] : List Int).length c 0 0 Try.underlying22
    simp only [List.length_nil, Option.isNone_none] at hq
    go_enter Try.func27, Try.ntmps27
    go_wp2
    go_ret
    exact ⟨_, rfl, OwnV.nil _ _ _ _ _, Grow.refl _⟩
  | some a =>
    have hsrc : ∀ o, Src Try.prog 1 22 (.slice (some a) zs.length c) zs.length (zs.map (Value.int .i64)) (w.alloc o) := fun o => (h'.grow ((Grow.refl w).alloc o)).src (P := Try.prog) oneIq Try.underlying22
    clear h3
    have hq := fun w => Lib.run_eql_slice_nil (P := Try.prog) w 22 3 (some a) zs.length c 0 0 Try.underlying22
    simp only [Option.isNone_some] at hq
    go_enter Try.func27, Try.ntmps27
    go_wp2_with (at_builtin; refine wpList_appV (f := Value.int .i64) (d := 0) (p := fun _ => False) rfl (.tmp 5) (.tmp 6) 22 22 rfl i0 (.int .i64 0) 8 Try.underlying22 hi hz0 hz1 hz2 rfl rfl rfl (OwnV.nil _ _ _ _ _) (hsrc _) (by simp only [maxLen, List.length_nil]; omega) (by simp only [List.length_nil]; omega) ?_)
    intro v3 w3 ho3 hu3
    have HF : Hid (OwnV (Value.int .i64) 0 (fun i => w.heap.size ≤ i) w3 v3 zs ∧ Grow w w3) := ⟨by simpa using ho3.mono (q := fun i => w.heap.size ≤ i) (fun i _ hi => by omega), UpdS.new ((Grow.refl w).alloc _) hu3 (fun i hi => hi.elim)⟩
    clear ho3 hu3
    go_wp2
    go_ret
    exact ⟨_, rfl, HF.out⟩


set_option maxHeartbeats 1000000 in
theorem iall_any (w : World) (p : Nat → Prop) (b m : Nat) (zs : List Int) (h : QAt (Value.int .i64) 0 p w b m zs) : Calls Try.prog 18 #[.pointer (some ⟨b, 0, none⟩)] w fun e w' => ∃ v', e = .returned v' ∧ OwnV (Value.int .i64) 0 (fun i => w.heap.size ≤ i) w' v' zs ∧ Grow w w' := by
  obtain ⟨a, c, h1, h2, h3, h4, -⟩ := h
  have hc := iclone_any w p _ zs h2.rd (by omega)
  obtain ⟨⟨c0, c1⟩, -⟩ := h1.two
  clear h1 h2 h3 h4 c1
  go_enter Try.func18, Try.ntmps18
  go_wp2_with fail
  refine hc.mono ?_
  rintro e w1 ⟨v1, rfl, ho1, hb1⟩
  go_wp2
  go_ret
  exact ⟨_, rfl, ho1, hb1⟩

set_option maxHeartbeats 1000000 in
theorem iclear_any (w : World) (p : Nat → Prop) (b m : Nat) (zs : List Int) (h : QAt (Value.int .i64) 0 p w b m zs) : Calls Try.prog 13 #[.pointer (some ⟨b, 0, none⟩)] w fun e w' => e = .returned (.tuple #[]) ∧ QAt (Value.int .i64) 0 p w' b m [] ∧ UpdS (fun i => p i ∨ i = b) w w' := by
  obtain ⟨a, c, h1, h2, h3, h4, h5, h6⟩ := h
  obtain ⟨w1, hcl, ho1, hu1⟩ := run_clearV (P := Try.prog) (t := 22) (e := 3) Try.underlying22 zeroIq rfl rfl h2
  obtain ⟨⟨c0, c1⟩, -⟩ := h1.two
  have hv1 := h1.upd hu1 h5
  obtain ⟨⟨c0', c1'⟩, f0', -⟩ := hv1.two
  have hlm := h2.rd.caps
  have hlc : zs.length ≤ c := hlm.2.1
  have hcm : c ≤ 9223372036854775807 := hlm.2.2
  have HF : Hid (QAt (Value.int .i64) 0 p (w1.setCell ⟨b, 0, none⟩ (.slice a 0 c)) b m [] ∧ UpdS (fun i => p i ∨ i = b) w (w1.setCell ⟨b, 0, none⟩ (.slice a 0 c))) :=
    ⟨QAt.lay (q := p) hv1 _ ho1.cut0 (Nat.zero_le _) h4 h5 (fun i hi => Nat.lt_of_lt_of_le (h6 i hi) hu1.size), (hu1.mono (fun i hi => .inl hi)).trans ((upd_one w1 b 0 _).mono (fun i hi => .inr hi))⟩
  clear h1 h2 h3 h4 h5 h6 ho1 hu1 hv1 c1 c1' hlm
  go_enter Try.func13, Try.ntmps13
  go_wp2
  go_end0
  exact ⟨rfl, HF.out⟩

set_option maxHeartbeats 1000000 in
theorem lives_any (w : World) : Calls Try.prog 21 #[] w fun e w' => e = .returned (.bool true) ∧ Grow w w' := by
  go_enter Try.func21, Try.ntmps21
  go_wp2_with fail
  refine (inew_yes 2 w (by omega) (by omega)).mono ?_
  rintro e w1 ⟨b, rfl, q1, g1, hb1⟩
  have HG1 : Hid (Grow w w1 ∧ w.heap.size ≤ b) := ⟨g1, hb1⟩
  have hp1 := iput_any w1 _ b 2 [] q1 1
  clear q1 g1 hb1
  go_wp2_with fail
  refine hp1.mono ?_
  rintro e w2 ⟨rfl, p2, q2, hp2, hu2⟩
  have HG2 : Hid (Grow w w2 ∧ w.heap.size ≤ b ∧ ∀ i, p2 i → w.heap.size ≤ i) := by
    obtain ⟨g, hb⟩ := HG1.out
    exact ⟨UpdS.new g hu2 (fun i hi => hi.elim False.elim (fun e => by omega)), hb, fun i hi => (hp2 i hi).elim False.elim (fun h => Nat.le_trans g.size h)⟩
  have hp2 := iput_any w2 p2 b 2 [1] q2 2
  clear q2 hu2 hp1 HG1
  go_wp2_with fail
  refine hp2.mono ?_
  rintro e w3 ⟨rfl, p3, q3, hp3, hu3⟩
  have HG3 : Hid (Grow w w3 ∧ w.heap.size ≤ b ∧ ∀ i, p3 i → w.heap.size ≤ i) := by
    obtain ⟨g, hb, hp⟩ := HG2.out
    exact ⟨UpdS.new g hu3 (fun i hi => hi.elim (hp i) (fun e => by omega)), hb, fun i hi => (hp3 i hi).elim (hp i) (fun h => Nat.le_trans g.size h)⟩
  have hp4 := iput_any w3 p3 b 2 [1, 2] q3 3
  clear q3 hu3 hp2 HG2 hp3
  go_wp2_with fail
  refine hp4.mono ?_
  rintro e w4 ⟨rfl, p4, q4, hp5, hu4⟩
  have HG4 : Hid (Grow w w4 ∧ w.heap.size ≤ b ∧ ∀ i, p4 i → w.heap.size ≤ i) := by
    obtain ⟨g, hb, hp⟩ := HG3.out
    exact ⟨UpdS.new g hu4 (fun i hi => hi.elim (hp i) (fun e => by omega)), hb, fun i hi => (hp5 i hi).elim (hp i) (fun h => Nat.le_trans g.size h)⟩
  have ht := itake_any w4 p4 b 2 [1, 2] q4
  clear q4 hu4 hp4 HG3 hp5
  go_wp2_with fail
  refine ht.mono ?_
  rintro e w5 ⟨rfl, q5, hu5⟩
  have HG5 : Hid (Grow w w5) := by
    obtain ⟨g, hb, hp⟩ := HG4.out
    exact UpdS.new g hu5 (fun i hi => hi.elim (hp i) (fun e => by omega))
  clear q5 hu5 HG4 ht
  go_wp2
  go_ret
  exact ⟨rfl, HG5.out⟩
end Go.Proofs.Ytmnaadbemlecpaa
