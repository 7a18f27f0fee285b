/-
  The walks of a frame's Load, Bytes, Get, Put. Conditions: each theorem's own.
-/
import Derived.Test.YtgpigllimoafaaaFraB
import Derived.Test.YtgpigllimoafaaaCelA
import Derived.Lib.SmallJoins
namespace Go.Proofs.Ytgpigllimoafaaa
open Go.RowKit
set_option linter.unusedVariables false
set_option linter.unusedSimpArgs false

set_option maxHeartbeats 1000000 in
theorem clone_some (w : World) (a : Addr) (n c : Nat) (s : Nat → Prop) (zs : List Int) (h : RdV (Value.int .u8) 0 s w (.slice (some a) n c) zs) (hl : zs.length ≤ 1000000) :
    Calls Try.prog 56 #[.slice (some a) n c] w fun e w' => ∃ v', e = .returned v' ∧ OwnV (Value.int .u8) 0 (fun i => w.heap.size ≤ i) w' v' zs ∧ Grow w w' := by
  obtain ⟨i0, hi, hz0, hz1, hz2⟩ := info_parts Try.info5
  have hsrc : ∀ o, Src Try.prog 1 42 (.slice (some a) n c) zs.length (zs.map (Value.int .u8)) (w.alloc o) := fun o => (h.grow ((Grow.refl w).alloc o)).src (P := Try.prog) (oneI .u8) Try.underlying42
  have hq := fun w => Lib.run_eql_slice_nil (P := Try.prog) w 42 5 (some a) n c 0 0 Try.underlying42
  simp only [Option.isNone_some] at hq
  clear h
  go_enter Try.func56, Try.ntmps56
  go_wp2_with (at_builtin; refine wpList_appV (f := Value.int .u8) (d := 0) (p := fun i => i = w.heap.size) rfl (.tmp 5) (.tmp 6) 42 42 rfl i0 (.int .u8 0) 1 Try.underlying42 hi hz0 hz1 hz2 rfl rfl rfl (OwnV.nil _ _ _ _ _) (hsrc _) (by simp only [maxLen, List.length_nil]; omega) (by simp only [List.length_nil]; omega) ?_)
  intro v1 w1 ho1 hu1
  have HO : Hid (OwnV (Value.int .u8) 0 (fun i => w.heap.size ≤ i) w1 v1 zs ∧ Grow w w1) := ⟨OwnV.mono ho1 (fun i _ hi => by omega), UpdS.new ((Grow.refl w).alloc _) hu1 (fun i hi => by omega)⟩
  clear ho1 hu1 hsrc hq
  go_wp2
  go_ret
  exact ⟨_, rfl, HO.out.1, HO.out.2⟩

set_option maxHeartbeats 1000000 in
theorem load_no (w : World) (b : Nat) (pg : Int) (a : Option Addr) (n c : Nat) (hn : n ≠ 32) (hm : n ≤ maxLen) : Calls Try.prog 42 #[.pointer (some ⟨b, 0, none⟩), .int .i64 pg, .slice a n c] w fun e w' => e = .returned (.int .i64 2) ∧ w = w' := by
  have hn' : ¬ (n : Int) = 32 := by omega
  unfold maxLen at hm
  clear hn
  go_enter Try.func42, Try.ntmps42
  go_wp2
  go_ret
  exact ⟨rfl, rfl⟩


set_option maxHeartbeats 1000000 in
theorem load_yes (w : World) (b : Nat) (u d r : Bool) (p q : Int) (bs : List Int) (h : FrAt w b u d r p q bs) (pg : Int) (a : Option Addr) (c : Nat) (ys : List Int) (hy : RdV (Value.int .u8) 0 (fun i => i ≠ b) w (.slice a 32 c) ys) :
    Calls Try.prog 42 #[.pointer (some ⟨b, 0, none⟩), .int .i64 pg, .slice a 32 c] w fun e w' => e = .returned (.int .i64 0) ∧ FrAt w' b true false false 0 pg ys ∧ UpdS (fun i => i = b) w w' := by
  have hz := zero_any w b u d r p q bs h
  have HY : Hid (RdV (Value.int .u8) 0 (fun i => i ≠ b) w (.slice a 32 c) ys) := hy
  have hcap := hy.caps
  have hc32 : 32 ≤ c := hcap.2.1
  have hcm : c ≤ 9223372036854775807 := hcap.2.2
  have HL : Hid (ys.length = 32) := hcap.1.symm
  clear h hy hcap
  go_enter Try.func42, Try.ntmps42
  go_wp2_with fail
  refine hz.mono ?_
  rintro e w1 ⟨rfl, hF1, hu1⟩
  have hF2 := (hF1.setU true).setQ pg
  have hu2 : UpdS (fun i => i = b) w ((w1.setCell ⟨b, 0, none⟩ (.bool true)).setCell ⟨b, 4, none⟩ (.int .i64 pg)) := (hu1.trans (upd_one w1 b 0 _)).trans (upd_one _ b 4 _)
  obtain ⟨w3, hrun, hF3, hu3⟩ := run_copyF hF2 (HY.out.upd hu2 (fun i _ hi => hi)) HL.out
  obtain ⟨⟨c0, -, -, -, c4⟩, f0, -, -, -, f4⟩ := hF1.five
  have HF : Hid (FrAt w3 b true false false 0 pg ys ∧ UpdS (fun i => i = b) w w3) := ⟨hF3, hu2.trans hu3⟩
  clear hF1 hF2 hF3 hu1 hu2 hu3 hz
  go_wp2
  go_ret
  exact ⟨rfl, HF.out⟩

set_option maxHeartbeats 1000000 in
theorem bytes_any (w : World) (b : Nat) (u d r : Bool) (p q : Int) (bs : List Int) (h : FrAt w b u d r p q bs) : Calls Try.prog 49 #[.pointer (some ⟨b, 0, none⟩)] w fun e w' => ∃ v', e = .returned v' ∧ OwnV (Value.int .u8) 0 (fun i => w.heap.size ≤ i) w' v' bs ∧ Grow w w' := by
  have hc := clone_some w ⟨b, 5, none⟩ 32 32 _ bs h.2.rd (by rw [h.len]; omega)
  clear h
  go_enter Try.func49, Try.ntmps49
  go_wp2_with fail
  refine hc.mono ?_
  rintro e w1 ⟨v1, rfl, ho1, hg1⟩
  have HO : Hid (OwnV (Value.int .u8) 0 (fun i => w.heap.size ≤ i) w1 v1 bs ∧ Grow w w1) := ⟨ho1, hg1⟩
  clear ho1 hg1 hc
  go_wp2
  go_ret
  exact ⟨_, rfl, HO.out⟩

set_option maxHeartbeats 1000000 in
theorem fput_free (w : World) (b : Nat) (u d r : Bool) (p q : Int) (bs : List Int) (h : FrAt w b u d r p q bs) (off : Int) (v : Value) (hp : p ≤ 0) : Calls Try.prog 45 #[.pointer (some ⟨b, 0, none⟩), .int .i64 off, v] w fun e w' => e = .returned (.int .i64 6) ∧ w = w' := by
  have hf := free_any w b u d r p q bs h
  rw [decide_eq_true hp] at hf
  clear h
  go_enter Try.func45, Try.ntmps45
  go_wp2_with fail
  refine hf.mono ?_
  rintro e w1 ⟨rfl, rfl⟩
  go_wp2
  go_ret
  exact ⟨rfl, rfl⟩

set_option maxHeartbeats 1000000 in
theorem fput_err (w : World) (b : Nat) (u d r : Bool) (p q : Int) (bs : List Int) (h : FrAt w b u d r p q bs) (off E : Int) (v : Value) (ys : List Int) (s : Nat → Prop) (hy : RdV (Value.int .u8) 0 s w v ys) (hp : 0 < p) (ho : (Lit.int .i64 off).wf = true) (hE : (putted bs off ys).2 = E) (hE0 : E ≠ 0) : Calls Try.prog 45 #[.pointer (some ⟨b, 0, none⟩), .int .i64 off, v] w fun e w' => e = .returned (.int .i64 E) ∧ Grow w w' := by
  have hf := free_any w b u d r p q bs h
  rw [decide_eq_false (by omega)] at hf
  have hg := putp_any _ v bs ys off _ _ w h.2.rd.i hy.i ho
  rw [hE] at hg
  generalize (putted bs off ys).1 = Z at hg
  clear h hE hy
  go_enter Try.func45, Try.ntmps45
  go_wp2_with fail
  refine hf.mono ?_
  rintro e w1 ⟨rfl, rfl⟩
  go_wp2_with fail
  refine hg.mono ?_
  rintro e w1 ⟨v1, rfl, -, hg1⟩
  go_wp2
  go_ret
  exact ⟨rfl, hg1⟩

set_option maxHeartbeats 1000000 in
theorem fput_yes (w : World) (b : Nat) (u d r : Bool) (p q : Int) (bs : List Int) (h : FrAt w b u d r p q bs) (off : Int) (v : Value) (ys : List Int) (s : Nat → Prop) (Z : List Int) (hy : RdV (Value.int .u8) 0 s w v ys) (hp : 0 < p) (ho : (Lit.int .i64 off).wf = true) (hE : putted bs off ys = (Z, 0)) (hZ : Z.length = 32) : Calls Try.prog 45 #[.pointer (some ⟨b, 0, none⟩), .int .i64 off, v] w fun e w' => e = .returned (.int .i64 0) ∧ FrAt w' b u true true p q Z ∧ UpdS (fun i => i = b) w w' := by
  have hf := free_any w b u d r p q bs h
  rw [decide_eq_false (by omega)] at hf
  have hg := putp_any _ v bs ys off _ _ w h.2.rd.i hy.i ho
  rw [hE] at hg
  have H : Hid (FrAt w b u d r p q bs ∧ Z.length = 32) := ⟨h, hZ⟩
  clear h hE hy hZ
  go_enter Try.func45, Try.ntmps45
  go_wp2_with fail
  refine hf.mono ?_
  rintro e w1 ⟨rfl, rfl⟩
  go_wp2_with fail
  refine hg.mono ?_
  rintro e w1 ⟨v1, rfl, ho1, hg1⟩
  obtain ⟨a1, c1, hv1⟩ := ho1.shape
  rw [H.out.2] at hv1
  subst hv1
  obtain ⟨w2, hrun, hF2, hu2⟩ := run_copyF (H.out.1.grow hg1) ho1.v.rd H.out.2
  have HF : Hid (FrAt ((w2.setCell ⟨b, 2, none⟩ (.bool true)).setCell ⟨b, 1, none⟩ (.bool true)) b u true true p q Z ∧ UpdS (fun i => i = b) w ((w2.setCell ⟨b, 2, none⟩ (.bool true)).setCell ⟨b, 1, none⟩ (.bool true))) :=
    ⟨(hF2.setR true).setD true, ((UpdS.trans hg1.s hu2).trans (upd_one w2 b 2 _)).trans (upd_one _ b 1 _)⟩
  obtain ⟨⟨-, c1', c2', -, -⟩, -, f1, f2, -, -⟩ := hF2.five
  clear ho1 hg1 hF2 hu2 hg hf
  go_wp2
  go_ret
  exact ⟨rfl, HF.out⟩
end Go.Proofs.Ytgpigllimoafaaa
