/-
  The walks of cell's Get and Put. Conditions: each theorem's own.
-/
import Derived.Test.YtcmehefaceaioaaCel
namespace Go.Proofs.Ytcmehefaceaioaa
open Go.RowKit
set_option linter.unusedVariables false
set_option linter.unusedSimpArgs false

set_option maxHeartbeats 1000000 in
theorem get_no (a : Option Addr) (l c : Nat) (off n E : Int) (w : World) (hlm : l ≤ maxLen) (ho : (Lit.int .i64 off).wf = true) (hn : (Lit.int .i64 n).wf = true) (hE : fitE l off n = E) (hE0 : E = 2 ∨ E = 4) :
    Calls Try.prog 32 #[.slice a l c, .int .i64 off, .int .i64 n] w fun e w' => e = .returned (.tuple #[.slice none 0 0, .int .i64 E]) ∧ w = w' := by
  have hf := fits_any a l c off n w hlm ho hn
  rw [hE] at hf
  clear hE hlm ho hn
  rcases hE0 with rfl | rfl
  · go_enter Try.func32, Try.ntmps32
    go_wp2_with fail
    refine hf.mono ?_
    rintro e w1 ⟨rfl, rfl⟩
    go_wp2
    go_ret2
    exact ⟨rfl, rfl⟩
  · go_enter Try.func32, Try.ntmps32
    go_wp2_with fail
    refine hf.mono ?_
    rintro e w1 ⟨rfl, rfl⟩
    go_wp2
    go_ret2
    exact ⟨rfl, rfl⟩

set_option maxHeartbeats 1000000 in
theorem get_yes (a : Option Addr) (c : Nat) (zs : List Int) (o m : Nat) (B : Nat) (w : World) (h : Rd .u8 B w (.slice a 32 c) zs) (hom : o + m ≤ 32) :
    Calls Try.prog 32 #[.slice a 32 c, .int .i64 (o : Int), .int .i64 (m : Int)] w fun e w' => ∃ v', e = .returned (.tuple #[v', .int .i64 0]) ∧ Own .u8 w.heap.size w' v' ((zs.drop o).take m) ∧ Grow w w' := by
  have hcap := h.caps
  have hf := fits_any a 32 c o m w (by simp only [maxLen]; omega) (wfI (by omega)) (wfI (by omega))
  rw [fitE_ok (by omega)] at hf
  have hs : Rd .u8 B w (.slice (if c = o then a else a.map (·.add o)) m (c - o)) ((zs.drop o).take m) := by
    have := (h.take (o + m) (by omega)).drop o (by rw [List.length_take]; omega)
    rw [Nat.add_sub_cancel_left, List.drop_take, Nat.add_sub_cancel_left] at this
    exact this
  have hown := cown_any _ _ _ _ hs (by rw [List.length_take]; omega)
  have hc32 : 32 ≤ c := by omega
  have hcm : c ≤ maxLen := by omega
  unfold maxLen at hcm
  clear hcap hs h
  generalize (zs.drop o).take m = ys at hown
  by_cases hco : c = o
  · obtain rfl : o = 32 := by omega
    obtain rfl : c = 32 := by omega
    obtain rfl : m = 0 := by omega
    rw [if_pos rfl] at hown
    clear hco hom hc32 hcm
    go_enter Try.func32, Try.ntmps32
    go_wp2_with fail
    refine hf.mono ?_
    rintro e w1 ⟨rfl, rfl⟩
    go_wp2_with fail
    refine hown.mono ?_
    rintro e w1 ⟨v1, rfl, ho1, hb1⟩
    go_wp2
    go_ret2
    exact ⟨_, rfl, ho1, hb1⟩
  · rw [if_neg hco] at hown
    go_enter Try.func32, Try.ntmps32
    go_wp2_with fail
    refine hf.mono ?_
    rintro e w1 ⟨rfl, rfl⟩
    go_wp2_with fail
    refine hown.mono ?_
    rintro e w1 ⟨v1, rfl, ho1, hb1⟩
    go_wp2
    go_ret2
    exact ⟨_, rfl, ho1, hb1⟩

/-- Get, of whatever page, place and number -/
theorem get_any (v : Value) (zs : List Int) (off n : Int) (B : Nat) (w : World) (h : Rd .u8 B w v zs) (ho : (Lit.int .i64 off).wf = true) (hn : (Lit.int .i64 n).wf = true) :
    Calls Try.prog 32 #[v, .int .i64 off, .int .i64 n] w fun e w' => ∃ v', e = .returned (.tuple #[v', .int .i64 (got zs off n).2]) ∧ Own .u8 w.heap.size w' v' (got zs off n).1 ∧ Grow w w' := by
  have h' := h
  obtain ⟨a, c, rfl, h1, h2, -⟩ := h
  rcases fitE_cases zs.length off n with ⟨_, hE⟩ | ⟨_, _, hE⟩ | ⟨hl, h3, h4, h5, hE⟩
  · have e : got zs off n = ([], 2) := by unfold got; rw [hE]; rfl
    refine (get_no a _ c off n 2 w (by omega) ho hn hE (.inl rfl)).mono ?_
    rintro _ _ ⟨rfl, rfl⟩
    rw [e]
    exact ⟨_, rfl, Own.nil _ _ _ _, Grow.refl _⟩
  · have e : got zs off n = ([], 4) := by unfold got; rw [hE]; rfl
    refine (get_no a _ c off n 4 w (by omega) ho hn hE (.inr rfl)).mono ?_
    rintro _ _ ⟨rfl, rfl⟩
    rw [e]
    exact ⟨_, rfl, Own.nil _ _ _ _, Grow.refl _⟩
  · obtain ⟨o, rfl⟩ := Int.eq_ofNat_of_zero_le h3
    obtain ⟨m, rfl⟩ := Int.eq_ofNat_of_zero_le h4
    have e : got zs o m = ((zs.drop o).take m, 0) := by unfold got; rw [if_pos hE]; rfl
    rw [e]
    rw [hl] at h' ⊢
    exact get_yes a c zs o m B w h' (by omega)

set_option maxHeartbeats 1000000 in
theorem put_no (a x : Option Addr) (l c m xc : Nat) (off E : Int) (w : World) (hlm : l ≤ maxLen) (hmm : m ≤ maxLen) (ho : (Lit.int .i64 off).wf = true) (hE : fitE l off m = E) (hE0 : E = 2 ∨ E = 4) :
    Calls Try.prog 33 #[.slice a l c, .int .i64 off, .slice x m xc] w fun e w' => e = .returned (.tuple #[.slice none 0 0, .int .i64 E]) ∧ w = w' := by
  unfold maxLen at hmm
  have hf := fits_any a l c off m w hlm ho (wfI (by omega))
  rw [hE] at hf
  clear hE hlm ho
  rcases hE0 with rfl | rfl
  · go_enter Try.func33, Try.ntmps33
    go_wp2_with fail
    refine hf.mono ?_
    rintro e w1 ⟨rfl, rfl⟩
    go_wp2
    go_ret2
    exact ⟨rfl, rfl⟩
  · go_enter Try.func33, Try.ntmps33
    go_wp2_with fail
    refine hf.mono ?_
    rintro e w1 ⟨rfl, rfl⟩
    go_wp2
    go_ret2
    exact ⟨rfl, rfl⟩

set_option maxHeartbeats 1000000 in
theorem put_yes (a x : Option Addr) (c m xc : Nat) (zs ys : List Int) (o : Nat) (B C : Nat) (w : World) (h : Rd .u8 B w (.slice a 32 c) zs) (hy : Rd .u8 C w (.slice x m xc) ys) (hom : o + m ≤ 32) :
    Calls Try.prog 33 #[.slice a 32 c, .int .i64 (o : Int), .slice x m xc] w fun e w' => ∃ v', e = .returned (.tuple #[v', .int .i64 0]) ∧ Own .u8 w.heap.size w' v' (midL zs o ys) ∧ Grow w w' := by
  obtain ⟨i0, hi, hz0, hz1, hz2⟩ := info_parts Try.info5
  have hcap := h.caps
  have hcay := hy.caps
  have hf := fits_any a 32 c o m w (by simp only [maxLen]; omega) (wfI (by omega)) (wfI (by omega))
  rw [fitE_ok (by omega)] at hf
  have hown := cown_any _ _ _ _ h (by omega)
  have hlz : zs.length = 32 := by omega
  have hly : ys.length = m := by omega
  have hm : m ≤ 32 := by omega
  have HL : Hid (zs.length = 32 ∧ ys.length = m) := ⟨hlz, hly⟩
  replace hy := hy.size
  clear hcap hcay h hlz hly
  go_enter Try.func33, Try.ntmps33
  go_wp2_with fail
  refine hf.mono ?_
  rintro e w1 ⟨rfl, rfl⟩
  go_wp2_with fail
  refine hown.mono ?_
  rintro e w1 ⟨v1, rfl, ho1, hb1⟩
  have hO := ho1.v
  have hR := RdV.grow hy.v hb1
  obtain ⟨a1, c1, hv1⟩ := ho1.shape
  rw [HL.out.1] at hv1
  subst hv1
  obtain ⟨w2, hrun, ho2, hu2⟩ := run_copyMid (P := Try.prog) 35 35 3 5 Try.underlying35 (by rw [hi]; simp [hz1]) o hO hR (by have := HL.out; omega) (oneI .u8)
  rw [HL.out.2] at hrun
  have hcap1 := ho1.rd.caps
  have hc32 : 32 ≤ c1 := by omega
  have hcm : c1 ≤ maxLen := by omega
  unfold maxLen at hcm
  have HO : Hid (Own .u8 w.heap.size w2 (.slice a1 32 c1) (midL zs o ys) ∧ Grow w w2) := ⟨ho2.i (fun i hi => hi), UpdS.new hb1 hu2 (fun i hi => hi)⟩
  clear hcap1 ho1 hO hR ho2 hu2 hown hf hb1
  by_cases hco : c1 = o
  · obtain rfl : o = 32 := by omega
    obtain rfl : c1 = 32 := by omega
    rw [if_pos rfl] at hrun
    clear hco hom hc32 hcm
    go_wp2
    go_ret2
    exact ⟨_, rfl, HO.out.1, HO.out.2⟩
  · rw [if_neg hco] at hrun
    go_wp2
    go_ret2
    exact ⟨_, rfl, HO.out.1, HO.out.2⟩

/-- Put, of whatever page, place and bytes -/
theorem putp_any (v vy : Value) (zs ys : List Int) (off : Int) (B C : Nat) (w : World) (h : Rd .u8 B w v zs) (hy : Rd .u8 C w vy ys) (ho : (Lit.int .i64 off).wf = true) :
    Calls Try.prog 33 #[v, .int .i64 off, vy] w fun e w' => ∃ v', e = .returned (.tuple #[v', .int .i64 (putted zs off ys).2]) ∧ Own .u8 w.heap.size w' v' (putted zs off ys).1 ∧ Grow w w' := by
  have h' := h
  have hy' := hy
  obtain ⟨a, c, rfl, h1, h2, -⟩ := h
  obtain ⟨x, xc, rfl, y1, y2, -⟩ := hy
  rcases fitE_cases zs.length off ys.length with ⟨_, hE⟩ | ⟨_, _, hE⟩ | ⟨hl, h3, h4, h5, hE⟩
  · have e : putted zs off ys = ([], 2) := by unfold putted; rw [hE]; rfl
    refine (put_no a x _ c _ xc off 2 w (by omega) (by omega) ho hE (.inl rfl)).mono ?_
    rintro _ _ ⟨rfl, rfl⟩
    rw [e]
    exact ⟨_, rfl, Own.nil _ _ _ _, Grow.refl _⟩
  · have e : putted zs off ys = ([], 4) := by unfold putted; rw [hE]; rfl
    refine (put_no a x _ c _ xc off 4 w (by omega) (by omega) ho hE (.inr rfl)).mono ?_
    rintro _ _ ⟨rfl, rfl⟩
    rw [e]
    exact ⟨_, rfl, Own.nil _ _ _ _, Grow.refl _⟩
  · obtain ⟨o, rfl⟩ := Int.eq_ofNat_of_zero_le h3
    have e : putted zs o ys = (midL zs o ys, 0) := by unfold putted; rw [if_pos hE]; rfl
    rw [e]
    rw [hl] at h' ⊢
    exact put_yes a x c _ xc zs ys o B C w h' hy' (by omega)
end Go.Proofs.Ytcmehefaceaioaa
