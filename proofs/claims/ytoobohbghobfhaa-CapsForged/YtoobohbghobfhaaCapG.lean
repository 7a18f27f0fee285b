/-
  The walks of good, Rights, Check. Conditions: each theorem's own.
-/
import Derived.Test.YtoobohbghobfhaaCap
import Derived.Deep.CutRange
namespace Go.Proofs.Ytoobohbghobfhaa
open Go.RowKit
set_option linter.unusedVariables false
set_option linter.unusedSimpArgs false

theorem eqs {a b : Int} (h : a = b) : (a == b) = true := by simp; omega
theorem neqs {a b : Int} (h : ¬ a = b) : (a == b) = false := by simp; omega

set_option maxHeartbeats 2000000 in
theorem good_out (b : Nat) (S : List Sl) (k n s g : Int) (w : World) (h : ¬ (0 ≤ s ∧ s < 8)) : Calls Try.prog 31 #[.pointer (some ⟨b, 0, none⟩), .agg #[.int .i64 s, .int .i64 g]] w fun e w' => e = .returned (.bool (goodB S ⟨s, g⟩)) ∧ Grow w w' := by
  have HE : Hid (goodB S ⟨s, g⟩ = false) := goodB_out h
  have g0 : Grow w (w.alloc (.cells #[.int .i64 s, .int .i64 g] 33)) := (Grow.refl w).alloc _
  by_cases h0 : s < 0
  · clear h
    go_enter Try.func31, Try.ntmps31
    go_wp2
    go_ret
    exact ⟨by rw [HE.out]; rfl, g0⟩
  · have h8 : 8 ≤ s := by omega
    clear h
    go_enter Try.func31, Try.ntmps31
    go_wp2
    go_ret
    exact ⟨by rw [HE.out]; rfl, g0⟩

set_option maxHeartbeats 4000000 in
theorem good_in (b : Nat) (S : List Sl) (k n : Int) (i : Nat) (g : Int) (w : World) (h : TbAt w b S k n) (hS : S.length = 8) (hi : i < 8) : Calls Try.prog 31 #[.pointer (some ⟨b, 0, none⟩), .agg #[.int .i64 i, .int .i64 g]] w fun e w' => e = .returned (.bool (goodB S ⟨i, g⟩)) ∧ Grow w w' := by
  have HE : Hid (goodB S ⟨i, g⟩ = hitS (S.getD i Sl.zero) ⟨i, g⟩) := goodB_in (S := S) (c := ⟨i, g⟩) (by show (0 : Int) ≤ i; omega) (by show (i : Int) < 8; omega)
  have h0 : ¬ (i : Int) < 0 := by omega
  have h8 : ¬ (8 : Int) ≤ (i : Int) := by omega
  have h8' : (i : Int) < 8 := by omega
  obtain ⟨⟨c0, c1, c2⟩, -⟩ := h.sl hS hi
  have hbl := h.lt
  clear h
  generalize S.getD i Sl.zero = x at HE c0 c1 c2
  obtain ⟨xs, xg, xr⟩ := x
  simp only at c0 c1 c2
  go_enter Try.func31, Try.ntmps31
  go_wp2
  go_region
  all_goals
    have HV : Hid (VarAt ((w.alloc (.cells #[.int .i64 (i : Int), .int .i64 g] 33)).alloc (.cells #[.int .i64 xs, .int .i64 xg, .int .i64 xr] 68)).drew w.heap.size [.int .i64 (i : Int), .int .i64 g] ∧ VarAt ((w.alloc (.cells #[.int .i64 (i : Int), .int .i64 g] 33)).alloc (.cells #[.int .i64 xs, .int .i64 xg, .int .i64 xr] 68)).drew (w.heap.size + 1) [.int .i64 xs, .int .i64 xg, .int .i64 xr] ∧ Grow w ((w.alloc (.cells #[.int .i64 (i : Int), .int .i64 g] 33)).alloc (.cells #[.int .i64 xs, .int .i64 xg, .int .i64 xr] 68)).drew) :=
      ⟨((VarAt.new w [.int .i64 (i : Int), .int .i64 g] _).old _).grow (Grow.refl _).drew, (VarAt.new2 w _ [.int .i64 xs, .int .i64 xg, .int .i64 xr] _).grow (Grow.refl _).drew, (((Grow.refl w).alloc _).alloc _).drew⟩
    generalize ((w.alloc (.cells #[.int .i64 (i : Int), .int .i64 g] 33)).alloc (.cells #[.int .i64 xs, .int .i64 xg, .int .i64 xr] 68)).drew = W1 at HV ⊢
    obtain ⟨b2, hb2⟩ : ∃ b2, b2 = w.heap.size + 1 := ⟨_, rfl⟩
    obtain ⟨b1, hb1⟩ : ∃ b1, b1 = w.heap.size := ⟨_, rfl⟩
    rw [← hb2, ← hb1] at HV ⊢
    clear hb1 hb2 c0 c1 c2 hbl
    obtain ⟨⟨n0, n1, n2⟩, -⟩ := HV.out.2.1.three
    go_wp2_with fail
    refine (empty_any ⟨xs, xg, xr⟩ W1).mono ?_
    rintro e w2 ⟨rfl, g2⟩
    clear n0 n1 n2
    obtain ⟨⟨m0, m1⟩, -⟩ := (HV.out.1.grow g2).two
    obtain ⟨⟨n0, n1, n2⟩, -⟩ := (HV.out.2.1.grow g2).three
    have HX : Hid (Grow w w2) := HV.out.2.2.trans g2
    clear HV g2
    cases hem : (⟨xs, xg, xr⟩ : Sl).emp
    · by_cases hs : xs = (i : Int)
      · by_cases hg : xg = g
        · have e0 := eqs hs
          have e1 := eqs hg
          have HF : Hid (goodB S ⟨i, g⟩ = true) := by
            have := HE.out
            rw [hitS, hem] at this
            show goodB S ⟨i, g⟩ = true
            rw [this]
            simp [Sl.cp, Cp.is, hs, hg]
          clear hs hg hem HE
          go_wp2
          go_ret
          exact ⟨ret_bool HF.out.symm, HX.out⟩
        · have e0 := eqs hs
          have e1 := neqs hg
          have HF : Hid (goodB S ⟨i, g⟩ = false) := by
            have := HE.out
            rw [hitS, hem] at this
            show goodB S ⟨i, g⟩ = false
            rw [this]
            simp [Sl.cp, Cp.is, hg]
          clear hs hg hem HE
          go_wp2
          go_ret
          exact ⟨ret_bool HF.out.symm, HX.out⟩
      · have e0 := neqs hs
        have HF : Hid (goodB S ⟨i, g⟩ = false) := by
          have := HE.out
          rw [hitS, hem] at this
          show goodB S ⟨i, g⟩ = false
          rw [this]
          simp [Sl.cp, Cp.is, hs]
        clear hs hem HE
        go_wp2
        go_ret
        exact ⟨ret_bool HF.out.symm, HX.out⟩
    · have HF : Hid (goodB S ⟨i, g⟩ = false) := by
        have := HE.out
        rw [hitS, hem] at this
        exact this
      clear hem HE
      go_wp2
      go_ret
      exact ⟨ret_bool HF.out.symm, HX.out⟩
theorem good_any (b : Nat) (S : List Sl) (k n : Int) (c : Cp) (w : World) (h : TbAt w b S k n) (hS : S.length = 8) : Calls Try.prog 31 #[.pointer (some ⟨b, 0, none⟩), .agg #[.int .i64 c.s, .int .i64 c.g]] w fun e w' => e = .returned (.bool (goodB S c)) ∧ Grow w w' := by
  obtain ⟨s, g⟩ := c
  by_cases hs : 0 ≤ s ∧ s < 8
  · obtain ⟨i, rfl⟩ := Int.eq_ofNat_of_zero_le hs.1
    exact good_in b S k n i g w h hS (by omega)
  · exact good_out b S k n s g w hs

/-- what Rights tells -/
def rgtS (S : List Sl) (c : Cp) : Nat := if goodB S c then (atS S c).r else 0
set_option maxHeartbeats 2000000 in
theorem rights_any (b : Nat) (S : List Sl) (k n : Int) (c : Cp) (w : World) (h : TbAt w b S k n) (hS : S.length = 8) : Calls Try.prog 16 #[.pointer (some ⟨b, 0, none⟩), .agg #[.int .i64 c.s, .int .i64 c.g]] w fun e w' => e = .returned (.tuple #[.int .i64 (rgtS S c), .int .i64 (if goodB S c then 0 else 10)]) ∧ Grow w w' := by
  obtain ⟨W0, hW0⟩ : ∃ W0, W0 = w.alloc (.cells #[.int .i64 c.s, .int .i64 c.g] 33) := ⟨_, rfl⟩
  have g0 : Grow w W0 := by rw [hW0]; exact (Grow.refl w).alloc _
  have hV : VarAt W0 w.heap.size [.int .i64 c.s, .int .i64 c.g] := by rw [hW0]; exact VarAt.new w [.int .i64 c.s, .int .i64 c.g] 33
  have HX : Hid (TbAt W0 b S k n ∧ VarAt W0 w.heap.size [.int .i64 c.s, .int .i64 c.g] ∧ Grow w W0) := ⟨h.grow g0, hV, g0⟩
  have hgo := good_any b S k n c W0 (h.grow g0) hS
  obtain ⟨b1, hb1⟩ : ∃ b1, b1 = w.heap.size := ⟨_, rfl⟩
  rw [← hb1] at HX
  clear hV g0 h
  cases hg : goodB S c
  · rw [hg] at hgo
    have HR : Hid (rgtS S c = 0) := by show rgtS S c = 0; unfold rgtS; rw [hg]; rfl
    go_enter Try.func16, Try.ntmps16
    go_upto_region 1 with fail
    rw [← hW0, ← hb1]
    clear hW0 hb1 hg
    obtain ⟨⟨m0, m1⟩, -⟩ := HX.out.2.1.two
    go_wp2_with fail
    refine hgo.mono ?_
    rintro e w2 ⟨rfl, g2⟩
    clear hgo
    go_wp2
    go_ret2
    exact ⟨by rw [HR.out]; rfl, HX.out.2.2.trans g2⟩
  · obtain ⟨i0, i8, -, -⟩ := goodB_yes hg
    rw [hg] at hgo
    obtain ⟨s, g⟩ := c
    simp only at i0 i8
    obtain ⟨i, rfl⟩ := Int.eq_ofNat_of_zero_le i0
    have hi : i < 8 := by omega
    have HR : Hid (rgtS S ⟨i, g⟩ = (S.getD i Sl.zero).r) := by show rgtS S ⟨i, g⟩ = _; unfold rgtS; rw [hg]; rfl
    have HI : Hid (i < 8) := hi
    clear i0
    go_enter Try.func16, Try.ntmps16
    go_upto_region 1 with fail
    rw [← hW0, ← hb1]
    clear hW0 hb1 hg hi
    obtain ⟨⟨m0, m1⟩, -⟩ := HX.out.2.1.two
    go_wp2_with fail
    refine hgo.mono ?_
    rintro e w2 ⟨rfl, g2⟩
    clear hgo m0 m1
    obtain ⟨⟨m0, m1⟩, -⟩ := (HX.out.2.1.grow g2).two
    obtain ⟨⟨c0, c1, c2⟩, -⟩ := (HX.out.1.grow g2).sl hS HI.out
    have HG : Hid (Grow w w2) := HX.out.2.2.trans g2
    clear g2 HX
    go_wp2
    go_region
    all_goals
      go_wp2
      go_ret2
      exact ⟨by rw [HR.out]; rfl, HG.out.drew⟩

set_option maxHeartbeats 2000000 in
theorem check_any (b : Nat) (S : List Sl) (k n : Int) (c : Cp) (need : Nat) (w : World) (h : TbAt w b S k n) (hO : TbOk S k n) (hn : need < 16) : Calls Try.prog 18 #[.pointer (some ⟨b, 0, none⟩), .agg #[.int .i64 c.s, .int .i64 c.g], .int .i64 need] w fun e w' => e = .returned (.int .i64 (chkS S c need)) ∧ Grow w w' := by
  obtain ⟨W0, hW0⟩ : ∃ W0, W0 = w.alloc (.cells #[.int .i64 c.s, .int .i64 c.g] 33) := ⟨_, rfl⟩
  have g0 : Grow w W0 := by rw [hW0]; exact (Grow.refl w).alloc _
  have hV : VarAt W0 w.heap.size [.int .i64 c.s, .int .i64 c.g] := by rw [hW0]; exact VarAt.new w [.int .i64 c.s, .int .i64 c.g] 33
  have HX : Hid (VarAt W0 w.heap.size [.int .i64 c.s, .int .i64 c.g] ∧ Grow w W0) := ⟨hV, g0⟩
  have hgo := rights_any b S k n c W0 (h.grow g0) hO.len
  obtain ⟨b1, hb1⟩ : ∃ b1, b1 = w.heap.size := ⟨_, rfl⟩
  rw [← hb1] at HX
  clear hV g0 h
  cases hg : goodB S c
  · rw [hg] at hgo
    have HR : Hid (chkS S c need = 10) := chkS_bad need hg
    generalize rgtS S c = r at hgo
    go_enter Try.func18, Try.ntmps18
    go_upto_region 1 with fail
    rw [← hW0, ← hb1]
    clear hW0 hb1 hg hn
    obtain ⟨⟨m0, m1⟩, -⟩ := HX.out.1.two
    go_wp2_with fail
    refine hgo.mono ?_
    rintro e w2 ⟨rfl, g2⟩
    clear hgo
    go_wp2
    go_ret
    exact ⟨ret_int HR.out.symm, HX.out.2.trans g2⟩
  · have er : rgtS S c = (atS S c).r := by unfold rgtS; rw [hg]; rfl
    have hr := hO.rlt c
    have hh := fun u => has_any (atS S c).r need u hr hn
    have HR : Hid (chkS S c need = if hasB (atS S c).r need then 0 else 11) := by show chkS S c need = _; unfold chkS; rw [hg]; rfl
    rw [hg, er] at hgo
    clear er hr hn
    generalize (atS S c).r = r at hgo hh HR
    cases hb : hasB r need
    · rw [hb] at hh HR
      go_enter Try.func18, Try.ntmps18
      go_upto_region 1 with fail
      rw [← hW0, ← hb1]
      clear hW0 hb1 hg hb
      obtain ⟨⟨m0, m1⟩, -⟩ := HX.out.1.two
      go_wp2_with fail
      refine hgo.mono ?_
      rintro e w2 ⟨rfl, g2⟩
      clear hgo
      go_wp2_with fail
      refine (hh w2).mono ?_
      rintro e w3 ⟨rfl, rfl⟩
      go_wp2
      go_ret
      exact ⟨ret_int HR.out.symm, HX.out.2.trans g2⟩
    · rw [hb] at hh HR
      go_enter Try.func18, Try.ntmps18
      go_upto_region 1 with fail
      rw [← hW0, ← hb1]
      clear hW0 hb1 hg hb
      obtain ⟨⟨m0, m1⟩, -⟩ := HX.out.1.two
      go_wp2_with fail
      refine hgo.mono ?_
      rintro e w2 ⟨rfl, g2⟩
      clear hgo
      go_wp2_with fail
      refine (hh w2).mono ?_
      rintro e w3 ⟨rfl, rfl⟩
      go_wp2
      go_ret
      exact ⟨ret_int HR.out.symm, HX.out.2.trans g2⟩
end Go.Proofs.Ytoobohbghobfhaa
