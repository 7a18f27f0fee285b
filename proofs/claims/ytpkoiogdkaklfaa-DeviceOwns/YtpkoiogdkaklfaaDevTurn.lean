/-
  The walks of the device's Turn and New. Conditions: each theorem's own.
-/
import Derived.Test.YtpkoiogdkaklfaaDevWr
import Derived.Deep.LoopGhost
namespace Go.Proofs.Ytpkoiogdkaklfaa
open Go.RowKit
set_option linter.unusedVariables false
set_option linter.unusedSimpArgs false

/-- what is wrong with a Turn -/
def turnE (las : List (List Int)) (k pl : Int) : Int := if (0 ≤ k ∧ k < las.length) ∧ 0 ≤ pl ∧ pl < 20 then 0 else 4
/-- a cell, one byte of it changed -/
def turned (z : List Int) (pl : Nat) (y : Int) : List Int := z.set pl (bits .xor .u8 (z.getD pl 0) y)
/-- what becomes of it -/
def turnL (las : List (List Int)) (k pl y : Int) : List (List Int) := if turnE las k pl = 0 then las.set k.toNat (turned (las.getD k.toNat []) pl.toNat y) else las

theorem xor_bd {x y : Int} (hx : 0 ≤ x ∧ x < 256) (hy : 0 ≤ y ∧ y < 256) : 0 ≤ bits .xor .u8 x y ∧ bits .xor .u8 x y < 256 := by
  rw [u8_xor _ _ hx.1 hx.2 hy.1 hy.2]
  have := xor_lt8 (a := x.toNat) (b := y.toNat) (by omega) (by omega)
  omega
theorem turned_ok {z : List Int} (h : z.length = 20 ∧ Oct z) (pl : Nat) {y : Int} (hy : 0 ≤ y ∧ y < 256) : (turned z pl y).length = 20 ∧ Oct (turned z pl y) := by
  unfold turned
  have hb := xor_bd (h.2.getD pl) hy
  exact ⟨by rw [List.length_set]; exact h.1, h.2.set pl hb.1 hb.2⟩


set_option maxRecDepth 8000 in
set_option maxHeartbeats 2000000 in
theorem dturn_any (w : World) (p : Nat → Prop) (b bl bt s : Nat) (las lat : List (List Int)) (hd : List Int) (h : DevAt w p b bl bt s las lat hd) (k pl y : Int) (hk : (Lit.int .i64 k).wf = true) (hpl : (Lit.int .i64 pl).wf = true) (hy : 0 ≤ y ∧ y < 256) (hp : ∀ i, w.heap.size ≤ i → p i) :
    Calls Try.prog 27 #[.pointer (some ⟨b, 0, none⟩), .int .i64 k, .int .i64 pl, .int .u8 y] w fun e w' => e = .returned (.int .i64 (turnE las k pl)) ∧ DevAt w' p b bl bt s (turnL las k pl y) lat hd ∧ UpdS (fun i => i = bl) w w' := by
  have hc := dhas_any w p b bl bt s las lat hd h k hk
  have H : Hid (DevAt w p b bl bt s las lat hd) := h
  have ok := h.ok
  have hbd := h.lt
  obtain ⟨s', a, c, h1, h2, -⟩ := h
  obtain ⟨⟨c0, c1, c2⟩, -⟩ := h1.three
  by_cases hin : 0 ≤ k ∧ k < las.length
  · rw [decide_eq_true hin] at hc
    obtain ⟨i, rfl⟩ := Int.eq_ofNat_of_zero_le hin.1
    have hi : i < las.length := by omega
    obtain ⟨a1, n1, hall, hrd⟩ := h2.look_all Try.underlying3 Try.underlying62 zeroBS hk (lastF_in hi)
    have hZ := ok.2.1 i hi
    have hlk : (Instr.lookup 62 (.map (some bl)) (.int .i64 i) false).run Try.prog w = .ok (.slice a1 20 n1) w := by have := (hall w (Grow.refl w)).2; rwa [hZ.1] at this
    rw [hZ.1] at hrd
    by_cases hp0 : pl < 0
    · have E : Hid (turnE las i pl = 4 ∧ turnL las i pl y = las) := by
        have e : turnE las i pl = 4 := if_neg (by omega)
        exact ⟨e, by unfold turnL; rw [e]; rfl⟩
      rw [E.out.1, E.out.2]
      clear h1 h2 hin E c1 c2 hall hrd hZ ok hbd hi
      go_enter Try.func27, Try.ntmps27
      go_wp2_with fail
      refine hc.mono ?_
      rintro e w1 ⟨rfl, rfl⟩
      go_wp2
      go_ret
      exact ⟨rfl, H.out, UpdS.refl _ _⟩
    · by_cases hp1 : 20 ≤ pl
      · have E : Hid (turnE las i pl = 4 ∧ turnL las i pl y = las) := by
          have e : turnE las i pl = 4 := if_neg (by omega)
          exact ⟨e, by unfold turnL; rw [e]; rfl⟩
        rw [E.out.1, E.out.2]
        clear h1 h2 hin E c1 c2 hall hrd hZ ok hbd hi
        go_enter Try.func27, Try.ntmps27
        go_wp2_with fail
        refine hc.mono ?_
        rintro e w1 ⟨rfl, rfl⟩
        go_wp2
        go_ret
        exact ⟨rfl, H.out, UpdS.refl _ _⟩
      · obtain ⟨j, rfl⟩ := Int.eq_ofNat_of_zero_le (show 0 ≤ pl by omega)
        have E : Hid (turnE las i j = 0 ∧ turnL las i j y = las.set i (turned (las.getD i []) j y)) := by
          have e : turnE las i j = 0 := if_pos ⟨hin, by omega, by omega⟩
          exact ⟨e, by unfold turnL; rw [if_pos e]; rfl⟩
        rw [E.out.1, E.out.2]
        have hcl := clone_any _ _ _ w hrd.i (by omega)
        have HZ2 : Hid ((turned (las.getD i []) j y).length = 20 ∧ Oct (turned (las.getD i []) j y)) := turned_ok hZ j hy
        have HTd : Hid (turned (las.getD i []) j y = (las.getD i []).set j (bits .xor .u8 ((las.getD i []).getD j 0) y)) := rfl
        have hzl : (las.getD i []).length = 20 := hZ.1
        have HI : Hid (i < las.length ∧ las.length ≤ 1024) := ⟨hi, ok.2.2.2.2.2⟩
        generalize turned (las.getD i []) j y = T at HZ2 HTd
        generalize las.getD i [] = Z at hcl HTd hzl
        have HZL : Hid (Z.length = 20) := hzl
        clear hzl
        have hj20 : (j : Int) < 20 := by omega
        have HJ : Hid (j < 20) := by show j < 20; omega
        clear hp0 hp1
        have hp0 : ¬ (j : Int) < 0 := by omega
        have hp1 : ¬ 20 ≤ (j : Int) := by omega
        clear h2 hin E c1 c2 hall hrd hZ ok hi
        go_enter Try.func27, Try.ntmps27
        go_wp2_with fail
        refine hc.mono ?_
        rintro e w1 ⟨rfl, rfl⟩
        go_wp2_with fail
        refine hcl.mono ?_
        rintro e w1 ⟨v1, rfl, ho1, hb1⟩
        have HG : Hid (Grow w w1) := hb1
        obtain ⟨g, o, n, hv, hgb, hgl, hnc, hcm, hcell, hfz, hset⟩ := ho1.v.row (j := j) (by rw [HZL.out]; exact HJ.out)
        rw [HZL.out] at hv hnc
        unfold maxLen at hcm
        subst hv
        have hO := hset (bits .xor .u8 (Z.getD j 0) y)
        rw [← HTd.out] at hO
        have hbx := HTd.out
        obtain ⟨x, hx⟩ : ∃ x, bits .xor .u8 (Z.getD j 0) y = x := ⟨_, rfl⟩
        rw [hx] at hO
        have hset' : Hid (∀ q : Nat → Prop, True) := fun _ => trivial
        have HD2 : Hid (DevAt (w1.setCell ⟨g, o + j, none⟩ (.int .u8 x)) p b bl bt s las lat hd ∧ OwnV (Value.int .u8) 0 (fun i => w.heap.size ≤ i) (w1.setCell ⟨g, o + j, none⟩ (.int .u8 x)) (.slice (some ⟨g, o, none⟩) 20 n) T ∧ UpdS (fun i => i = bl) w (w1.setCell ⟨g, o + j, none⟩ (.int .u8 x))) := by
          have hgw : w.heap.size ≤ g := hgb
          have hu : UpdS (fun i => w.heap.size ≤ i) w (w1.setCell ⟨g, o + j, none⟩ (.int .u8 x)) := (Grow.s hb1).trans (UpdS.setCell _ ⟨g, o + j, none⟩ _ _ hgb)
          have hgg : Grow w (w1.setCell ⟨g, o + j, none⟩ (.int .u8 x)) := UpdS.new (Grow.refl w) hu (fun i hi => hi)
          exact ⟨H.out.grow hgg, hO, hgg.s⟩
        have c0' : (w1.setCell ⟨g, o + j, none⟩ (.int .u8 x)).cell? ⟨b, 0, none⟩ = some (.map (some bl)) := by
          obtain ⟨s2, a2, c2, k1, -⟩ := HD2.out.1
          exact k1.three.1.1
        obtain ⟨m2, hm2⟩ : ∃ w2, w1.setCell ⟨g, o + j, none⟩ (.int .u8 x) = w2 := ⟨_, rfl⟩
        rw [hm2] at HD2 c0'
        obtain ⟨s2, a2, c2, -, k2, -⟩ := HD2.out.1
        obtain ⟨w3, hrun, hm3, hu3, -⟩ := k2.put Try.underlying3 Try.underlying62 (by have := HI.out.2; omega) (k := i) (HD2.out.2.1.rd.mono (fun j _ hj => hp j hj)) hk
        rw [lastF_in HI.out.1] at hm3
        have HD3 : Hid (DevAt w3 p b bl bt s (las.set i T) lat hd ∧ UpdS (fun i => i = bl) w w3) := ⟨HD2.out.1.putLast HI.out.1 HZ2.out hu3 hm3, HD2.out.2.2.trans hu3⟩
        clear k2 hm3 hu3 hset hset' hO hbx ho1 hb1 HD2
        generalize Z.getD j 0 = z0 at hcell hx
        go_wp2
        go_ret
        exact ⟨rfl, HD3.out.1, HD3.out.2⟩
  · rw [decide_eq_false hin] at hc
    have E : Hid (turnE las k pl = 4 ∧ turnL las k pl y = las) := by
      have e : turnE las k pl = 4 := if_neg (fun hh => hin hh.1)
      exact ⟨e, by unfold turnL; rw [e]; rfl⟩
    rw [E.out.1, E.out.2]
    clear h1 h2 hin E c0 c1 c2 ok hbd
    go_enter Try.func27, Try.ntmps27
    go_wp2_with fail
    refine hc.mono ?_
    rintro e w1 ⟨rfl, rfl⟩
    go_wp2
    go_ret
    exact ⟨rfl, H.out, UpdS.refl _ _⟩
end Go.Proofs.Ytpkoiogdkaklfaa
