/-
  The walk of DeviceOwns. Conditions: the theorem's own.
-/
import Derived.Test.YtpkoiogdkaklfaaDevLive
import Derived.Test.YtpkoiogdkaklfaaDevCom
import Derived.Test.YtpkoiogdkaklfaaCelFill
namespace Go.Proofs.Ytpkoiogdkaklfaa
open Go.RowKit
set_option linter.unusedVariables false
set_option linter.unusedSimpArgs false

set_option maxRecDepth 16000 in
set_option maxHeartbeats 4000000 in
theorem deviceOwns_walk (v : Value) (zs : List Int) (y0 : Int) (w : World) (hv : Rd .u8 w.heap.size w v zs) (hz : Oct zs) :
    Calls Try.prog 8 #[v, .int .u8 y0] w fun e w' => e = .returned (.bool true) ∧ Grow w w' := by
  have hN : Calls Try.prog 10 #[.int .i64 2] w fun e w' => ∃ b, e = .returned (.tuple #[.pointer (some ⟨b, 0, none⟩), .int .i64 0]) ∧ ∃ bl bt, DevAt w' (fun i => i ≠ b ∧ i ≠ bl ∧ i ≠ bt) b bl bt 0 (List.replicate 2 zcell) (List.replicate 2 []) [] ∧ Grow w w' ∧ w.heap.size ≤ b ∧ w.heap.size ≤ bl ∧ w.heap.size ≤ bt := dnew_yes 2 w (by omega) (by omega)
  have hva : ∃ a c, v = .slice a zs.length c := by obtain ⟨a, c, e, -⟩ := hv; exact ⟨a, c, e⟩
  obtain ⟨av, cv, rfl⟩ := hva
  go_enter Try.func8, Try.ntmps8
  go_wp2_with fail
  refine hN.mono ?_
  rintro e w1 ⟨b, rfl, bl, bt, hD1, hg1, hb, hbl, hbt⟩
  have hfl := fill_any (.slice av zs.length cv) zs 16 16 _ w1 rfl (Rd.below hv.size hg1) (by omega)
  have HO : Hid ((fillL zs 16).length = 16 ∧ Oct (fillL zs 16)) := ⟨fillL_length _ _, oct_fill hz 16⟩
  generalize fillL zs 16 = os at hfl HO
  have HB : Hid (w.heap.size ≤ b ∧ w.heap.size ≤ bl ∧ w.heap.size ≤ bt) := ⟨hb, hbl, hbt⟩
  have H1 : Hid (DevAt w1 (fun i => i ≠ b ∧ i ≠ bl ∧ i ≠ bt) b bl bt 0 (List.replicate 2 zcell) (List.replicate 2 []) [] ∧ Grow w w1) := ⟨hD1, hg1⟩
  clear hN hD1 hg1 hb hbl hbt hv
  go_wp2_with fail
  refine hfl.mono ?_
  rintro e w2 ⟨vo, rfl, ho2, hb2⟩
  obtain ⟨ao, co, hvo⟩ := ho2.shape
  rw [HO.out.1] at hvo
  subst hvo
  have H2 : Hid (DevAt w2 (fun i => i ≠ b ∧ i ≠ bl ∧ i ≠ bt) b bl bt 0 (List.replicate 2 zcell) (List.replicate 2 []) [] ∧ RdV (Value.int .u8) 0 (fun i => i ≠ b ∧ i ≠ bl ∧ i ≠ bt) w2 (.slice ao 16 co) os ∧ Grow w w2) :=
    ⟨H1.out.1.grow hb2, ho2.v.rd.mono (fun k _ hk => by have h1 := H1.out.1.lt; omega), H1.out.2.trans hb2⟩
  have hfg := fewB_any (.slice ao 16 co) os 16 16 _ w2 rfl H2.out.2.1.i (by omega)
  rw [List.take_of_length_le (by have := HO.out.1; omega)] at hfg
  clear hfl ho2 hb2 H1
  go_wp2_with fail
  refine hfg.mono ?_
  rintro e w3 ⟨vg, rfl, ho3, hb3⟩
  obtain ⟨g1, o1, n1, hvg, hg1b, hg1l, hn1, hn1m, hcg, hfg1, hsetg⟩ := ho3.v.row (j := 3) (by rw [HO.out.1]; omega)
  rw [HO.out.1] at hvg hn1
  subst hvg
  have hg1w : w2.heap.size ≤ g1 := hg1b
  have H3 : Hid (DevAt w3 (fun i => (i ≠ b ∧ i ≠ bl ∧ i ≠ bt) ∧ i ≠ g1) b bl bt 0 (List.replicate 2 zcell) (List.replicate 2 []) [] ∧ RdV (Value.int .u8) 0 (fun i => (i ≠ b ∧ i ≠ bl ∧ i ≠ bt) ∧ i ≠ g1) w3 (.slice ao 16 co) os ∧ RdV (Value.int .u8) 0 (fun i => i ≠ b ∧ i ≠ bl ∧ i ≠ bt) w3 (.slice (some ⟨g1, o1, none⟩) 16 n1) os ∧ w3.cell? ⟨g1, o1 + 3, none⟩ = some (.int .u8 (os.getD 3 0)) ∧ w3.frozen? ⟨g1, o1 + 3, none⟩ = false ∧ Grow w w3) :=
    ⟨(H2.out.1.beside hg1w).grow hb3, (H2.out.2.1.mono (fun k hk hp => ⟨hp, by omega⟩)).grow hb3, ho3.v.rd.mono (fun k _ hk => by have h1 := H2.out.1.lt; omega), hcg, hfg1, H2.out.2.2.trans hb3⟩
  have HG1 : Hid (g1 ≠ b ∧ g1 ≠ bl ∧ g1 ≠ bt ∧ w.heap.size ≤ g1 ∧ g1 < w3.heap.size) := by
    have h1 := H2.out.1.lt
    have h2 := H2.out.2.2.size
    exact ⟨by omega, by omega, by omega, by omega, hg1l⟩
  have hki : (Lit.int .i64 (1 : Int)).wf = true := by decide
  have hw3 : Calls Try.prog 19 #[.pointer (some ⟨b, 0, none⟩), .int .i64 1, .slice (some ⟨g1, o1, none⟩) 16 n1] w3 fun e w' => e = .returned (.int .i64 0) ∧ DevAt w' (fun i => (i ≠ b ∧ i ≠ bl ∧ i ≠ bt) ∧ i ≠ g1) b bl bt (0 + 1) (List.replicate 2 zcell) ((List.replicate 2 []).set 1 (os ++ le 4 (chk 0 os : Nat))) [] ∧ UpdS (fun i => i = bt) w3 w' := by
    have := dwrite_any w3 _ b bl bt 0 _ _ _ H3.out.1 1 hki _ os _ H3.out.2.2.1.i HO.out.2 (by omega) (fun k hk => by have h1 := H3.out.1.lt; have h2 := HG1.out; omega)
    rw [HO.out.1, show (1 : Int) = ((1 : Nat) : Int) from rfl, writeL_ok (by simp) HO.out.1, writeE_ok (by simp)] at this
    exact this
  have HZ : Hid ((os ++ le 4 (chk 0 os : Nat)).length = 20 ∧ opened (os ++ le 4 (chk 0 os : Nat)) = (os, 0)) := ⟨by rw [List.length_append, le_length, HO.out.1], opened_sealed os HO.out.1⟩
  generalize os ++ le 4 (chk 0 os : Nat) = Z at hw3 HZ
  have Y1 : Hid (OneAt ((List.replicate 2 []).set 1 Z) 1 Z ∧ ((List.replicate 2 ([] : List Int)).set 1 Z).length = 2) := ⟨OneAt.put (NoneAt.new 2) (by simp) (fun e => by have := HZ.out.1; rw [e] at this; simp at this), by simp⟩
  generalize (List.replicate 2 ([] : List Int)).set 1 Z = lat1 at hw3 Y1
  generalize List.replicate 2 zcell = las0 at hw3
  clear hfg ho3 hb3 hcg hfg1 hsetg hg1b hg1l hg1w H2
  go_wp2_with fail
  refine hw3.mono ?_
  rintro e w4 ⟨rfl, hD4, hu4⟩
  have H4 : Hid (DevAt w4 (fun i => (i ≠ b ∧ i ≠ bl ∧ i ≠ bt) ∧ i ≠ g1) b bl bt (0 + 1) las0 lat1 [] ∧ RdV (Value.int .u8) 0 (fun i => (i ≠ b ∧ i ≠ bl ∧ i ≠ bt) ∧ i ≠ g1) w4 (.slice ao 16 co) os ∧ w4.cell? ⟨g1, o1 + 3, none⟩ = some (.int .u8 (os.getD 3 0)) ∧ w4.frozen? ⟨g1, o1 + 3, none⟩ = false ∧ Grow w w4 ∧ g1 < w4.heap.size) := by
    have h1 := HG1.out
    refine ⟨hD4, H3.out.2.1.upd hu4 (fun k _ hk => hk.1.2.2), ?_, ?_, UpdS.new H3.out.2.2.2.2.2 hu4 (fun k hk => by have := HB.out; omega), by have := hu4.size; omega⟩
    · rw [hu4.cell (p := ⟨g1, o1 + 3, none⟩) h1.2.2.2.2 h1.2.2.1]; exact H3.out.2.2.2.1
    · rw [hu4.frozen (p := ⟨g1, o1 + 3, none⟩) h1.2.2.2.2 h1.2.2.1]; exact H3.out.2.2.2.2.1
  have hfh := fewB_any (.slice ao 16 co) os 9 9 _ w4 rfl H4.out.2.1.i (by omega)
  have HO9 : Hid ((os.take 9).length = 9 ∧ Oct (os.take 9)) := ⟨by rw [List.length_take, HO.out.1]; omega, HO.out.2.take 9⟩
  have HH9 : Hid (∃ hs, os.take 9 = hs) := ⟨_, rfl⟩
  obtain ⟨hs, hhs⟩ := HH9.out
  have HHS : Hid (os.take 9 = hs) := hhs
  rw [hhs] at hfh HO9
  clear hhs HH9 hw3 hD4 hu4 H3
  go_wp2_with fail
  refine hfh.mono ?_
  rintro e w5 ⟨vh, rfl, ho5, hb5⟩
  obtain ⟨g2, o2, n2, hvh, hg2b, hg2l, hn2, hn2m, hch, hfh2, hseth⟩ := ho5.v.row (j := 0) (by rw [HO9.out.1]; omega)
  rw [HO9.out.1] at hvh hn2
  subst hvh
  have hg2w : w4.heap.size ≤ g2 := hg2b
  rw [Nat.add_zero] at hch hfh2
  have H5 : Hid (DevAt w5 (fun i => ((i ≠ b ∧ i ≠ bl ∧ i ≠ bt) ∧ i ≠ g1) ∧ i ≠ g2) b bl bt (0 + 1) las0 lat1 [] ∧ RdV (Value.int .u8) 0 (fun i => ((i ≠ b ∧ i ≠ bl ∧ i ≠ bt) ∧ i ≠ g1) ∧ i ≠ g2) w5 (.slice ao 16 co) os ∧ RdV (Value.int .u8) 0 (fun i => (i ≠ b ∧ i ≠ bl ∧ i ≠ bt) ∧ i ≠ g1) w5 (.slice (some ⟨g2, o2, none⟩) 9 n2) hs ∧ w5.cell? ⟨g1, o1 + 3, none⟩ = some (.int .u8 (os.getD 3 0)) ∧ w5.frozen? ⟨g1, o1 + 3, none⟩ = false ∧ w5.cell? ⟨g2, o2, none⟩ = some (.int .u8 (hs.getD 0 0)) ∧ w5.frozen? ⟨g2, o2, none⟩ = false ∧ Grow w w5) := by
    have h1 := H4.out
    refine ⟨(h1.1.beside hg2w).grow hb5, (h1.2.1.mono (fun k hk hp => ⟨hp, by omega⟩)).grow hb5, ho5.v.rd.mono (fun k _ hk => ?_), ?_, ?_, hch, hfh2, h1.2.2.2.2.1.trans hb5⟩
    · have h2 := h1.1.lt; have h3 := h1.2.2.2.2.2; omega
    · rw [Below.cell (p := ⟨g1, o1 + 3, none⟩) hb5 h1.2.2.2.2.2]; exact h1.2.2.1
    · rw [Below.frozen (p := ⟨g1, o1 + 3, none⟩) hb5 h1.2.2.2.2.2]; exact h1.2.2.2.1
  have HG2 : Hid (g2 ≠ b ∧ g2 ≠ bl ∧ g2 ≠ bt ∧ g2 ≠ g1 ∧ w.heap.size ≤ g2 ∧ g2 < w5.heap.size ∧ g1 < w5.heap.size) := by
    have h1 := H4.out.1.lt
    have h2 := H4.out.2.2.2.2.1.size
    have h3 := H4.out.2.2.2.2.2
    exact ⟨by omega, by omega, by omega, by omega, by omega, hg2l, by omega⟩
  have hsh := dsethead_any w5 _ b bl bt _ _ _ _ H5.out.1 (.slice (some ⟨g2, o2, none⟩) 9 n2) hs _ H5.out.2.2.1.i HO9.out.2 (by have := HO9.out.1; omega) (fun k hk => by have h1 := H5.out.1.lt; have h2 := HG1.out; have h3 := HG2.out; omega)
  clear hfh ho5 hb5 hch hfh2 hseth hg2b hg2l hg2w H4
  go_wp2_with fail
  refine hsh.mono ?_
  rintro e w6 ⟨rfl, hD6, hu6⟩
  obtain ⟨x1, hx1⟩ : ∃ x, bits .xor .u8 (os.getD 3 0) y0 = x := ⟨_, rfl⟩
  obtain ⟨x2, hx2⟩ : ∃ x, bits .xor .u8 (hs.getD 0 0) y0 = x := ⟨_, rfl⟩
  have k1 : w6.cell? ⟨g1, o1 + 3, none⟩ = some (.int .u8 (os.getD 3 0)) := by have h1 := HG1.out; have h2 := HG2.out; rw [hu6.cell (p := ⟨g1, o1 + 3, none⟩) h2.2.2.2.2.2.2 h1.1]; exact H5.out.2.2.2.1
  have k1f : w6.frozen? ⟨g1, o1 + 3, none⟩ = false := by have h1 := HG1.out; have h2 := HG2.out; rw [hu6.frozen (p := ⟨g1, o1 + 3, none⟩) h2.2.2.2.2.2.2 h1.1]; exact H5.out.2.2.2.2.1
  have k2 : w6.cell? ⟨g2, o2, none⟩ = some (.int .u8 (hs.getD 0 0)) := by have h2 := HG2.out; rw [hu6.cell (p := ⟨g2, o2, none⟩) h2.2.2.2.2.2.1 h2.1]; exact H5.out.2.2.2.2.2.1
  have k2f : w6.frozen? ⟨g2, o2, none⟩ = false := by have h2 := HG2.out; rw [hu6.frozen (p := ⟨g2, o2, none⟩) h2.2.2.2.2.2.1 h2.1]; exact H5.out.2.2.2.2.2.2.1
  have ua := UpdS.setCell (fun i => i = g1) ⟨g1, o1 + 3, none⟩ (.int .u8 x1) w6 rfl
  have ub := UpdS.setCell (fun i => i = g2) ⟨g2, o2, none⟩ (.int .u8 x2) (w6.setCell ⟨g1, o1 + 3, none⟩ (.int .u8 x1)) rfl
  obtain ⟨wA, hwA⟩ : ∃ wA, w6.setCell ⟨g1, o1 + 3, none⟩ (.int .u8 x1) = wA := ⟨_, rfl⟩
  rw [hwA] at ua ub
  obtain ⟨wB, hwB⟩ : ∃ wB, wA.setCell ⟨g2, o2, none⟩ (.int .u8 x2) = wB := ⟨_, rfl⟩
  rw [hwB] at ub
  have hs6 := hu6.size
  have k2' : wA.cell? ⟨g2, o2, none⟩ = some (.int .u8 (hs.getD 0 0)) := by have h2 := HG2.out; rw [ua.cell (p := ⟨g2, o2, none⟩) (by show g2 < _; omega) h2.2.2.2.1]; exact k2
  have k2f' : wA.frozen? ⟨g2, o2, none⟩ = false := by have h2 := HG2.out; rw [ua.frozen (p := ⟨g2, o2, none⟩) (by show g2 < _; omega) h2.2.2.2.1]; exact k2f
  have HW : Hid (DevAt wB (fun i => ((i ≠ b ∧ i ≠ bl ∧ i ≠ bt) ∧ i ≠ g1) ∧ i ≠ g2) b bl bt (0 + 1) las0 lat1 hs ∧ RdV (Value.int .u8) 0 (fun i => ((i ≠ b ∧ i ≠ bl ∧ i ≠ bt) ∧ i ≠ g1) ∧ i ≠ g2) wB (.slice ao 16 co) os ∧ Grow w wB) := by
    have h1 := HG1.out
    have h2 := HG2.out
    refine ⟨(hD6.upd ua (by omega) (by omega) (by omega) (fun k _ hk => hk.1.2)).upd ub (by omega) (by omega) (by omega) (fun k _ hk => hk.2), ((H5.out.2.1.upd hu6 (fun k _ hk => hk.1.1.1)).upd ua (fun k _ hk => hk.1.2)).upd ub (fun k _ hk => hk.2), ?_⟩
    exact UpdS.new (UpdS.new (UpdS.new H5.out.2.2.2.2.2.2.2 hu6 (fun k hk => by have := HB.out; omega)) ua (fun k hk => by omega)) ub (fun k hk => by omega)
  generalize os.getD 3 0 = z1 at k1 hx1
  generalize hs.getD 0 0 = z2 at k2' hx2
  have hlr : readL las0 lat1 1 = (os, 0) := by rw [show (1 : Int) = ((1 : Nat) : Int) from rfl, readL_later Y1.out.1.ne (by have := Y1.out.2; omega), Y1.out.1.2, HZ.out.2]
  have hrB : Calls Try.prog 15 #[.pointer (some ⟨b, 0, none⟩), .int .i64 1] wB fun e w' => ∃ v', e = .returned (.tuple #[v', .int .i64 0]) ∧ Own .u8 wB.heap.size w' v' os ∧ Grow wB w' := by
    have := dread_any wB _ b bl bt _ _ _ _ HW.out.1 1 hki
    rw [hlr] at this
    exact this
  have HLR : Hid (readL las0 lat1 1 = (os, 0)) := hlr
  unfold maxLen at hn1m hn2m
  clear ua ub hD6 hu6 hs6 k2 k2f H5 hsh hlr HG1
  go_wp2_with fail
  refine hrB.mono ?_
  rintro e w8 ⟨vx, rfl, ho8, hb8⟩
  obtain ⟨g3, o3, n3, hvx, hg3b, hg3l, hn3, hn3m, hcx, hfx, hsetx⟩ := ho8.v.row (j := 2) (by rw [HO.out.1]; omega)
  rw [HO.out.1] at hvx hn3
  subst hvx
  have hg3w : wB.heap.size ≤ g3 := hg3b
  have s1 := ho8.rd.string (P := Try.prog) 29 9 5 Try.underlying29 Try.underlying5 Try.underlying9
  have s2 := ((HW.out.2.1.grow hb8).i).string (P := Try.prog) 29 9 5 Try.underlying29 Try.underlying5 Try.underlying9
  obtain ⟨x3, hx3⟩ : ∃ x, bits .xor .u8 (os.getD 2 0) y0 = x := ⟨_, rfl⟩
  have uc := UpdS.setCell (fun i => i = g3) ⟨g3, o3 + 2, none⟩ (.int .u8 x3) w8 rfl
  obtain ⟨wC, hwC⟩ : ∃ wC, w8.setCell ⟨g3, o3 + 2, none⟩ (.int .u8 x3) = wC := ⟨_, rfl⟩
  rw [hwC] at uc
  have HC : Hid (DevAt wC (fun i => (((i ≠ b ∧ i ≠ bl ∧ i ≠ bt) ∧ i ≠ g1) ∧ i ≠ g2) ∧ i ≠ g3) b bl bt (0 + 1) las0 lat1 hs ∧ RdV (Value.int .u8) 0 (fun i => (((i ≠ b ∧ i ≠ bl ∧ i ≠ bt) ∧ i ≠ g1) ∧ i ≠ g2) ∧ i ≠ g3) wC (.slice ao 16 co) os ∧ Grow w wC) := by
    have h1 := HW.out.1.lt
    have h2 := HW.out.2.2.size
    refine ⟨((HW.out.1.beside hg3w).grow hb8).upd uc (by omega) (by omega) (by omega) (fun k _ hk => hk.2), ((HW.out.2.1.mono (fun k hk hp => ⟨hp, by omega⟩)).grow hb8).upd uc (fun k _ hk => hk.2), UpdS.new (HW.out.2.2.trans hb8) uc (fun k hk => by omega)⟩
  generalize os.getD 2 0 = z3 at hcx hx3
  have hrC : Calls Try.prog 15 #[.pointer (some ⟨b, 0, none⟩), .int .i64 1] wC fun e w' => ∃ v', e = .returned (.tuple #[v', .int .i64 0]) ∧ Own .u8 wC.heap.size w' v' os ∧ Grow wC w' := by
    have := dread_any wC _ b bl bt _ _ _ _ HC.out.1 1 hki
    rw [HLR.out] at this
    exact this
  unfold maxLen at hn3m
  clear ho8 hb8 hg3b hsetx uc hg3w HW hrB k1 k1f k2' k2f' hwA hwB hx1 hx2
  go_wp2_with fail
  refine hrC.mono ?_
  rintro e w9 ⟨vy, rfl, ho9, hb9⟩
  obtain ⟨ay, cy, hvy⟩ := ho9.shape
  rw [HO.out.1] at hvy
  subst hvy
  have gd9 : Grow w9 w9.drew := (Grow.refl w9).drew
  have q1 : ∀ w', Grow w9.drew w' → (convert 29 9 (.slice ay 16 cy)).run Try.prog w' = .ok (.string (strOfNums os)) w' := fun w' g => (Rd.below (Own.rd ho9) (gd9.trans g)).string 29 9 5 Try.underlying29 Try.underlying5 Try.underlying9
  have q2 : ∀ w', Grow w9.drew w' → (convert 29 9 (.slice ao 16 co)).run Try.prog w' = .ok (.string (strOfNums os)) w' := fun w' g => (((HC.out.2.1.grow hb9).grow (gd9.trans g)).i).string 29 9 5 Try.underlying29 Try.underlying5 Try.underlying9
  have hoc := HC.out.2.1.caps
  have hoc16 : 16 ≤ co := by omega
  have h9a : (9 : Int) ≤ (co : Int) := by omega
  have h9b : 9 ≤ co := by omega
  have h9c : ¬ (co : Int) < 9 := by omega
  have hoc9 : co ≤ 9223372036854775807 := by have := hoc.2.2; unfold maxLen at this; exact this
  have q3 : ∀ w', Grow w9.drew w' → (convert 29 9 (.slice ao 9 co)).run Try.prog w' = .ok (.string (strOfNums hs)) w' := fun w' g => by
    have := (((HC.out.2.1.grow hb9).grow (gd9.trans g)).take 9 (by rw [HO.out.1]; omega)).i.string (P := Try.prog) 29 9 5 Try.underlying29 Try.underlying5 Try.underlying9
    rwa [HHS.out] at this
  have hhd := dhead_any w9.drew _ b bl bt _ _ _ _ ((HC.out.1.grow hb9).grow gd9)
  have HG9 : Hid (Grow w w9) := HC.out.2.2.trans hb9
  clear hoc ho9 hb9 hrC hcx hfx hx3 hwC s1 s2 hg3l
  go_wp2
  refine wp_region_sched (by kernel_rfl) [(0, false), (1, false), (2, false), (3, false), (4, false), (5, false), (6, false), (9, false), (10, false), (11, false), (7, true), (8, false), (12, false), (13, false), (14, false), (15, true), (16, false), (17, false)] (by kernel_rfl) (by kernel_rfl) rfl (fun _ _ d _ _ h => by cases d <;> exact h) ?_
  simp only [inOrder, List.filterMap_cons, List.filterMap_nil, List.getElem?_toArray, List.getElem?_cons_zero, List.getElem?_cons_succ, Option.map_some]
  repeat (first
    | (refine wpS_move rfl ?_; simp only [Act.eval, Act.put, Array.getD_eq_getD_getElem?, List.getElem?_toArray, List.getElem?_cons_zero, List.getElem?_cons_succ, Option.getD_some, List.setIfInBounds_toArray, List.set_cons_zero, List.set_cons_succ])
    | (refine wpS_assign rfl ?_; simp only [Act.eval, Act.put, Array.getD_eq_getD_getElem?, List.getElem?_toArray, List.getElem?_cons_zero, List.getElem?_cons_succ, Option.getD_some, List.setIfInBounds_toArray, List.set_cons_zero, List.set_cons_succ])
    | (refine wpS_read (v := ?_) rfl ?_ ?_; rotate_left; (focus (intro w' hG; (have z1 := q1 w' hG; have z2 := q2 w' hG; have z3 := q3 w' hG); go_simp; try (with_reducible rfl))); simp only [Act.put, List.setIfInBounds_toArray, List.set_cons_zero, List.set_cons_succ])
    | (refine wpS_skip rfl ?_; simp only [Act.put, List.setIfInBounds_toArray, List.set_cons_zero, List.set_cons_succ]))
  refine wpS_call (f := ?_) (args := ?_) (by rfl) ?_ ?_
  rotate_left 2; focus (go_simp; constructor <;> with_reducible rfl)
  refine (hhd).mono ?_
  rintro e wh ⟨vh, rfl, hoh, hgh⟩
  refine ⟨vh, rfl, hgh, ?_⟩
  simp only [Act.put, List.setIfInBounds_toArray, List.set_cons_zero, List.set_cons_succ]
  have q4 : ∀ w', Grow wh w' → (convert 29 9 vh).run Try.prog w' = .ok (.string (strOfNums hs)) w' := fun w' g => (Rd.below (Own.rd hoh) g).string 29 9 5 Try.underlying29 Try.underlying5 Try.underlying9
  repeat (first
    | (refine wpS_move rfl ?_; simp only [Act.eval, Act.put, Array.getD_eq_getD_getElem?, List.getElem?_toArray, List.getElem?_cons_zero, List.getElem?_cons_succ, Option.getD_some, List.setIfInBounds_toArray, List.set_cons_zero, List.set_cons_succ])
    | (refine wpS_assign rfl ?_; simp only [Act.eval, Act.put, Array.getD_eq_getD_getElem?, List.getElem?_toArray, List.getElem?_cons_zero, List.getElem?_cons_succ, Option.getD_some, List.setIfInBounds_toArray, List.set_cons_zero, List.set_cons_succ])
    | (refine wpS_read (v := ?_) rfl ?_ ?_; rotate_left; (focus (intro w' hG; (have z4 := q4 w' hG); go_simp; try (with_reducible rfl))); simp only [Act.put, List.setIfInBounds_toArray, List.set_cons_zero, List.set_cons_succ])
    | (refine wpS_skip rfl ?_; simp only [Act.put, List.setIfInBounds_toArray, List.set_cons_zero, List.set_cons_succ]))
  refine wpS_call (f := ?_) (args := ?_) (by rfl) ?_ ?_
  rotate_left 2; focus (go_simp; constructor <;> with_reducible rfl)
  refine (dlives_any wh).mono ?_
  rintro e wl ⟨rfl, hgl⟩
  refine ⟨_, rfl, hgl, ?_⟩
  simp only [Act.put, List.setIfInBounds_toArray, List.set_cons_zero, List.set_cons_succ]
  repeat (first
    | (refine wpS_move rfl ?_; simp only [Act.eval, Act.put, Array.getD_eq_getD_getElem?, List.getElem?_toArray, List.getElem?_cons_zero, List.getElem?_cons_succ, Option.getD_some, List.setIfInBounds_toArray, List.set_cons_zero, List.set_cons_succ])
    | (refine wpS_assign rfl ?_; simp only [Act.eval, Act.put, Array.getD_eq_getD_getElem?, List.getElem?_toArray, List.getElem?_cons_zero, List.getElem?_cons_succ, Option.getD_some, List.setIfInBounds_toArray, List.set_cons_zero, List.set_cons_succ])
    | (refine wpS_read (v := ?_) rfl ?_ ?_; rotate_left; (focus (intro w' hG; skip; go_simp; try (with_reducible rfl))); simp only [Act.put, List.setIfInBounds_toArray, List.set_cons_zero, List.set_cons_succ])
    | (refine wpS_skip rfl ?_; simp only [Act.put, List.setIfInBounds_toArray, List.set_cons_zero, List.set_cons_succ]))
  refine wpS_nil ?_
  go_wp2
  go_ret
  exact ⟨rfl, ((HG9.out.trans gd9).trans hgh).trans hgl⟩
end Go.Proofs.Ytpkoiogdkaklfaa
