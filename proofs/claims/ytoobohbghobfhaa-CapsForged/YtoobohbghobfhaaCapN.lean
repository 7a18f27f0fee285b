/-
  The walk of Mint. Conditions: each theorem's own.
-/
import Derived.Test.YtoobohbghobfhaaCapM
namespace Go.Proofs.Ytoobohbghobfhaa
open Go.RowKit
set_option linter.unusedVariables false
set_option linter.unusedSimpArgs false

theorem bneT {a : Int} (h : a ≠ 0) : (a != 0) = true := by simp [h]
theorem wf_small (r : Nat) (h : r < 16) : (Lit.int .i64 (r : Int)).wf = true := by
  rcases (show r = 0 ∨ r = 1 ∨ r = 2 ∨ r = 3 ∨ r = 4 ∨ r = 5 ∨ r = 6 ∨ r = 7 ∨ r = 8 ∨ r = 9 ∨ r = 10 ∨ r = 11 ∨ r = 12 ∨ r = 13 ∨ r = 14 ∨ r = 15 by omega) with rfl | rfl | rfl | rfl | rfl | rfl | rfl | rfl | rfl | rfl | rfl | rfl | rfl | rfl | rfl | rfl <;> decide
theorem room_full_any (b : Nat) (S : List Sl) (k n : Int) (w : World) (h : TbAt w b S k n) (hS : S.length = 8) (hf : n = 1048576 ∨ ¬ roomN S < 8) : Calls Try.prog 35 #[.pointer (some ⟨b, 0, none⟩)] w fun e w' => e = .returned (.tuple #[.int .i64 0, .bool false]) ∧ Grow w w' := by
  by_cases hn : n = 1048576
  · exact room_out b S k n w h hS hn
  · have := room_in b S k n w h hS hn
    have h8 : ¬ roomN S < 8 := by omega
    rw [roomI, roomB, if_neg h8, decide_eq_false h8] at this
    exact this
theorem room_yes_any (b : Nat) (S : List Sl) (k n : Int) (w : World) (h : TbAt w b S k n) (hS : S.length = 8) (hn : ¬ n = 1048576) (h8 : roomN S < 8) : Calls Try.prog 35 #[.pointer (some ⟨b, 0, none⟩)] w fun e w' => e = .returned (.tuple #[.int .i64 (roomN S), .bool true]) ∧ Grow w w' := by
  have := room_in b S k n w h hS hn
  rw [roomI, roomB, if_pos h8, decide_eq_true h8] at this
  exact this
/-- behind Mint's beginning -/
def MiAt (w wr : World) (b b1 b2 : Nat) (S : List Sl) (k n : Int) (c : Cp) : Prop :=
  TbAt wr b S k n ∧ VarAt wr b1 [.int .i64 c.s, .int .i64 c.g] ∧ VarAt wr b2 [.int .i64 0, .int .i64 0] ∧ Grow w wr ∧ b1 = w.heap.size ∧ b2 = w.heap.size + 1
theorem MiAt.grow {w wr w2 : World} {b b1 b2 : Nat} {S : List Sl} {k n : Int} {c : Cp} (h : MiAt w wr b b1 b2 S k n c) (g : Grow wr w2) : MiAt w w2 b b1 b2 S k n c :=
  ⟨h.1.grow g, h.2.1.grow g, h.2.2.1.grow g, h.2.2.2.1.trans g, h.2.2.2.2.1, h.2.2.2.2.2⟩
theorem MiAt.start {w : World} {b : Nat} {S : List Sl} {k n : Int} (c : Cp) (h : TbAt w b S k n) : MiAt w ((w.alloc (.cells #[.int .i64 c.s, .int .i64 c.g] 33)).alloc (.cells #[.int .i64 0, .int .i64 0] 33)) b w.heap.size (w.heap.size + 1) S k n c :=
  ⟨h.grow (((Grow.refl w).alloc _).alloc _), (VarAt.new w [.int .i64 c.s, .int .i64 c.g] 33).old _, VarAt.new2 w _ [.int .i64 0, .int .i64 0] 33, ((Grow.refl w).alloc _).alloc _, rfl, rfl⟩
set_option maxHeartbeats 4000000 in
theorem mint_1 (b : Nat) (S : List Sl) (k n : Int) (c : Cp) (s : Int) (w : World) (h : TbAt w b S k n) (hO : TbOk S k n) (E : Int) (hE : chkS S c 8 = E) (h1 : E ≠ 0) :
    Calls Try.prog 21 #[.pointer (some ⟨b, 0, none⟩), .agg #[.int .i64 c.s, .int .i64 c.g], .int .i64 s] w fun e w' => e = .returned (.tuple #[.agg #[.int .i64 0, .int .i64 0], .int .i64 E]) ∧ Grow w w' := by
  obtain ⟨W0, hW0⟩ : ∃ W0, W0 = (w.alloc (.cells #[.int .i64 c.s, .int .i64 c.g] 33)).alloc (.cells #[.int .i64 0, .int .i64 0] 33) := ⟨_, rfl⟩
  have HX := hid (MiAt.start c h)
  rw [← hW0] at HX
  have HK := hid (fun need (hn : need < 16) u (hu : TbAt u b S k n) => check_any b S k n c need u hu hO hn)
  obtain ⟨b2, hb2⟩ : ∃ b2, b2 = w.heap.size + 1 := ⟨_, rfl⟩
  obtain ⟨b1, hb1⟩ : ∃ b1, b1 = w.heap.size := ⟨_, rfl⟩
  rw [← hb2, ← hb1] at HX
  have k1 := HK.out 8 (by omega) W0 HX.out.1
  rw [hE] at k1
  have q1 := bneT h1
  clear HK hE h1 h hO
  go_enter Try.func21, Try.ntmps21
  go_upto_region 1 with fail
  rw [← hW0, ← hb2, ← hb1]
  clear hW0 hb2 hb1
  obtain ⟨⟨m0, m1⟩, -⟩ := HX.out.2.1.two
  obtain ⟨⟨n0, n1⟩, f0, f1⟩ := HX.out.2.2.1.two
  go_wp2_with fail
  refine k1.mono ?_
  rintro e w2 ⟨rfl, gw2⟩
  clear m0 m1 n0 n1 f0 f1
  replace HX := hid (HX.out.grow gw2)
  clear gw2
  clear k1
  obtain ⟨⟨m0, m1⟩, -⟩ := HX.out.2.1.two
  obtain ⟨⟨n0, n1⟩, f0, f1⟩ := HX.out.2.2.1.two
  go_wp2
  have hU := upd_pair w2 b2 (.int .i64 0) (.int .i64 0)
  exact bodyPost_ret_by (results_cell_tmp rfl _ _ _ (.agg #[.int .i64 0, .int .i64 0]) rfl (load_C b2 0 0 _ (HX.out.2.2.1.set2 _ _))) rfl ⟨rfl, UpdS.new HX.out.2.2.2.1 hU (fun i hi => by have := HX.out.2.2.2.2.2; omega)⟩

set_option maxHeartbeats 4000000 in
theorem mint_2 (b : Nat) (S : List Sl) (k n : Int) (c : Cp) (s : Int) (w : World) (h : TbAt w b S k n) (hO : TbOk S k n) (hE : chkS S c 8 = 0) (hs : ¬ (0 ≤ s ∧ s ≤ 15)) (hsw : (Lit.int .i64 s).wf = true) :
    Calls Try.prog 21 #[.pointer (some ⟨b, 0, none⟩), .agg #[.int .i64 c.s, .int .i64 c.g], .int .i64 s] w fun e w' => e = .returned (.tuple #[.agg #[.int .i64 0, .int .i64 0], .int .i64 1]) ∧ Grow w w' := by
  obtain ⟨W0, hW0⟩ : ∃ W0, W0 = (w.alloc (.cells #[.int .i64 c.s, .int .i64 c.g] 33)).alloc (.cells #[.int .i64 0, .int .i64 0] 33) := ⟨_, rfl⟩
  have HX := hid (MiAt.start c h)
  rw [← hW0] at HX
  have HK := hid (fun need (hn : need < 16) u (hu : TbAt u b S k n) => check_any b S k n c need u hu hO hn)
  obtain ⟨b2, hb2⟩ : ∃ b2, b2 = w.heap.size + 1 := ⟨_, rfl⟩
  obtain ⟨b1, hb1⟩ : ∃ b1, b1 = w.heap.size := ⟨_, rfl⟩
  rw [← hb2, ← hb1] at HX
  have k1 := HK.out 8 (by omega) W0 HX.out.1
  rw [hE] at k1
  have k2 := fun u => may_any s u hsw
  rw [decide_eq_false hs] at k2
  clear HK hE h hO hs hsw
  go_enter Try.func21, Try.ntmps21
  go_upto_region 1 with fail
  rw [← hW0, ← hb2, ← hb1]
  clear hW0 hb2 hb1
  obtain ⟨⟨m0, m1⟩, -⟩ := HX.out.2.1.two
  obtain ⟨⟨n0, n1⟩, f0, f1⟩ := HX.out.2.2.1.two
  go_wp2_with fail
  refine k1.mono ?_
  rintro e w2 ⟨rfl, gw2⟩
  clear m0 m1 n0 n1 f0 f1
  replace HX := hid (HX.out.grow gw2)
  clear gw2
  clear k1
  obtain ⟨⟨m0, m1⟩, -⟩ := HX.out.2.1.two
  obtain ⟨⟨n0, n1⟩, f0, f1⟩ := HX.out.2.2.1.two
  go_wp2_with fail
  refine (k2 _).mono ?_
  rintro e w3 ⟨rfl, gw3⟩
  clear m0 m1 n0 n1 f0 f1
  replace HX := hid (HX.out.grow gw3)
  clear gw3
  clear k2
  obtain ⟨⟨m0, m1⟩, -⟩ := HX.out.2.1.two
  obtain ⟨⟨n0, n1⟩, f0, f1⟩ := HX.out.2.2.1.two
  go_wp2
  have hU := upd_pair w3 b2 (.int .i64 0) (.int .i64 0)
  exact bodyPost_ret_by (results_cell_tmp rfl _ _ _ (.agg #[.int .i64 0, .int .i64 0]) rfl (load_C b2 0 0 _ (HX.out.2.2.1.set2 _ _))) rfl ⟨rfl, UpdS.new HX.out.2.2.2.1 hU (fun i hi => by have := HX.out.2.2.2.2.2; omega)⟩

set_option maxHeartbeats 4000000 in
theorem mint_3 (b : Nat) (S : List Sl) (k n : Int) (c : Cp) (s : Int) (w : World) (h : TbAt w b S k n) (hO : TbOk S k n) (E : Int) (hE : chkS S c 8 = 0) (r : Nat) (hs : r < 16) (hr : s = r) (hF : chkS S c r = E) (h1 : E ≠ 0) :
    Calls Try.prog 21 #[.pointer (some ⟨b, 0, none⟩), .agg #[.int .i64 c.s, .int .i64 c.g], .int .i64 s] w fun e w' => e = .returned (.tuple #[.agg #[.int .i64 0, .int .i64 0], .int .i64 E]) ∧ Grow w w' := by
  subst hr
  obtain ⟨W0, hW0⟩ : ∃ W0, W0 = (w.alloc (.cells #[.int .i64 c.s, .int .i64 c.g] 33)).alloc (.cells #[.int .i64 0, .int .i64 0] 33) := ⟨_, rfl⟩
  have HX := hid (MiAt.start c h)
  rw [← hW0] at HX
  have HK := hid (fun need (hn : need < 16) u (hu : TbAt u b S k n) => check_any b S k n c need u hu hO hn)
  obtain ⟨b2, hb2⟩ : ∃ b2, b2 = w.heap.size + 1 := ⟨_, rfl⟩
  obtain ⟨b1, hb1⟩ : ∃ b1, b1 = w.heap.size := ⟨_, rfl⟩
  rw [← hb2, ← hb1] at HX
  have k1 := HK.out 8 (by omega) W0 HX.out.1
  rw [hE] at k1
  have k2 := fun u => may_any (r : Int) u (wf_small r hs)
  rw [decide_eq_true (show 0 ≤ (r : Int) ∧ (r : Int) ≤ 15 by omega)] at k2
  have K3 := hid (HK.out r hs)
  rw [hF] at K3
  have q1 := bneT h1
  clear HK hE h hO hs hF h1
  go_enter Try.func21, Try.ntmps21
  go_upto_region 1 with fail
  rw [← hW0, ← hb2, ← hb1]
  clear hW0 hb2 hb1
  obtain ⟨⟨m0, m1⟩, -⟩ := HX.out.2.1.two
  obtain ⟨⟨n0, n1⟩, f0, f1⟩ := HX.out.2.2.1.two
  go_wp2_with fail
  refine k1.mono ?_
  rintro e w2 ⟨rfl, gw2⟩
  clear m0 m1 n0 n1 f0 f1
  replace HX := hid (HX.out.grow gw2)
  clear gw2
  clear k1
  obtain ⟨⟨m0, m1⟩, -⟩ := HX.out.2.1.two
  obtain ⟨⟨n0, n1⟩, f0, f1⟩ := HX.out.2.2.1.two
  go_wp2_with fail
  refine (k2 _).mono ?_
  rintro e w3 ⟨rfl, gw3⟩
  clear m0 m1 n0 n1 f0 f1
  replace HX := hid (HX.out.grow gw3)
  clear gw3
  clear k2
  have k3 := K3.out w3 HX.out.1
  obtain ⟨⟨m0, m1⟩, -⟩ := HX.out.2.1.two
  obtain ⟨⟨n0, n1⟩, f0, f1⟩ := HX.out.2.2.1.two
  go_wp2_with fail
  refine k3.mono ?_
  rintro e w4 ⟨rfl, gw4⟩
  clear m0 m1 n0 n1 f0 f1
  replace HX := hid (HX.out.grow gw4)
  clear gw4
  clear k3 K3
  obtain ⟨⟨m0, m1⟩, -⟩ := HX.out.2.1.two
  obtain ⟨⟨n0, n1⟩, f0, f1⟩ := HX.out.2.2.1.two
  go_wp2
  have hU := upd_pair w4 b2 (.int .i64 0) (.int .i64 0)
  exact bodyPost_ret_by (results_cell_tmp rfl _ _ _ (.agg #[.int .i64 0, .int .i64 0]) rfl (load_C b2 0 0 _ (HX.out.2.2.1.set2 _ _))) rfl ⟨rfl, UpdS.new HX.out.2.2.2.1 hU (fun i hi => by have := HX.out.2.2.2.2.2; omega)⟩

set_option maxHeartbeats 4000000 in
theorem mint_4 (b : Nat) (S : List Sl) (k n : Int) (c : Cp) (s : Int) (w : World) (h : TbAt w b S k n) (hO : TbOk S k n) (hE : chkS S c 8 = 0) (r : Nat) (hs : r < 16) (hr : s = r) (hF : chkS S c r = 0) (hfull : n = 1048576 ∨ ¬ roomN S < 8) :
    Calls Try.prog 21 #[.pointer (some ⟨b, 0, none⟩), .agg #[.int .i64 c.s, .int .i64 c.g], .int .i64 s] w fun e w' => e = .returned (.tuple #[.agg #[.int .i64 0, .int .i64 0], .int .i64 13]) ∧ Grow w w' := by
  subst hr
  obtain ⟨W0, hW0⟩ : ∃ W0, W0 = (w.alloc (.cells #[.int .i64 c.s, .int .i64 c.g] 33)).alloc (.cells #[.int .i64 0, .int .i64 0] 33) := ⟨_, rfl⟩
  have HX := hid (MiAt.start c h)
  rw [← hW0] at HX
  have HK := hid (fun need (hn : need < 16) u (hu : TbAt u b S k n) => check_any b S k n c need u hu hO hn)
  obtain ⟨b2, hb2⟩ : ∃ b2, b2 = w.heap.size + 1 := ⟨_, rfl⟩
  obtain ⟨b1, hb1⟩ : ∃ b1, b1 = w.heap.size := ⟨_, rfl⟩
  rw [← hb2, ← hb1] at HX
  have k1 := HK.out 8 (by omega) W0 HX.out.1
  rw [hE] at k1
  have k2 := fun u => may_any (r : Int) u (wf_small r hs)
  rw [decide_eq_true (show 0 ≤ (r : Int) ∧ (r : Int) ≤ 15 by omega)] at k2
  have K3 := hid (HK.out r hs)
  rw [hF] at K3
  have K4 := hid (fun u hu => room_full_any b S k n u hu hO.len hfull)
  clear HK hE h hO hs hF hfull
  go_enter Try.func21, Try.ntmps21
  go_upto_region 1 with fail
  rw [← hW0, ← hb2, ← hb1]
  clear hW0 hb2 hb1
  obtain ⟨⟨m0, m1⟩, -⟩ := HX.out.2.1.two
  obtain ⟨⟨n0, n1⟩, f0, f1⟩ := HX.out.2.2.1.two
  go_wp2_with fail
  refine k1.mono ?_
  rintro e w2 ⟨rfl, gw2⟩
  clear m0 m1 n0 n1 f0 f1
  replace HX := hid (HX.out.grow gw2)
  clear gw2
  clear k1
  obtain ⟨⟨m0, m1⟩, -⟩ := HX.out.2.1.two
  obtain ⟨⟨n0, n1⟩, f0, f1⟩ := HX.out.2.2.1.two
  go_wp2_with fail
  refine (k2 _).mono ?_
  rintro e w3 ⟨rfl, gw3⟩
  clear m0 m1 n0 n1 f0 f1
  replace HX := hid (HX.out.grow gw3)
  clear gw3
  clear k2
  have k3 := K3.out w3 HX.out.1
  obtain ⟨⟨m0, m1⟩, -⟩ := HX.out.2.1.two
  obtain ⟨⟨n0, n1⟩, f0, f1⟩ := HX.out.2.2.1.two
  go_wp2_with fail
  refine k3.mono ?_
  rintro e w4 ⟨rfl, gw4⟩
  clear m0 m1 n0 n1 f0 f1
  replace HX := hid (HX.out.grow gw4)
  clear gw4
  clear k3 K3
  have k4 := K4.out w4 HX.out.1
  obtain ⟨⟨m0, m1⟩, -⟩ := HX.out.2.1.two
  obtain ⟨⟨n0, n1⟩, f0, f1⟩ := HX.out.2.2.1.two
  go_wp2_with fail
  refine k4.mono ?_
  rintro e w5 ⟨rfl, gw5⟩
  clear m0 m1 n0 n1 f0 f1
  replace HX := hid (HX.out.grow gw5)
  clear gw5
  clear k4 K4
  obtain ⟨⟨m0, m1⟩, -⟩ := HX.out.2.1.two
  obtain ⟨⟨n0, n1⟩, f0, f1⟩ := HX.out.2.2.1.two
  go_wp2
  have hU := upd_pair w5 b2 (.int .i64 0) (.int .i64 0)
  exact bodyPost_ret_by (results_cell_tmp rfl _ _ _ (.agg #[.int .i64 0, .int .i64 0]) rfl (load_C b2 0 0 _ (HX.out.2.2.1.set2 _ _))) rfl ⟨rfl, UpdS.new HX.out.2.2.2.1 hU (fun i hi => by have := HX.out.2.2.2.2.2; omega)⟩

set_option maxHeartbeats 4000000 in
theorem mint_5 (b : Nat) (S : List Sl) (k n : Int) (c : Cp) (s : Int) (w : World) (h : TbAt w b S k n) (hO : TbOk S k n) (hE : chkS S c 8 = 0) (r : Nat) (hs : r < 16) (hr : s = r) (hF : chkS S c r = 0) (hn : n < 1048576) (hroom : roomN S < 8) :
    Calls Try.prog 21 #[.pointer (some ⟨b, 0, none⟩), .agg #[.int .i64 c.s, .int .i64 c.g], .int .i64 s] w fun e w' => e = .returned (.tuple #[.agg #[.int .i64 (roomN S), .int .i64 (k * 1048576 + n)], .int .i64 0]) ∧ TbAt w' b (S.set (roomN S) ⟨roomN S, k * 1048576 + n, r⟩) k (n + 1) ∧ UpdS (fun x => x = b) w w' := by
  subst hr
  have hbw := h.lt
  obtain ⟨W0, hW0⟩ : ∃ W0, W0 = (w.alloc (.cells #[.int .i64 c.s, .int .i64 c.g] 33)).alloc (.cells #[.int .i64 0, .int .i64 0] 33) := ⟨_, rfl⟩
  have HX := hid (MiAt.start c h)
  rw [← hW0] at HX
  have HK := hid (fun need (hn : need < 16) u (hu : TbAt u b S k n) => check_any b S k n c need u hu hO hn)
  obtain ⟨b2, hb2⟩ : ∃ b2, b2 = w.heap.size + 1 := ⟨_, rfl⟩
  obtain ⟨b1, hb1⟩ : ∃ b1, b1 = w.heap.size := ⟨_, rfl⟩
  rw [← hb2, ← hb1] at HX
  have k1 := HK.out 8 (by omega) W0 HX.out.1
  rw [hE] at k1
  have k2 := fun u => may_any (r : Int) u (wf_small r hs)
  rw [decide_eq_true (show 0 ≤ (r : Int) ∧ (r : Int) ≤ 15 by omega)] at k2
  have K3 := hid (HK.out r hs)
  rw [hF] at K3
  have K4 := hid (fun u hu => room_yes_any b S k n u hu hO.len (by omega) hroom)
  have K5 := hid (fun u hu => give_any b S k n (roomN S) r u hu hO.len hO.k1 hO.k2 (by have := hO.n1; omega) hn hroom)
  have HB : Hid (b < w.heap.size ∧ S.length = 8) := ⟨hbw, hO.len⟩
  clear HK hE h hO hs hF hn hroom hbw
  generalize k * 1048576 + n = gg at K5 ⊢
  generalize roomN S = j at K4 K5 ⊢
  go_enter Try.func21, Try.ntmps21
  go_upto_region 1 with fail
  rw [← hW0, ← hb2, ← hb1]
  clear hW0 hb2 hb1
  obtain ⟨⟨m0, m1⟩, -⟩ := HX.out.2.1.two
  obtain ⟨⟨n0, n1⟩, f0, f1⟩ := HX.out.2.2.1.two
  go_wp2_with fail
  refine k1.mono ?_
  rintro e w2 ⟨rfl, gw2⟩
  clear m0 m1 n0 n1 f0 f1
  replace HX := hid (HX.out.grow gw2)
  clear gw2
  clear k1
  obtain ⟨⟨m0, m1⟩, -⟩ := HX.out.2.1.two
  obtain ⟨⟨n0, n1⟩, f0, f1⟩ := HX.out.2.2.1.two
  go_wp2_with fail
  refine (k2 _).mono ?_
  rintro e w3 ⟨rfl, gw3⟩
  clear m0 m1 n0 n1 f0 f1
  replace HX := hid (HX.out.grow gw3)
  clear gw3
  clear k2
  have k3 := K3.out w3 HX.out.1
  obtain ⟨⟨m0, m1⟩, -⟩ := HX.out.2.1.two
  obtain ⟨⟨n0, n1⟩, f0, f1⟩ := HX.out.2.2.1.two
  go_wp2_with fail
  refine k3.mono ?_
  rintro e w4 ⟨rfl, gw4⟩
  clear m0 m1 n0 n1 f0 f1
  replace HX := hid (HX.out.grow gw4)
  clear gw4
  clear k3 K3
  have k4 := K4.out w4 HX.out.1
  obtain ⟨⟨m0, m1⟩, -⟩ := HX.out.2.1.two
  obtain ⟨⟨n0, n1⟩, f0, f1⟩ := HX.out.2.2.1.two
  go_wp2_with fail
  refine k4.mono ?_
  rintro e w5 ⟨rfl, gw5⟩
  clear m0 m1 n0 n1 f0 f1
  replace HX := hid (HX.out.grow gw5)
  clear gw5
  clear k4 K4
  have k5 := K5.out w5 HX.out.1
  go_wp2_with fail
  refine k5.mono ?_
  rintro e w6 ⟨rfl, t6, u6⟩
  have hV := HX.out.2.2.1.upd u6 (by have := HB.out.1; have := HX.out.2.2.2.2.2; omega)
  have HF : Hid (TbAt w6 b (S.set j ⟨j, gg, r⟩) k (n + 1) ∧ VarAt w6 b2 [.int .i64 0, .int .i64 0] ∧ UpdS (fun x => x = b) w w6) := ⟨t6, hV, HX.out.2.2.2.1.s.trans u6⟩
  have HB2 : Hid (b2 = w.heap.size + 1) := HX.out.2.2.2.2.2
  clear k5 K5 t6 u6 hV HX
  obtain ⟨⟨n0, n1⟩, f0, f1⟩ := HF.out.2.1.two
  go_wp2
  have hU := upd_pair w6 b2 (.int .i64 j) (.int .i64 gg)
  exact bodyPost_ret_by (results_cell_tmp rfl _ _ _ (.agg #[.int .i64 j, .int .i64 gg]) rfl (load_C b2 _ _ _ (HF.out.2.1.set2 _ _))) rfl ⟨rfl, HF.out.1.upd hU (by have := HB.out.1; have := HB2.out; omega), HF.out.2.2.past hU (fun i hi e => by have := HB2.out; omega)⟩

theorem mint_any (b : Nat) (S : List Sl) (k n : Int) (c : Cp) (s : Int) (w : World) (h : TbAt w b S k n) (hO : TbOk S k n) (hsw : (Lit.int .i64 s).wf = true) :
    Calls Try.prog 21 #[.pointer (some ⟨b, 0, none⟩), .agg #[.int .i64 c.s, .int .i64 c.g], .int .i64 s] w fun e w' => e = .returned (.tuple #[.agg #[.int .i64 (capM S k n c s).s, .int .i64 (capM S k n c s).g], .int .i64 (errM S n c s)]) ∧ TbAt w' b (setM S k n c s) k (numM S n c s) ∧ UpdS (fun x => x = b) w w' := by
  have err : ∀ E, errM S n c s = E → E ≠ 0 → (Calls Try.prog 21 #[.pointer (some ⟨b, 0, none⟩), .agg #[.int .i64 c.s, .int .i64 c.g], .int .i64 s] w fun e w' => e = .returned (.tuple #[.agg #[.int .i64 0, .int .i64 0], .int .i64 E]) ∧ Grow w w') → Calls Try.prog 21 #[.pointer (some ⟨b, 0, none⟩), .agg #[.int .i64 c.s, .int .i64 c.g], .int .i64 s] w fun e w' => e = .returned (.tuple #[.agg #[.int .i64 (capM S k n c s).s, .int .i64 (capM S k n c s).g], .int .i64 (errM S n c s)]) ∧ TbAt w' b (setM S k n c s) k (numM S n c s) ∧ UpdS (fun x => x = b) w w' := by
    intro E he h0 hc
    unfold capM setM numM
    rw [he, if_neg h0, if_neg h0, if_neg h0]
    exact hc.mono fun e w' ⟨h1, h2⟩ => ⟨h1, h.grow h2, h2.s⟩
  by_cases h1 : chkS S c 8 = 0
  · by_cases h2 : 0 ≤ s ∧ s ≤ 15
    · obtain ⟨r, hr⟩ := Int.eq_ofNat_of_zero_le h2.1
      have hr16 : r < 16 := by omega
      have ht : s.toNat = r := by omega
      by_cases h3 : chkS S c r = 0
      · by_cases h4 : n = 1048576 ∨ ¬ roomN S < 8
        · exact err 13 (errM_4 h1 h2 (by rw [ht]; exact h3) h4) (by omega) (mint_4 b S k n c s w h hO h1 r hr16 hr h3 h4)
        · have e0 := errM_5 h1 h2 (by rw [ht]; exact h3) h4
          unfold capM setM numM
          rw [e0, if_pos rfl, if_pos rfl, if_pos rfl, ht]
          have := hO.n2
          exact mint_5 b S k n c s w h hO h1 r hr16 hr h3 (by omega) (by omega)
      · exact err _ (errM_3 h1 h2 (by rw [ht]; exact h3)) (by rw [ht]; exact h3) (by rw [ht]; exact mint_3 b S k n c s w h hO _ h1 r hr16 hr rfl h3)
    · exact err 1 (errM_2 h1 h2) (by omega) (mint_2 b S k n c s w h hO h1 h2 hsw)
  · exact err _ (errM_1 h1) h1 (mint_1 b S k n c s w h hO _ rfl h1)
end Go.Proofs.Ytoobohbghobfhaa
