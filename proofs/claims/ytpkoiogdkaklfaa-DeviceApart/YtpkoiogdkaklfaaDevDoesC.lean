/-
  The walk of the law's 'does': a crash. Conditions: each theorem's own.
-/
import Derived.Test.YtpkoiogdkaklfaaDevDoes
namespace Go.Proofs.Ytpkoiogdkaklfaa
open Go.RowKit
set_option linter.unusedVariables false
set_option linter.unusedSimpArgs false

set_option maxRecDepth 16000 in
set_option maxHeartbeats 4000000 in
theorem does_seven (w : World) (p : Nat → Prop) (b bl bt s : Nat) (las lat : List (List Int)) (hd : List Int) (lv tv hv : Value) (h : DevAt w p b bl bt s las lat hd) (hq : DocV p w lv tv hv las lat hd) (hs : s < 1000) (hp : ∀ i, w.heap.size ≤ i → p i) (dd at0 to0 : Int) (hdd : (Lit.int .i64 dd).wf = true) (hat : (Lit.int .i64 at0).wf = true) (hto : (Lit.int .i64 to0).wf = true)
    (bv kv : Value) (bs : List Int) (ks : List Bool) (hb : RdV (Value.int .u8) 0 (fun i => i ≠ b ∧ i ≠ bl ∧ i ≠ bt) w bv bs) (hbo : Oct bs) (hk : RdV Value.bool false (fun i => i ≠ b ∧ i ≠ bl ∧ i ≠ bt) w kv ks) (h7 : around dd 10 = 7) :
    Calls Try.prog 12 #[.pointer (some ⟨b, 0, none⟩), .agg #[lv, tv, hv], .agg #[.int .i64 dd, .int .i64 at0, .int .i64 to0, bv, kv]] w fun e w' => ∃ lv' tv' hv', e = .returned (.tuple #[.agg #[lv', tv', hv'], .bool true]) ∧ ∃ las' lat' hd', DevAt w' p b bl bt (s + 1) las' lat' hd' ∧ DocV p w' lv' tv' hv' las' lat' hd' ∧ UpdS (fun i => i = b ∨ i = bl ∨ i = bt) w w' ∧ las'.length = las.length := by
  obtain ⟨a, c, rfl, hc1, hc2⟩ := hq.1.shape
  obtain ⟨a2, c2, rfl, hd1, hd2⟩ := hq.2.1.shape
  obtain ⟨a3, c3, rfl⟩ := hq.2.2.shape
  obtain ⟨ab, cb, rfl⟩ := hb.shape
  obtain ⟨ak, ck, rfl⟩ := hk.shape
  have hbl := hb.len
  have hkl := hk.len
  have hkc := hk.caps.2
  unfold maxLen at hc2 hd2 hbl hkl hkc
  have hlb : (las.length : Int) ≤ 1024 := by have := h.ok.2.2.2.2.2; omega
  have hblk := h.lt
  have HB : Hid (b < w.heap.size ∧ bl < w.heap.size ∧ bt < w.heap.size ∧ b ≠ bl ∧ b ≠ bt ∧ bl ≠ bt) := hblk
  have HN : Hid (¬ p b ∧ ¬ p bl ∧ ¬ p bt) := h.nots
  have HP : Hid (∀ i, w.heap.size + 3 ≤ i → (p i ∧ i ≠ w.heap.size ∧ i ≠ w.heap.size + 1 ∧ i ≠ w.heap.size + 1 + 1)) := fun i hi => ⟨hp i (by omega), by omega, by omega, by omega⟩
  have HS : Hid (DevAt (((w.alloc (.cells #[.slice a las.length c, .slice a2 lat.length c2, .slice a3 hd.length c3] 31)).alloc (.cells #[.int .i64 dd, .int .i64 at0, .int .i64 to0, .slice ab bs.length cb, .slice ak ks.length ck] 37)).alloc (.cells #[.slice none 0 0, .slice none 0 0, .slice none 0 0] 31)) (fun i => p i ∧ i ≠ w.heap.size ∧ i ≠ w.heap.size + 1 ∧ i ≠ w.heap.size + 1 + 1) b bl bt s las lat hd ∧ DocV (fun i => p i ∧ i ≠ w.heap.size ∧ i ≠ w.heap.size + 1 ∧ i ≠ w.heap.size + 1 + 1) (((w.alloc (.cells #[.slice a las.length c, .slice a2 lat.length c2, .slice a3 hd.length c3] 31)).alloc (.cells #[.int .i64 dd, .int .i64 at0, .int .i64 to0, .slice ab bs.length cb, .slice ak ks.length ck] 37)).alloc (.cells #[.slice none 0 0, .slice none 0 0, .slice none 0 0] 31)) (.slice a las.length c) (.slice a2 lat.length c2) (.slice a3 hd.length c3) las lat hd ∧ VarAt (((w.alloc (.cells #[.slice a las.length c, .slice a2 lat.length c2, .slice a3 hd.length c3] 31)).alloc (.cells #[.int .i64 dd, .int .i64 at0, .int .i64 to0, .slice ab bs.length cb, .slice ak ks.length ck] 37)).alloc (.cells #[.slice none 0 0, .slice none 0 0, .slice none 0 0] 31)) w.heap.size [.slice a las.length c, .slice a2 lat.length c2, .slice a3 hd.length c3] ∧ VarAt (((w.alloc (.cells #[.slice a las.length c, .slice a2 lat.length c2, .slice a3 hd.length c3] 31)).alloc (.cells #[.int .i64 dd, .int .i64 at0, .int .i64 to0, .slice ab bs.length cb, .slice ak ks.length ck] 37)).alloc (.cells #[.slice none 0 0, .slice none 0 0, .slice none 0 0] 31)) (w.heap.size + 1) [.int .i64 dd, .int .i64 at0, .int .i64 to0, .slice ab bs.length cb, .slice ak ks.length ck] ∧ VarAt (((w.alloc (.cells #[.slice a las.length c, .slice a2 lat.length c2, .slice a3 hd.length c3] 31)).alloc (.cells #[.int .i64 dd, .int .i64 at0, .int .i64 to0, .slice ab bs.length cb, .slice ak ks.length ck] 37)).alloc (.cells #[.slice none 0 0, .slice none 0 0, .slice none 0 0] 31)) (w.heap.size + 1 + 1) [.slice none 0 0, .slice none 0 0, .slice none 0 0] ∧ RdV (Value.int .u8) 0 (fun i => i < w.heap.size ∧ i ≠ b ∧ i ≠ bl ∧ i ≠ bt) (((w.alloc (.cells #[.slice a las.length c, .slice a2 lat.length c2, .slice a3 hd.length c3] 31)).alloc (.cells #[.int .i64 dd, .int .i64 at0, .int .i64 to0, .slice ab bs.length cb, .slice ak ks.length ck] 37)).alloc (.cells #[.slice none 0 0, .slice none 0 0, .slice none 0 0] 31)) (.slice ab bs.length cb) bs ∧ RdV Value.bool false (fun i => i < w.heap.size ∧ i ≠ b ∧ i ≠ bl ∧ i ≠ bt) (((w.alloc (.cells #[.slice a las.length c, .slice a2 lat.length c2, .slice a3 hd.length c3] 31)).alloc (.cells #[.int .i64 dd, .int .i64 at0, .int .i64 to0, .slice ab bs.length cb, .slice ak ks.length ck] 37)).alloc (.cells #[.slice none 0 0, .slice none 0 0, .slice none 0 0] 31)) (.slice ak ks.length ck) ks ∧ Grow w (((w.alloc (.cells #[.slice a las.length c, .slice a2 lat.length c2, .slice a3 hd.length c3] 31)).alloc (.cells #[.int .i64 dd, .int .i64 at0, .int .i64 to0, .slice ab bs.length cb, .slice ak ks.length ck] 37)).alloc (.cells #[.slice none 0 0, .slice none 0 0, .slice none 0 0] 31))) := by
    have hg : ∀ W o, Grow W (World.alloc W o) := fun W o => (Grow.refl W).alloc o
    have g3 : Grow w (((w.alloc (.cells #[.slice a las.length c, .slice a2 lat.length c2, .slice a3 hd.length c3] 31)).alloc (.cells #[.int .i64 dd, .int .i64 at0, .int .i64 to0, .slice ab bs.length cb, .slice ak ks.length ck] 37)).alloc (.cells #[.slice none 0 0, .slice none 0 0, .slice none 0 0] 31)) := ((hg _ _).trans (hg _ _)).trans (hg _ _)
    refine ⟨(h.mono (q := (fun i => p i ∧ i ≠ w.heap.size ∧ i ≠ w.heap.size + 1 ∧ i ≠ w.heap.size + 1 + 1)) (fun i hi hh => ⟨hh, by omega, by omega, by omega⟩) (fun hh => HN.out.1 hh.1) (fun hh => HN.out.2.1 hh.1) (fun hh => HN.out.2.2 hh.1)).grow g3, (hq.mono (fun i hi hh => ⟨hh, by omega, by omega, by omega⟩)).grow g3, ((VarAt.new w [.slice a las.length c, .slice a2 lat.length c2, .slice a3 hd.length c3] 31).grow (hg _ _)).grow (hg _ _), (VarAt.new2 w _ [.int .i64 dd, .int .i64 at0, .int .i64 to0, .slice ab bs.length cb, .slice ak ks.length ck] 37).grow (hg _ _), ?_, (hb.mono (fun i hi hh => ⟨hi, hh⟩)).grow g3, (hk.mono (fun i hi hh => ⟨hi, hh⟩)).grow g3, g3⟩
    have := VarAt.new3 w (.cells #[.slice a las.length c, .slice a2 lat.length c2, .slice a3 hd.length c3] 31) (.cells #[.int .i64 dd, .int .i64 at0, .int .i64 to0, .slice ab bs.length cb, .slice ak ks.length ck] 37) [.slice none 0 0, .slice none 0 0, .slice none 0 0] 31
    exact this
  have bat := around_bd at0 ((las.length : Int) + 2) (by omega)
  have bto := around_bd to0 ((las.length : Int) + 2) (by omega)
  have hwn : IntKind.i64.wrap ((las.length : Int) + 2) = (las.length : Int) + 2 := by rw [IntKind.wrap_i64]; omega
  have hw1 : IntKind.i64.wrap (around at0 ((las.length : Int) + 2) - 1) = around at0 ((las.length : Int) + 2) - 1 := by rw [IntKind.wrap_i64]; omega
  have r1 := fun w' => around_any at0 ((las.length : Int) + 2) w' hat (by omega) (by omega)
  have r2 := fun w' => around_any to0 ((las.length : Int) + 2) w' hto (by omega) (by omega)
  have r3 := fun w' => around_any dd 10 w' hdd (by omega) (by omega)
  have HAT : Hid (-1 ≤ around at0 ((las.length : Int) + 2) - 1 ∧ around at0 ((las.length : Int) + 2) - 1 ≤ las.length) := ⟨by omega, by omega⟩
  have HTO : Hid (0 ≤ around to0 ((las.length : Int) + 2) ∧ around to0 ((las.length : Int) + 2) ≤ (las.length : Int) + 1) := ⟨by omega, by omega⟩
  obtain ⟨AT, hAT⟩ : ∃ AT, around at0 ((las.length : Int) + 2) - 1 = AT := ⟨_, rfl⟩
  have hw2 : IntKind.i64.wrap (around at0 ((las.length : Int) + 2) - 1) = AT := by rw [hw1, hAT]
  clear hw1
  rw [hAT] at HAT
  generalize around at0 ((las.length : Int) + 2) = at1 at r1 hw2 hAT
  generalize around to0 ((las.length : Int) + 2) = TO at r2 HTO
  have hAw : (Lit.int .i64 AT).wf = true := wfI (by have := HAT.out; omega)
  have hTw : (Lit.int .i64 TO).wf = true := wfI (by have := HTO.out; omega)
  have HA : Hid (DevOk las lat hd) := h.ok
  clear bat bto h hq hb hk hp hblk hAT hc1 hd1
  by_cases hk9 : ks.length ≤ 9
  · have hle' : (ks.length : Int) ≤ 9 := by omega
    have hmin : min (ks.length : Int) 9 = (ks.length : Int) := by omega
    have HK9 : Hid (ks.length ≤ 9) := hk9
    rw [h7] at r3
    clear h7
    go_enter Try.func12, Try.ntmps12
    obtain ⟨w3, hw3⟩ : ∃ w3, (((w.alloc (.cells #[.slice a las.length c, .slice a2 lat.length c2, .slice a3 hd.length c3] 31)).alloc (.cells #[.int .i64 dd, .int .i64 at0, .int .i64 to0, .slice ab bs.length cb, .slice ak ks.length ck] 37)).alloc (.cells #[.slice none 0 0, .slice none 0 0, .slice none 0 0] 31)) = w3 := ⟨_, rfl⟩
    rw [hw3] at HS
    obtain ⟨⟨x0, x1, x2⟩, -⟩ := HS.out.2.2.1.three
    obtain ⟨y0, y1, y2, y3, y4⟩ := HS.out.2.2.2.1.five'
    obtain ⟨⟨z0, z1, z2⟩, fz0, fz1, fz2⟩ := HS.out.2.2.2.2.1.three
    go_wp2_with fail
    refine (r1 w3).mono ?_
    rintro e w4 ⟨rfl, rfl⟩
    go_wp2_with fail
    refine (r2 w3).mono ?_
    rintro e w4 ⟨rfl, rfl⟩
    go_wp2_with fail
    refine (r3 w3).mono ?_
    rintro e w4 ⟨rfl, rfl⟩
    have hsz : w.heap.size + 3 ≤ w3.heap.size := HS.out.2.2.2.2.1.lt
    have hkr := HS.out.2.2.2.2.2.2.1
    have HKR : Hid (RdV Value.bool false (fun i => i < w.heap.size ∧ i ≠ b ∧ i ≠ bl ∧ i ≠ bt) w3 (.slice ak ks.length ck) ks) := hkr
    have hbn := bnew_any (.slice ak ks.length ck) ks _ w3 hkr (by omega)
    clear r1 r2 r3 hkr
    go_wp2_with fail
    refine hbn.mono ?_
    rintro e w4 ⟨sb, sg, rfl, hS4, hg4, hsg, hsb⟩
    have hne : sb ≠ b ∧ sb ≠ bl ∧ sb ≠ bt ∧ sg ≠ bl ∧ sg ≠ bt := by have := HB.out; omega
    have HSB : Hid (w3.heap.size ≤ sb ∧ w3.heap.size ≤ sg) := ⟨hsb, hsg⟩
    have hcr := dcrash_any w4 (fun i => (p i ∧ i ≠ w.heap.size ∧ i ≠ w.heap.size + 1 ∧ i ≠ w.heap.size + 1 + 1) ∧ i ≠ sb) b bl bt s las lat hd ((HS.out.1.beside (x := sb) hsb).grow hg4) AT TO hAw hTw sb sg ks hS4 hne (fun hh => hh.2 rfl)
    have HS4 : Hid (DocV (fun i => (p i ∧ i ≠ w.heap.size ∧ i ≠ w.heap.size + 1 ∧ i ≠ w.heap.size + 1 + 1) ∧ i < w3.heap.size) w4 (.slice a las.length c) (.slice a2 lat.length c2) (.slice a3 hd.length c3) las lat hd ∧ VarAt w4 w.heap.size [.slice a las.length c, .slice a2 lat.length c2, .slice a3 hd.length c3] ∧ VarAt w4 (w.heap.size + 1 + 1) [.slice none 0 0, .slice none 0 0, .slice none 0 0] ∧ RdV Value.bool false (fun i => i < w.heap.size ∧ i ≠ b ∧ i ≠ bl ∧ i ≠ bt) w4 (.slice ak ks.length ck) ks ∧ Grow w w4) :=
      ⟨(HS.out.2.1.mono (fun i hi hh => ⟨hh, hi⟩)).grow hg4, HS.out.2.2.1.grow hg4, HS.out.2.2.2.2.1.grow hg4, HKR.out.grow hg4, HS.out.2.2.2.2.2.2.2.trans hg4⟩
    clear hbn hS4 hg4 hsb hsg x0 x1 x2 y0 y1 y2 y3 y4 z0 z1 z2 fz0 fz1 fz2 hw3 HS HKR
    go_wp2_with fail
    refine hcr.mono ?_
    rintro e w5 ⟨n5, rfl, hD5, hS5, hu5⟩
    have HS5 : Hid (DevAt w5 (fun i => p i ∧ i ≠ w.heap.size ∧ i ≠ w.heap.size + 1 ∧ i ≠ w.heap.size + 1 + 1) b bl bt s (crashL ((las, lat), ks) (laterL lat AT TO)).1.1 (crashL ((las, lat), ks) (laterL lat AT TO)).1.2 hd ∧ StrAt w5 sb sg (crashL ((las, lat), ks) (laterL lat AT TO)).2 n5 ∧ DocV (fun i => p i ∧ i ≠ w.heap.size ∧ i ≠ w.heap.size + 1 ∧ i ≠ w.heap.size + 1 + 1) w5 (.slice a las.length c) (.slice a2 lat.length c2) (.slice a3 hd.length c3) las lat hd ∧ VarAt w5 w.heap.size [.slice a las.length c, .slice a2 lat.length c2, .slice a3 hd.length c3] ∧ VarAt w5 (w.heap.size + 1 + 1) [.slice none 0 0, .slice none 0 0, .slice none 0 0] ∧ RdV Value.bool false (fun i => i < w.heap.size ∧ i ≠ b ∧ i ≠ bl ∧ i ≠ bt) w5 (.slice ak ks.length ck) ks ∧ UpdS (fun i => i = b ∨ i = bl ∨ i = bt) w w5 ∧ w3.heap.size ≤ w5.heap.size) := by
      have hB := HB.out
      have hb2 := HSB.out
      refine ⟨hD5.back (by omega), hS5, (HS4.out.1.upd hu5 (fun i _ hi hh => ?_)).mono (fun i _ hi => hi.1), HS4.out.2.1.upd hu5 (by omega), HS4.out.2.2.1.upd hu5 (by omega), HS4.out.2.2.2.1.upd hu5 (fun i _ hi hh => by omega), UpdS.beyond HS4.out.2.2.2.2.s hu5 (fun i hi hh => by omega), ?_⟩
      · rcases hh with e | e | e
        · exact HN.out.2.1 (by rw [← e]; exact hi.1.1)
        · exact HN.out.2.2 (by rw [← e]; exact hi.1.1)
        · omega
      · have h1 := hu5.size; have h2 := (StrAt.lt hS5).1; have h3 := hD5.lt; omega
    obtain ⟨⟨p0, p1, p2⟩, -⟩ := HS5.out.2.2.2.1.three
    have hqc := qcrash_any (fun i => p i ∧ i ≠ w.heap.size ∧ i ≠ w.heap.size + 1 ∧ i ≠ w.heap.size + 1 + 1) _ _ _ las lat hd w5 HS5.out.2.2.1 HA.out AT TO hAw hTw _ (.slice ak ks.length ck) ks HS5.out.2.2.2.2.2.1 (fun i hi => HP.out i (by have := HS5.out.2.2.2.2.2.2.2; omega))
    clear hD5 hS5 hu5 hcr HS4
    go_wp2_with fail
    refine hqc.mono ?_
    rintro e w6 ⟨lv6, tv6, hv6, sv6, n6, rfl, hQ6, hr6, hg6⟩
    obtain ⟨a5, c5, rfl, -⟩ := hQ6.1.shape
    obtain ⟨a6, c6, rfl, -⟩ := hQ6.2.1.shape
    obtain ⟨a7, c7, rfl⟩ := hQ6.2.2.shape
    obtain ⟨a8, c8, rfl⟩ := hr6.shape
    have hll : (crashL ((las, lat), ks) (laterL lat AT TO)).2.length ≤ 100000000 := by
      have h1 := crashL_bits (laterL lat AT TO) ((las, lat), ks)
      have h2 : (ks).length ≤ 9 := HK9.out
      have h3 : (crashL ((las, lat), ks) (laterL lat AT TO)).2.length ≤ (ks).length := h1
      omega
    generalize (crashL ((las, lat), ks) (laterL lat AT TO)).1.1.length = L1 at hQ6
    generalize (crashL ((las, lat), ks) (laterL lat AT TO)).1.2.length = L2 at hQ6
    generalize (crashL ((las, lat), ks) (laterL lat AT TO)).2.length = L8 at hr6
    have hga : Grow w6 ((w6.alloc (.cells #[.slice a5 L1 c5, .slice a6 L2 c6, .slice a7 hd.length c7] 31)).alloc (.cells #[.slice a8 L8 c8, .int .i64 n6] 68)) := ((Grow.refl w6).alloc _).alloc _
    have HS7 : Hid (DevAt ((w6.alloc (.cells #[.slice a5 L1 c5, .slice a6 L2 c6, .slice a7 hd.length c7] 31)).alloc (.cells #[.slice a8 L8 c8, .int .i64 n6] 68)) (fun i => p i ∧ i ≠ w.heap.size ∧ i ≠ w.heap.size + 1 ∧ i ≠ w.heap.size + 1 + 1) b bl bt s (crashL ((las, lat), ks) (laterL lat AT TO)).1.1 (crashL ((las, lat), ks) (laterL lat AT TO)).1.2 hd ∧ StrAt ((w6.alloc (.cells #[.slice a5 L1 c5, .slice a6 L2 c6, .slice a7 hd.length c7] 31)).alloc (.cells #[.slice a8 L8 c8, .int .i64 n6] 68)) sb sg (crashL ((las, lat), ks) (laterL lat AT TO)).2 n5 ∧ DocV (fun i => p i ∧ i ≠ w.heap.size ∧ i ≠ w.heap.size + 1 ∧ i ≠ w.heap.size + 1 + 1) ((w6.alloc (.cells #[.slice a5 L1 c5, .slice a6 L2 c6, .slice a7 hd.length c7] 31)).alloc (.cells #[.slice a8 L8 c8, .int .i64 n6] 68)) (.slice a5 L1 c5) (.slice a6 L2 c6) (.slice a7 hd.length c7) (crashL ((las, lat), ks) (laterL lat AT TO)).1.1 (crashL ((las, lat), ks) (laterL lat AT TO)).1.2 hd ∧ VarAt ((w6.alloc (.cells #[.slice a5 L1 c5, .slice a6 L2 c6, .slice a7 hd.length c7] 31)).alloc (.cells #[.slice a8 L8 c8, .int .i64 n6] 68)) w6.heap.size [.slice a5 L1 c5, .slice a6 L2 c6, .slice a7 hd.length c7] ∧ VarAt ((w6.alloc (.cells #[.slice a5 L1 c5, .slice a6 L2 c6, .slice a7 hd.length c7] 31)).alloc (.cells #[.slice a8 L8 c8, .int .i64 n6] 68)) (w6.heap.size + 1) [.slice a8 L8 c8, .int .i64 n6] ∧ VarAt ((w6.alloc (.cells #[.slice a5 L1 c5, .slice a6 L2 c6, .slice a7 hd.length c7] 31)).alloc (.cells #[.slice a8 L8 c8, .int .i64 n6] 68)) (w.heap.size + 1 + 1) [.slice none 0 0, .slice none 0 0, .slice none 0 0] ∧ RdV Value.bool false (fun i => i < w5.heap.size) ((w6.alloc (.cells #[.slice a5 L1 c5, .slice a6 L2 c6, .slice a7 hd.length c7] 31)).alloc (.cells #[.slice a8 L8 c8, .int .i64 n6] 68)) (.slice a8 L8 c8) (crashL ((las, lat), ks) (laterL lat AT TO)).2 ∧ UpdS (fun i => i = b ∨ i = bl ∨ i = bt) w ((w6.alloc (.cells #[.slice a5 L1 c5, .slice a6 L2 c6, .slice a7 hd.length c7] 31)).alloc (.cells #[.slice a8 L8 c8, .int .i64 n6] 68)) ∧ w.heap.size + 3 ≤ w6.heap.size) :=
      ⟨(HS5.out.1.grow hg6).grow hga, (HS5.out.2.1.grow hg6).grow hga, hQ6.grow hga, (VarAt.new w6 _ _).grow ((Grow.refl _).alloc _), VarAt.new2 w6 _ _ _, (HS5.out.2.2.2.2.1.grow hg6).grow hga, hr6.grow hga, (HS5.out.2.2.2.2.2.2.1.trans hg6.s).trans hga.s, by have h1 := hg6.size; have h2 := HS5.out.2.2.2.2.2.2.2; omega⟩
    obtain ⟨w7, hw7⟩ : ∃ w7, ((w6.alloc (.cells #[.slice a5 L1 c5, .slice a6 L2 c6, .slice a7 hd.length c7] 31)).alloc (.cells #[.slice a8 L8 c8, .int .i64 n6] 68)) = w7 := ⟨_, rfl⟩
    rw [hw7] at HS7
    have gd7 : Grow w7 w7.drew := (Grow.refl w7).drew
    have fx : ∀ w', UpdS (fun i => i = w.heap.size + 1 + 1) w7.drew w' → (w'.cell? ⟨w6.heap.size, 0, none⟩ = some (.slice a5 L1 c5) ∧ w'.cell? ⟨w6.heap.size, 1, none⟩ = some (.slice a6 L2 c6) ∧ w'.cell? ⟨w6.heap.size, 2, none⟩ = some (.slice a7 hd.length c7)) ∧ w'.cell? ⟨w6.heap.size + 1, 0, none⟩ = some (.slice a8 L8 c8) := fun w' g =>
      ⟨(((HS7.out.2.2.2.1.grow gd7).upd g (by have h1 := HS7.out.2.2.2.2.2.2.2.2; omega)).three).1, (((HS7.out.2.2.2.2.1.grow gd7).upd g (by have h1 := HS7.out.2.2.2.2.2.2.2.2; omega)).two).1.1⟩
    have hlf := bleft_any sb sg (crashL ((las, lat), ks) (laterL lat AT TO)).2 n5 w7.drew (HS7.out.2.1.grow gd7) hll
    clear hQ6 hr6 hg6 hga hqc HS5 p0 p1 p2 hll
    go_wp2
    refine wp_region_schedG (UpdS (fun i => i = w.heap.size + 1 + 1)) (UpdS.refl _) (fun _ _ _ => UpdS.trans) (by kernel_rfl) [(0, false), (1, false), (3, false), (4, false), (2, true), (5, true), (6, true), (7, false)] (by kernel_rfl) (by kernel_rfl) rfl (fun _ _ d _ _ h => by cases d <;> exact h) ?_
    simp only [inOrder, List.filterMap_cons, List.filterMap_nil, List.getElem?_toArray, List.getElem?_cons_zero, List.getElem?_cons_succ, Option.map_some]
    repeat (first
      | (refine wpS_move rfl ?_; simp only [Act.eval, Act.put, Array.getD_eq_getD_getElem?, List.getElem?_toArray, List.getElem?_cons_zero, List.getElem?_cons_succ, Option.getD_some, List.setIfInBounds_toArray, List.set_cons_zero, List.set_cons_succ])
      | (refine wpS_assign rfl ?_; simp only [Act.eval, Act.put, Array.getD_eq_getD_getElem?, List.getElem?_toArray, List.getElem?_cons_zero, List.getElem?_cons_succ, Option.getD_some, List.setIfInBounds_toArray, List.set_cons_zero, List.set_cons_succ])
      | (refine wpS_read (v := ?_) rfl ?_ ?_; rotate_left; (focus (intro w' hG; obtain ⟨⟨q0, q1, q2⟩, q3⟩ := fx w' hG; go_simp; try (with_reducible rfl))); simp only [Act.put, List.setIfInBounds_toArray, List.set_cons_zero, List.set_cons_succ])
      | (refine wpS_skip rfl ?_; simp only [Act.put, List.setIfInBounds_toArray, List.set_cons_zero, List.set_cons_succ]))
    refine wpS_call (f := ?_) (args := ?_) (by rfl) ?_ ?_
    rotate_left 2; focus (go_simp; constructor <;> with_reducible rfl)
    refine (hlf).mono ?_
    rintro e w8 ⟨v8, rfl, ho8, hg8, -⟩
    refine ⟨v8, rfl, hg8.s, ?_⟩
    simp only [Act.put, List.setIfInBounds_toArray, List.set_cons_zero, List.set_cons_succ]
    have hsm := bsame_any v8 (.slice a8 L8 c8) _ _ _ _ w8 ho8.rd ((HS7.out.2.2.2.2.2.2.1.grow gd7).grow hg8)
    rw [decide_eq_true rfl] at hsm
    refine wpS_call (f := ?_) (args := ?_) (by rfl) ?_ ?_
    rotate_left 2; focus (go_simp; constructor <;> with_reducible rfl)
    refine (hsm).mono ?_
    rintro e w9 ⟨rfl, hg9⟩
    refine ⟨_, rfl, hg9.s, ?_⟩
    simp only [Act.put, List.setIfInBounds_toArray, List.set_cons_zero, List.set_cons_succ]
    have g79 : Grow w7 w9 := (gd7.trans hg8).trans hg9
    have HF : Hid _ := does_end (p := p) (w := w) (W := w9) (s := s) (s2 := s) (las := las) (HS7.out.1.grow g79) (HS7.out.2.2.1.grow g79) (HS7.out.2.2.2.2.2.1.grow g79) (HS7.out.2.2.2.2.2.2.2.1.trans g79.s) HN.out HB.out (by omega) (crashL_len _ _).1
    obtain ⟨⟨z0', z1', z2'⟩, fz0', fz1', fz2'⟩ := (HS7.out.2.2.2.2.2.1.grow g79).three
    refine wpS_store (w' := (((w9.setCell ⟨w.heap.size + 1 + 1, 0, none⟩ (.slice a5 L1 c5)).setCell ⟨w.heap.size + 1 + 1, 1, none⟩ (.slice a6 L2 c6)).setCell ⟨w.heap.size + 1 + 1, 2, none⟩ (.slice a7 hd.length c7))) rfl (by go_simp) (upd_three w9 (w.heap.size + 1 + 1) (.slice a5 L1 c5) (.slice a6 L2 c6) (.slice a7 hd.length c7)) ?_
    simp only [Act.put, List.setIfInBounds_toArray, List.set_cons_zero, List.set_cons_succ]
    repeat (first
      | (refine wpS_move rfl ?_; simp only [Act.eval, Act.put, Array.getD_eq_getD_getElem?, List.getElem?_toArray, List.getElem?_cons_zero, List.getElem?_cons_succ, Option.getD_some, List.setIfInBounds_toArray, List.set_cons_zero, List.set_cons_succ])
      | (refine wpS_assign rfl ?_; simp only [Act.eval, Act.put, Array.getD_eq_getD_getElem?, List.getElem?_toArray, List.getElem?_cons_zero, List.getElem?_cons_succ, Option.getD_some, List.setIfInBounds_toArray, List.set_cons_zero, List.set_cons_succ])
      | (refine wpS_read (v := ?_) rfl ?_ ?_; rotate_left; (focus (intro w' hG; skip; go_simp; try (with_reducible rfl))); simp only [Act.put, List.setIfInBounds_toArray, List.set_cons_zero, List.set_cons_succ])
      | (refine wpS_skip rfl ?_; simp only [Act.put, List.setIfInBounds_toArray, List.set_cons_zero, List.set_cons_succ]))
    refine wpS_nil ?_
    clear fx hlf hsm ho8 hg8 hg9 HS7 z0' z1' z2' fz0' fz1' fz2' g79
    go_wp2
    exact bodyPost_ret_by (results_cell_tmp rfl _ _ _ _ rfl (load_D _ _ _ _ _ HF.out.1)) rfl ⟨_, _, _, rfl, _, _, _, HF.out.2⟩
  · have hle' : ¬ (ks.length : Int) ≤ 9 := by omega
    have hle2 : (9 : Int) < (ks.length : Int) := by omega
    have hmin : min (ks.length : Int) 9 = 9 := by omega
    have HK9 : Hid ((ks.take 9).length ≤ 9) := by show (ks.take 9).length ≤ 9; rw [List.length_take]; omega
    rw [h7] at r3
    clear h7
    go_enter Try.func12, Try.ntmps12
    obtain ⟨w3, hw3⟩ : ∃ w3, (((w.alloc (.cells #[.slice a las.length c, .slice a2 lat.length c2, .slice a3 hd.length c3] 31)).alloc (.cells #[.int .i64 dd, .int .i64 at0, .int .i64 to0, .slice ab bs.length cb, .slice ak ks.length ck] 37)).alloc (.cells #[.slice none 0 0, .slice none 0 0, .slice none 0 0] 31)) = w3 := ⟨_, rfl⟩
    rw [hw3] at HS
    obtain ⟨⟨x0, x1, x2⟩, -⟩ := HS.out.2.2.1.three
    obtain ⟨y0, y1, y2, y3, y4⟩ := HS.out.2.2.2.1.five'
    obtain ⟨⟨z0, z1, z2⟩, fz0, fz1, fz2⟩ := HS.out.2.2.2.2.1.three
    go_wp2_with fail
    refine (r1 w3).mono ?_
    rintro e w4 ⟨rfl, rfl⟩
    go_wp2_with fail
    refine (r2 w3).mono ?_
    rintro e w4 ⟨rfl, rfl⟩
    go_wp2_with fail
    refine (r3 w3).mono ?_
    rintro e w4 ⟨rfl, rfl⟩
    have hsz : w.heap.size + 3 ≤ w3.heap.size := HS.out.2.2.2.2.1.lt
    have hkr := HS.out.2.2.2.2.2.2.1.take 9 (by omega)
    have HKR : Hid (RdV Value.bool false (fun i => i < w.heap.size ∧ i ≠ b ∧ i ≠ bl ∧ i ≠ bt) w3 (.slice ak 9 ck) (ks.take 9)) := hkr
    have hbn := bnew_any (.slice ak 9 ck) (ks.take 9) _ w3 hkr (by have := HK9.out; omega)
    clear r1 r2 r3 hkr
    go_wp2_with fail
    refine hbn.mono ?_
    rintro e w4 ⟨sb, sg, rfl, hS4, hg4, hsg, hsb⟩
    have hne : sb ≠ b ∧ sb ≠ bl ∧ sb ≠ bt ∧ sg ≠ bl ∧ sg ≠ bt := by have := HB.out; omega
    have HSB : Hid (w3.heap.size ≤ sb ∧ w3.heap.size ≤ sg) := ⟨hsb, hsg⟩
    have hcr := dcrash_any w4 (fun i => (p i ∧ i ≠ w.heap.size ∧ i ≠ w.heap.size + 1 ∧ i ≠ w.heap.size + 1 + 1) ∧ i ≠ sb) b bl bt s las lat hd ((HS.out.1.beside (x := sb) hsb).grow hg4) AT TO hAw hTw sb sg (ks.take 9) hS4 hne (fun hh => hh.2 rfl)
    have HS4 : Hid (DocV (fun i => (p i ∧ i ≠ w.heap.size ∧ i ≠ w.heap.size + 1 ∧ i ≠ w.heap.size + 1 + 1) ∧ i < w3.heap.size) w4 (.slice a las.length c) (.slice a2 lat.length c2) (.slice a3 hd.length c3) las lat hd ∧ VarAt w4 w.heap.size [.slice a las.length c, .slice a2 lat.length c2, .slice a3 hd.length c3] ∧ VarAt w4 (w.heap.size + 1 + 1) [.slice none 0 0, .slice none 0 0, .slice none 0 0] ∧ RdV Value.bool false (fun i => i < w.heap.size ∧ i ≠ b ∧ i ≠ bl ∧ i ≠ bt) w4 (.slice ak 9 ck) (ks.take 9) ∧ Grow w w4) :=
      ⟨(HS.out.2.1.mono (fun i hi hh => ⟨hh, hi⟩)).grow hg4, HS.out.2.2.1.grow hg4, HS.out.2.2.2.2.1.grow hg4, HKR.out.grow hg4, HS.out.2.2.2.2.2.2.2.trans hg4⟩
    clear hbn hS4 hg4 hsb hsg x0 x1 x2 y0 y1 y2 y3 y4 z0 z1 z2 fz0 fz1 fz2 hw3 HS HKR
    go_wp2_with fail
    refine hcr.mono ?_
    rintro e w5 ⟨n5, rfl, hD5, hS5, hu5⟩
    have HS5 : Hid (DevAt w5 (fun i => p i ∧ i ≠ w.heap.size ∧ i ≠ w.heap.size + 1 ∧ i ≠ w.heap.size + 1 + 1) b bl bt s (crashL ((las, lat), (ks.take 9)) (laterL lat AT TO)).1.1 (crashL ((las, lat), (ks.take 9)) (laterL lat AT TO)).1.2 hd ∧ StrAt w5 sb sg (crashL ((las, lat), (ks.take 9)) (laterL lat AT TO)).2 n5 ∧ DocV (fun i => p i ∧ i ≠ w.heap.size ∧ i ≠ w.heap.size + 1 ∧ i ≠ w.heap.size + 1 + 1) w5 (.slice a las.length c) (.slice a2 lat.length c2) (.slice a3 hd.length c3) las lat hd ∧ VarAt w5 w.heap.size [.slice a las.length c, .slice a2 lat.length c2, .slice a3 hd.length c3] ∧ VarAt w5 (w.heap.size + 1 + 1) [.slice none 0 0, .slice none 0 0, .slice none 0 0] ∧ RdV Value.bool false (fun i => i < w.heap.size ∧ i ≠ b ∧ i ≠ bl ∧ i ≠ bt) w5 (.slice ak 9 ck) (ks.take 9) ∧ UpdS (fun i => i = b ∨ i = bl ∨ i = bt) w w5 ∧ w3.heap.size ≤ w5.heap.size) := by
      have hB := HB.out
      have hb2 := HSB.out
      refine ⟨hD5.back (by omega), hS5, (HS4.out.1.upd hu5 (fun i _ hi hh => ?_)).mono (fun i _ hi => hi.1), HS4.out.2.1.upd hu5 (by omega), HS4.out.2.2.1.upd hu5 (by omega), HS4.out.2.2.2.1.upd hu5 (fun i _ hi hh => by omega), UpdS.beyond HS4.out.2.2.2.2.s hu5 (fun i hi hh => by omega), ?_⟩
      · rcases hh with e | e | e
        · exact HN.out.2.1 (by rw [← e]; exact hi.1.1)
        · exact HN.out.2.2 (by rw [← e]; exact hi.1.1)
        · omega
      · have h1 := hu5.size; have h2 := (StrAt.lt hS5).1; have h3 := hD5.lt; omega
    obtain ⟨⟨p0, p1, p2⟩, -⟩ := HS5.out.2.2.2.1.three
    have hqc := qcrash_any (fun i => p i ∧ i ≠ w.heap.size ∧ i ≠ w.heap.size + 1 ∧ i ≠ w.heap.size + 1 + 1) _ _ _ las lat hd w5 HS5.out.2.2.1 HA.out AT TO hAw hTw _ (.slice ak 9 ck) (ks.take 9) HS5.out.2.2.2.2.2.1 (fun i hi => HP.out i (by have := HS5.out.2.2.2.2.2.2.2; omega))
    clear hD5 hS5 hu5 hcr HS4
    go_wp2_with fail
    refine hqc.mono ?_
    rintro e w6 ⟨lv6, tv6, hv6, sv6, n6, rfl, hQ6, hr6, hg6⟩
    obtain ⟨a5, c5, rfl, -⟩ := hQ6.1.shape
    obtain ⟨a6, c6, rfl, -⟩ := hQ6.2.1.shape
    obtain ⟨a7, c7, rfl⟩ := hQ6.2.2.shape
    obtain ⟨a8, c8, rfl⟩ := hr6.shape
    have hll : (crashL ((las, lat), (ks.take 9)) (laterL lat AT TO)).2.length ≤ 100000000 := by
      have h1 := crashL_bits (laterL lat AT TO) ((las, lat), (ks.take 9))
      have h2 : ((ks.take 9)).length ≤ 9 := HK9.out
      have h3 : (crashL ((las, lat), (ks.take 9)) (laterL lat AT TO)).2.length ≤ ((ks.take 9)).length := h1
      omega
    generalize (crashL ((las, lat), (ks.take 9)) (laterL lat AT TO)).1.1.length = L1 at hQ6
    generalize (crashL ((las, lat), (ks.take 9)) (laterL lat AT TO)).1.2.length = L2 at hQ6
    generalize (crashL ((las, lat), (ks.take 9)) (laterL lat AT TO)).2.length = L8 at hr6
    have hga : Grow w6 ((w6.alloc (.cells #[.slice a5 L1 c5, .slice a6 L2 c6, .slice a7 hd.length c7] 31)).alloc (.cells #[.slice a8 L8 c8, .int .i64 n6] 68)) := ((Grow.refl w6).alloc _).alloc _
    have HS7 : Hid (DevAt ((w6.alloc (.cells #[.slice a5 L1 c5, .slice a6 L2 c6, .slice a7 hd.length c7] 31)).alloc (.cells #[.slice a8 L8 c8, .int .i64 n6] 68)) (fun i => p i ∧ i ≠ w.heap.size ∧ i ≠ w.heap.size + 1 ∧ i ≠ w.heap.size + 1 + 1) b bl bt s (crashL ((las, lat), (ks.take 9)) (laterL lat AT TO)).1.1 (crashL ((las, lat), (ks.take 9)) (laterL lat AT TO)).1.2 hd ∧ StrAt ((w6.alloc (.cells #[.slice a5 L1 c5, .slice a6 L2 c6, .slice a7 hd.length c7] 31)).alloc (.cells #[.slice a8 L8 c8, .int .i64 n6] 68)) sb sg (crashL ((las, lat), (ks.take 9)) (laterL lat AT TO)).2 n5 ∧ DocV (fun i => p i ∧ i ≠ w.heap.size ∧ i ≠ w.heap.size + 1 ∧ i ≠ w.heap.size + 1 + 1) ((w6.alloc (.cells #[.slice a5 L1 c5, .slice a6 L2 c6, .slice a7 hd.length c7] 31)).alloc (.cells #[.slice a8 L8 c8, .int .i64 n6] 68)) (.slice a5 L1 c5) (.slice a6 L2 c6) (.slice a7 hd.length c7) (crashL ((las, lat), (ks.take 9)) (laterL lat AT TO)).1.1 (crashL ((las, lat), (ks.take 9)) (laterL lat AT TO)).1.2 hd ∧ VarAt ((w6.alloc (.cells #[.slice a5 L1 c5, .slice a6 L2 c6, .slice a7 hd.length c7] 31)).alloc (.cells #[.slice a8 L8 c8, .int .i64 n6] 68)) w6.heap.size [.slice a5 L1 c5, .slice a6 L2 c6, .slice a7 hd.length c7] ∧ VarAt ((w6.alloc (.cells #[.slice a5 L1 c5, .slice a6 L2 c6, .slice a7 hd.length c7] 31)).alloc (.cells #[.slice a8 L8 c8, .int .i64 n6] 68)) (w6.heap.size + 1) [.slice a8 L8 c8, .int .i64 n6] ∧ VarAt ((w6.alloc (.cells #[.slice a5 L1 c5, .slice a6 L2 c6, .slice a7 hd.length c7] 31)).alloc (.cells #[.slice a8 L8 c8, .int .i64 n6] 68)) (w.heap.size + 1 + 1) [.slice none 0 0, .slice none 0 0, .slice none 0 0] ∧ RdV Value.bool false (fun i => i < w5.heap.size) ((w6.alloc (.cells #[.slice a5 L1 c5, .slice a6 L2 c6, .slice a7 hd.length c7] 31)).alloc (.cells #[.slice a8 L8 c8, .int .i64 n6] 68)) (.slice a8 L8 c8) (crashL ((las, lat), (ks.take 9)) (laterL lat AT TO)).2 ∧ UpdS (fun i => i = b ∨ i = bl ∨ i = bt) w ((w6.alloc (.cells #[.slice a5 L1 c5, .slice a6 L2 c6, .slice a7 hd.length c7] 31)).alloc (.cells #[.slice a8 L8 c8, .int .i64 n6] 68)) ∧ w.heap.size + 3 ≤ w6.heap.size) :=
      ⟨(HS5.out.1.grow hg6).grow hga, (HS5.out.2.1.grow hg6).grow hga, hQ6.grow hga, (VarAt.new w6 _ _).grow ((Grow.refl _).alloc _), VarAt.new2 w6 _ _ _, (HS5.out.2.2.2.2.1.grow hg6).grow hga, hr6.grow hga, (HS5.out.2.2.2.2.2.2.1.trans hg6.s).trans hga.s, by have h1 := hg6.size; have h2 := HS5.out.2.2.2.2.2.2.2; omega⟩
    obtain ⟨w7, hw7⟩ : ∃ w7, ((w6.alloc (.cells #[.slice a5 L1 c5, .slice a6 L2 c6, .slice a7 hd.length c7] 31)).alloc (.cells #[.slice a8 L8 c8, .int .i64 n6] 68)) = w7 := ⟨_, rfl⟩
    rw [hw7] at HS7
    have gd7 : Grow w7 w7.drew := (Grow.refl w7).drew
    have fx : ∀ w', UpdS (fun i => i = w.heap.size + 1 + 1) w7.drew w' → (w'.cell? ⟨w6.heap.size, 0, none⟩ = some (.slice a5 L1 c5) ∧ w'.cell? ⟨w6.heap.size, 1, none⟩ = some (.slice a6 L2 c6) ∧ w'.cell? ⟨w6.heap.size, 2, none⟩ = some (.slice a7 hd.length c7)) ∧ w'.cell? ⟨w6.heap.size + 1, 0, none⟩ = some (.slice a8 L8 c8) := fun w' g =>
      ⟨(((HS7.out.2.2.2.1.grow gd7).upd g (by have h1 := HS7.out.2.2.2.2.2.2.2.2; omega)).three).1, (((HS7.out.2.2.2.2.1.grow gd7).upd g (by have h1 := HS7.out.2.2.2.2.2.2.2.2; omega)).two).1.1⟩
    have hlf := bleft_any sb sg (crashL ((las, lat), (ks.take 9)) (laterL lat AT TO)).2 n5 w7.drew (HS7.out.2.1.grow gd7) hll
    clear hQ6 hr6 hg6 hga hqc HS5 p0 p1 p2 hll
    go_wp2
    refine wp_region_schedG (UpdS (fun i => i = w.heap.size + 1 + 1)) (UpdS.refl _) (fun _ _ _ => UpdS.trans) (by kernel_rfl) [(0, false), (1, false), (3, false), (4, false), (2, true), (5, true), (6, true), (7, false)] (by kernel_rfl) (by kernel_rfl) rfl (fun _ _ d _ _ h => by cases d <;> exact h) ?_
    simp only [inOrder, List.filterMap_cons, List.filterMap_nil, List.getElem?_toArray, List.getElem?_cons_zero, List.getElem?_cons_succ, Option.map_some]
    repeat (first
      | (refine wpS_move rfl ?_; simp only [Act.eval, Act.put, Array.getD_eq_getD_getElem?, List.getElem?_toArray, List.getElem?_cons_zero, List.getElem?_cons_succ, Option.getD_some, List.setIfInBounds_toArray, List.set_cons_zero, List.set_cons_succ])
      | (refine wpS_assign rfl ?_; simp only [Act.eval, Act.put, Array.getD_eq_getD_getElem?, List.getElem?_toArray, List.getElem?_cons_zero, List.getElem?_cons_succ, Option.getD_some, List.setIfInBounds_toArray, List.set_cons_zero, List.set_cons_succ])
      | (refine wpS_read (v := ?_) rfl ?_ ?_; rotate_left; (focus (intro w' hG; obtain ⟨⟨q0, q1, q2⟩, q3⟩ := fx w' hG; go_simp; try (with_reducible rfl))); simp only [Act.put, List.setIfInBounds_toArray, List.set_cons_zero, List.set_cons_succ])
      | (refine wpS_skip rfl ?_; simp only [Act.put, List.setIfInBounds_toArray, List.set_cons_zero, List.set_cons_succ]))
    refine wpS_call (f := ?_) (args := ?_) (by rfl) ?_ ?_
    rotate_left 2; focus (go_simp; constructor <;> with_reducible rfl)
    refine (hlf).mono ?_
    rintro e w8 ⟨v8, rfl, ho8, hg8, -⟩
    refine ⟨v8, rfl, hg8.s, ?_⟩
    simp only [Act.put, List.setIfInBounds_toArray, List.set_cons_zero, List.set_cons_succ]
    have hsm := bsame_any v8 (.slice a8 L8 c8) _ _ _ _ w8 ho8.rd ((HS7.out.2.2.2.2.2.2.1.grow gd7).grow hg8)
    rw [decide_eq_true rfl] at hsm
    refine wpS_call (f := ?_) (args := ?_) (by rfl) ?_ ?_
    rotate_left 2; focus (go_simp; constructor <;> with_reducible rfl)
    refine (hsm).mono ?_
    rintro e w9 ⟨rfl, hg9⟩
    refine ⟨_, rfl, hg9.s, ?_⟩
    simp only [Act.put, List.setIfInBounds_toArray, List.set_cons_zero, List.set_cons_succ]
    have g79 : Grow w7 w9 := (gd7.trans hg8).trans hg9
    have HF : Hid _ := does_end (p := p) (w := w) (W := w9) (s := s) (s2 := s) (las := las) (HS7.out.1.grow g79) (HS7.out.2.2.1.grow g79) (HS7.out.2.2.2.2.2.1.grow g79) (HS7.out.2.2.2.2.2.2.2.1.trans g79.s) HN.out HB.out (by omega) (crashL_len _ _).1
    obtain ⟨⟨z0', z1', z2'⟩, fz0', fz1', fz2'⟩ := (HS7.out.2.2.2.2.2.1.grow g79).three
    refine wpS_store (w' := (((w9.setCell ⟨w.heap.size + 1 + 1, 0, none⟩ (.slice a5 L1 c5)).setCell ⟨w.heap.size + 1 + 1, 1, none⟩ (.slice a6 L2 c6)).setCell ⟨w.heap.size + 1 + 1, 2, none⟩ (.slice a7 hd.length c7))) rfl (by go_simp) (upd_three w9 (w.heap.size + 1 + 1) (.slice a5 L1 c5) (.slice a6 L2 c6) (.slice a7 hd.length c7)) ?_
    simp only [Act.put, List.setIfInBounds_toArray, List.set_cons_zero, List.set_cons_succ]
    repeat (first
      | (refine wpS_move rfl ?_; simp only [Act.eval, Act.put, Array.getD_eq_getD_getElem?, List.getElem?_toArray, List.getElem?_cons_zero, List.getElem?_cons_succ, Option.getD_some, List.setIfInBounds_toArray, List.set_cons_zero, List.set_cons_succ])
      | (refine wpS_assign rfl ?_; simp only [Act.eval, Act.put, Array.getD_eq_getD_getElem?, List.getElem?_toArray, List.getElem?_cons_zero, List.getElem?_cons_succ, Option.getD_some, List.setIfInBounds_toArray, List.set_cons_zero, List.set_cons_succ])
      | (refine wpS_read (v := ?_) rfl ?_ ?_; rotate_left; (focus (intro w' hG; skip; go_simp; try (with_reducible rfl))); simp only [Act.put, List.setIfInBounds_toArray, List.set_cons_zero, List.set_cons_succ])
      | (refine wpS_skip rfl ?_; simp only [Act.put, List.setIfInBounds_toArray, List.set_cons_zero, List.set_cons_succ]))
    refine wpS_nil ?_
    clear fx hlf hsm ho8 hg8 hg9 HS7 z0' z1' z2' fz0' fz1' fz2' g79
    go_wp2
    exact bodyPost_ret_by (results_cell_tmp rfl _ _ _ _ rfl (load_D _ _ _ _ _ HF.out.1)) rfl ⟨_, _, _, rfl, _, _, _, HF.out.2⟩

end Go.Proofs.Ytpkoiogdkaklfaa
