/-
  The walk of the law's 'does': a write; all together. Conditions: each theorem's own.
-/
import Derived.Test.YtpkoiogdkaklfaaDevDoesC
namespace Go.Proofs.Ytpkoiogdkaklfaa
open Go.RowKit
set_option linter.unusedVariables false
set_option linter.unusedSimpArgs false

set_option maxRecDepth 16000 in
set_option maxHeartbeats 4000000 in
theorem does_write (w : World) (p : Nat → Prop) (b bl bt s : Nat) (las lat : List (List Int)) (hd : List Int) (lv tv hv : Value) (h : DevAt w p b bl bt s las lat hd) (hq : DocV p w lv tv hv las lat hd) (hs : s < 1000) (hp : ∀ i, w.heap.size ≤ i → p i) (dd at0 to0 : Int) (hdd : (Lit.int .i64 dd).wf = true) (hat : (Lit.int .i64 at0).wf = true) (hto : (Lit.int .i64 to0).wf = true)
    (bv kv : Value) (bs : List Int) (ks : List Bool) (hb : RdV (Value.int .u8) 0 (fun i => i ≠ b ∧ i ≠ bl ∧ i ≠ bt) w bv bs) (hbo : Oct bs) (hk : RdV Value.bool false (fun i => i ≠ b ∧ i ≠ bl ∧ i ≠ bt) w kv ks) (hw6 : ¬ around dd 10 = 6) (hw7 : ¬ around dd 10 = 7) (hw8 : ¬ around dd 10 = 8) (hw9 : ¬ around dd 10 = 9) :
    Calls Try.prog 12 #[.pointer (some ⟨b, 0, none⟩), .agg #[lv, tv, hv], .agg #[.int .i64 dd, .int .i64 at0, .int .i64 to0, bv, kv]] w fun e w' => ∃ lv' tv' hv', e = .returned (.tuple #[.agg #[lv', tv', hv'], .bool true]) ∧ ∃ las' lat' hd', DevAt w' p b bl bt (s + 1) las' lat' hd' ∧ DocV p w' lv' tv' hv' las' lat' hd' ∧ UpdS (fun i => i = b ∨ i = bl ∨ i = bt) w w' ∧ las'.length = las.length := by
  obtain ⟨a, c, rfl, hc1, hc2⟩ := hq.1.shape
  obtain ⟨a2, c2, rfl, hd1, hd2⟩ := hq.2.1.shape
  obtain ⟨a3, c3, rfl⟩ := hq.2.2.shape
  obtain ⟨ab, cb, rfl⟩ := hb.shape
  obtain ⟨ak, ck, rfl⟩ := hk.shape
  have hbl := hb.len
  have hkl := hk.len
  have hkc := hk.caps.2
  unfold maxLen at hc2 hd2 hbl hkl hkc
  have hlb : (las.length : Int) ≤ 1024 := by have := h.ok.2.2.2.2.2; omega
  have hblk := h.lt
  have HB : Hid (b < w.heap.size ∧ bl < w.heap.size ∧ bt < w.heap.size ∧ b ≠ bl ∧ b ≠ bt ∧ bl ≠ bt) := hblk
  have HN : Hid (¬ p b ∧ ¬ p bl ∧ ¬ p bt) := h.nots
  have HP : Hid (∀ i, w.heap.size + 3 ≤ i → (p i ∧ i ≠ w.heap.size ∧ i ≠ w.heap.size + 1 ∧ i ≠ w.heap.size + 1 + 1)) := fun i hi => ⟨hp i (by omega), by omega, by omega, by omega⟩
  have HS : Hid (DevAt (((w.alloc (.cells #[.slice a las.length c, .slice a2 lat.length c2, .slice a3 hd.length c3] 31)).alloc (.cells #[.int .i64 dd, .int .i64 at0, .int .i64 to0, .slice ab bs.length cb, .slice ak ks.length ck] 37)).alloc (.cells #[.slice none 0 0, .slice none 0 0, .slice none 0 0] 31)) (fun i => p i ∧ i ≠ w.heap.size ∧ i ≠ w.heap.size + 1 ∧ i ≠ w.heap.size + 1 + 1) b bl bt s las lat hd ∧ DocV (fun i => p i ∧ i ≠ w.heap.size ∧ i ≠ w.heap.size + 1 ∧ i ≠ w.heap.size + 1 + 1) (((w.alloc (.cells #[.slice a las.length c, .slice a2 lat.length c2, .slice a3 hd.length c3] 31)).alloc (.cells #[.int .i64 dd, .int .i64 at0, .int .i64 to0, .slice ab bs.length cb, .slice ak ks.length ck] 37)).alloc (.cells #[.slice none 0 0, .slice none 0 0, .slice none 0 0] 31)) (.slice a las.length c) (.slice a2 lat.length c2) (.slice a3 hd.length c3) las lat hd ∧ VarAt (((w.alloc (.cells #[.slice a las.length c, .slice a2 lat.length c2, .slice a3 hd.length c3] 31)).alloc (.cells #[.int .i64 dd, .int .i64 at0, .int .i64 to0, .slice ab bs.length cb, .slice ak ks.length ck] 37)).alloc (.cells #[.slice none 0 0, .slice none 0 0, .slice none 0 0] 31)) w.heap.size [.slice a las.length c, .slice a2 lat.length c2, .slice a3 hd.length c3] ∧ VarAt (((w.alloc (.cells #[.slice a las.length c, .slice a2 lat.length c2, .slice a3 hd.length c3] 31)).alloc (.cells #[.int .i64 dd, .int .i64 at0, .int .i64 to0, .slice ab bs.length cb, .slice ak ks.length ck] 37)).alloc (.cells #[.slice none 0 0, .slice none 0 0, .slice none 0 0] 31)) (w.heap.size + 1) [.int .i64 dd, .int .i64 at0, .int .i64 to0, .slice ab bs.length cb, .slice ak ks.length ck] ∧ VarAt (((w.alloc (.cells #[.slice a las.length c, .slice a2 lat.length c2, .slice a3 hd.length c3] 31)).alloc (.cells #[.int .i64 dd, .int .i64 at0, .int .i64 to0, .slice ab bs.length cb, .slice ak ks.length ck] 37)).alloc (.cells #[.slice none 0 0, .slice none 0 0, .slice none 0 0] 31)) (w.heap.size + 1 + 1) [.slice none 0 0, .slice none 0 0, .slice none 0 0] ∧ RdV (Value.int .u8) 0 (fun i => i < w.heap.size ∧ i ≠ b ∧ i ≠ bl ∧ i ≠ bt) (((w.alloc (.cells #[.slice a las.length c, .slice a2 lat.length c2, .slice a3 hd.length c3] 31)).alloc (.cells #[.int .i64 dd, .int .i64 at0, .int .i64 to0, .slice ab bs.length cb, .slice ak ks.length ck] 37)).alloc (.cells #[.slice none 0 0, .slice none 0 0, .slice none 0 0] 31)) (.slice ab bs.length cb) bs ∧ RdV Value.bool false (fun i => i < w.heap.size ∧ i ≠ b ∧ i ≠ bl ∧ i ≠ bt) (((w.alloc (.cells #[.slice a las.length c, .slice a2 lat.length c2, .slice a3 hd.length c3] 31)).alloc (.cells #[.int .i64 dd, .int .i64 at0, .int .i64 to0, .slice ab bs.length cb, .slice ak ks.length ck] 37)).alloc (.cells #[.slice none 0 0, .slice none 0 0, .slice none 0 0] 31)) (.slice ak ks.length ck) ks ∧ Grow w (((w.alloc (.cells #[.slice a las.length c, .slice a2 lat.length c2, .slice a3 hd.length c3] 31)).alloc (.cells #[.int .i64 dd, .int .i64 at0, .int .i64 to0, .slice ab bs.length cb, .slice ak ks.length ck] 37)).alloc (.cells #[.slice none 0 0, .slice none 0 0, .slice none 0 0] 31))) := by
    have hg : ∀ W o, Grow W (World.alloc W o) := fun W o => (Grow.refl W).alloc o
    have g3 : Grow w (((w.alloc (.cells #[.slice a las.length c, .slice a2 lat.length c2, .slice a3 hd.length c3] 31)).alloc (.cells #[.int .i64 dd, .int .i64 at0, .int .i64 to0, .slice ab bs.length cb, .slice ak ks.length ck] 37)).alloc (.cells #[.slice none 0 0, .slice none 0 0, .slice none 0 0] 31)) := ((hg _ _).trans (hg _ _)).trans (hg _ _)
    refine ⟨(h.mono (q := (fun i => p i ∧ i ≠ w.heap.size ∧ i ≠ w.heap.size + 1 ∧ i ≠ w.heap.size + 1 + 1)) (fun i hi hh => ⟨hh, by omega, by omega, by omega⟩) (fun hh => HN.out.1 hh.1) (fun hh => HN.out.2.1 hh.1) (fun hh => HN.out.2.2 hh.1)).grow g3, (hq.mono (fun i hi hh => ⟨hh, by omega, by omega, by omega⟩)).grow g3, ((VarAt.new w [.slice a las.length c, .slice a2 lat.length c2, .slice a3 hd.length c3] 31).grow (hg _ _)).grow (hg _ _), (VarAt.new2 w _ [.int .i64 dd, .int .i64 at0, .int .i64 to0, .slice ab bs.length cb, .slice ak ks.length ck] 37).grow (hg _ _), ?_, (hb.mono (fun i hi hh => ⟨hi, hh⟩)).grow g3, (hk.mono (fun i hi hh => ⟨hi, hh⟩)).grow g3, g3⟩
    have := VarAt.new3 w (.cells #[.slice a las.length c, .slice a2 lat.length c2, .slice a3 hd.length c3] 31) (.cells #[.int .i64 dd, .int .i64 at0, .int .i64 to0, .slice ab bs.length cb, .slice ak ks.length ck] 37) [.slice none 0 0, .slice none 0 0, .slice none 0 0] 31
    exact this
  have bat := around_bd at0 ((las.length : Int) + 2) (by omega)
  have bto := around_bd to0 ((las.length : Int) + 2) (by omega)
  have hwn : IntKind.i64.wrap ((las.length : Int) + 2) = (las.length : Int) + 2 := by rw [IntKind.wrap_i64]; omega
  have hw1 : IntKind.i64.wrap (around at0 ((las.length : Int) + 2) - 1) = around at0 ((las.length : Int) + 2) - 1 := by rw [IntKind.wrap_i64]; omega
  have r1 := fun w' => around_any at0 ((las.length : Int) + 2) w' hat (by omega) (by omega)
  have r2 := fun w' => around_any to0 ((las.length : Int) + 2) w' hto (by omega) (by omega)
  have r3 := fun w' => around_any dd 10 w' hdd (by omega) (by omega)
  have HAT : Hid (-1 ≤ around at0 ((las.length : Int) + 2) - 1 ∧ around at0 ((las.length : Int) + 2) - 1 ≤ las.length) := ⟨by omega, by omega⟩
  have HTO : Hid (0 ≤ around to0 ((las.length : Int) + 2) ∧ around to0 ((las.length : Int) + 2) ≤ (las.length : Int) + 1) := ⟨by omega, by omega⟩
  obtain ⟨AT, hAT⟩ : ∃ AT, around at0 ((las.length : Int) + 2) - 1 = AT := ⟨_, rfl⟩
  have hw2 : IntKind.i64.wrap (around at0 ((las.length : Int) + 2) - 1) = AT := by rw [hw1, hAT]
  clear hw1
  rw [hAT] at HAT
  generalize around at0 ((las.length : Int) + 2) = at1 at r1 hw2 hAT
  generalize around to0 ((las.length : Int) + 2) = TO at r2 HTO
  have hAw : (Lit.int .i64 AT).wf = true := wfI (by have := HAT.out; omega)
  have hTw : (Lit.int .i64 TO).wf = true := wfI (by have := HTO.out; omega)
  have HA : Hid (DevOk las lat hd) := h.ok
  clear bat bto h hq hb hk hp hblk hAT hc1 hd1
  have hfl := fun w' (hh : RdV (Value.int .u8) 0 (fun i => i < w.heap.size ∧ i ≠ b ∧ i ≠ bl ∧ i ≠ bt) w' (.slice ab bs.length cb) bs) => fill_any (.slice ab bs.length cb) bs 16 16 _ w' rfl hh.i (by omega)
  have hfe := fun w' (hh : RdV (Value.int .u8) 0 (fun i => i < w.heap.size ∧ i ≠ b ∧ i ≠ bl ∧ i ≠ bt) w' (.slice ab bs.length cb) bs) => fewB_any (.slice ab bs.length cb) bs 20 20 _ w' rfl hh.i (by omega)
  have HZ1 : Hid (Oct (fillL bs 16)) := oct_fill hbo 16
  have HZ2 : Hid (Oct (bs.take 20)) := hbo.take 20
  generalize fillL bs 16 = fs at hfl HZ1
  generalize bs.take 20 = ts at hfe HZ2
  generalize around dd 10 = do0 at *
  have bto := bounds_i64 hto
  have htm : IntKind.i64.wrap (Int.tmod to0 7) = Int.tmod to0 7 := by rw [IntKind.wrap_i64]; have := tmod7 to0; omega
  by_cases h7 : Int.tmod to0 7 = 6
  · have h7b : (Int.tmod to0 7 == 6) = true := by rw [h7]; rfl
    go_enter Try.func12, Try.ntmps12
    obtain ⟨w3, hw3⟩ : ∃ w3, (((w.alloc (.cells #[.slice a las.length c, .slice a2 lat.length c2, .slice a3 hd.length c3] 31)).alloc (.cells #[.int .i64 dd, .int .i64 at0, .int .i64 to0, .slice ab bs.length cb, .slice ak ks.length ck] 37)).alloc (.cells #[.slice none 0 0, .slice none 0 0, .slice none 0 0] 31)) = w3 := ⟨_, rfl⟩
    rw [hw3] at HS
    obtain ⟨⟨x0, x1, x2⟩, -⟩ := HS.out.2.2.1.three
    obtain ⟨y0, y1, y2, y3, y4⟩ := HS.out.2.2.2.1.five'
    obtain ⟨⟨z0, z1, z2⟩, fz0, fz1, fz2⟩ := HS.out.2.2.2.2.1.three
    go_wp2_with fail
    refine (r1 w3).mono ?_
    rintro e w4 ⟨rfl, rfl⟩
    go_wp2_with fail
    refine (r2 w3).mono ?_
    rintro e w4 ⟨rfl, rfl⟩
    go_wp2_with fail
    refine (r3 w3).mono ?_
    rintro e w4 ⟨rfl, rfl⟩
    have hsz : w.heap.size + 3 ≤ w3.heap.size := HS.out.2.2.2.2.1.lt
    clear r1 r2 r3
    go_wp2_with fail
    refine (hfl w3 HS.out.2.2.2.2.2.1).mono ?_
    rintro e w4 ⟨v4, rfl, ho4, hb4⟩
    have hs4 : w3.heap.size ≤ w4.heap.size := hb4.size
    obtain ⟨k0, k1, k2, k3, k4⟩ := (HS.out.2.2.2.1.grow hb4).five'
    obtain ⟨⟨p0, p1, p2⟩, -⟩ := (HS.out.2.2.1.grow hb4).three
    have hh4 := HS.out.2.2.2.2.2.1.grow hb4
    have HS4 : Hid (DevAt w4 (fun i => p i ∧ i ≠ w.heap.size ∧ i ≠ w.heap.size + 1 ∧ i ≠ w.heap.size + 1 + 1) b bl bt s las lat hd ∧ DocV (fun i => p i ∧ i ≠ w.heap.size ∧ i ≠ w.heap.size + 1 ∧ i ≠ w.heap.size + 1 + 1) w4 (.slice a las.length c) (.slice a2 lat.length c2) (.slice a3 hd.length c3) las lat hd ∧ VarAt w4 w.heap.size [.slice a las.length c, .slice a2 lat.length c2, .slice a3 hd.length c3] ∧ VarAt w4 (w.heap.size + 1 + 1) [.slice none 0 0, .slice none 0 0, .slice none 0 0] ∧ Grow w w4) := ⟨HS.out.1.grow hb4, HS.out.2.1.grow hb4, HS.out.2.2.1.grow hb4, HS.out.2.2.2.2.1.grow hb4, HS.out.2.2.2.2.2.2.2.trans hb4⟩
    clear ho4 hb4 hfl x0 x1 x2 y0 y1 y2 y3 y4 z0 z1 z2 fz0 fz1 fz2 hw3 HS
    go_wp2_with fail
    refine (hfe w4 hh4).mono ?_
    rintro e w5 ⟨v5, rfl, ho5, hb5⟩
    have hs5 : w4.heap.size ≤ w5.heap.size := hb5.size
    obtain ⟨a5, c5, rfl⟩ := ho5.shape
    have HS5 : Hid (DevAt w5 (fun i => p i ∧ i ≠ w.heap.size ∧ i ≠ w.heap.size + 1 ∧ i ≠ w.heap.size + 1 + 1) b bl bt s las lat hd ∧ DocV (fun i => p i ∧ i ≠ w.heap.size ∧ i ≠ w.heap.size + 1 ∧ i ≠ w.heap.size + 1 + 1) w5 (.slice a las.length c) (.slice a2 lat.length c2) (.slice a3 hd.length c3) las lat hd ∧ VarAt w5 w.heap.size [.slice a las.length c, .slice a2 lat.length c2, .slice a3 hd.length c3] ∧ VarAt w5 (w.heap.size + 1 + 1) [.slice none 0 0, .slice none 0 0, .slice none 0 0] ∧ RdV (Value.int .u8) 0 (fun i => p i ∧ i ≠ w.heap.size ∧ i ≠ w.heap.size + 1 ∧ i ≠ w.heap.size + 1 + 1) w5 (.slice a5 ts.length c5) ts ∧ Grow w w5 ∧ w.heap.size + 3 ≤ w5.heap.size) := ⟨HS4.out.1.grow hb5, HS4.out.2.1.grow hb5, HS4.out.2.2.1.grow hb5, HS4.out.2.2.2.1.grow hb5, ho5.v.rd.mono (fun i _ hi => HP.out i (by have : w4.heap.size ≤ i := hi; omega)), HS4.out.2.2.2.2.trans hb5, by omega⟩
    have HZO := HZ2
    obtain ⟨⟨p0', p1', p2'⟩, -⟩ := HS5.out.2.2.1.three
    clear ho5 hb5 hfe hh4 HS4 k0 k1 k2 k3 k4 p0 p1 p2
    have hqw := qwrite_any (fun i => p i ∧ i ≠ w.heap.size ∧ i ≠ w.heap.size + 1 ∧ i ≠ w.heap.size + 1 + 1) _ _ _ las lat hd w5 HS5.out.2.1 HA.out AT hAw (.slice a5 ts.length c5) ts _ HS5.out.2.2.2.2.1.i HZO.out (fun i hi => HP.out i (by have := HS5.out.2.2.2.2.2.2; omega))
    go_wp2_with fail
    refine hqw.mono ?_
    rintro e w6 ⟨tv6, rfl, hQ6, hg6⟩
    obtain ⟨a7, c7, rfl, -⟩ := hQ6.2.1.shape
    generalize (writeL las lat AT ts).length = L7 at hQ6
    have hga : Grow w6 (w6.alloc (.cells #[.slice a las.length c, .slice a7 L7 c7, .slice a3 hd.length c3] 31)) := (Grow.refl w6).alloc _
    have HS7 : Hid (DevAt (w6.alloc (.cells #[.slice a las.length c, .slice a7 L7 c7, .slice a3 hd.length c3] 31)) (fun i => p i ∧ i ≠ w.heap.size ∧ i ≠ w.heap.size + 1 ∧ i ≠ w.heap.size + 1 + 1) b bl bt s las lat hd ∧ DocV (fun i => p i ∧ i ≠ w.heap.size ∧ i ≠ w.heap.size + 1 ∧ i ≠ w.heap.size + 1 + 1) (w6.alloc (.cells #[.slice a las.length c, .slice a7 L7 c7, .slice a3 hd.length c3] 31)) (.slice a las.length c) (.slice a7 L7 c7) (.slice a3 hd.length c3) las (writeL las lat AT ts) hd ∧ VarAt (w6.alloc (.cells #[.slice a las.length c, .slice a7 L7 c7, .slice a3 hd.length c3] 31)) w6.heap.size [.slice a las.length c, .slice a7 L7 c7, .slice a3 hd.length c3] ∧ VarAt (w6.alloc (.cells #[.slice a las.length c, .slice a7 L7 c7, .slice a3 hd.length c3] 31)) (w.heap.size + 1 + 1) [.slice none 0 0, .slice none 0 0, .slice none 0 0] ∧ RdV (Value.int .u8) 0 (fun i => p i ∧ i ≠ w.heap.size ∧ i ≠ w.heap.size + 1 ∧ i ≠ w.heap.size + 1 + 1) (w6.alloc (.cells #[.slice a las.length c, .slice a7 L7 c7, .slice a3 hd.length c3] 31)) (.slice a5 ts.length c5) ts ∧ Grow w (w6.alloc (.cells #[.slice a las.length c, .slice a7 L7 c7, .slice a3 hd.length c3] 31)) ∧ w.heap.size + 3 ≤ w6.heap.size) :=
      ⟨(HS5.out.1.grow hg6).grow hga, hQ6.grow hga, VarAt.new w6 _ _, (HS5.out.2.2.2.1.grow hg6).grow hga, (HS5.out.2.2.2.2.1.grow hg6).grow hga, (HS5.out.2.2.2.2.2.1.trans hg6).trans hga, by have h1 := hg6.size; have h2 := HS5.out.2.2.2.2.2.2; omega⟩
    have hs7 : w6.heap.size < ((w6.alloc (.cells #[.slice a las.length c, .slice a7 L7 c7, .slice a3 hd.length c3] 31))).heap.size := by simp
    obtain ⟨w7, hw7⟩ : ∃ w7, (w6.alloc (.cells #[.slice a las.length c, .slice a7 L7 c7, .slice a3 hd.length c3] 31)) = w7 := ⟨_, rfl⟩
    rw [hw7] at HS7 hs7
    have gd7 : Grow w7 w7.drew := (Grow.refl w7).drew
    have hdw := dwrite_any w7.drew _ b bl bt s las lat hd (HS7.out.1.grow gd7) AT hAw (.slice a5 ts.length c5) ts _ (HS7.out.2.2.2.2.1.grow gd7).i HZO.out hs (fun i hi => HP.out i (by have h1 := HS7.out.2.2.2.2.2.2; have h2 : w7.drew.heap.size = w7.heap.size := rfl; omega))
    have fx : ∀ w', UpdS (fun i => i = bt ∨ i = w.heap.size + 1 + 1) w7.drew w' → w'.cell? ⟨w6.heap.size, 0, none⟩ = some (.slice a las.length c) ∧ w'.cell? ⟨w6.heap.size, 1, none⟩ = some (.slice a7 L7 c7) ∧ w'.cell? ⟨w6.heap.size, 2, none⟩ = some (.slice a3 hd.length c3) := fun w' g =>
      (((HS7.out.2.2.1.grow gd7).upd g (by have h1 := HS7.out.2.2.2.2.2.2; have h2 := HB.out; omega)).three).1
    clear hQ6 hg6 hga hqw HS5
    go_wp2
    refine wp_region_schedG (UpdS (fun i => i = bt ∨ i = w.heap.size + 1 + 1)) (UpdS.refl _) (fun _ _ _ => UpdS.trans) (by kernel_rfl) [(0, false), (1, false), (2, false), (3, false), (5, false), (4, true), (6, false), (7, true), (8, false)] (by kernel_rfl) (by kernel_rfl) rfl (fun _ _ d _ _ h => by cases d <;> exact h) ?_
    simp only [inOrder, List.filterMap_cons, List.filterMap_nil, List.getElem?_toArray, List.getElem?_cons_zero, List.getElem?_cons_succ, Option.map_some]
    repeat (first
      | (refine wpS_move rfl ?_; simp only [Act.eval, Act.put, Array.getD_eq_getD_getElem?, List.getElem?_toArray, List.getElem?_cons_zero, List.getElem?_cons_succ, Option.getD_some, List.setIfInBounds_toArray, List.set_cons_zero, List.set_cons_succ])
      | (refine wpS_assign rfl ?_; simp only [Act.eval, Act.put, Array.getD_eq_getD_getElem?, List.getElem?_toArray, List.getElem?_cons_zero, List.getElem?_cons_succ, Option.getD_some, List.setIfInBounds_toArray, List.set_cons_zero, List.set_cons_succ])
      | (refine wpS_read (v := ?_) rfl ?_ ?_; rotate_left; (focus (intro w' hG; obtain ⟨q0, q1, q2⟩ := fx w' hG; go_simp; try (with_reducible rfl))); simp only [Act.put, List.setIfInBounds_toArray, List.set_cons_zero, List.set_cons_succ])
      | (refine wpS_skip rfl ?_; simp only [Act.put, List.setIfInBounds_toArray, List.set_cons_zero, List.set_cons_succ]))
    refine wpS_call (f := ?_) (args := ?_) (by rfl) ?_ ?_
    rotate_left 2; focus (go_simp; constructor <;> with_reducible rfl)
    refine (hdw).mono ?_
    rintro e w8 ⟨rfl, hD8, hu8⟩
    refine ⟨_, rfl, hu8.mono (fun i hi => .inl hi), ?_⟩
    simp only [Act.put, List.setIfInBounds_toArray, List.set_cons_zero, List.set_cons_succ]
    repeat (first
      | (refine wpS_move rfl ?_; simp only [Act.eval, Act.put, Array.getD_eq_getD_getElem?, List.getElem?_toArray, List.getElem?_cons_zero, List.getElem?_cons_succ, Option.getD_some, List.setIfInBounds_toArray, List.set_cons_zero, List.set_cons_succ])
      | (refine wpS_assign rfl ?_; simp only [Act.eval, Act.put, Array.getD_eq_getD_getElem?, List.getElem?_toArray, List.getElem?_cons_zero, List.getElem?_cons_succ, Option.getD_some, List.setIfInBounds_toArray, List.set_cons_zero, List.set_cons_succ])
      | (refine wpS_read (v := ?_) rfl ?_ ?_; rotate_left; (focus (intro w' hG; skip; go_simp; try (with_reducible rfl))); simp only [Act.put, List.setIfInBounds_toArray, List.set_cons_zero, List.set_cons_succ])
      | (refine wpS_skip rfl ?_; simp only [Act.put, List.setIfInBounds_toArray, List.set_cons_zero, List.set_cons_succ]))
    have HS8 : Hid (DocV (fun i => p i ∧ i ≠ w.heap.size ∧ i ≠ w.heap.size + 1 ∧ i ≠ w.heap.size + 1 + 1) w8 (.slice a las.length c) (.slice a7 L7 c7) (.slice a3 hd.length c3) las (writeL las lat AT ts) hd ∧ VarAt w8 (w.heap.size + 1 + 1) [.slice none 0 0, .slice none 0 0, .slice none 0 0] ∧ UpdS (fun i => i = b ∨ i = bl ∨ i = bt) w w8) := by
      have hB := HB.out
      exact ⟨(HS7.out.2.1.grow gd7).upd hu8 (fun i _ hi hh => HN.out.2.2 (by rw [← hh]; exact hi.1)), (HS7.out.2.2.2.1.grow gd7).upd hu8 (by omega), ((HS7.out.2.2.2.2.2.1.trans gd7).s).trans (hu8.mono (fun i hi => .inr (.inr hi)))⟩
    have HF : Hid _ := does_end (p := p) (w := w) (W := w8) (s := s) (s2 := s + 1) (las := las) hD8 HS8.out.1 HS8.out.2.1 HS8.out.2.2 HN.out HB.out (Nat.le_refl _) rfl
    obtain ⟨⟨z0', z1', z2'⟩, fz0', fz1', fz2'⟩ := HS8.out.2.1.three
    refine wpS_store (w' := (((w8.setCell ⟨w.heap.size + 1 + 1, 0, none⟩ (.slice a las.length c)).setCell ⟨w.heap.size + 1 + 1, 1, none⟩ (.slice a7 L7 c7)).setCell ⟨w.heap.size + 1 + 1, 2, none⟩ (.slice a3 hd.length c3))) rfl (by go_simp) ((upd_three w8 (w.heap.size + 1 + 1) (.slice a las.length c) (.slice a7 L7 c7) (.slice a3 hd.length c3)).mono (fun i hi => .inr hi)) ?_
    simp only [Act.put, List.setIfInBounds_toArray, List.set_cons_zero, List.set_cons_succ]
    repeat (first
      | (refine wpS_move rfl ?_; simp only [Act.eval, Act.put, Array.getD_eq_getD_getElem?, List.getElem?_toArray, List.getElem?_cons_zero, List.getElem?_cons_succ, Option.getD_some, List.setIfInBounds_toArray, List.set_cons_zero, List.set_cons_succ])
      | (refine wpS_assign rfl ?_; simp only [Act.eval, Act.put, Array.getD_eq_getD_getElem?, List.getElem?_toArray, List.getElem?_cons_zero, List.getElem?_cons_succ, Option.getD_some, List.setIfInBounds_toArray, List.set_cons_zero, List.set_cons_succ])
      | (refine wpS_read (v := ?_) rfl ?_ ?_; rotate_left; (focus (intro w' hG; skip; go_simp; try (with_reducible rfl))); simp only [Act.put, List.setIfInBounds_toArray, List.set_cons_zero, List.set_cons_succ])
      | (refine wpS_skip rfl ?_; simp only [Act.put, List.setIfInBounds_toArray, List.set_cons_zero, List.set_cons_succ]))
    refine wpS_nil ?_
    clear fx hdw hD8 hu8 HS7 HS8 z0' z1' z2' fz0' fz1' fz2'
    go_wp2
    exact bodyPost_ret_by (results_cell_tmp rfl _ _ _ _ rfl (load_D _ _ _ _ _ HF.out.1)) rfl ⟨_, _, _, rfl, _, _, _, HF.out.2.1, HF.out.2.2.1, HF.out.2.2.2.1, rfl⟩
  · have h7b : (Int.tmod to0 7 == 6) = false := by rw [beq_eq_false_iff_ne]; exact h7
    go_enter Try.func12, Try.ntmps12
    obtain ⟨w3, hw3⟩ : ∃ w3, (((w.alloc (.cells #[.slice a las.length c, .slice a2 lat.length c2, .slice a3 hd.length c3] 31)).alloc (.cells #[.int .i64 dd, .int .i64 at0, .int .i64 to0, .slice ab bs.length cb, .slice ak ks.length ck] 37)).alloc (.cells #[.slice none 0 0, .slice none 0 0, .slice none 0 0] 31)) = w3 := ⟨_, rfl⟩
    rw [hw3] at HS
    obtain ⟨⟨x0, x1, x2⟩, -⟩ := HS.out.2.2.1.three
    obtain ⟨y0, y1, y2, y3, y4⟩ := HS.out.2.2.2.1.five'
    obtain ⟨⟨z0, z1, z2⟩, fz0, fz1, fz2⟩ := HS.out.2.2.2.2.1.three
    go_wp2_with fail
    refine (r1 w3).mono ?_
    rintro e w4 ⟨rfl, rfl⟩
    go_wp2_with fail
    refine (r2 w3).mono ?_
    rintro e w4 ⟨rfl, rfl⟩
    go_wp2_with fail
    refine (r3 w3).mono ?_
    rintro e w4 ⟨rfl, rfl⟩
    have hsz : w.heap.size + 3 ≤ w3.heap.size := HS.out.2.2.2.2.1.lt
    clear r1 r2 r3
    go_wp2_with fail
    refine (hfl w3 HS.out.2.2.2.2.2.1).mono ?_
    rintro e w4 ⟨v4, rfl, ho4, hb4⟩
    have hs4 : w3.heap.size ≤ w4.heap.size := hb4.size
    obtain ⟨k0, k1, k2, k3, k4⟩ := (HS.out.2.2.2.1.grow hb4).five'
    obtain ⟨⟨p0, p1, p2⟩, -⟩ := (HS.out.2.2.1.grow hb4).three
    obtain ⟨a5, c5, rfl⟩ := ho4.shape
    obtain ⟨w5, hw5e⟩ : ∃ w5, w5 = w4 := ⟨_, rfl⟩
    subst hw5e
    have HS5 : Hid (DevAt w5 (fun i => p i ∧ i ≠ w.heap.size ∧ i ≠ w.heap.size + 1 ∧ i ≠ w.heap.size + 1 + 1) b bl bt s las lat hd ∧ DocV (fun i => p i ∧ i ≠ w.heap.size ∧ i ≠ w.heap.size + 1 ∧ i ≠ w.heap.size + 1 + 1) w5 (.slice a las.length c) (.slice a2 lat.length c2) (.slice a3 hd.length c3) las lat hd ∧ VarAt w5 w.heap.size [.slice a las.length c, .slice a2 lat.length c2, .slice a3 hd.length c3] ∧ VarAt w5 (w.heap.size + 1 + 1) [.slice none 0 0, .slice none 0 0, .slice none 0 0] ∧ RdV (Value.int .u8) 0 (fun i => p i ∧ i ≠ w.heap.size ∧ i ≠ w.heap.size + 1 ∧ i ≠ w.heap.size + 1 + 1) w5 (.slice a5 fs.length c5) fs ∧ Grow w w5 ∧ w.heap.size + 3 ≤ w5.heap.size) := ⟨HS.out.1.grow hb4, HS.out.2.1.grow hb4, HS.out.2.2.1.grow hb4, HS.out.2.2.2.2.1.grow hb4, ho4.v.rd.mono (fun i _ hi => HP.out i (by have : w3.heap.size ≤ i := hi; omega)), HS.out.2.2.2.2.2.2.2.trans hb4, by omega⟩
    have HZO := HZ1
    clear ho4 hb4 hfl hfe x0 x1 x2 y0 y1 y2 y3 y4 z0 z1 z2 fz0 fz1 fz2 hw3 HS
    have hqw := qwrite_any (fun i => p i ∧ i ≠ w.heap.size ∧ i ≠ w.heap.size + 1 ∧ i ≠ w.heap.size + 1 + 1) _ _ _ las lat hd w5 HS5.out.2.1 HA.out AT hAw (.slice a5 fs.length c5) fs _ HS5.out.2.2.2.2.1.i HZO.out (fun i hi => HP.out i (by have := HS5.out.2.2.2.2.2.2; omega))
    go_wp2_with fail
    refine hqw.mono ?_
    rintro e w6 ⟨tv6, rfl, hQ6, hg6⟩
    obtain ⟨a7, c7, rfl, -⟩ := hQ6.2.1.shape
    generalize (writeL las lat AT fs).length = L7 at hQ6
    have hga : Grow w6 (w6.alloc (.cells #[.slice a las.length c, .slice a7 L7 c7, .slice a3 hd.length c3] 31)) := (Grow.refl w6).alloc _
    have HS7 : Hid (DevAt (w6.alloc (.cells #[.slice a las.length c, .slice a7 L7 c7, .slice a3 hd.length c3] 31)) (fun i => p i ∧ i ≠ w.heap.size ∧ i ≠ w.heap.size + 1 ∧ i ≠ w.heap.size + 1 + 1) b bl bt s las lat hd ∧ DocV (fun i => p i ∧ i ≠ w.heap.size ∧ i ≠ w.heap.size + 1 ∧ i ≠ w.heap.size + 1 + 1) (w6.alloc (.cells #[.slice a las.length c, .slice a7 L7 c7, .slice a3 hd.length c3] 31)) (.slice a las.length c) (.slice a7 L7 c7) (.slice a3 hd.length c3) las (writeL las lat AT fs) hd ∧ VarAt (w6.alloc (.cells #[.slice a las.length c, .slice a7 L7 c7, .slice a3 hd.length c3] 31)) w6.heap.size [.slice a las.length c, .slice a7 L7 c7, .slice a3 hd.length c3] ∧ VarAt (w6.alloc (.cells #[.slice a las.length c, .slice a7 L7 c7, .slice a3 hd.length c3] 31)) (w.heap.size + 1 + 1) [.slice none 0 0, .slice none 0 0, .slice none 0 0] ∧ RdV (Value.int .u8) 0 (fun i => p i ∧ i ≠ w.heap.size ∧ i ≠ w.heap.size + 1 ∧ i ≠ w.heap.size + 1 + 1) (w6.alloc (.cells #[.slice a las.length c, .slice a7 L7 c7, .slice a3 hd.length c3] 31)) (.slice a5 fs.length c5) fs ∧ Grow w (w6.alloc (.cells #[.slice a las.length c, .slice a7 L7 c7, .slice a3 hd.length c3] 31)) ∧ w.heap.size + 3 ≤ w6.heap.size) :=
      ⟨(HS5.out.1.grow hg6).grow hga, hQ6.grow hga, VarAt.new w6 _ _, (HS5.out.2.2.2.1.grow hg6).grow hga, (HS5.out.2.2.2.2.1.grow hg6).grow hga, (HS5.out.2.2.2.2.2.1.trans hg6).trans hga, by have h1 := hg6.size; have h2 := HS5.out.2.2.2.2.2.2; omega⟩
    have hs7 : w6.heap.size < ((w6.alloc (.cells #[.slice a las.length c, .slice a7 L7 c7, .slice a3 hd.length c3] 31))).heap.size := by simp
    obtain ⟨w7, hw7⟩ : ∃ w7, (w6.alloc (.cells #[.slice a las.length c, .slice a7 L7 c7, .slice a3 hd.length c3] 31)) = w7 := ⟨_, rfl⟩
    rw [hw7] at HS7 hs7
    have gd7 : Grow w7 w7.drew := (Grow.refl w7).drew
    have hdw := dwrite_any w7.drew _ b bl bt s las lat hd (HS7.out.1.grow gd7) AT hAw (.slice a5 fs.length c5) fs _ (HS7.out.2.2.2.2.1.grow gd7).i HZO.out hs (fun i hi => HP.out i (by have h1 := HS7.out.2.2.2.2.2.2; have h2 : w7.drew.heap.size = w7.heap.size := rfl; omega))
    have fx : ∀ w', UpdS (fun i => i = bt ∨ i = w.heap.size + 1 + 1) w7.drew w' → w'.cell? ⟨w6.heap.size, 0, none⟩ = some (.slice a las.length c) ∧ w'.cell? ⟨w6.heap.size, 1, none⟩ = some (.slice a7 L7 c7) ∧ w'.cell? ⟨w6.heap.size, 2, none⟩ = some (.slice a3 hd.length c3) := fun w' g =>
      (((HS7.out.2.2.1.grow gd7).upd g (by have h1 := HS7.out.2.2.2.2.2.2; have h2 := HB.out; omega)).three).1
    clear hQ6 hg6 hga hqw HS5
    go_wp2
    refine wp_region_schedG (UpdS (fun i => i = bt ∨ i = w.heap.size + 1 + 1)) (UpdS.refl _) (fun _ _ _ => UpdS.trans) (by kernel_rfl) [(0, false), (1, false), (2, false), (3, false), (5, false), (4, true), (6, false), (7, true), (8, false)] (by kernel_rfl) (by kernel_rfl) rfl (fun _ _ d _ _ h => by cases d <;> exact h) ?_
    simp only [inOrder, List.filterMap_cons, List.filterMap_nil, List.getElem?_toArray, List.getElem?_cons_zero, List.getElem?_cons_succ, Option.map_some]
    repeat (first
      | (refine wpS_move rfl ?_; simp only [Act.eval, Act.put, Array.getD_eq_getD_getElem?, List.getElem?_toArray, List.getElem?_cons_zero, List.getElem?_cons_succ, Option.getD_some, List.setIfInBounds_toArray, List.set_cons_zero, List.set_cons_succ])
      | (refine wpS_assign rfl ?_; simp only [Act.eval, Act.put, Array.getD_eq_getD_getElem?, List.getElem?_toArray, List.getElem?_cons_zero, List.getElem?_cons_succ, Option.getD_some, List.setIfInBounds_toArray, List.set_cons_zero, List.set_cons_succ])
      | (refine wpS_read (v := ?_) rfl ?_ ?_; rotate_left; (focus (intro w' hG; obtain ⟨q0, q1, q2⟩ := fx w' hG; go_simp; try (with_reducible rfl))); simp only [Act.put, List.setIfInBounds_toArray, List.set_cons_zero, List.set_cons_succ])
      | (refine wpS_skip rfl ?_; simp only [Act.put, List.setIfInBounds_toArray, List.set_cons_zero, List.set_cons_succ]))
    refine wpS_call (f := ?_) (args := ?_) (by rfl) ?_ ?_
    rotate_left 2; focus (go_simp; constructor <;> with_reducible rfl)
    refine (hdw).mono ?_
    rintro e w8 ⟨rfl, hD8, hu8⟩
    refine ⟨_, rfl, hu8.mono (fun i hi => .inl hi), ?_⟩
    simp only [Act.put, List.setIfInBounds_toArray, List.set_cons_zero, List.set_cons_succ]
    repeat (first
      | (refine wpS_move rfl ?_; simp only [Act.eval, Act.put, Array.getD_eq_getD_getElem?, List.getElem?_toArray, List.getElem?_cons_zero, List.getElem?_cons_succ, Option.getD_some, List.setIfInBounds_toArray, List.set_cons_zero, List.set_cons_succ])
      | (refine wpS_assign rfl ?_; simp only [Act.eval, Act.put, Array.getD_eq_getD_getElem?, List.getElem?_toArray, List.getElem?_cons_zero, List.getElem?_cons_succ, Option.getD_some, List.setIfInBounds_toArray, List.set_cons_zero, List.set_cons_succ])
      | (refine wpS_read (v := ?_) rfl ?_ ?_; rotate_left; (focus (intro w' hG; skip; go_simp; try (with_reducible rfl))); simp only [Act.put, List.setIfInBounds_toArray, List.set_cons_zero, List.set_cons_succ])
      | (refine wpS_skip rfl ?_; simp only [Act.put, List.setIfInBounds_toArray, List.set_cons_zero, List.set_cons_succ]))
    have HS8 : Hid (DocV (fun i => p i ∧ i ≠ w.heap.size ∧ i ≠ w.heap.size + 1 ∧ i ≠ w.heap.size + 1 + 1) w8 (.slice a las.length c) (.slice a7 L7 c7) (.slice a3 hd.length c3) las (writeL las lat AT fs) hd ∧ VarAt w8 (w.heap.size + 1 + 1) [.slice none 0 0, .slice none 0 0, .slice none 0 0] ∧ UpdS (fun i => i = b ∨ i = bl ∨ i = bt) w w8) := by
      have hB := HB.out
      exact ⟨(HS7.out.2.1.grow gd7).upd hu8 (fun i _ hi hh => HN.out.2.2 (by rw [← hh]; exact hi.1)), (HS7.out.2.2.2.1.grow gd7).upd hu8 (by omega), ((HS7.out.2.2.2.2.2.1.trans gd7).s).trans (hu8.mono (fun i hi => .inr (.inr hi)))⟩
    have HF : Hid _ := does_end (p := p) (w := w) (W := w8) (s := s) (s2 := s + 1) (las := las) hD8 HS8.out.1 HS8.out.2.1 HS8.out.2.2 HN.out HB.out (Nat.le_refl _) rfl
    obtain ⟨⟨z0', z1', z2'⟩, fz0', fz1', fz2'⟩ := HS8.out.2.1.three
    refine wpS_store (w' := (((w8.setCell ⟨w.heap.size + 1 + 1, 0, none⟩ (.slice a las.length c)).setCell ⟨w.heap.size + 1 + 1, 1, none⟩ (.slice a7 L7 c7)).setCell ⟨w.heap.size + 1 + 1, 2, none⟩ (.slice a3 hd.length c3))) rfl (by go_simp) ((upd_three w8 (w.heap.size + 1 + 1) (.slice a las.length c) (.slice a7 L7 c7) (.slice a3 hd.length c3)).mono (fun i hi => .inr hi)) ?_
    simp only [Act.put, List.setIfInBounds_toArray, List.set_cons_zero, List.set_cons_succ]
    repeat (first
      | (refine wpS_move rfl ?_; simp only [Act.eval, Act.put, Array.getD_eq_getD_getElem?, List.getElem?_toArray, List.getElem?_cons_zero, List.getElem?_cons_succ, Option.getD_some, List.setIfInBounds_toArray, List.set_cons_zero, List.set_cons_succ])
      | (refine wpS_assign rfl ?_; simp only [Act.eval, Act.put, Array.getD_eq_getD_getElem?, List.getElem?_toArray, List.getElem?_cons_zero, List.getElem?_cons_succ, Option.getD_some, List.setIfInBounds_toArray, List.set_cons_zero, List.set_cons_succ])
      | (refine wpS_read (v := ?_) rfl ?_ ?_; rotate_left; (focus (intro w' hG; skip; go_simp; try (with_reducible rfl))); simp only [Act.put, List.setIfInBounds_toArray, List.set_cons_zero, List.set_cons_succ])
      | (refine wpS_skip rfl ?_; simp only [Act.put, List.setIfInBounds_toArray, List.set_cons_zero, List.set_cons_succ]))
    refine wpS_nil ?_
    clear fx hdw hD8 hu8 HS7 HS8 z0' z1' z2' fz0' fz1' fz2'
    go_wp2
    exact bodyPost_ret_by (results_cell_tmp rfl _ _ _ _ rfl (load_D _ _ _ _ _ HF.out.1)) rfl ⟨_, _, _, rfl, _, _, _, HF.out.2.1, HF.out.2.2.1, HF.out.2.2.2.1, rfl⟩

theorem ddoes_any (w : World) (p : Nat → Prop) (b bl bt s : Nat) (las lat : List (List Int)) (hd : List Int) (lv tv hv : Value) (h : DevAt w p b bl bt s las lat hd) (hq : DocV p w lv tv hv las lat hd) (hs : s < 1000) (hp : ∀ i, w.heap.size ≤ i → p i) (dd at0 to0 : Int) (hdd : (Lit.int .i64 dd).wf = true) (hat : (Lit.int .i64 at0).wf = true) (hto : (Lit.int .i64 to0).wf = true)
    (bv kv : Value) (bs : List Int) (ks : List Bool) (hb : RdV (Value.int .u8) 0 (fun i => i ≠ b ∧ i ≠ bl ∧ i ≠ bt) w bv bs) (hbo : Oct bs) (hk : RdV Value.bool false (fun i => i ≠ b ∧ i ≠ bl ∧ i ≠ bt) w kv ks)  :
    Calls Try.prog 12 #[.pointer (some ⟨b, 0, none⟩), .agg #[lv, tv, hv], .agg #[.int .i64 dd, .int .i64 at0, .int .i64 to0, bv, kv]] w fun e w' => ∃ lv' tv' hv', e = .returned (.tuple #[.agg #[lv', tv', hv'], .bool true]) ∧ ∃ las' lat' hd', DevAt w' p b bl bt (s + 1) las' lat' hd' ∧ DocV p w' lv' tv' hv' las' lat' hd' ∧ UpdS (fun i => i = b ∨ i = bl ∨ i = bt) w w' ∧ las'.length = las.length := by
  by_cases h6 : around dd 10 = 6
  · exact does_six w p b bl bt s las lat hd lv tv hv h hq hs hp dd at0 to0 hdd hat hto bv kv bs ks hb hbo hk h6
  · by_cases h7 : around dd 10 = 7
    · exact does_seven w p b bl bt s las lat hd lv tv hv h hq hs hp dd at0 to0 hdd hat hto bv kv bs ks hb hbo hk h7
    · by_cases h8 : around dd 10 = 8
      · exact does_eight w p b bl bt s las lat hd lv tv hv h hq hs hp dd at0 to0 hdd hat hto bv kv bs ks hb hbo hk h8
      · by_cases h9 : around dd 10 = 9
        · exact does_nine w p b bl bt s las lat hd lv tv hv h hq hs hp dd at0 to0 hdd hat hto bv kv bs ks hb hbo hk h9
        · exact does_write w p b bl bt s las lat hd lv tv hv h hq hs hp dd at0 to0 hdd hat hto bv kv bs ks hb hbo hk h6 h7 h8 h9
end Go.Proofs.Ytpkoiogdkaklfaa
