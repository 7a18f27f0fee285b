/-
  The walk of the law's 'does': what is done to a device and to the document's leaves both with the same. Conditions: each theorem's own.
-/
import Derived.Test.YtpkoiogdkaklfaaDevDocC
import Derived.Test.YtpkoiogdkaklfaaDevDocT
import Derived.Test.YtpkoiogdkaklfaaDevLive
import Derived.Test.YtpkoiogdkaklfaaBitsSame
import Derived.Test.YtpkoiogdkaklfaaCelFill
namespace Go.Proofs.Ytpkoiogdkaklfaa
open Go.RowKit
set_option linter.unusedVariables false
set_option linter.unusedSimpArgs false

theorem VarAt.five' {w : World} {b : Nat} {x y z t u : Value} (h : VarAt w b [x, y, z, t, u]) : w.cell? ⟨b, 0, none⟩ = some x ∧ w.cell? ⟨b, 1, none⟩ = some y ∧ w.cell? ⟨b, 2, none⟩ = some z ∧ w.cell? ⟨b, 3, none⟩ = some t ∧ w.cell? ⟨b, 4, none⟩ = some u :=
  ⟨(h.2 0 (by simp)).1, (h.2 1 (by simp)).1, (h.2 2 (by simp)).1, (h.2 3 (by simp)).1, (h.2 4 (by simp)).1⟩
/-- what turned is new, or among those that may -/
theorem UpdS.beyond {S T : Nat → Prop} {x y z : World} (h : UpdS S x y) (k : UpdS T y z) (hT : ∀ i, i < x.heap.size → T i → S i) : UpdS S x z :=
  ⟨k.os.trans h.os, k.tape.trans h.tape, k.output.trans h.output, Nat.le_trans h.size k.size, fun i hi hne => (k.block i (Nat.lt_of_lt_of_le hi h.size) (fun t => hne (hT i hi t))).trans (h.block i hi hne)⟩

theorem does_end {w W : World} {p : Nat → Prop} {b bl bt s s2 : Nat} {las las' lat' : List (List Int)} {hd' : List Int} {lv tv hv : Value} (hD : DevAt W (fun i => p i ∧ i ≠ w.heap.size ∧ i ≠ w.heap.size + 1 ∧ i ≠ w.heap.size + 1 + 1) b bl bt s2 las' lat' hd') (hQ : DocV (fun i => p i ∧ i ≠ w.heap.size ∧ i ≠ w.heap.size + 1 ∧ i ≠ w.heap.size + 1 + 1) W lv tv hv las' lat' hd') (hV : VarAt W (w.heap.size + 1 + 1) [.slice none 0 0, .slice none 0 0, .slice none 0 0]) (hu : UpdS (fun i => i = b ∨ i = bl ∨ i = bt) w W) (hn : ¬ p b ∧ ¬ p bl ∧ ¬ p bt) (hb : b < w.heap.size ∧ bl < w.heap.size ∧ bt < w.heap.size ∧ b ≠ bl ∧ b ≠ bt ∧ bl ≠ bt) (hs : s2 ≤ s + 1) (hl : las'.length = las.length) :
    VarAt (((W.setCell ⟨w.heap.size + 1 + 1, 0, none⟩ lv).setCell ⟨w.heap.size + 1 + 1, 1, none⟩ tv).setCell ⟨w.heap.size + 1 + 1, 2, none⟩ hv) (w.heap.size + 1 + 1) [lv, tv, hv] ∧ DevAt (((W.setCell ⟨w.heap.size + 1 + 1, 0, none⟩ lv).setCell ⟨w.heap.size + 1 + 1, 1, none⟩ tv).setCell ⟨w.heap.size + 1 + 1, 2, none⟩ hv) p b bl bt (s + 1) las' lat' hd' ∧ DocV p (((W.setCell ⟨w.heap.size + 1 + 1, 0, none⟩ lv).setCell ⟨w.heap.size + 1 + 1, 1, none⟩ tv).setCell ⟨w.heap.size + 1 + 1, 2, none⟩ hv) lv tv hv las' lat' hd' ∧ UpdS (fun i => i = b ∨ i = bl ∨ i = bt) w (((W.setCell ⟨w.heap.size + 1 + 1, 0, none⟩ lv).setCell ⟨w.heap.size + 1 + 1, 1, none⟩ tv).setCell ⟨w.heap.size + 1 + 1, 2, none⟩ hv) ∧ las'.length = las.length := by
  have hu3 := upd_three W (w.heap.size + 1 + 1) lv tv hv
  refine ⟨((hV.set 0 _).set 1 _).set 2 _, ((hD.upd hu3 (by omega) (by omega) (by omega) (fun i _ hi => hi.2.2.2)).mono (fun i _ hi => hi.1) hn.1 hn.2.1 hn.2.2).more hs, (hQ.upd hu3 (fun i _ hi => hi.2.2.2)).mono (fun i _ hi => hi.1), hu.beyond hu3 (fun i hi ht => by omega), hl⟩

theorem turnL_len (las : List (List Int)) (k pl y : Int) : (turnL las k pl y).length = las.length := by
  unfold turnL
  split
  · rw [List.length_set]
  · rfl
theorem crashL_bits : ∀ (l : List Nat) (d : (List (List Int) × List (List Int)) × List Bool), (crashL d l).2.length ≤ d.2.length
  | [], d => Nat.le_refl _
  | x :: l, d => by
    have h := crashL_bits l (stepC d x)
    have h2 : (stepC d x).2.length ≤ d.2.length := by unfold stepC; simp
    exact Nat.le_trans h h2
theorem tmod7 (x : Int) : -7 < Int.tmod x 7 ∧ Int.tmod x 7 < 7 := by
  have h := Int.natAbs_tmod x 7
  have h2 : x.natAbs % (7 : Int).natAbs < 7 := Nat.mod_lt _ (by decide)
  omega
theorem u8_bd (x : Int) : 0 ≤ IntKind.u8.wrap x ∧ IntKind.u8.wrap x < 256 := by
  rw [IntKind.wrap_u8']
  omega

set_option maxRecDepth 16000 in
set_option maxHeartbeats 4000000 in
theorem does_six (w : World) (p : Nat → Prop) (b bl bt s : Nat) (las lat : List (List Int)) (hd : List Int) (lv tv hv : Value) (h : DevAt w p b bl bt s las lat hd) (hq : DocV p w lv tv hv las lat hd) (hs : s < 1000) (hp : ∀ i, w.heap.size ≤ i → p i) (dd at0 to0 : Int) (hdd : (Lit.int .i64 dd).wf = true) (hat : (Lit.int .i64 at0).wf = true) (hto : (Lit.int .i64 to0).wf = true)
    (bv kv : Value) (bs : List Int) (ks : List Bool) (hb : RdV (Value.int .u8) 0 (fun i => i ≠ b ∧ i ≠ bl ∧ i ≠ bt) w bv bs) (hbo : Oct bs) (hk : RdV Value.bool false (fun i => i ≠ b ∧ i ≠ bl ∧ i ≠ bt) w kv ks) (h6 : around dd 10 = 6) :
    Calls Try.prog 12 #[.pointer (some ⟨b, 0, none⟩), .agg #[lv, tv, hv], .agg #[.int .i64 dd, .int .i64 at0, .int .i64 to0, bv, kv]] w fun e w' => ∃ lv' tv' hv', e = .returned (.tuple #[.agg #[lv', tv', hv'], .bool true]) ∧ ∃ las' lat' hd', DevAt w' p b bl bt (s + 1) las' lat' hd' ∧ DocV p w' lv' tv' hv' las' lat' hd' ∧ UpdS (fun i => i = b ∨ i = bl ∨ i = bt) w w' ∧ las'.length = las.length := by
  obtain ⟨a, c, rfl, hc1, hc2⟩ := hq.1.shape
  obtain ⟨a2, c2, rfl, hd1, hd2⟩ := hq.2.1.shape
  obtain ⟨a3, c3, rfl⟩ := hq.2.2.shape
  obtain ⟨ab, cb, rfl⟩ := hb.shape
  obtain ⟨ak, ck, rfl⟩ := hk.shape
  have hbl := hb.len
  have hkl := hk.len
  have hkc := hk.caps.2
  unfold maxLen at hc2 hd2 hbl hkl hkc
  have hlb : (las.length : Int) ≤ 1024 := by have := h.ok.2.2.2.2.2; omega
  have hblk := h.lt
  have HB : Hid (b < w.heap.size ∧ bl < w.heap.size ∧ bt < w.heap.size ∧ b ≠ bl ∧ b ≠ bt ∧ bl ≠ bt) := hblk
  have HN : Hid (¬ p b ∧ ¬ p bl ∧ ¬ p bt) := h.nots
  have HP : Hid (∀ i, w.heap.size + 3 ≤ i → (p i ∧ i ≠ w.heap.size ∧ i ≠ w.heap.size + 1 ∧ i ≠ w.heap.size + 1 + 1)) := fun i hi => ⟨hp i (by omega), by omega, by omega, by omega⟩
  have HS : Hid (DevAt (((w.alloc (.cells #[.slice a las.length c, .slice a2 lat.length c2, .slice a3 hd.length c3] 31)).alloc (.cells #[.int .i64 dd, .int .i64 at0, .int .i64 to0, .slice ab bs.length cb, .slice ak ks.length ck] 37)).alloc (.cells #[.slice none 0 0, .slice none 0 0, .slice none 0 0] 31)) (fun i => p i ∧ i ≠ w.heap.size ∧ i ≠ w.heap.size + 1 ∧ i ≠ w.heap.size + 1 + 1) b bl bt s las lat hd ∧ DocV (fun i => p i ∧ i ≠ w.heap.size ∧ i ≠ w.heap.size + 1 ∧ i ≠ w.heap.size + 1 + 1) (((w.alloc (.cells #[.slice a las.length c, .slice a2 lat.length c2, .slice a3 hd.length c3] 31)).alloc (.cells #[.int .i64 dd, .int .i64 at0, .int .i64 to0, .slice ab bs.length cb, .slice ak ks.length ck] 37)).alloc (.cells #[.slice none 0 0, .slice none 0 0, .slice none 0 0] 31)) (.slice a las.length c) (.slice a2 lat.length c2) (.slice a3 hd.length c3) las lat hd ∧ VarAt (((w.alloc (.cells #[.slice a las.length c, .slice a2 lat.length c2, .slice a3 hd.length c3] 31)).alloc (.cells #[.int .i64 dd, .int .i64 at0, .int .i64 to0, .slice ab bs.length cb, .slice ak ks.length ck] 37)).alloc (.cells #[.slice none 0 0, .slice none 0 0, .slice none 0 0] 31)) w.heap.size [.slice a las.length c, .slice a2 lat.length c2, .slice a3 hd.length c3] ∧ VarAt (((w.alloc (.cells #[.slice a las.length c, .slice a2 lat.length c2, .slice a3 hd.length c3] 31)).alloc (.cells #[.int .i64 dd, .int .i64 at0, .int .i64 to0, .slice ab bs.length cb, .slice ak ks.length ck] 37)).alloc (.cells #[.slice none 0 0, .slice none 0 0, .slice none 0 0] 31)) (w.heap.size + 1) [.int .i64 dd, .int .i64 at0, .int .i64 to0, .slice ab bs.length cb, .slice ak ks.length ck] ∧ VarAt (((w.alloc (.cells #[.slice a las.length c, .slice a2 lat.length c2, .slice a3 hd.length c3] 31)).alloc (.cells #[.int .i64 dd, .int .i64 at0, .int .i64 to0, .slice ab bs.length cb, .slice ak ks.length ck] 37)).alloc (.cells #[.slice none 0 0, .slice none 0 0, .slice none 0 0] 31)) (w.heap.size + 1 + 1) [.slice none 0 0, .slice none 0 0, .slice none 0 0] ∧ RdV (Value.int .u8) 0 (fun i => i < w.heap.size ∧ i ≠ b ∧ i ≠ bl ∧ i ≠ bt) (((w.alloc (.cells #[.slice a las.length c, .slice a2 lat.length c2, .slice a3 hd.length c3] 31)).alloc (.cells #[.int .i64 dd, .int .i64 at0, .int .i64 to0, .slice ab bs.length cb, .slice ak ks.length ck] 37)).alloc (.cells #[.slice none 0 0, .slice none 0 0, .slice none 0 0] 31)) (.slice ab bs.length cb) bs ∧ RdV Value.bool false (fun i => i < w.heap.size ∧ i ≠ b ∧ i ≠ bl ∧ i ≠ bt) (((w.alloc (.cells #[.slice a las.length c, .slice a2 lat.length c2, .slice a3 hd.length c3] 31)).alloc (.cells #[.int .i64 dd, .int .i64 at0, .int .i64 to0, .slice ab bs.length cb, .slice ak ks.length ck] 37)).alloc (.cells #[.slice none 0 0, .slice none 0 0, .slice none 0 0] 31)) (.slice ak ks.length ck) ks ∧ Grow w (((w.alloc (.cells #[.slice a las.length c, .slice a2 lat.length c2, .slice a3 hd.length c3] 31)).alloc (.cells #[.int .i64 dd, .int .i64 at0, .int .i64 to0, .slice ab bs.length cb, .slice ak ks.length ck] 37)).alloc (.cells #[.slice none 0 0, .slice none 0 0, .slice none 0 0] 31))) := by
    have hg : ∀ W o, Grow W (World.alloc W o) := fun W o => (Grow.refl W).alloc o
    have g3 : Grow w (((w.alloc (.cells #[.slice a las.length c, .slice a2 lat.length c2, .slice a3 hd.length c3] 31)).alloc (.cells #[.int .i64 dd, .int .i64 at0, .int .i64 to0, .slice ab bs.length cb, .slice ak ks.length ck] 37)).alloc (.cells #[.slice none 0 0, .slice none 0 0, .slice none 0 0] 31)) := ((hg _ _).trans (hg _ _)).trans (hg _ _)
    refine ⟨(h.mono (q := (fun i => p i ∧ i ≠ w.heap.size ∧ i ≠ w.heap.size + 1 ∧ i ≠ w.heap.size + 1 + 1)) (fun i hi hh => ⟨hh, by omega, by omega, by omega⟩) (fun hh => HN.out.1 hh.1) (fun hh => HN.out.2.1 hh.1) (fun hh => HN.out.2.2 hh.1)).grow g3, (hq.mono (fun i hi hh => ⟨hh, by omega, by omega, by omega⟩)).grow g3, ((VarAt.new w [.slice a las.length c, .slice a2 lat.length c2, .slice a3 hd.length c3] 31).grow (hg _ _)).grow (hg _ _), (VarAt.new2 w _ [.int .i64 dd, .int .i64 at0, .int .i64 to0, .slice ab bs.length cb, .slice ak ks.length ck] 37).grow (hg _ _), ?_, (hb.mono (fun i hi hh => ⟨hi, hh⟩)).grow g3, (hk.mono (fun i hi hh => ⟨hi, hh⟩)).grow g3, g3⟩
    have := VarAt.new3 w (.cells #[.slice a las.length c, .slice a2 lat.length c2, .slice a3 hd.length c3] 31) (.cells #[.int .i64 dd, .int .i64 at0, .int .i64 to0, .slice ab bs.length cb, .slice ak ks.length ck] 37) [.slice none 0 0, .slice none 0 0, .slice none 0 0] 31
    exact this
  have bat := around_bd at0 ((las.length : Int) + 2) (by omega)
  have bto := around_bd to0 ((las.length : Int) + 2) (by omega)
  have hwn : IntKind.i64.wrap ((las.length : Int) + 2) = (las.length : Int) + 2 := by rw [IntKind.wrap_i64]; omega
  have hw1 : IntKind.i64.wrap (around at0 ((las.length : Int) + 2) - 1) = around at0 ((las.length : Int) + 2) - 1 := by rw [IntKind.wrap_i64]; omega
  have r1 := fun w' => around_any at0 ((las.length : Int) + 2) w' hat (by omega) (by omega)
  have r2 := fun w' => around_any to0 ((las.length : Int) + 2) w' hto (by omega) (by omega)
  have r3 := fun w' => around_any dd 10 w' hdd (by omega) (by omega)
  have HAT : Hid (-1 ≤ around at0 ((las.length : Int) + 2) - 1 ∧ around at0 ((las.length : Int) + 2) - 1 ≤ las.length) := ⟨by omega, by omega⟩
  have HTO : Hid (0 ≤ around to0 ((las.length : Int) + 2) ∧ around to0 ((las.length : Int) + 2) ≤ (las.length : Int) + 1) := ⟨by omega, by omega⟩
  obtain ⟨AT, hAT⟩ : ∃ AT, around at0 ((las.length : Int) + 2) - 1 = AT := ⟨_, rfl⟩
  have hw2 : IntKind.i64.wrap (around at0 ((las.length : Int) + 2) - 1) = AT := by rw [hw1, hAT]
  clear hw1
  rw [hAT] at HAT
  generalize around at0 ((las.length : Int) + 2) = at1 at r1 hw2 hAT
  generalize around to0 ((las.length : Int) + 2) = TO at r2 HTO
  have hAw : (Lit.int .i64 AT).wf = true := wfI (by have := HAT.out; omega)
  have hTw : (Lit.int .i64 TO).wf = true := wfI (by have := HTO.out; omega)
  have HA : Hid (DevOk las lat hd) := h.ok
  clear bat bto h hq hb hk hp hblk hAT hc1 hd1
  rw [h6] at r3
  clear h6
  go_enter Try.func12, Try.ntmps12
  obtain ⟨w3, hw3⟩ : ∃ w3, (((w.alloc (.cells #[.slice a las.length c, .slice a2 lat.length c2, .slice a3 hd.length c3] 31)).alloc (.cells #[.int .i64 dd, .int .i64 at0, .int .i64 to0, .slice ab bs.length cb, .slice ak ks.length ck] 37)).alloc (.cells #[.slice none 0 0, .slice none 0 0, .slice none 0 0] 31)) = w3 := ⟨_, rfl⟩
  rw [hw3] at HS
  obtain ⟨⟨x0, x1, x2⟩, -⟩ := HS.out.2.2.1.three
  obtain ⟨y0, y1, y2, y3, y4⟩ := HS.out.2.2.2.1.five'
  obtain ⟨⟨z0, z1, z2⟩, fz0, fz1, fz2⟩ := HS.out.2.2.2.2.1.three
  go_wp2_with fail
  refine (r1 w3).mono ?_
  rintro e w4 ⟨rfl, rfl⟩
  go_wp2_with fail
  refine (r2 w3).mono ?_
  rintro e w4 ⟨rfl, rfl⟩
  go_wp2_with fail
  refine (r3 w3).mono ?_
  rintro e w4 ⟨rfl, rfl⟩
  have hba := dbarrier_any w3 _ b bl bt s las lat hd HS.out.1 AT TO hAw hTw
  have hsz : w.heap.size + 3 ≤ w3.heap.size := HS.out.2.2.2.2.1.lt
  clear r1 r2 r3
  go_wp2_with fail
  refine hba.mono ?_
  rintro e w4 ⟨rfl, hD4, hu4⟩
  have hs4 := hu4.size
  have HS4 : Hid (DevAt w4 (fun i => p i ∧ i ≠ w.heap.size ∧ i ≠ w.heap.size + 1 ∧ i ≠ w.heap.size + 1 + 1) b bl bt s (barL (las, lat) (laterL lat AT TO)).1 (barL (las, lat) (laterL lat AT TO)).2 hd ∧ DocV (fun i => p i ∧ i ≠ w.heap.size ∧ i ≠ w.heap.size + 1 ∧ i ≠ w.heap.size + 1 + 1) w4 (.slice a las.length c) (.slice a2 lat.length c2) (.slice a3 hd.length c3) las lat hd ∧ VarAt w4 w.heap.size [.slice a las.length c, .slice a2 lat.length c2, .slice a3 hd.length c3] ∧ VarAt w4 (w.heap.size + 1 + 1) [.slice none 0 0, .slice none 0 0, .slice none 0 0] ∧ UpdS (fun i => i = b ∨ i = bl ∨ i = bt) w w4) := by
    have hB := HB.out
    refine ⟨hD4, HS.out.2.1.upd hu4 (fun i _ hi hh => ?_), HS.out.2.2.1.upd hu4 (by omega), HS.out.2.2.2.2.1.upd hu4 (by omega), UpdS.trans HS.out.2.2.2.2.2.2.2.s (hu4.mono (fun i hi => by omega))⟩
    rcases hh with e | e
    · exact HN.out.2.1 (by rw [← e]; exact hi.1)
    · exact HN.out.2.2 (by rw [← e]; exact hi.1)
  obtain ⟨⟨x0', x1', x2'⟩, -⟩ := HS4.out.2.2.1.three
  obtain ⟨⟨z0', z1', z2'⟩, fz0', fz1', fz2'⟩ := HS4.out.2.2.2.1.three
  have hqb := qbarrier_any (fun i => p i ∧ i ≠ w.heap.size ∧ i ≠ w.heap.size + 1 ∧ i ≠ w.heap.size + 1 + 1) _ _ _ las lat hd w4 HS4.out.2.1 HA.out AT TO hAw hTw (fun i hi => HP.out i (by omega))
  clear hD4 hu4 hba x0 x1 x2 y0 y1 y2 y3 y4 z0 z1 z2 fz0 fz1 fz2 hw3
  go_wp2_with fail
  refine hqb.mono ?_
  rintro e w5 ⟨lv, tv, hv, rfl, hQ5, hg5⟩
  obtain ⟨a5, c5, rfl, -⟩ := hQ5.1.shape
  obtain ⟨a6, c6, rfl, -⟩ := hQ5.2.1.shape
  obtain ⟨a7, c7, rfl⟩ := hQ5.2.2.shape
  have HF : Hid _ := does_end (p := p) (w := w) (W := w5) (s := s) (s2 := s) (las := las) (HS4.out.1.grow hg5) hQ5 (HS4.out.2.2.2.1.grow hg5) (HS4.out.2.2.2.2.trans hg5.s) HN.out HB.out (by omega) (barL_len _ _).1
  obtain ⟨⟨z0, z1, z2⟩, fz0, fz1, fz2⟩ := (HS4.out.2.2.2.1.grow hg5).three
  clear hQ5 hg5 hqb x0' x1' x2' z0' z1' z2' fz0' fz1' fz2' HS4 HS
  go_wp2
  exact bodyPost_ret_by (results_cell_tmp rfl _ _ _ _ rfl (load_D _ _ _ _ _ HF.out.1)) rfl ⟨_, _, _, rfl, _, _, _, HF.out.2⟩

set_option maxRecDepth 16000 in
set_option maxHeartbeats 4000000 in
theorem does_eight (w : World) (p : Nat → Prop) (b bl bt s : Nat) (las lat : List (List Int)) (hd : List Int) (lv tv hv : Value) (h : DevAt w p b bl bt s las lat hd) (hq : DocV p w lv tv hv las lat hd) (hs : s < 1000) (hp : ∀ i, w.heap.size ≤ i → p i) (dd at0 to0 : Int) (hdd : (Lit.int .i64 dd).wf = true) (hat : (Lit.int .i64 at0).wf = true) (hto : (Lit.int .i64 to0).wf = true)
    (bv kv : Value) (bs : List Int) (ks : List Bool) (hb : RdV (Value.int .u8) 0 (fun i => i ≠ b ∧ i ≠ bl ∧ i ≠ bt) w bv bs) (hbo : Oct bs) (hk : RdV Value.bool false (fun i => i ≠ b ∧ i ≠ bl ∧ i ≠ bt) w kv ks) (h8 : around dd 10 = 8) :
    Calls Try.prog 12 #[.pointer (some ⟨b, 0, none⟩), .agg #[lv, tv, hv], .agg #[.int .i64 dd, .int .i64 at0, .int .i64 to0, bv, kv]] w fun e w' => ∃ lv' tv' hv', e = .returned (.tuple #[.agg #[lv', tv', hv'], .bool true]) ∧ ∃ las' lat' hd', DevAt w' p b bl bt (s + 1) las' lat' hd' ∧ DocV p w' lv' tv' hv' las' lat' hd' ∧ UpdS (fun i => i = b ∨ i = bl ∨ i = bt) w w' ∧ las'.length = las.length := by
  obtain ⟨a, c, rfl, hc1, hc2⟩ := hq.1.shape
  obtain ⟨a2, c2, rfl, hd1, hd2⟩ := hq.2.1.shape
  obtain ⟨a3, c3, rfl⟩ := hq.2.2.shape
  obtain ⟨ab, cb, rfl⟩ := hb.shape
  obtain ⟨ak, ck, rfl⟩ := hk.shape
  have hbl := hb.len
  have hkl := hk.len
  have hkc := hk.caps.2
  unfold maxLen at hc2 hd2 hbl hkl hkc
  have hlb : (las.length : Int) ≤ 1024 := by have := h.ok.2.2.2.2.2; omega
  have hblk := h.lt
  have HB : Hid (b < w.heap.size ∧ bl < w.heap.size ∧ bt < w.heap.size ∧ b ≠ bl ∧ b ≠ bt ∧ bl ≠ bt) := hblk
  have HN : Hid (¬ p b ∧ ¬ p bl ∧ ¬ p bt) := h.nots
  have HP : Hid (∀ i, w.heap.size + 3 ≤ i → (p i ∧ i ≠ w.heap.size ∧ i ≠ w.heap.size + 1 ∧ i ≠ w.heap.size + 1 + 1)) := fun i hi => ⟨hp i (by omega), by omega, by omega, by omega⟩
  have HS : Hid (DevAt (((w.alloc (.cells #[.slice a las.length c, .slice a2 lat.length c2, .slice a3 hd.length c3] 31)).alloc (.cells #[.int .i64 dd, .int .i64 at0, .int .i64 to0, .slice ab bs.length cb, .slice ak ks.length ck] 37)).alloc (.cells #[.slice none 0 0, .slice none 0 0, .slice none 0 0] 31)) (fun i => p i ∧ i ≠ w.heap.size ∧ i ≠ w.heap.size + 1 ∧ i ≠ w.heap.size + 1 + 1) b bl bt s las lat hd ∧ DocV (fun i => p i ∧ i ≠ w.heap.size ∧ i ≠ w.heap.size + 1 ∧ i ≠ w.heap.size + 1 + 1) (((w.alloc (.cells #[.slice a las.length c, .slice a2 lat.length c2, .slice a3 hd.length c3] 31)).alloc (.cells #[.int .i64 dd, .int .i64 at0, .int .i64 to0, .slice ab bs.length cb, .slice ak ks.length ck] 37)).alloc (.cells #[.slice none 0 0, .slice none 0 0, .slice none 0 0] 31)) (.slice a las.length c) (.slice a2 lat.length c2) (.slice a3 hd.length c3) las lat hd ∧ VarAt (((w.alloc (.cells #[.slice a las.length c, .slice a2 lat.length c2, .slice a3 hd.length c3] 31)).alloc (.cells #[.int .i64 dd, .int .i64 at0, .int .i64 to0, .slice ab bs.length cb, .slice ak ks.length ck] 37)).alloc (.cells #[.slice none 0 0, .slice none 0 0, .slice none 0 0] 31)) w.heap.size [.slice a las.length c, .slice a2 lat.length c2, .slice a3 hd.length c3] ∧ VarAt (((w.alloc (.cells #[.slice a las.length c, .slice a2 lat.length c2, .slice a3 hd.length c3] 31)).alloc (.cells #[.int .i64 dd, .int .i64 at0, .int .i64 to0, .slice ab bs.length cb, .slice ak ks.length ck] 37)).alloc (.cells #[.slice none 0 0, .slice none 0 0, .slice none 0 0] 31)) (w.heap.size + 1) [.int .i64 dd, .int .i64 at0, .int .i64 to0, .slice ab bs.length cb, .slice ak ks.length ck] ∧ VarAt (((w.alloc (.cells #[.slice a las.length c, .slice a2 lat.length c2, .slice a3 hd.length c3] 31)).alloc (.cells #[.int .i64 dd, .int .i64 at0, .int .i64 to0, .slice ab bs.length cb, .slice ak ks.length ck] 37)).alloc (.cells #[.slice none 0 0, .slice none 0 0, .slice none 0 0] 31)) (w.heap.size + 1 + 1) [.slice none 0 0, .slice none 0 0, .slice none 0 0] ∧ RdV (Value.int .u8) 0 (fun i => i < w.heap.size ∧ i ≠ b ∧ i ≠ bl ∧ i ≠ bt) (((w.alloc (.cells #[.slice a las.length c, .slice a2 lat.length c2, .slice a3 hd.length c3] 31)).alloc (.cells #[.int .i64 dd, .int .i64 at0, .int .i64 to0, .slice ab bs.length cb, .slice ak ks.length ck] 37)).alloc (.cells #[.slice none 0 0, .slice none 0 0, .slice none 0 0] 31)) (.slice ab bs.length cb) bs ∧ RdV Value.bool false (fun i => i < w.heap.size ∧ i ≠ b ∧ i ≠ bl ∧ i ≠ bt) (((w.alloc (.cells #[.slice a las.length c, .slice a2 lat.length c2, .slice a3 hd.length c3] 31)).alloc (.cells #[.int .i64 dd, .int .i64 at0, .int .i64 to0, .slice ab bs.length cb, .slice ak ks.length ck] 37)).alloc (.cells #[.slice none 0 0, .slice none 0 0, .slice none 0 0] 31)) (.slice ak ks.length ck) ks ∧ Grow w (((w.alloc (.cells #[.slice a las.length c, .slice a2 lat.length c2, .slice a3 hd.length c3] 31)).alloc (.cells #[.int .i64 dd, .int .i64 at0, .int .i64 to0, .slice ab bs.length cb, .slice ak ks.length ck] 37)).alloc (.cells #[.slice none 0 0, .slice none 0 0, .slice none 0 0] 31))) := by
    have hg : ∀ W o, Grow W (World.alloc W o) := fun W o => (Grow.refl W).alloc o
    have g3 : Grow w (((w.alloc (.cells #[.slice a las.length c, .slice a2 lat.length c2, .slice a3 hd.length c3] 31)).alloc (.cells #[.int .i64 dd, .int .i64 at0, .int .i64 to0, .slice ab bs.length cb, .slice ak ks.length ck] 37)).alloc (.cells #[.slice none 0 0, .slice none 0 0, .slice none 0 0] 31)) := ((hg _ _).trans (hg _ _)).trans (hg _ _)
    refine ⟨(h.mono (q := (fun i => p i ∧ i ≠ w.heap.size ∧ i ≠ w.heap.size + 1 ∧ i ≠ w.heap.size + 1 + 1)) (fun i hi hh => ⟨hh, by omega, by omega, by omega⟩) (fun hh => HN.out.1 hh.1) (fun hh => HN.out.2.1 hh.1) (fun hh => HN.out.2.2 hh.1)).grow g3, (hq.mono (fun i hi hh => ⟨hh, by omega, by omega, by omega⟩)).grow g3, ((VarAt.new w [.slice a las.length c, .slice a2 lat.length c2, .slice a3 hd.length c3] 31).grow (hg _ _)).grow (hg _ _), (VarAt.new2 w _ [.int .i64 dd, .int .i64 at0, .int .i64 to0, .slice ab bs.length cb, .slice ak ks.length ck] 37).grow (hg _ _), ?_, (hb.mono (fun i hi hh => ⟨hi, hh⟩)).grow g3, (hk.mono (fun i hi hh => ⟨hi, hh⟩)).grow g3, g3⟩
    have := VarAt.new3 w (.cells #[.slice a las.length c, .slice a2 lat.length c2, .slice a3 hd.length c3] 31) (.cells #[.int .i64 dd, .int .i64 at0, .int .i64 to0, .slice ab bs.length cb, .slice ak ks.length ck] 37) [.slice none 0 0, .slice none 0 0, .slice none 0 0] 31
    exact this
  have bat := around_bd at0 ((las.length : Int) + 2) (by omega)
  have bto := around_bd to0 ((las.length : Int) + 2) (by omega)
  have hwn : IntKind.i64.wrap ((las.length : Int) + 2) = (las.length : Int) + 2 := by rw [IntKind.wrap_i64]; omega
  have hw1 : IntKind.i64.wrap (around at0 ((las.length : Int) + 2) - 1) = around at0 ((las.length : Int) + 2) - 1 := by rw [IntKind.wrap_i64]; omega
  have r1 := fun w' => around_any at0 ((las.length : Int) + 2) w' hat (by omega) (by omega)
  have r2 := fun w' => around_any to0 ((las.length : Int) + 2) w' hto (by omega) (by omega)
  have r3 := fun w' => around_any dd 10 w' hdd (by omega) (by omega)
  have HAT : Hid (-1 ≤ around at0 ((las.length : Int) + 2) - 1 ∧ around at0 ((las.length : Int) + 2) - 1 ≤ las.length) := ⟨by omega, by omega⟩
  have HTO : Hid (0 ≤ around to0 ((las.length : Int) + 2) ∧ around to0 ((las.length : Int) + 2) ≤ (las.length : Int) + 1) := ⟨by omega, by omega⟩
  obtain ⟨AT, hAT⟩ : ∃ AT, around at0 ((las.length : Int) + 2) - 1 = AT := ⟨_, rfl⟩
  have hw2 : IntKind.i64.wrap (around at0 ((las.length : Int) + 2) - 1) = AT := by rw [hw1, hAT]
  clear hw1
  rw [hAT] at HAT
  generalize around at0 ((las.length : Int) + 2) = at1 at r1 hw2 hAT
  generalize around to0 ((las.length : Int) + 2) = TO at r2 HTO
  have hAw : (Lit.int .i64 AT).wf = true := wfI (by have := HAT.out; omega)
  have hTw : (Lit.int .i64 TO).wf = true := wfI (by have := HTO.out; omega)
  have HA : Hid (DevOk las lat hd) := h.ok
  clear bat bto h hq hb hk hp hblk hAT hc1 hd1
  rw [h8] at r3
  clear h8
  go_enter Try.func12, Try.ntmps12
  obtain ⟨w3, hw3⟩ : ∃ w3, (((w.alloc (.cells #[.slice a las.length c, .slice a2 lat.length c2, .slice a3 hd.length c3] 31)).alloc (.cells #[.int .i64 dd, .int .i64 at0, .int .i64 to0, .slice ab bs.length cb, .slice ak ks.length ck] 37)).alloc (.cells #[.slice none 0 0, .slice none 0 0, .slice none 0 0] 31)) = w3 := ⟨_, rfl⟩
  rw [hw3] at HS
  obtain ⟨⟨x0, x1, x2⟩, -⟩ := HS.out.2.2.1.three
  obtain ⟨y0, y1, y2, y3, y4⟩ := HS.out.2.2.2.1.five'
  obtain ⟨⟨z0, z1, z2⟩, fz0, fz1, fz2⟩ := HS.out.2.2.2.2.1.three
  go_wp2_with fail
  refine (r1 w3).mono ?_
  rintro e w4 ⟨rfl, rfl⟩
  go_wp2_with fail
  refine (r2 w3).mono ?_
  rintro e w4 ⟨rfl, rfl⟩
  go_wp2_with fail
  refine (r3 w3).mono ?_
  rintro e w4 ⟨rfl, rfl⟩
  have hsz : w.heap.size + 3 ≤ w3.heap.size := HS.out.2.2.2.2.1.lt
  have hyb := u8_bd dd
  obtain ⟨y, hyw⟩ : ∃ y, IntKind.u8.wrap dd = y := ⟨_, rfl⟩
  rw [hyw] at hyb
  have hqt := qturn_any (fun i => p i ∧ i ≠ w.heap.size ∧ i ≠ w.heap.size + 1 ∧ i ≠ w.heap.size + 1 + 1) _ _ _ las lat hd w3 HS.out.2.1 HA.out AT to0 y hAw hto hyb (fun i hi => HP.out i (by omega))
  clear r1 r2 r3
  go_wp2_with fail
  refine hqt.mono ?_
  rintro e w4 ⟨lv, rfl, hQ4, hg4⟩
  obtain ⟨a5, c5, rfl, -⟩ := hQ4.1.shape
  generalize (turnL las AT to0 y).length = L5 at hQ4
  have hga : Grow w4 (w4.alloc (.cells #[.slice a5 L5 c5, .slice a2 lat.length c2, .slice a3 hd.length c3] 31)) := (Grow.refl w4).alloc _
  have HS4 : Hid (DevAt (w4.alloc (.cells #[.slice a5 L5 c5, .slice a2 lat.length c2, .slice a3 hd.length c3] 31)) (fun i => p i ∧ i ≠ w.heap.size ∧ i ≠ w.heap.size + 1 ∧ i ≠ w.heap.size + 1 + 1) b bl bt s las lat hd ∧ DocV (fun i => p i ∧ i ≠ w.heap.size ∧ i ≠ w.heap.size + 1 ∧ i ≠ w.heap.size + 1 + 1) (w4.alloc (.cells #[.slice a5 L5 c5, .slice a2 lat.length c2, .slice a3 hd.length c3] 31)) (.slice a5 L5 c5) (.slice a2 lat.length c2) (.slice a3 hd.length c3) (turnL las AT to0 y) lat hd ∧ VarAt (w4.alloc (.cells #[.slice a5 L5 c5, .slice a2 lat.length c2, .slice a3 hd.length c3] 31)) w4.heap.size [.slice a5 L5 c5, .slice a2 lat.length c2, .slice a3 hd.length c3] ∧ VarAt (w4.alloc (.cells #[.slice a5 L5 c5, .slice a2 lat.length c2, .slice a3 hd.length c3] 31)) (w.heap.size + 1) [.int .i64 dd, .int .i64 at0, .int .i64 to0, .slice ab bs.length cb, .slice ak ks.length ck] ∧ VarAt (w4.alloc (.cells #[.slice a5 L5 c5, .slice a2 lat.length c2, .slice a3 hd.length c3] 31)) (w.heap.size + 1 + 1) [.slice none 0 0, .slice none 0 0, .slice none 0 0] ∧ Grow w (w4.alloc (.cells #[.slice a5 L5 c5, .slice a2 lat.length c2, .slice a3 hd.length c3] 31))) :=
    ⟨(HS.out.1.grow hg4).grow hga, hQ4.grow hga, VarAt.new w4 _ _, (HS.out.2.2.2.1.grow hg4).grow hga, (HS.out.2.2.2.2.1.grow hg4).grow hga, (HS.out.2.2.2.2.2.2.2.trans hg4).trans hga⟩
  have hs4 : w3.heap.size ≤ w4.heap.size := hg4.size
  obtain ⟨w5, hw5⟩ : ∃ w5, w4.alloc (.cells #[.slice a5 L5 c5, .slice a2 lat.length c2, .slice a3 hd.length c3] 31) = w5 := ⟨_, rfl⟩
  have hs5 : w4.heap.size < w5.heap.size := by rw [← hw5]; simp
  rw [hw5] at HS4
  obtain ⟨k0, k1, k2, k3, k4⟩ := HS4.out.2.2.2.1.five'
  have hdt := dturn_any w5 _ b bl bt s las lat hd HS4.out.1 AT to0 y hAw hto hyb (fun i hi => HP.out i (by omega))
  clear hQ4 hg4 hqt hga x0 x1 x2 y0 y1 y2 y3 y4 z0 z1 z2 fz0 fz1 fz2 hw3 HS
  go_wp2_with fail
  refine hdt.mono ?_
  rintro e w6 ⟨rfl, hD6, hu6⟩
  have hs6 := hu6.size
  have HS6 : Hid (DevAt w6 (fun i => p i ∧ i ≠ w.heap.size ∧ i ≠ w.heap.size + 1 ∧ i ≠ w.heap.size + 1 + 1) b bl bt s (turnL las AT to0 y) lat hd ∧ DocV (fun i => p i ∧ i ≠ w.heap.size ∧ i ≠ w.heap.size + 1 ∧ i ≠ w.heap.size + 1 + 1) w6 (.slice a5 L5 c5) (.slice a2 lat.length c2) (.slice a3 hd.length c3) (turnL las AT to0 y) lat hd ∧ VarAt w6 w4.heap.size [.slice a5 L5 c5, .slice a2 lat.length c2, .slice a3 hd.length c3] ∧ VarAt w6 (w.heap.size + 1 + 1) [.slice none 0 0, .slice none 0 0, .slice none 0 0] ∧ UpdS (fun i => i = b ∨ i = bl ∨ i = bt) w w6) := by
    have hB := HB.out
    exact ⟨hD6, HS4.out.2.1.upd hu6 (fun i _ hi hh => HN.out.2.1 (by rw [← hh]; exact hi.1)), HS4.out.2.2.1.upd hu6 (by omega), HS4.out.2.2.2.2.1.upd hu6 (by omega), UpdS.trans HS4.out.2.2.2.2.2.s (hu6.mono (fun i hi => by omega))⟩
  have HF : Hid _ := does_end (p := p) (w := w) (W := w6) (s := s) (s2 := s) (las := las) HS6.out.1 HS6.out.2.1 HS6.out.2.2.2.1 HS6.out.2.2.2.2 HN.out HB.out (by omega) (turnL_len _ _ _ _)
  obtain ⟨⟨z0, z1, z2⟩, fz0, fz1, fz2⟩ := HS6.out.2.2.2.1.three
  obtain ⟨⟨x0, x1, x2⟩, -⟩ := HS6.out.2.2.1.three
  clear hD6 hu6 hdt k0 k1 k2 k3 k4 HS4 HS6 hw5
  go_wp2
  exact bodyPost_ret_by (results_cell_tmp rfl _ _ _ _ rfl (load_D _ _ _ _ _ HF.out.1)) rfl ⟨_, _, _, rfl, _, _, _, HF.out.2⟩

set_option maxRecDepth 16000 in
set_option maxHeartbeats 4000000 in
theorem does_nine (w : World) (p : Nat → Prop) (b bl bt s : Nat) (las lat : List (List Int)) (hd : List Int) (lv tv hv : Value) (h : DevAt w p b bl bt s las lat hd) (hq : DocV p w lv tv hv las lat hd) (hs : s < 1000) (hp : ∀ i, w.heap.size ≤ i → p i) (dd at0 to0 : Int) (hdd : (Lit.int .i64 dd).wf = true) (hat : (Lit.int .i64 at0).wf = true) (hto : (Lit.int .i64 to0).wf = true)
    (bv kv : Value) (bs : List Int) (ks : List Bool) (hb : RdV (Value.int .u8) 0 (fun i => i ≠ b ∧ i ≠ bl ∧ i ≠ bt) w bv bs) (hbo : Oct bs) (hk : RdV Value.bool false (fun i => i ≠ b ∧ i ≠ bl ∧ i ≠ bt) w kv ks) (h9 : around dd 10 = 9) :
    Calls Try.prog 12 #[.pointer (some ⟨b, 0, none⟩), .agg #[lv, tv, hv], .agg #[.int .i64 dd, .int .i64 at0, .int .i64 to0, bv, kv]] w fun e w' => ∃ lv' tv' hv', e = .returned (.tuple #[.agg #[lv', tv', hv'], .bool true]) ∧ ∃ las' lat' hd', DevAt w' p b bl bt (s + 1) las' lat' hd' ∧ DocV p w' lv' tv' hv' las' lat' hd' ∧ UpdS (fun i => i = b ∨ i = bl ∨ i = bt) w w' ∧ las'.length = las.length := by
  obtain ⟨a, c, rfl, hc1, hc2⟩ := hq.1.shape
  obtain ⟨a2, c2, rfl, hd1, hd2⟩ := hq.2.1.shape
  obtain ⟨a3, c3, rfl⟩ := hq.2.2.shape
  obtain ⟨ab, cb, rfl⟩ := hb.shape
  obtain ⟨ak, ck, rfl⟩ := hk.shape
  have hbl := hb.len
  have hkl := hk.len
  have hkc := hk.caps.2
  unfold maxLen at hc2 hd2 hbl hkl hkc
  have hlb : (las.length : Int) ≤ 1024 := by have := h.ok.2.2.2.2.2; omega
  have hblk := h.lt
  have HB : Hid (b < w.heap.size ∧ bl < w.heap.size ∧ bt < w.heap.size ∧ b ≠ bl ∧ b ≠ bt ∧ bl ≠ bt) := hblk
  have HN : Hid (¬ p b ∧ ¬ p bl ∧ ¬ p bt) := h.nots
  have HP : Hid (∀ i, w.heap.size + 3 ≤ i → (p i ∧ i ≠ w.heap.size ∧ i ≠ w.heap.size + 1 ∧ i ≠ w.heap.size + 1 + 1)) := fun i hi => ⟨hp i (by omega), by omega, by omega, by omega⟩
  have HS : Hid (DevAt (((w.alloc (.cells #[.slice a las.length c, .slice a2 lat.length c2, .slice a3 hd.length c3] 31)).alloc (.cells #[.int .i64 dd, .int .i64 at0, .int .i64 to0, .slice ab bs.length cb, .slice ak ks.length ck] 37)).alloc (.cells #[.slice none 0 0, .slice none 0 0, .slice none 0 0] 31)) (fun i => p i ∧ i ≠ w.heap.size ∧ i ≠ w.heap.size + 1 ∧ i ≠ w.heap.size + 1 + 1) b bl bt s las lat hd ∧ DocV (fun i => p i ∧ i ≠ w.heap.size ∧ i ≠ w.heap.size + 1 ∧ i ≠ w.heap.size + 1 + 1) (((w.alloc (.cells #[.slice a las.length c, .slice a2 lat.length c2, .slice a3 hd.length c3] 31)).alloc (.cells #[.int .i64 dd, .int .i64 at0, .int .i64 to0, .slice ab bs.length cb, .slice ak ks.length ck] 37)).alloc (.cells #[.slice none 0 0, .slice none 0 0, .slice none 0 0] 31)) (.slice a las.length c) (.slice a2 lat.length c2) (.slice a3 hd.length c3) las lat hd ∧ VarAt (((w.alloc (.cells #[.slice a las.length c, .slice a2 lat.length c2, .slice a3 hd.length c3] 31)).alloc (.cells #[.int .i64 dd, .int .i64 at0, .int .i64 to0, .slice ab bs.length cb, .slice ak ks.length ck] 37)).alloc (.cells #[.slice none 0 0, .slice none 0 0, .slice none 0 0] 31)) w.heap.size [.slice a las.length c, .slice a2 lat.length c2, .slice a3 hd.length c3] ∧ VarAt (((w.alloc (.cells #[.slice a las.length c, .slice a2 lat.length c2, .slice a3 hd.length c3] 31)).alloc (.cells #[.int .i64 dd, .int .i64 at0, .int .i64 to0, .slice ab bs.length cb, .slice ak ks.length ck] 37)).alloc (.cells #[.slice none 0 0, .slice none 0 0, .slice none 0 0] 31)) (w.heap.size + 1) [.int .i64 dd, .int .i64 at0, .int .i64 to0, .slice ab bs.length cb, .slice ak ks.length ck] ∧ VarAt (((w.alloc (.cells #[.slice a las.length c, .slice a2 lat.length c2, .slice a3 hd.length c3] 31)).alloc (.cells #[.int .i64 dd, .int .i64 at0, .int .i64 to0, .slice ab bs.length cb, .slice ak ks.length ck] 37)).alloc (.cells #[.slice none 0 0, .slice none 0 0, .slice none 0 0] 31)) (w.heap.size + 1 + 1) [.slice none 0 0, .slice none 0 0, .slice none 0 0] ∧ RdV (Value.int .u8) 0 (fun i => i < w.heap.size ∧ i ≠ b ∧ i ≠ bl ∧ i ≠ bt) (((w.alloc (.cells #[.slice a las.length c, .slice a2 lat.length c2, .slice a3 hd.length c3] 31)).alloc (.cells #[.int .i64 dd, .int .i64 at0, .int .i64 to0, .slice ab bs.length cb, .slice ak ks.length ck] 37)).alloc (.cells #[.slice none 0 0, .slice none 0 0, .slice none 0 0] 31)) (.slice ab bs.length cb) bs ∧ RdV Value.bool false (fun i => i < w.heap.size ∧ i ≠ b ∧ i ≠ bl ∧ i ≠ bt) (((w.alloc (.cells #[.slice a las.length c, .slice a2 lat.length c2, .slice a3 hd.length c3] 31)).alloc (.cells #[.int .i64 dd, .int .i64 at0, .int .i64 to0, .slice ab bs.length cb, .slice ak ks.length ck] 37)).alloc (.cells #[.slice none 0 0, .slice none 0 0, .slice none 0 0] 31)) (.slice ak ks.length ck) ks ∧ Grow w (((w.alloc (.cells #[.slice a las.length c, .slice a2 lat.length c2, .slice a3 hd.length c3] 31)).alloc (.cells #[.int .i64 dd, .int .i64 at0, .int .i64 to0, .slice ab bs.length cb, .slice ak ks.length ck] 37)).alloc (.cells #[.slice none 0 0, .slice none 0 0, .slice none 0 0] 31))) := by
    have hg : ∀ W o, Grow W (World.alloc W o) := fun W o => (Grow.refl W).alloc o
    have g3 : Grow w (((w.alloc (.cells #[.slice a las.length c, .slice a2 lat.length c2, .slice a3 hd.length c3] 31)).alloc (.cells #[.int .i64 dd, .int .i64 at0, .int .i64 to0, .slice ab bs.length cb, .slice ak ks.length ck] 37)).alloc (.cells #[.slice none 0 0, .slice none 0 0, .slice none 0 0] 31)) := ((hg _ _).trans (hg _ _)).trans (hg _ _)
    refine ⟨(h.mono (q := (fun i => p i ∧ i ≠ w.heap.size ∧ i ≠ w.heap.size + 1 ∧ i ≠ w.heap.size + 1 + 1)) (fun i hi hh => ⟨hh, by omega, by omega, by omega⟩) (fun hh => HN.out.1 hh.1) (fun hh => HN.out.2.1 hh.1) (fun hh => HN.out.2.2 hh.1)).grow g3, (hq.mono (fun i hi hh => ⟨hh, by omega, by omega, by omega⟩)).grow g3, ((VarAt.new w [.slice a las.length c, .slice a2 lat.length c2, .slice a3 hd.length c3] 31).grow (hg _ _)).grow (hg _ _), (VarAt.new2 w _ [.int .i64 dd, .int .i64 at0, .int .i64 to0, .slice ab bs.length cb, .slice ak ks.length ck] 37).grow (hg _ _), ?_, (hb.mono (fun i hi hh => ⟨hi, hh⟩)).grow g3, (hk.mono (fun i hi hh => ⟨hi, hh⟩)).grow g3, g3⟩
    have := VarAt.new3 w (.cells #[.slice a las.length c, .slice a2 lat.length c2, .slice a3 hd.length c3] 31) (.cells #[.int .i64 dd, .int .i64 at0, .int .i64 to0, .slice ab bs.length cb, .slice ak ks.length ck] 37) [.slice none 0 0, .slice none 0 0, .slice none 0 0] 31
    exact this
  have bat := around_bd at0 ((las.length : Int) + 2) (by omega)
  have bto := around_bd to0 ((las.length : Int) + 2) (by omega)
  have hwn : IntKind.i64.wrap ((las.length : Int) + 2) = (las.length : Int) + 2 := by rw [IntKind.wrap_i64]; omega
  have hw1 : IntKind.i64.wrap (around at0 ((las.length : Int) + 2) - 1) = around at0 ((las.length : Int) + 2) - 1 := by rw [IntKind.wrap_i64]; omega
  have r1 := fun w' => around_any at0 ((las.length : Int) + 2) w' hat (by omega) (by omega)
  have r2 := fun w' => around_any to0 ((las.length : Int) + 2) w' hto (by omega) (by omega)
  have r3 := fun w' => around_any dd 10 w' hdd (by omega) (by omega)
  have HAT : Hid (-1 ≤ around at0 ((las.length : Int) + 2) - 1 ∧ around at0 ((las.length : Int) + 2) - 1 ≤ las.length) := ⟨by omega, by omega⟩
  have HTO : Hid (0 ≤ around to0 ((las.length : Int) + 2) ∧ around to0 ((las.length : Int) + 2) ≤ (las.length : Int) + 1) := ⟨by omega, by omega⟩
  obtain ⟨AT, hAT⟩ : ∃ AT, around at0 ((las.length : Int) + 2) - 1 = AT := ⟨_, rfl⟩
  have hw2 : IntKind.i64.wrap (around at0 ((las.length : Int) + 2) - 1) = AT := by rw [hw1, hAT]
  clear hw1
  rw [hAT] at HAT
  generalize around at0 ((las.length : Int) + 2) = at1 at r1 hw2 hAT
  generalize around to0 ((las.length : Int) + 2) = TO at r2 HTO
  have hAw : (Lit.int .i64 AT).wf = true := wfI (by have := HAT.out; omega)
  have hTw : (Lit.int .i64 TO).wf = true := wfI (by have := HTO.out; omega)
  have HA : Hid (DevOk las lat hd) := h.ok
  clear bat bto h hq hb hk hp hblk hAT hc1 hd1
  rw [h9] at r3
  clear h9
  go_enter Try.func12, Try.ntmps12
  obtain ⟨w3, hw3⟩ : ∃ w3, (((w.alloc (.cells #[.slice a las.length c, .slice a2 lat.length c2, .slice a3 hd.length c3] 31)).alloc (.cells #[.int .i64 dd, .int .i64 at0, .int .i64 to0, .slice ab bs.length cb, .slice ak ks.length ck] 37)).alloc (.cells #[.slice none 0 0, .slice none 0 0, .slice none 0 0] 31)) = w3 := ⟨_, rfl⟩
  rw [hw3] at HS
  obtain ⟨⟨x0, x1, x2⟩, -⟩ := HS.out.2.2.1.three
  obtain ⟨y0, y1, y2, y3, y4⟩ := HS.out.2.2.2.1.five'
  obtain ⟨⟨z0, z1, z2⟩, fz0, fz1, fz2⟩ := HS.out.2.2.2.2.1.three
  go_wp2_with fail
  refine (r1 w3).mono ?_
  rintro e w4 ⟨rfl, rfl⟩
  go_wp2_with fail
  refine (r2 w3).mono ?_
  rintro e w4 ⟨rfl, rfl⟩
  go_wp2_with fail
  refine (r3 w3).mono ?_
  rintro e w4 ⟨rfl, rfl⟩
  have hsz : w.heap.size + 3 ≤ w3.heap.size := HS.out.2.2.2.2.1.lt
  have hf1 := fewB_any (.slice ab bs.length cb) bs 30 30 _ w3 rfl HS.out.2.2.2.2.2.1.i (by omega)
  have HH : Hid (Oct (bs.take 30) ∧ (bs.take 30).length ≤ 1000000) := ⟨hbo.take 30, by rw [List.length_take]; omega⟩
  have hf2 := fun w' (hh : RdV (Value.int .u8) 0 (fun i => i < w.heap.size ∧ i ≠ b ∧ i ≠ bl ∧ i ≠ bt) w' (.slice ab bs.length cb) bs) => fewB_any (.slice ab bs.length cb) bs 30 30 _ w' rfl hh.i (by omega)
  generalize bs.take 30 = hs9 at hf1 hf2 HH
  obtain ⟨-, gx0, gx1, gx2⟩ := HS.out.2.2.1.three
  clear r1 r2 r3
  go_wp2_with fail
  refine hf1.mono ?_
  rintro e w4 ⟨v4, rfl, ho4, hb4⟩
  obtain ⟨a4, c4, rfl⟩ := ho4.shape
  have hs4 : w3.heap.size ≤ w4.heap.size := hb4.size
  have hu5 := upd_one w4 w.heap.size 2 (.slice a4 hs9.length c4)
  obtain ⟨⟨p0, p1, p2⟩, fp0, fp1, fp2⟩ := (HS.out.2.2.1.grow hb4).three
  have HS5 : Hid (DevAt (w4.setCell ⟨w.heap.size, 2, none⟩ (.slice a4 hs9.length c4)) (fun i => p i ∧ i ≠ w.heap.size ∧ i ≠ w.heap.size + 1 ∧ i ≠ w.heap.size + 1 + 1) b bl bt s las lat hd ∧ DocV (fun i => p i ∧ i ≠ w.heap.size ∧ i ≠ w.heap.size + 1 ∧ i ≠ w.heap.size + 1 + 1) (w4.setCell ⟨w.heap.size, 2, none⟩ (.slice a4 hs9.length c4)) (.slice a las.length c) (.slice a2 lat.length c2) (.slice a4 hs9.length c4) las lat hs9 ∧ VarAt (w4.setCell ⟨w.heap.size, 2, none⟩ (.slice a4 hs9.length c4)) w.heap.size [.slice a las.length c, .slice a2 lat.length c2, .slice a4 hs9.length c4] ∧ VarAt (w4.setCell ⟨w.heap.size, 2, none⟩ (.slice a4 hs9.length c4)) (w.heap.size + 1) [.int .i64 dd, .int .i64 at0, .int .i64 to0, .slice ab bs.length cb, .slice ak ks.length ck] ∧ VarAt (w4.setCell ⟨w.heap.size, 2, none⟩ (.slice a4 hs9.length c4)) (w.heap.size + 1 + 1) [.slice none 0 0, .slice none 0 0, .slice none 0 0] ∧ RdV (Value.int .u8) 0 (fun i => i < w.heap.size ∧ i ≠ b ∧ i ≠ bl ∧ i ≠ bt) (w4.setCell ⟨w.heap.size, 2, none⟩ (.slice a4 hs9.length c4)) (.slice ab bs.length cb) bs ∧ UpdS (fun i => i = b ∨ i = bl ∨ i = bt) w (w4.setCell ⟨w.heap.size, 2, none⟩ (.slice a4 hs9.length c4)) ∧ w.heap.size + 3 ≤ (w4.setCell ⟨w.heap.size, 2, none⟩ (.slice a4 hs9.length c4)).heap.size) := by
    have hB := HB.out
    have hqq : DocV (fun i => p i ∧ i ≠ w.heap.size ∧ i ≠ w.heap.size + 1 ∧ i ≠ w.heap.size + 1 + 1) w4 (.slice a las.length c) (.slice a2 lat.length c2) (.slice a4 hs9.length c4) las lat hs9 := ⟨HS.out.2.1.1.grow hb4, HS.out.2.1.2.1.grow hb4, ho4.v.rd.mono (fun i _ hi => HP.out i (by have : w3.heap.size ≤ i := hi; omega))⟩
    refine ⟨(HS.out.1.grow hb4).upd hu5 (by omega) (by omega) (by omega) (fun i _ hi => hi.2.1), hqq.upd hu5 (fun i _ hi => hi.2.1), (HS.out.2.2.1.grow hb4).set 2 _, (HS.out.2.2.2.1.grow hb4).upd hu5 (by omega), (HS.out.2.2.2.2.1.grow hb4).upd hu5 (by omega), (HS.out.2.2.2.2.2.1.grow hb4).upd hu5 (fun i _ hi => by omega), ?_, ?_⟩
    · exact UpdS.beyond (UpdS.trans HS.out.2.2.2.2.2.2.2.s (Grow.s hb4)) hu5 (fun i hi ht => by omega)
    · have := hu5.size; omega
  obtain ⟨w5, hw5⟩ : ∃ w5, w4.setCell ⟨w.heap.size, 2, none⟩ (.slice a4 hs9.length c4) = w5 := ⟨_, rfl⟩
  rw [hw5] at HS5
  obtain ⟨k0, k1, k2, k3, k4⟩ := HS5.out.2.2.2.1.five'
  clear ho4 hb4 hf1 hu5 x0 x1 x2 z0 z1 z2 fz0 fz1 fz2 gx0 gx1 gx2 hw3 HS
  go_wp2_with fail
  refine (hf2 w5 HS5.out.2.2.2.2.2.1).mono ?_
  rintro e w6 ⟨v6, rfl, ho6, hb6⟩
  have hs6 : w5.heap.size ≤ w6.heap.size := hb6.size
  have hsh := dsethead_any w6 _ b bl bt s las lat hd (HS5.out.1.grow hb6) v6 hs9 _ ho6.rd HH.out.1 HH.out.2 (fun i hi => HP.out i (by have := HS5.out.2.2.2.2.2.2.2; omega))
  have HS6 : Hid (DocV (fun i => p i ∧ i ≠ w.heap.size ∧ i ≠ w.heap.size + 1 ∧ i ≠ w.heap.size + 1 + 1) w6 (.slice a las.length c) (.slice a2 lat.length c2) (.slice a4 hs9.length c4) las lat hs9 ∧ VarAt w6 w.heap.size [.slice a las.length c, .slice a2 lat.length c2, .slice a4 hs9.length c4] ∧ VarAt w6 (w.heap.size + 1 + 1) [.slice none 0 0, .slice none 0 0, .slice none 0 0] ∧ UpdS (fun i => i = b ∨ i = bl ∨ i = bt) w w6) := ⟨HS5.out.2.1.grow hb6, HS5.out.2.2.1.grow hb6, HS5.out.2.2.2.2.1.grow hb6, UpdS.trans HS5.out.2.2.2.2.2.2.1 (Grow.s hb6)⟩
  clear ho6 hb6 hf2 k0 k1 k2 k3 k4 p0 p1 p2 fp0 fp1 fp2 hw5 y0 y1 y2 y3 y4
  go_wp2_with fail
  refine hsh.mono ?_
  rintro e w7 ⟨rfl, hD7, hu7⟩
  have HS7 : Hid (DocV (fun i => p i ∧ i ≠ w.heap.size ∧ i ≠ w.heap.size + 1 ∧ i ≠ w.heap.size + 1 + 1) w7 (.slice a las.length c) (.slice a2 lat.length c2) (.slice a4 hs9.length c4) las lat hs9 ∧ VarAt w7 w.heap.size [.slice a las.length c, .slice a2 lat.length c2, .slice a4 hs9.length c4] ∧ VarAt w7 (w.heap.size + 1 + 1) [.slice none 0 0, .slice none 0 0, .slice none 0 0] ∧ UpdS (fun i => i = b ∨ i = bl ∨ i = bt) w w7) := by
    have hB := HB.out
    exact ⟨HS6.out.1.upd hu7 (fun i _ hi hh => HN.out.1 (by rw [← hh]; exact hi.1)), HS6.out.2.1.upd hu7 (by omega), HS6.out.2.2.1.upd hu7 (by omega), HS6.out.2.2.2.trans (hu7.mono (fun i hi => .inl hi))⟩
  have HF : Hid _ := does_end (p := p) (w := w) (W := w7) (s := s) (s2 := s) (las := las) hD7 HS7.out.1 HS7.out.2.2.1 HS7.out.2.2.2 HN.out HB.out (by omega) rfl
  obtain ⟨⟨z0, z1, z2⟩, fz0, fz1, fz2⟩ := HS7.out.2.2.1.three
  obtain ⟨⟨x0, x1, x2⟩, -⟩ := HS7.out.2.1.three
  clear hD7 hu7 hsh HS5 HS6 HS7
  go_wp2
  exact bodyPost_ret_by (results_cell_tmp rfl _ _ _ _ rfl (load_D _ _ _ _ _ HF.out.1)) rfl ⟨_, _, _, rfl, _, _, _, HF.out.2.1, HF.out.2.2.1, HF.out.2.2.2.1, rfl⟩

end Go.Proofs.Ytpkoiogdkaklfaa
