/-
  The walk of FifoOwns. Conditions: the theorem's own.
-/
import Derived.Test.YtmnaadbemlecpaaFifDoc
namespace Go.Proofs.Ytmnaadbemlecpaa
open Go.RowKit
set_option linter.unusedVariables false
set_option linter.unusedSimpArgs false

theorem putL_take {α : Type} (m : Nat) (zs : List α) (d : α) (j : Nat) (h : j < zs.length) (hm : zs.length ≤ m) : putL m (zs.take j) (zs.getD j d) = zs.take (j + 1) := by
  unfold putL
  rw [if_neg (by rw [List.length_take]; omega), take_snoc zs d j h]

set_option maxRecDepth 16000 in
set_option maxHeartbeats 4000000 in
theorem fifoOwns_le (a : Option Addr) (L c : Nat) (zs : List Int) (w : World) (p0 : Nat → Prop) (hz : RdV (Value.int .i64) 0 p0 w (.slice a L c) zs) (hlc : L ≤ c) (hcm : c ≤ 9223372036854775807) (hz8 : Hid (zs.length = L)) (h8 : L ≤ 8) :
    Calls Try.prog 7 #[.slice a L c] w fun e w' => e = .returned (.bool true) ∧ Grow w w' := by
  have h8i : (L : Int) ≤ 8 := by omega
  have HZ : Hid (RdV (Value.int .i64) 0 p0 w (.slice a L c) zs) := hz
  clear hz
  go_enter Try.func7, Try.ntmps7
  go_wp2_with fail
  refine (inew_yes 8 w (by omega) (by omega)).mono ?_
  rintro e w1 ⟨b, rfl, q1, g1, hb1⟩
  have H1 : Hid (∃ p, QAt (Value.int .i64) 0 p w1 b 8 (zs.take 0) ∧ (∀ i, p i → w.heap.size ≤ i) ∧ Grow w w1) := ⟨_, q1, fun _ h => False.elim h, g1⟩
  have HB : Hid (w.heap.size ≤ b) := hb1
  clear q1 g1 hb1
  go_wp2
  go_loopg [6] L (fun k i wr => ∃ j : Nat, k = L - j ∧ j ≤ L ∧ i = .int .i64 j ∧ Hid (∃ p, QAt (Value.int .i64) 0 p wr b 8 (zs.take j) ∧ (∀ i, p i → w.heap.size ≤ i) ∧ Grow w wr))
  case atStart => exact ⟨0, rfl, Nat.zero_le _, rfl, H1⟩
  case round =>
    obtain ⟨j, hk, hj, rfl, HQ⟩ := hrel
    obtain ⟨p, q, hp, hg⟩ := HQ.out
    by_cases hlt : j < L
    · have hlt' : (j : Int) < (L : Int) := by omega
      have HJ : Hid (j < L ∧ gk = L - j) := ⟨hlt, hk⟩
      have hlz : j < zs.length := by rw [hz8.out]; exact hlt
      have hpu := iput_any wr p b 8 (zs.take j) q (zs.getD j 0)
      rw [putL_take 8 zs 0 j hlz (by rw [hz8.out]; omega)] at hpu
      have HP : Hid (Grow w wr ∧ ∀ i, p i → w.heap.size ≤ i) := ⟨hg, hp⟩
      obtain ⟨g, o, e1, -, hc1⟩ := (HZ.out.grow hg).addr (by omega)
      have f1 := hc1 j hlz
      generalize zs.getD j 0 = x at hpu f1
      generalize putE 8 (zs.take j).length = E at hpu
      clear hk q hp hg HQ hc1 H1 hlz
      subst e1
      go_wp2_with fail
      refine hpu.mono ?_
      rintro e w2 ⟨rfl, p2, q2, hp2, hu2⟩
      have HR : Hid (∃ p, QAt (Value.int .i64) 0 p w2 b 8 (zs.take (j + 1)) ∧ (∀ i, p i → w.heap.size ≤ i) ∧ Grow w w2) :=
        ⟨p2, q2, fun i hi => (hp2 i hi).elim (HP.out.2 i) (fun h => Nat.le_trans HP.out.1.size h), UpdS.new HP.out.1 hu2 (fun i hi => hi.elim (HP.out.2 i) (fun e => by rw [e]; exact HB.out))⟩
      clear q2 hp2 hu2 hpu f1
      go_wp2
      go_roundg (L - (j + 1))
      case measure => have := HJ.out; omega
      case rel => exact ⟨j + 1, rfl, HJ.out.1, by go_num, HR⟩
    · have hlt' : ¬ (j : Int) < (L : Int) := by omega
      obtain rfl : L = j := by omega
      obtain ⟨W9, rfl⟩ : ∃ W9, W9 = wr := ⟨_, rfl⟩
      rw [List.take_of_length_le (Nat.le_of_eq hz8.out)] at q
      have hal := iall_any W9 p b 8 zs q
      have HQ1 : Hid (QAt (Value.int .i64) 0 p W9 b 8 zs ∧ Grow w W9 ∧ ∀ i, p i → w.heap.size ≤ i) := ⟨q, hg, hp⟩
      have HPL : Hid (b < W9.heap.size ∧ ∀ i, p i → i < W9.heap.size) := ⟨q.lt, by obtain ⟨_, _, _, _, _, _, _, h6⟩ := q; exact h6⟩
      clear hlt hk q hp hg HQ H1
      go_wp2_with fail
      refine hal.mono ?_
      rintro e w2 ⟨v2, rfl, ho2, g2⟩
      obtain ⟨a2, c2, hv2⟩ := ho2.shape
      rw [hz8.out] at hv2
      subst hv2
      have HO : Hid (∃ xs : List Int, xs.length = L ∧ OwnV (Value.int .i64) 0 (fun i => W9.heap.size ≤ i) w2 (.slice a2 L c2) xs ∧ UpdS (fun i => W9.heap.size ≤ i) W9 w2) := ⟨zs, hz8.out, ho2, g2.s⟩
      clear ho2 g2 hal
      go_wp2
      go_loopg [8] L (fun k i u => ∃ j : Nat, k = L - j ∧ j ≤ L ∧ i = .int .i64 j ∧ Hid (∃ xs : List Int, xs.length = L ∧ OwnV (Value.int .i64) 0 (fun i => W9.heap.size ≤ i) u (.slice a2 L c2) xs ∧ UpdS (fun i => W9.heap.size ≤ i) W9 u))
      case atStart => exact ⟨0, rfl, Nat.zero_le _, rfl, HO⟩
      case round =>
        obtain ⟨j2, hk2, hj2, rfl, HX⟩ := hrel
        by_cases hlt2 : j2 < L
        · have hlt2' : (j2 : Int) < (L : Int) := by omega
          have HJ2 : Hid (j2 < L ∧ gk = L - j2) := ⟨hlt2, hk2⟩
          obtain ⟨xs, hxl, hox, hux⟩ := HX.out
          obtain ⟨g, o, c', hv, hb, hgl, hnc, hcm', hcell, hfr, hset⟩ := hox.row (j := j2) (by omega)
          injection hv with e1 e2 e3
          subst e1 e3
          have HR2 : Hid (∃ xs : List Int, xs.length = L ∧ OwnV (Value.int .i64) 0 (fun i => W9.heap.size ≤ i) (wr.setCell ⟨g, o + j2, none⟩ (.int .i64 7)) (.slice (some ⟨g, o, none⟩) L c2) xs ∧ UpdS (fun i => W9.heap.size ≤ i) W9 (wr.setCell ⟨g, o + j2, none⟩ (.int .i64 7))) :=
            ⟨xs.set j2 7, by rw [List.length_set]; exact hxl, hset 7, hux.trans (UpdS.setCell _ ⟨g, o + j2, none⟩ _ wr hb)⟩
          generalize xs.getD j2 0 = y at hcell
          clear hxl hox hux hset hk2 HX hnc hcm' e2 HO
          go_wp2
          go_roundg (L - (j2 + 1))
          case measure => have := HJ2.out; omega
          case rel => exact ⟨j2 + 1, rfl, HJ2.out.1, by go_num, HR2⟩
        · have hlt2' : ¬ (j2 : Int) < (L : Int) := by omega
          obtain rfl : L = j2 := by omega
          obtain ⟨W8, rfl⟩ : ∃ W8, W8 = wr := ⟨_, rfl⟩
          obtain ⟨xs, -, -, hux⟩ := HX.out
          have hgw : Grow w W8 := UpdS.new HQ1.out.2.1 hux (fun i hi => Nat.le_trans HQ1.out.2.1.size hi)
          have hq8 : QAt (Value.int .i64) 0 p W8 b 8 zs := HQ1.out.1.upd hux (by have := HPL.out.1; omega) (fun i _ hi => by have := HPL.out.2 i hi; omega)
          have hal2 := iall_any W8 p b 8 zs hq8
          have HG8 : Hid (Grow w W8) := hgw
          clear hux hgw hq8 HX HO hlt2 hk2 HQ1 HPL
          go_wp2_with fail
          refine hal2.mono ?_
          rintro e w5 ⟨v5, rfl, ho5, g5⟩
          have hsa := samez_any v5 (.slice a L c) zs zs _ _ w5 ho5.rd (HZ.out.grow (HG8.out.trans g5))
          simp only [decide_true] at hsa
          have HG5 : Hid (Grow w w5) := HG8.out.trans g5
          clear ho5 g5 hal2
          go_wp2_with fail
          refine hsa.mono ?_
          rintro e w6 ⟨rfl, g6⟩
          go_wp2_with fail
          refine (lives_any w6).mono ?_
          rintro e w7 ⟨rfl, g7⟩
          go_wp2
          go_ret
          exact ⟨rfl, (HG5.out.trans g6).trans g7⟩

set_option maxRecDepth 16000 in
set_option maxHeartbeats 4000000 in
theorem fifoOwns_gt (a : Option Addr) (L c : Nat) (zs : List Int) (w : World) (p0 : Nat → Prop) (hz : RdV (Value.int .i64) 0 p0 w (.slice a 8 c) zs) (hlc : L ≤ c) (hcm : c ≤ 9223372036854775807) (hz8 : Hid (zs.length = 8)) (h8 : 8 < L) :
    Calls Try.prog 7 #[.slice a L c] w fun e w' => e = .returned (.bool true) ∧ Grow w w' := by
  have h8i : ¬ (L : Int) ≤ 8 := by omega
  have h8n : ¬ L ≤ 8 := by omega
  have h8c : 8 ≤ c := by omega
  have h8ci : (8 : Int) ≤ (c : Int) := by omega
  have HZ : Hid (RdV (Value.int .i64) 0 p0 w (.slice a 8 c) zs) := hz
  clear hz
  go_enter Try.func7, Try.ntmps7
  go_wp2_with fail
  refine (inew_yes 8 w (by omega) (by omega)).mono ?_
  rintro e w1 ⟨b, rfl, q1, g1, hb1⟩
  have H1 : Hid (∃ p, QAt (Value.int .i64) 0 p w1 b 8 (zs.take 0) ∧ (∀ i, p i → w.heap.size ≤ i) ∧ Grow w w1) := ⟨_, q1, fun _ h => False.elim h, g1⟩
  have HB : Hid (w.heap.size ≤ b) := hb1
  clear q1 g1 hb1
  go_wp2
  go_loopg [6] 8 (fun k i wr => ∃ j : Nat, k = 8 - j ∧ j ≤ 8 ∧ i = .int .i64 j ∧ Hid (∃ p, QAt (Value.int .i64) 0 p wr b 8 (zs.take j) ∧ (∀ i, p i → w.heap.size ≤ i) ∧ Grow w wr))
  case atStart => exact ⟨0, rfl, Nat.zero_le _, rfl, H1⟩
  case round =>
    obtain ⟨j, hk, hj, rfl, HQ⟩ := hrel
    obtain ⟨p, q, hp, hg⟩ := HQ.out
    by_cases hlt : j < 8
    · have hlt' : (j : Int) < 8 := by omega
      have HJ : Hid (j < 8 ∧ gk = 8 - j) := ⟨hlt, hk⟩
      have hlz : j < zs.length := by rw [hz8.out]; exact hlt
      have hpu := iput_any wr p b 8 (zs.take j) q (zs.getD j 0)
      rw [putL_take 8 zs 0 j hlz (by rw [hz8.out]; omega)] at hpu
      have HP : Hid (Grow w wr ∧ ∀ i, p i → w.heap.size ≤ i) := ⟨hg, hp⟩
      obtain ⟨g, o, e1, -, hc1⟩ := (HZ.out.grow hg).addr (by omega)
      have f1 := hc1 j hlz
      generalize zs.getD j 0 = x at hpu f1
      generalize putE 8 (zs.take j).length = E at hpu
      clear hk q hp hg HQ hc1 H1 hlz
      subst e1
      go_wp2_with fail
      refine hpu.mono ?_
      rintro e w2 ⟨rfl, p2, q2, hp2, hu2⟩
      have HR : Hid (∃ p, QAt (Value.int .i64) 0 p w2 b 8 (zs.take (j + 1)) ∧ (∀ i, p i → w.heap.size ≤ i) ∧ Grow w w2) :=
        ⟨p2, q2, fun i hi => (hp2 i hi).elim (HP.out.2 i) (fun h => Nat.le_trans HP.out.1.size h), UpdS.new HP.out.1 hu2 (fun i hi => hi.elim (HP.out.2 i) (fun e => by rw [e]; exact HB.out))⟩
      clear q2 hp2 hu2 hpu f1
      go_wp2
      go_roundg (8 - (j + 1))
      case measure => have := HJ.out; omega
      case rel => exact ⟨j + 1, rfl, HJ.out.1, by go_num, HR⟩
    · have hlt' : ¬ (j : Int) < 8 := by omega
      obtain rfl : 8 = j := by omega
      obtain ⟨W9, rfl⟩ : ∃ W9, W9 = wr := ⟨_, rfl⟩
      rw [List.take_of_length_le (Nat.le_of_eq hz8.out)] at q
      have hal := iall_any W9 p b 8 zs q
      have HQ1 : Hid (QAt (Value.int .i64) 0 p W9 b 8 zs ∧ Grow w W9 ∧ ∀ i, p i → w.heap.size ≤ i) := ⟨q, hg, hp⟩
      have HPL : Hid (b < W9.heap.size ∧ ∀ i, p i → i < W9.heap.size) := ⟨q.lt, by obtain ⟨_, _, _, _, _, _, _, h6⟩ := q; exact h6⟩
      clear hlt hk q hp hg HQ H1
      go_wp2_with fail
      refine hal.mono ?_
      rintro e w2 ⟨v2, rfl, ho2, g2⟩
      obtain ⟨a2, c2, hv2⟩ := ho2.shape
      rw [hz8.out] at hv2
      subst hv2
      have HO : Hid (∃ xs : List Int, xs.length = 8 ∧ OwnV (Value.int .i64) 0 (fun i => W9.heap.size ≤ i) w2 (.slice a2 8 c2) xs ∧ UpdS (fun i => W9.heap.size ≤ i) W9 w2) := ⟨zs, hz8.out, ho2, g2.s⟩
      clear ho2 g2 hal
      go_wp2
      go_loopg [8] 8 (fun k i u => ∃ j : Nat, k = 8 - j ∧ j ≤ 8 ∧ i = .int .i64 j ∧ Hid (∃ xs : List Int, xs.length = 8 ∧ OwnV (Value.int .i64) 0 (fun i => W9.heap.size ≤ i) u (.slice a2 8 c2) xs ∧ UpdS (fun i => W9.heap.size ≤ i) W9 u))
      case atStart => exact ⟨0, rfl, Nat.zero_le _, rfl, HO⟩
      case round =>
        obtain ⟨j2, hk2, hj2, rfl, HX⟩ := hrel
        by_cases hlt2 : j2 < 8
        · have hlt2' : (j2 : Int) < 8 := by omega
          have HJ2 : Hid (j2 < 8 ∧ gk = 8 - j2) := ⟨hlt2, hk2⟩
          obtain ⟨xs, hxl, hox, hux⟩ := HX.out
          obtain ⟨g, o, c', hv, hb, hgl, hnc, hcm', hcell, hfr, hset⟩ := hox.row (j := j2) (by omega)
          injection hv with e1 e2 e3
          subst e1 e3
          have HR2 : Hid (∃ xs : List Int, xs.length = 8 ∧ OwnV (Value.int .i64) 0 (fun i => W9.heap.size ≤ i) (wr.setCell ⟨g, o + j2, none⟩ (.int .i64 7)) (.slice (some ⟨g, o, none⟩) 8 c2) xs ∧ UpdS (fun i => W9.heap.size ≤ i) W9 (wr.setCell ⟨g, o + j2, none⟩ (.int .i64 7))) :=
            ⟨xs.set j2 7, by rw [List.length_set]; exact hxl, hset 7, hux.trans (UpdS.setCell _ ⟨g, o + j2, none⟩ _ wr hb)⟩
          generalize xs.getD j2 0 = y at hcell
          clear hxl hox hux hset hk2 HX hnc hcm' e2 HO
          go_wp2
          go_roundg (8 - (j2 + 1))
          case measure => have := HJ2.out; omega
          case rel => exact ⟨j2 + 1, rfl, HJ2.out.1, by go_num, HR2⟩
        · have hlt2' : ¬ (j2 : Int) < 8 := by omega
          obtain rfl : 8 = j2 := by omega
          obtain ⟨W8, rfl⟩ : ∃ W8, W8 = wr := ⟨_, rfl⟩
          obtain ⟨xs, -, -, hux⟩ := HX.out
          have hgw : Grow w W8 := UpdS.new HQ1.out.2.1 hux (fun i hi => Nat.le_trans HQ1.out.2.1.size hi)
          have hq8 : QAt (Value.int .i64) 0 p W8 b 8 zs := HQ1.out.1.upd hux (by have := HPL.out.1; omega) (fun i _ hi => by have := HPL.out.2 i hi; omega)
          have hal2 := iall_any W8 p b 8 zs hq8
          have HG8 : Hid (Grow w W8) := hgw
          clear hux hgw hq8 HX HO hlt2 hk2 HQ1 HPL
          go_wp2_with fail
          refine hal2.mono ?_
          rintro e w5 ⟨v5, rfl, ho5, g5⟩
          have hsa := samez_any v5 (.slice a 8 c) zs zs _ _ w5 ho5.rd (HZ.out.grow (HG8.out.trans g5))
          simp only [decide_true] at hsa
          have HG5 : Hid (Grow w w5) := HG8.out.trans g5
          clear ho5 g5 hal2
          go_wp2_with fail
          refine hsa.mono ?_
          rintro e w6 ⟨rfl, g6⟩
          go_wp2_with fail
          refine (lives_any w6).mono ?_
          rintro e w7 ⟨rfl, g7⟩
          go_wp2
          go_ret
          exact ⟨rfl, (HG5.out.trans g6).trans g7⟩

theorem fifoOwns_walk (v : Value) (ls : List Int) (w : World) (p0 : Nat → Prop) (hl : RdV (Value.int .i64) 0 p0 w v ls) :
    Calls Try.prog 7 #[v] w fun e w' => e = .returned (.bool true) ∧ Grow w w' := by
  obtain ⟨a, c, rfl⟩ := hl.shape
  have hlm := hl.caps
  by_cases h8 : ls.length ≤ 8
  · exact fifoOwns_le a ls.length c ls w p0 hl hlm.2.1 hlm.2.2 rfl h8
  · exact fifoOwns_gt a ls.length c (ls.take 8) w p0 (hl.take 8 (by omega)) hlm.2.1 hlm.2.2 (by show (ls.take 8).length = 8; rw [List.length_take]; omega) (by omega)
end Go.Proofs.Ytmnaadbemlecpaa
