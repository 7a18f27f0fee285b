/-
  The walks of the device's Barrier and Crash. Conditions: each theorem's own.
-/
import Derived.Test.YtpkoiogdkaklfaaDevWr
import Derived.Test.YtpkoiogdkaklfaaDevLat
import Derived.Test.YtpkoiogdkaklfaaBits
namespace Go.Proofs.Ytpkoiogdkaklfaa
open Go.RowKit
set_option linter.unusedVariables false
set_option linter.unusedSimpArgs false


set_option maxHeartbeats 2000000 in
theorem dbarrier_any (w : World) (p : Nat → Prop) (b bl bt s : Nat) (las lat : List (List Int)) (hd : List Int) (h : DevAt w p b bl bt s las lat hd) (f t : Int) (hf : (Lit.int .i64 f).wf = true) (ht : (Lit.int .i64 t).wf = true) :
    Calls Try.prog 20 #[.pointer (some ⟨b, 0, none⟩), .int .i64 f, .int .i64 t] w fun e w' => e = .returned (.tuple #[]) ∧ DevAt w' p b bl bt s (barL (las, lat) (laterL lat f t)).1 (barL (las, lat) (laterL lat f t)).2 hd ∧ UpdS (fun i => i = bl ∨ i = bt) w w' := by
  have hc := dlater_any w p b bl bt s las lat hd h f t hf ht
  have H : Hid (DevAt w p b bl bt s las lat hd) := h
  have hbd := h.lt
  have HB : Hid (bl < w.heap.size ∧ bt < w.heap.size) := ⟨hbd.2.1, hbd.2.2.1⟩
  have HN : Hid (laterL lat f t).Nodup := nodup_laterL lat f t
  have HI : Hid (∀ x ∈ laterL lat f t, lat.getD x [] ≠ []) := fun x hx => (mem_laterL.1 hx).2.2.2
  have hll : (laterL lat f t).length ≤ 1024 := by have h1 := laterL_length lat f t; have h2 := h.ok.1; have h3 := h.ok.2.2.2.2.2; omega
  generalize laterL lat f t = l at hc HN HI hll
  clear h hbd
  go_enter Try.func20, Try.ntmps20
  go_wp2_with fail
  refine hc.mono ?_
  rintro e w1 ⟨v1, rfl, ho1, hg1⟩
  obtain ⟨a1, c1, rfl⟩ := ho1.shape
  have HO : Hid (OwnV natV 0 (fun i => w.heap.size ≤ i) w1 (.slice a1 l.length c1) l ∧ Grow w w1) := ⟨ho1, hg1⟩
  clear ho1 hg1 hc
  go_wp2
  go_loopg [13] l.length (fun k i wr => ∃ j : Nat, k = l.length - j ∧ j ≤ l.length ∧ i = .int .i64 j ∧ Hid (DevAt wr p b bl bt s (barL (las, lat) (l.take j)).1 (barL (las, lat) (l.take j)).2 hd ∧ UpdS (fun i => i = bl ∨ i = bt) w1 wr))
  case atStart => exact ⟨0, rfl, Nat.zero_le _, rfl, H.out.grow HO.out.2, UpdS.refl _ _⟩
  case round =>
    obtain ⟨j, hk, hj, rfl, HD⟩ := hrel
    by_cases hlt : j < l.length
    · have hlt' : (j : Int) < (l.length : Int) := by omega
      have ho := HO.out.1.upd HD.out.2 (fun i _ hi => by have := HB.out; omega)
      obtain ⟨-, hlc, hcm⟩ := ho.rd.caps
      obtain ⟨b1, o1, rfl, -, hcell⟩ := ho.rd.addr (by omega)
      have hx := hcell j hlt
      have HX : Hid ((barL (las, lat) (l.take j)).2.getD (l.getD j 0) [] ≠ []) := by
        show (barL (las, lat) (l.take j)).2.getD (l.getD j 0) [] ≠ []
        rw [(barL_out _ _ _ (nodup_at HN.out hlt)).2]
        exact HI.out _ (mem_getD hlt)
      have HT : Hid (barL (las, lat) (l.take (j + 1)) = stepB (barL (las, lat) (l.take j)) (l.getD j 0)) := by
        show barL (las, lat) (l.take (j + 1)) = _
        rw [take_snoc l 0 j hlt, barL_snoc]
      clear hcell ho
      generalize l.getD j 0 = x at hx HX HT
      have hst := dsettle_any wr p b bl bt s _ _ hd HD.out.1 x HX.out true
      have HJ : Hid (j < l.length ∧ gk = l.length - j) := ⟨hlt, hk⟩
      unfold maxLen at hcm
      clear hlt hk
      go_wp2_with fail
      refine hst.mono ?_
      rintro e w2 ⟨rfl, hD2, hu2, -⟩
      have HD2 : Hid (DevAt w2 p b bl bt s (barL (las, lat) (l.take (j + 1))).1 (barL (las, lat) (l.take (j + 1))).2 hd ∧ UpdS (fun i => i = bl ∨ i = bt) w1 w2) := by
        rw [HT.out]
        exact ⟨hD2, HD.out.2.trans hu2⟩
      clear hD2 hu2 hx hst HD
      go_wp2
      go_roundg (l.length - (j + 1))
      case measure => have := HJ.out; omega
      case rel => exact ⟨j + 1, rfl, HJ.out.1, by go_num, HD2⟩
    · obtain rfl : j = l.length := by omega
      rw [List.take_length] at HD
      go_wp2
      go_end0
      exact ⟨rfl, HD.out.1, (HO.out.2.s).trans HD.out.2⟩

set_option maxHeartbeats 2000000 in
theorem dcrash_any (w : World) (p : Nat → Prop) (b bl bt s : Nat) (las lat : List (List Int)) (hd : List Int) (h : DevAt w p b bl bt s las lat hd) (f t : Int) (hf : (Lit.int .i64 f).wf = true) (ht : (Lit.int .i64 t).wf = true) (sb sg : Nat) (ls : List Bool) (hs : StrAt w sb sg ls 0) (hne : sb ≠ b ∧ sb ≠ bl ∧ sb ≠ bt ∧ sg ≠ bl ∧ sg ≠ bt) (hp : ¬ p sb) :
    Calls Try.prog 22 #[.pointer (some ⟨b, 0, none⟩), .int .i64 f, .int .i64 t, .pointer (some ⟨sb, 0, none⟩)] w fun e w' => ∃ n, e = .returned (.tuple #[]) ∧
      DevAt w' p b bl bt s (crashL ((las, lat), ls) (laterL lat f t)).1.1 (crashL ((las, lat), ls) (laterL lat f t)).1.2 hd ∧ StrAt w' sb sg (crashL ((las, lat), ls) (laterL lat f t)).2 n ∧ UpdS (fun i => i = bl ∨ i = bt ∨ i = sb) w w' := by
  have hc := dlater_any w p b bl bt s las lat hd h f t hf ht
  have H : Hid (DevAt w p b bl bt s las lat hd ∧ StrAt w sb sg ls 0) := ⟨h, hs⟩
  have hbd := h.lt
  have hsl := hs.lt
  have HB : Hid (bl < w.heap.size ∧ bt < w.heap.size ∧ sb < w.heap.size) := ⟨hbd.2.1, hbd.2.2.1, hsl.1⟩
  have HE : Hid (sb ≠ b ∧ sb ≠ bl ∧ sb ≠ bt ∧ sg ≠ bl ∧ sg ≠ bt) := hne
  have HN : Hid (laterL lat f t).Nodup := nodup_laterL lat f t
  have HI : Hid (∀ x ∈ laterL lat f t, lat.getD x [] ≠ []) := fun x hx => (mem_laterL.1 hx).2.2.2
  have hll : (laterL lat f t).length ≤ 1024 := by have h1 := laterL_length lat f t; have h2 := h.ok.1; have h3 := h.ok.2.2.2.2.2; omega
  generalize laterL lat f t = l at hc HN HI hll
  clear h hbd hs hsl hne
  go_enter Try.func22, Try.ntmps22
  go_wp2_with fail
  refine hc.mono ?_
  rintro e w1 ⟨v1, rfl, ho1, hg1⟩
  obtain ⟨a1, c1, rfl⟩ := ho1.shape
  have HO : Hid (OwnV natV 0 (fun i => w.heap.size ≤ i) w1 (.slice a1 l.length c1) l ∧ Grow w w1) := ⟨ho1, hg1⟩
  clear ho1 hg1 hc
  go_wp2
  go_loopg [15] l.length (fun k i wr => ∃ j : Nat, k = l.length - j ∧ j ≤ l.length ∧ i = .int .i64 j ∧ Hid (∃ n : Int, 0 ≤ n ∧ n ≤ j ∧ DevAt wr p b bl bt s (crashL ((las, lat), ls) (l.take j)).1.1 (crashL ((las, lat), ls) (l.take j)).1.2 hd ∧ StrAt wr sb sg (crashL ((las, lat), ls) (l.take j)).2 n ∧ UpdS (fun i => i = bl ∨ i = bt ∨ i = sb) w1 wr))
  case atStart => exact ⟨0, rfl, Nat.zero_le _, rfl, 0, by omega, by omega, H.out.1.grow HO.out.2, H.out.2.grow HO.out.2, UpdS.refl _ _⟩
  case round =>
    obtain ⟨j, hk, hj, rfl, HD⟩ := hrel
    by_cases hlt : j < l.length
    · have hlt' : (j : Int) < (l.length : Int) := by omega
      obtain ⟨n, hn0, hn1, hD, hS, hU⟩ := HD.out
      have ho := HO.out.1.upd hU (fun i _ hi => by have := HB.out; omega)
      obtain ⟨-, hlc, hcm⟩ := ho.rd.caps
      obtain ⟨b1, o1, rfl, -, hcell⟩ := ho.rd.addr (by omega)
      have hx := hcell j hlt
      have HX : Hid ((crashL ((las, lat), ls) (l.take j)).1.2.getD (l.getD j 0) [] ≠ []) := by
        show (crashL ((las, lat), ls) (l.take j)).1.2.getD (l.getD j 0) [] ≠ []
        rw [(crashL_out _ _ _ (nodup_at HN.out hlt)).2]
        exact HI.out _ (mem_getD hlt)
      have HT : Hid (crashL ((las, lat), ls) (l.take (j + 1)) = stepC (crashL ((las, lat), ls) (l.take j)) (l.getD j 0)) := by
        show crashL ((las, lat), ls) (l.take (j + 1)) = _
        rw [take_snoc l 0 j hlt, crashL_snoc]
      have hnx := bnext_any sb sg _ n wr hS hn0 (by omega)
      have HJ : Hid (j < l.length ∧ gk = l.length - j ∧ 0 ≤ n ∧ n ≤ j) := ⟨hlt, hk, hn0, hn1⟩
      clear hcell ho
      generalize l.getD j 0 = x at hx HX HT
      generalize crashL ((las, lat), ls) (l.take j) = C at HX HT hD hS hnx
      obtain ⟨⟨C1, C2⟩, C3⟩ := C
      have HD1 : Hid (DevAt wr p b bl bt s C1 C2 hd ∧ UpdS (fun i => i = bl ∨ i = bt ∨ i = sb) w1 wr) := ⟨hD, hU⟩
      have hx2 : ∀ w', UpdS (fun i => i = sb) wr w' → Calls Try.prog 44 #[.pointer (some ⟨b, 0, none⟩), .int .i64 x, .bool (C3.getD 0 false)] w' fun e w'' => e = .returned (.tuple #[]) ∧ DevAt w'' p b bl bt s (if C3.getD 0 false then C1.set x (C2.getD x []) else C1) (C2.set x []) hd ∧ UpdS (fun i => i = bl ∨ i = bt) w' w'' ∧ w''.heap.size = w'.heap.size := fun w' hu =>
        dsettle_any w' p b bl bt s _ _ hd (HD1.out.1.upd hu (Ne.symm HE.out.1) (Ne.symm HE.out.2.1) (Ne.symm HE.out.2.2.1) (fun i _ hi e => hp (by rw [← e]; exact hi))) x HX.out _
      unfold maxLen at hcm
      clear hlt hk hD hS hU HD hn0 hn1
      have HT2 : Hid (crashL ((las, lat), ls) (l.take (j + 1)) = ((if C3.getD 0 false then C1.set x (C2.getD x []) else C1, C2.set x []), C3.drop 1)) := HT.out
      clear HT HX
      generalize C3.getD 0 false = y at hnx hx2 HT2
      generalize C3.drop 1 = C4 at hnx HT2
      have hm1 : (min 1 C3.length : Nat) ≤ 1 := by omega
      generalize (min 1 C3.length : Nat) = m at hnx hm1
      go_wp2_with fail
      refine hnx.mono ?_
      rintro e w2 ⟨rfl, hS2, hu2⟩
      have hst := hx2 w2 hu2
      have HS2 : Hid (StrAt w2 sb sg C4 (n + m) ∧ UpdS (fun i => i = sb) wr w2) := ⟨hS2, hu2⟩
      clear hS2 hu2 hx2 hnx
      go_wp2_with fail
      refine hst.mono ?_
      rintro e w3 ⟨rfl, hD3, hu3, -⟩
      have HD3 : Hid (∃ n : Int, 0 ≤ n ∧ n ≤ ((j + 1 : Nat) : Int) ∧ DevAt w3 p b bl bt s (crashL ((las, lat), ls) (l.take (j + 1))).1.1 (crashL ((las, lat), ls) (l.take (j + 1))).1.2 hd ∧ StrAt w3 sb sg (crashL ((las, lat), ls) (l.take (j + 1))).2 n ∧ UpdS (fun i => i = bl ∨ i = bt ∨ i = sb) w1 w3) := by
        rw [HT2.out]
        have hj := HJ.out
        have he := HE.out
        exact ⟨n + m, by omega, by omega, hD3, HS2.out.1.upd hu3 (by omega) (by omega), (HD1.out.2.trans (HS2.out.2.mono (fun i hi => .inr (.inr hi)))).trans (hu3.mono (fun i hi => hi.elim .inl (fun h => .inr (.inl h))))⟩
      clear hD3 hu3 hx hst
      go_wp2
      go_roundg (l.length - (j + 1))
      case measure => have := HJ.out; omega
      case rel => exact ⟨j + 1, rfl, HJ.out.1, by go_num, HD3⟩
    · obtain rfl : j = l.length := by omega
      rw [List.take_length] at HD
      obtain ⟨n, hn0, hn1, hD, hS, hU⟩ := HD.out
      go_wp2
      go_end0
      exact ⟨n, rfl, hD, hS, (HO.out.2.s).trans hU⟩
end Go.Proofs.Ytpkoiogdkaklfaa
