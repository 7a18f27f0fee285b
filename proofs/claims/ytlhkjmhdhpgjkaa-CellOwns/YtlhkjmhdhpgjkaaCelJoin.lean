/-
  The walk of cell's Join. Conditions: each theorem's own.
-/
import Derived.Test.YtlhkjmhdhpgjkaaCelSplit
namespace Go.Proofs.Ytlhkjmhdhpgjkaa
open Go.RowKit
set_option linter.unusedVariables false
set_option linter.unusedSimpArgs false

set_option maxHeartbeats 1000000 in
theorem join_no (a : Option Addr) (l c : Nat) (w : World) (hl : l ≠ 2) (hlm : l ≤ maxLen) :
    Calls Try.prog 19 #[.slice a l c] w fun e w' => e = .returned (.tuple #[.slice none 0 0, .int .i64 2]) ∧ w = w' := by
  unfold maxLen at hlm
  have h2 : ¬ (l : Int) = 2 := by omega
  go_enter Try.func19, Try.ntmps19
  go_wp2
  go_ret2
  exact ⟨rfl, rfl⟩

theorem join_list (z0 z1 : List Int) (h0 : z0.length = 16) (h1 : z1.length = 16) : midL (midL (List.replicate 32 0) 0 z0) 16 z1 = z0 ++ z1 := by
  unfold midL
  rw [h0, h1]
  simp [h0]

set_option maxHeartbeats 4000000 in
theorem join_two {q : Nat → Prop} (av a0 a1 : Option Addr) (cv c0 c1 l1 : Nat) (z0 z1 : List Int) (B0 B1 : Nat) (w : World) (h : RdV slF sl0 q w (.slice av 2 cv) [(a0, 16, c0), (a1, l1, c1)]) (h0 : Rd .u8 B0 w (.slice a0 16 c0) z0) (h1 : Rd .u8 B1 w (.slice a1 l1 c1) z1) (hl1 : l1 = 16) :
    Calls Try.prog 19 #[.slice av 2 cv] w fun e w' => ∃ v', e = .returned (.tuple #[v', .int .i64 0]) ∧ Own .u8 w.heap.size w' v' (z0 ++ z1) ∧ Grow w w' := by
  obtain ⟨i0, hi, hz0, hz1, hz2⟩ := info_parts Try.info5
  have hcap0 := h0.caps
  have hcap1 := h1.caps
  obtain ⟨b, o, rfl, -, hcell⟩ := h.addr (by simp)
  have HC : Hid (w.cell? ⟨b, o, none⟩ = some (.slice a0 16 c0) ∧ w.cell? ⟨b, o + 1, none⟩ = some (.slice a1 l1 c1)) := ⟨hcell 0 (by simp), hcell 1 (by simp)⟩
  have hbl : b < w.heap.size := World.block_lt_of_cell? _ _ HC.out.1
  have HB : Hid (b < w.heap.size) := hbl
  have hcv := h.caps
  have hcv2 : 2 ≤ cv := by omega
  have HR0 : Hid (Rd .u8 w.heap.size w (.slice a0 16 c0) z0) := h0.size
  have HR1 : Hid (Rd .u8 w.heap.size w (.slice a1 l1 c1) z1) := h1.size
  have HL : Hid (z0.length = 16 ∧ z1.length = l1) := ⟨by omega, by omega⟩
  subst hl1
  clear hcap0 hcap1 hcv hcell h h0 h1 hbl
  go_enter Try.func19, Try.ntmps19
  go_wp2_with (at_make; refine wpList_makeV rfl (.const (.int .i64 32)) (.const (.int .i64 32)) 22 rfl (Value.int .u8) 0 5 i0 Try.underlying22 hi hz0 rfl 1 hz1 hz2 .i64 .i64 32 32 rfl rfl rfl (by omega) (by omega) ?_)
  intro v1 w1 ho1 hg1 hlt1
  obtain ⟨g, hO, hgp, hgl⟩ := ho1.block (by simp)
  have hgp2 : g = w.heap.size := hgp
  obtain ⟨ap, cp, hv1⟩ := ho1.shape
  have hv2 : v1 = .slice ap 32 cp := hv1
  subst hv2
  obtain ⟨gg, po, hap, -, -⟩ := hO.rd.addr (by simp)
  subst hap
  have hcpc := hO.rd.caps
  have hcp : 32 ≤ cp := by omega
  have hcpm : cp ≤ maxLen := by omega
  unfold maxLen at hcpm
  have H1 : Hid (OwnV (Value.int .u8) 0 (fun i => i = g) w1 (.slice (some ⟨gg, po, none⟩) 32 cp) (List.replicate 32 0) ∧ Grow w w1 ∧ w.heap.size ≤ g) := ⟨hO, hg1, by omega⟩
  have e16 : ¬ cp = 16 := by omega
  have e0 : ¬ cp = 0 := by omega
  clear hO hgp hgp2 hgl hcpc ho1 hg1 hlt1 hv1
  go_wp2
  go_loopg [5, 6, 13] 2 (fun k kv bv iv wr => (k = 2 ∧ iv = .int .i64 0 ∧ Hid (OwnV (Value.int .u8) 0 (fun i => i = g) wr (.slice (some ⟨gg, po, none⟩) 32 cp) (List.replicate 32 0) ∧ Grow w wr)) ∨
    (k = 1 ∧ iv = .int .i64 1 ∧ Hid (OwnV (Value.int .u8) 0 (fun i => i = g) wr (.slice (some ⟨gg, po, none⟩) 32 cp) (midL (List.replicate 32 0) 0 z0) ∧ Grow w wr)) ∨
    (k = 0 ∧ iv = .int .i64 2 ∧ Hid (OwnV (Value.int .u8) 0 (fun i => i = g) wr (.slice (some ⟨gg, po, none⟩) 32 cp) (midL (midL (List.replicate 32 0) 0 z0) 16 z1) ∧ Grow w wr)))
  case atStart => exact .inl ⟨rfl, rfl, H1.out.1, H1.out.2.1⟩
  case round =>
    rcases hrel with ⟨hk, rfl, Y⟩ | ⟨hk, rfl, Y⟩ | ⟨hk, rfl, Y⟩
    · have HK : Hid (gk = 2) := hk
      have hc0 : wr.cell? ⟨b, o, none⟩ = some (.slice a0 16 c0) := by rw [Below.cell (p := ⟨b, o, none⟩) Y.out.2 HB.out]; exact HC.out.1
      obtain ⟨w2, hrun, ho2, hu2⟩ := run_copyMid (P := Try.prog) 22 22 3 5 Try.underlying22 (by rw [hi]; simp [hz1]) 0 Y.out.1 (Rd.v (HR0.out.below Y.out.2)) (by rw [HL.out.1]; simp) (oneI .u8)
      rw [HL.out.1, if_neg e0, Nat.sub_zero, Nat.sub_zero] at hrun
      simp only [Option.map_some, Addr.add_lit, Nat.add_zero] at hrun
      have X : Hid (OwnV (Value.int .u8) 0 (fun i => i = g) w2 (.slice (some ⟨gg, po, none⟩) 32 cp) (midL (List.replicate 32 0) 0 z0) ∧ Grow w w2) := ⟨ho2, UpdS.new Y.out.2 hu2 (fun i hi => by have := H1.out.2.2; omega)⟩
      clear hk ho2 hu2
      go_wp2
      go_roundg 1
      case measure => have := HK.out; omega
      case rel => exact .inr (.inl ⟨rfl, rfl, X⟩)
    · have HK : Hid (gk = 1) := hk
      have hc1 : wr.cell? ⟨b, o + 1, none⟩ = some (.slice a1 16 c1) := by rw [Below.cell (p := ⟨b, o + 1, none⟩) Y.out.2 HB.out]; exact HC.out.2
      obtain ⟨w2, hrun, ho2, hu2⟩ := run_copyMid (P := Try.prog) 22 22 3 5 Try.underlying22 (by rw [hi]; simp [hz1]) 16 Y.out.1 (Rd.v (HR1.out.below Y.out.2)) (by rw [HL.out.2, midL_length (by rw [HL.out.1]; simp)]; simp) (oneI .u8)
      rw [HL.out.2, if_neg e16] at hrun
      simp only [Option.map_some, Addr.add_lit, Nat.reduceSub] at hrun
      have X : Hid (OwnV (Value.int .u8) 0 (fun i => i = g) w2 (.slice (some ⟨gg, po, none⟩) 32 cp) (midL (midL (List.replicate 32 0) 0 z0) 16 z1) ∧ Grow w w2) := ⟨ho2, UpdS.new Y.out.2 hu2 (fun i hi => by have := H1.out.2.2; omega)⟩
      clear hk ho2 hu2
      go_wp2
      go_roundg 0
      case measure => have := HK.out; omega
      case rel => exact .inr (.inr ⟨rfl, rfl, X⟩)
    · clear hk
      have hf := Y.out.1
      rw [join_list z0 z1 HL.out.1 HL.out.2] at hf
      have X := hf.i (B := w.heap.size) (fun i hi => by have := H1.out.2.2; omega)
      clear hf
      go_wp2
      go_ret2
      exact ⟨_, rfl, X, Y.out.2⟩

set_option maxHeartbeats 4000000 in
theorem join_odd {q : Nat → Prop} (av a0 a1 : Option Addr) (cv c0 c1 l1 : Nat) (z0 z1 : List Int) (B0 B1 : Nat) (w : World) (h : RdV slF sl0 q w (.slice av 2 cv) [(a0, 16, c0), (a1, l1, c1)]) (h0 : Rd .u8 B0 w (.slice a0 16 c0) z0) (h1 : Rd .u8 B1 w (.slice a1 l1 c1) z1) (hl1 : l1 ≠ 16) :
    Calls Try.prog 19 #[.slice av 2 cv] w fun e w' => e = .returned (.tuple #[.slice none 0 0, .int .i64 2]) ∧ Grow w w' := by
  obtain ⟨i0, hi, hz0, hz1, hz2⟩ := info_parts Try.info5
  have hcap0 := h0.caps
  have hcap1 := h1.caps
  obtain ⟨b, o, rfl, -, hcell⟩ := h.addr (by simp)
  have HC : Hid (w.cell? ⟨b, o, none⟩ = some (.slice a0 16 c0) ∧ w.cell? ⟨b, o + 1, none⟩ = some (.slice a1 l1 c1)) := ⟨hcell 0 (by simp), hcell 1 (by simp)⟩
  have hbl : b < w.heap.size := World.block_lt_of_cell? _ _ HC.out.1
  have HB : Hid (b < w.heap.size) := hbl
  have hcv := h.caps
  have hcv2 : 2 ≤ cv := by omega
  have HR0 : Hid (Rd .u8 w.heap.size w (.slice a0 16 c0) z0) := h0.size
  have HR1 : Hid (Rd .u8 w.heap.size w (.slice a1 l1 c1) z1) := h1.size
  have HL : Hid (z0.length = 16 ∧ z1.length = l1) := ⟨by omega, by omega⟩
  have hl1i : ¬ (l1 : Int) = 16 := by omega
  have hl1m : l1 ≤ maxLen := by omega
  unfold maxLen at hl1m
  clear hcap0 hcap1 hcv hcell h h0 h1 hbl
  go_enter Try.func19, Try.ntmps19
  go_wp2_with (at_make; refine wpList_makeV rfl (.const (.int .i64 32)) (.const (.int .i64 32)) 22 rfl (Value.int .u8) 0 5 i0 Try.underlying22 hi hz0 rfl 1 hz1 hz2 .i64 .i64 32 32 rfl rfl rfl (by omega) (by omega) ?_)
  intro v1 w1 ho1 hg1 hlt1
  obtain ⟨g, hO, hgp, hgl⟩ := ho1.block (by simp)
  have hgp2 : g = w.heap.size := hgp
  obtain ⟨ap, cp, hv1⟩ := ho1.shape
  have hv2 : v1 = .slice ap 32 cp := hv1
  subst hv2
  obtain ⟨gg, po, hap, -, -⟩ := hO.rd.addr (by simp)
  subst hap
  have hcpc := hO.rd.caps
  have hcp : 32 ≤ cp := by omega
  have hcpm : cp ≤ maxLen := by omega
  unfold maxLen at hcpm
  have H1 : Hid (OwnV (Value.int .u8) 0 (fun i => i = g) w1 (.slice (some ⟨gg, po, none⟩) 32 cp) (List.replicate 32 0) ∧ Grow w w1 ∧ w.heap.size ≤ g) := ⟨hO, hg1, by omega⟩
  have e16 : ¬ cp = 16 := by omega
  have e0 : ¬ cp = 0 := by omega
  clear hO hgp hgp2 hgl hcpc ho1 hg1 hlt1 hv1
  go_wp2
  go_loopg [5, 6, 13] 2 (fun k kv bv iv wr => (k = 2 ∧ iv = .int .i64 0 ∧ Hid (OwnV (Value.int .u8) 0 (fun i => i = g) wr (.slice (some ⟨gg, po, none⟩) 32 cp) (List.replicate 32 0) ∧ Grow w wr)) ∨
    (k = 1 ∧ iv = .int .i64 1 ∧ Hid (OwnV (Value.int .u8) 0 (fun i => i = g) wr (.slice (some ⟨gg, po, none⟩) 32 cp) (midL (List.replicate 32 0) 0 z0) ∧ Grow w wr)))
  case atStart => exact .inl ⟨rfl, rfl, H1.out.1, H1.out.2.1⟩
  case round =>
    rcases hrel with ⟨hk, rfl, Y⟩ | ⟨hk, rfl, Y⟩
    · have HK : Hid (gk = 2) := hk
      have hc0 : wr.cell? ⟨b, o, none⟩ = some (.slice a0 16 c0) := by rw [Below.cell (p := ⟨b, o, none⟩) Y.out.2 HB.out]; exact HC.out.1
      obtain ⟨w2, hrun, ho2, hu2⟩ := run_copyMid (P := Try.prog) 22 22 3 5 Try.underlying22 (by rw [hi]; simp [hz1]) 0 Y.out.1 (Rd.v (HR0.out.below Y.out.2)) (by rw [HL.out.1]; simp) (oneI .u8)
      rw [HL.out.1, if_neg e0, Nat.sub_zero, Nat.sub_zero] at hrun
      simp only [Option.map_some, Addr.add_lit, Nat.add_zero] at hrun
      have X : Hid (OwnV (Value.int .u8) 0 (fun i => i = g) w2 (.slice (some ⟨gg, po, none⟩) 32 cp) (midL (List.replicate 32 0) 0 z0) ∧ Grow w w2) := ⟨ho2, UpdS.new Y.out.2 hu2 (fun i hi => by have := H1.out.2.2; omega)⟩
      clear hk ho2 hu2
      go_wp2
      go_roundg 1
      case measure => have := HK.out; omega
      case rel => exact .inr ⟨rfl, rfl, X⟩
    · have hc1 : wr.cell? ⟨b, o + 1, none⟩ = some (.slice a1 l1 c1) := by rw [Below.cell (p := ⟨b, o + 1, none⟩) Y.out.2 HB.out]; exact HC.out.2
      clear hk
      go_wp2
      go_ret2
      exact ⟨rfl, Y.out.2⟩
end Go.Proofs.Ytlhkjmhdhpgjkaa
