/-
  The walk of cell's Split. Conditions: each theorem's own.
-/
import Derived.Test.YtlhkjmhdhpgjkaaCel
namespace Go.Proofs.Ytlhkjmhdhpgjkaa
open Go.RowKit
set_option linter.unusedVariables false
set_option linter.unusedSimpArgs false

theorem Try.infoS : (Try.prog.info? 22).map (fun i => (i.zero, i.size, i.bytes)) = some (some (.slice none 0 0), 1, 24) := by kernel_rfl

/-- the block of a row that is not empty -/
theorem OwnV.block {α : Type} {f : α → Value} {d : α} {p : Nat → Prop} {w : World} {v : Value} {zs : List α} (h : OwnV f d p w v zs) (hz : 0 < zs.length) : ∃ g, OwnV f d (fun i => i = g) w v zs ∧ p g ∧ g < w.heap.size := by
  rcases h with ⟨rfl, _⟩ | ⟨g, o, c, rfl, hb, h0, hnc, hcm, hc, ht⟩
  · exact absurd hz (Nat.not_lt_zero _)
  · exact ⟨g, .inr ⟨g, o, c, rfl, rfl, h0, hnc, hcm, hc, ht⟩, hb, lt_of_some (ht 0 h0).1⟩

abbrev sl0 : Option Addr × Nat × Nat := (none, 0, 0)

set_option maxHeartbeats 1000000 in
theorem split_no (a : Option Addr) (l c : Nat) (w : World) (hl : l ≠ 32) (hlm : l ≤ maxLen) :
    Calls Try.prog 18 #[.slice a l c] w fun e w' => e = .returned (.tuple #[.slice none 0 0, .int .i64 2]) ∧ w = w' := by
  unfold maxLen at hlm
  have h2 : ¬ (l : Int) = 32 := by omega
  go_enter Try.func18, Try.ntmps18
  go_wp2
  go_ret2
  exact ⟨rfl, rfl⟩

set_option maxHeartbeats 4000000 in
theorem split_yes (a : Option Addr) (c : Nat) (zs : List Int) (B : Nat) (w : World) (h : Rd .u8 B w (.slice a 32 c) zs) :
    Calls Try.prog 18 #[.slice a 32 c] w fun e w' => ∃ av cv a0 c0 a1 c1, e = .returned (.tuple #[.slice av 2 cv, .int .i64 0]) ∧ OwnV slF sl0 (fun i => w.heap.size ≤ i) w' (.slice av 2 cv) [(a0, 16, c0), (a1, 16, c1)] ∧
      Own .u8 w.heap.size w' (.slice a0 16 c0) (zs.take 16) ∧ Own .u8 w.heap.size w' (.slice a1 16 c1) (zs.drop 16) ∧ Grow w w' := by
  obtain ⟨i1, hi1, hy0, hy1, hy2⟩ := info_parts Try.infoS
  have hcap := h.caps
  have ht := h.size.take 16 (by omega)
  have hd := h.size.drop 16 (by omega)
  have hc32 : 32 ≤ c := by omega
  have hcm : c ≤ maxLen := by omega
  have hne : ¬ c = 16 := by omega
  rw [if_neg hne] at hd
  have HT : Hid (Rd .u8 w.heap.size w (.slice a 16 c) (zs.take 16)) := ht
  have HD : Hid (Rd .u8 w.heap.size w (.slice (a.map (·.add 16)) 16 (c - 16)) (zs.drop 16)) := hd
  have HLT : Hid ((zs.take 16).length = 16 ∧ (zs.drop 16).length = 16) := ⟨by rw [List.length_take]; omega, by rw [List.length_drop]; omega⟩
  unfold maxLen at hcm
  clear h hcap ht hd
  generalize zs.take 16 = z0 at HT HLT
  generalize zs.drop 16 = z1 at HD HLT
  go_enter Try.func18, Try.ntmps18
  go_wp2_with (at_make; refine wpList_makeV0 rfl (.const (.int .i64 0)) (.const (.int .i64 2)) 32 rfl slF sl0 22 i1 (.slice none 0 0) Try.underlying32 hi1 hy0 hy1 24 hy2 .i64 .i64 2 rfl rfl (by omega) (by omega) (by omega) ?_)
  intro v1 w1 ho1 hg1 hlt1
  have H1 : Hid (OwnV slF sl0 (fun i => i = w.heap.size) w1 v1 [] ∧ Grow w w1 ∧ w.heap.size < w1.heap.size) := ⟨ho1, hg1, hlt1⟩
  clear ho1 hg1 hlt1
  go_wp2
  go_loopg [0, 4] 2 (fun k pv sv wr => (k = 2 ∧ pv = .slice a 32 c ∧ Hid (OwnV slF sl0 (fun i => i = w.heap.size) wr sv [] ∧ Grow w wr ∧ w.heap.size < wr.heap.size)) ∨
    (k = 1 ∧ pv = .slice (a.map (·.add 16)) 16 (c - 16) ∧ ∃ a0 c0 gr g0, Hid (OwnV slF sl0 (fun i => i = gr) wr sv [(a0, 16, c0)] ∧ OwnV (Value.int .u8) 0 (fun i => i = g0) wr (.slice a0 16 c0) z0 ∧ gr ≠ g0 ∧ gr < wr.heap.size ∧ g0 < wr.heap.size ∧ w.heap.size ≤ gr ∧ w.heap.size ≤ g0 ∧ Grow w wr)) ∨
    (k = 0 ∧ ∃ ap cp a0 c0 a1 c1, pv = .slice ap 0 cp ∧ Hid (OwnV slF sl0 (fun i => w.heap.size ≤ i) wr sv [(a0, 16, c0), (a1, 16, c1)] ∧ Own .u8 w.heap.size wr (.slice a0 16 c0) z0 ∧ Own .u8 w.heap.size wr (.slice a1 16 c1) z1 ∧ Grow w wr)))
  case atStart => exact .inl ⟨rfl, rfl, H1.out⟩
  case round =>
    rcases hrel with ⟨hk, rfl, Y⟩ | ⟨hk, rfl, a0, c0, gr, g0, Y⟩ | ⟨hk, ap, cp, a0, c0, a1, c1, rfl, Y⟩
    · have HK : Hid (gk = 2) := hk
      have hown := cown_any _ z0 _ wr (HT.out.below Y.out.2.1) (by have := HLT.out; omega)
      clear hk
      go_wp2_with fail
      refine hown.mono ?_
      rintro e w2 ⟨v2, rfl, ho2, hb2⟩
      obtain ⟨a2, c2, hv2⟩ := ho2.shape
      rw [HLT.out.1] at hv2
      subst hv2
      obtain ⟨g0, hO, hge, hlt⟩ := ho2.v.block (by have := HLT.out; omega)
      have hrow := (Y.out.1.grow hb2).grow ((Grow.refl w2).alloc (.cells #[slF (a2, 16, c2)] 22))
      have Z : Hid (OwnV (Value.int .u8) 0 (fun i => i = g0) w2 (.slice a2 16 c2) z0 ∧ wr.heap.size ≤ g0 ∧ g0 < w2.heap.size ∧ Grow w w2 ∧ Grow wr w2) := ⟨hO, hge, hlt, Y.out.2.1.trans hb2, hb2⟩
      clear hO hge hlt hown ho2 hb2
      go_wp2_with (at_builtin; refine wpList_appV rfl (.tmp 14) (.tmp 18) 32 32 rfl i1 (.slice none 0 0) 24 Try.underlying32 hi1 hy0 hy1 hy2 rfl rfl rfl hrow (Src.oneV (w := w2) Try.underlying32 slF (a2, 16, c2) rfl 22) (by simp [maxLen]) (by simp) ?_)
      intro v3 w3 ho3 hu3
      obtain ⟨gr, hR, hgr, hgl⟩ := ho3.block (by simp)
      have hA := (Z.out.1.grow ((Grow.refl w2).alloc (.cells #[slF (a2, 16, c2)] 22))).upd hu3 (fun i _ h1 h2 => by have := Z.out.2.1; have := Y.out.2.2; omega)
      have hG : Grow w w3 := UpdS.new (Z.out.2.2.2.1.alloc _) hu3 (fun i hi => by omega)
      have X : Hid (OwnV slF sl0 (fun i => i = gr) w3 v3 [(a2, 16, c2)] ∧ OwnV (Value.int .u8) 0 (fun i => i = g0) w3 (.slice a2 16 c2) z0 ∧ gr ≠ g0 ∧ gr < w3.heap.size ∧ g0 < w3.heap.size ∧ w.heap.size ≤ gr ∧ w.heap.size ≤ g0 ∧ Grow w w3) := by
        have e1 : w2.heap.size + 1 ≤ w3.heap.size := by have := hu3.size; simpa using this
        have e2 := Z.out.2.1
        have e3 := Z.out.2.2.1
        have e4 := Y.out.2.2
        have e5 := Z.out.2.2.2.2.size
        exact ⟨hR, hA, by omega, hgl, by omega, by omega, by omega, hG⟩
      clear hR hgr hgl hA hG ho3 hu3 hrow Z Y
      go_wp2
      go_roundg 1
      case measure => have := HK.out; omega
      case rel => exact .inr (.inl ⟨rfl, rfl, a2, c2, gr, g0, X⟩)
    · have HK : Hid (gk = 1) := hk
      have hown := cown_any _ z1 _ wr (HD.out.below Y.out.2.2.2.2.2.2.2) (by have := HLT.out; omega)
      have hcc : 16 ≤ c - 16 := by omega
      have hcm2 : c - 16 ≤ 9223372036854775807 := by omega
      generalize a.map (·.add 16) = a' at hown ⊢
      generalize c - 16 = c' at hown hcc hcm2 ⊢
      clear hk
      go_wp2_with fail
      refine hown.mono ?_
      rintro e w2 ⟨v2, rfl, ho2, hb2⟩
      obtain ⟨a2, c2, hv2⟩ := ho2.shape
      rw [HLT.out.2] at hv2
      subst hv2
      obtain ⟨g1, hO, hge, hlt⟩ := ho2.v.block (by have := HLT.out; omega)
      have hrow := (Y.out.1.grow hb2).grow ((Grow.refl w2).alloc (.cells #[slF (a2, 16, c2)] 22))
      have Z : Hid (OwnV (Value.int .u8) 0 (fun i => i = g1) w2 (.slice a2 16 c2) z1 ∧ wr.heap.size ≤ g1 ∧ g1 < w2.heap.size ∧ Grow w w2 ∧ Grow wr w2) := ⟨hO, hge, hlt, Y.out.2.2.2.2.2.2.2.trans hb2, hb2⟩
      clear hO hge hlt hown ho2 hb2
      go_wp2_with (at_builtin; refine wpList_appV rfl (.tmp 14) (.tmp 18) 32 32 rfl i1 (.slice none 0 0) 24 Try.underlying32 hi1 hy0 hy1 hy2 rfl rfl rfl hrow (Src.oneV (w := w2) Try.underlying32 slF (a2, 16, c2) rfl 22) (by simp [maxLen]) (by simp) ?_)
      intro v3 w3 ho3 hu3
      have hA := (Z.out.1.grow ((Grow.refl w2).alloc (.cells #[slF (a2, 16, c2)] 22))).upd hu3 (fun i _ h1 h2 => by have := Z.out.2.1; have := Y.out.2.2.2.1; omega)
      have hA0 := ((Y.out.2.1.grow Z.out.2.2.2.2).grow ((Grow.refl w2).alloc (.cells #[slF (a2, 16, c2)] 22))).upd hu3 (fun i _ h1 h2 => by have := Y.out.2.2.1; omega)
      have hG : Grow w w3 := UpdS.new (Z.out.2.2.2.1.alloc _) hu3 (fun i hi => by have := Y.out.2.2.2.2.2.1; omega)
      have X : Hid (OwnV slF sl0 (fun i => w.heap.size ≤ i) w3 v3 [(a0, 16, c0), (a2, 16, c2)] ∧ Own .u8 w.heap.size w3 (.slice a0 16 c0) z0 ∧ Own .u8 w.heap.size w3 (.slice a2 16 c2) z1 ∧ Grow w w3) := by
        have e1 := Y.out.2.2.2.2.2.1
        have e2 := Y.out.2.2.2.2.2.2.1
        have e3 := Y.out.2.2.2.2.2.2.2.size
        have e4 := Z.out.2.1
        have e5 := Z.out.2.2.2.2.size
        exact ⟨ho3.mono (fun i _ hi => by omega), hA0.i (fun i hi => by omega), hA.i (fun i hi => by omega), hG⟩
      clear hA hA0 hG ho3 hu3 hrow Z Y
      by_cases hcq : c' = 16
      · obtain rfl : c' = 16 := hcq
        go_wp2
        go_roundg 0
        case measure => have := HK.out; omega
        case rel => exact .inr (.inr ⟨rfl, _, _, a0, c0, a2, c2, rfl, X⟩)
      · go_wp2
        go_roundg 0
        case measure => have := HK.out; omega
        case rel => exact .inr (.inr ⟨rfl, _, _, a0, c0, a2, c2, rfl, X⟩)
    · clear hk
      obtain ⟨av, cv, hv⟩ := Y.out.1.shape
      have hv2 : u4 = Value.slice av 2 cv := hv
      subst hv2
      go_wp2
      go_ret2
      exact ⟨av, cv, a0, c0, a1, c1, rfl, Y.out⟩
end Go.Proofs.Ytlhkjmhdhpgjkaa
