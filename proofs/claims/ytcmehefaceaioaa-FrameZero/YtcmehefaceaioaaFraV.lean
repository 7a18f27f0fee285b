/-
  The walk of the law's example of stage 12. Conditions: none.
-/
import Derived.Test.YtcmehefaceaioaaFraL
namespace Go.Proofs.Ytcmehefaceaioaa
open Go.RowKit
set_option linter.unusedVariables false
set_option linter.unusedSimpArgs false

theorem put7 : putted z32 0 [7] = (midL z32 0 [7], 0) := by
  unfold putted
  rw [z32_len, fitE_ok (by simp), if_pos rfl]; rfl
theorem got7 : got (midL z32 0 [7]) 0 1 = ([7], 0) := by rfl
theorem mid7 : (midL z32 0 [7]).length = 32 := by rfl
theorem str7 : strOfNums [7] = ⟨#[7]⟩ := by rfl

set_option maxRecDepth 8000 in
set_option maxHeartbeats 4000000 in
theorem lives_any (w : World) : Calls Try.prog 14 #[] w fun e w' => e = .returned (.bool true) ∧ Grow w w' := by
  obtain ⟨W1, hW1⟩ : ∃ W1, w.alloc (.cells zeroF 28) = W1 := ⟨_, rfl⟩
  have F1 := FrAt.new w 28
  rw [hW1] at F1
  have g1 : Grow w W1 := by rw [← hW1]; exact (Grow.refl w).alloc _
  obtain ⟨b, hb⟩ : ∃ b, w.heap.size = b := ⟨_, rfl⟩
  rw [hb] at F1
  obtain ⟨v2, W2, hm, ho2, g2⟩ := make32 W1
  obtain ⟨a2, c2, hv2⟩ := ho2.shape
  rw [z32_len] at hv2
  subst hv2
  have hlt1 := F1.lt
  have hL := load_yes W2 b _ _ _ _ _ _ (F1.grow g2) 3 a2 c2 z32 (ho2.rd.mono (fun i _ hi => by omega))
  have HG : Hid (Grow w W2 ∧ w.heap.size ≤ b) := ⟨g1.trans g2, by omega⟩
  rw [← hW1, ← zeroF_lit] at hm
  clear ho2 g1 g2 F1 hlt1
  go_enter Try.func14, Try.ntmps14
  go_wp2_with fail
  (try rw [hb])
  refine hL.mono ?_
  rintro e w3 ⟨rfl, F3, u3⟩
  have hP := pin_yes w3 b _ _ _ _ _ _ F3 rfl (by omega) (by omega)
  clear hL hm F3
  go_wp2_with fail
  refine hP.mono ?_
  rintro e w4 ⟨rfl, F4, u4⟩
  obtain ⟨W5, hW5⟩ : ∃ W5, w4.alloc (.cells #[.int .u8 7] 5) = W5 := ⟨_, rfl⟩
  have g5 : Grow w4 W5 := by rw [← hW5]; exact (Grow.refl w4).alloc _
  have r5 : Own .u8 w4.heap.size W5 (.slice (some ⟨w4.heap.size, 0, none⟩) 1 1) [7] := by rw [← hW5]; exact own_row .u8 [7] 5 w4 _ (Nat.le_refl _) (by simp)
  have hU := fput_yes W5 b _ _ _ _ _ _ (F4.grow g5) 0 _ [7] _ _ r5.v.rd (by omega) (by decide) put7 mid7
  have HG5 : Hid (Grow w W5) := (UpdS.new HG.out.1 (u3.trans u4) (fun i hi => by have := HG.out.2; omega)).trans g5
  clear hP F4 u3 u4 g5 r5
  go_wp2_with fail
  (try rw [hW5])
  refine hU.mono ?_
  rintro e w6 ⟨rfl, F6, u6⟩
  have hT := fget_yes w6 b _ _ _ _ _ _ F6 0 1 [7] (by omega) (by decide) (by decide) got7
  have hlt6 := F6.lt
  clear hU F6 hW5
  go_wp2_with fail
  refine hT.mono ?_
  rintro e w7 ⟨v7, rfl, ho7, F7, u7⟩
  have hN := unpin_yes w7 b _ _ _ _ _ _ F7 (by omega) (by omega)
  have HG7 : Hid (Grow w w7 ∧ OwnV (Value.int .u8) 0 (fun i => b < i) w7 v7 [7]) := ⟨UpdS.new HG5.out (u6.trans u7) (fun i hi => by have := HG.out.2; omega), ho7.mono (fun i _ hi => by omega)⟩
  clear hT F7 u6 u7 ho7
  go_wp2_with fail
  refine hN.mono ?_
  rintro e w8 ⟨rfl, F8, u8⟩
  have hX := fget_free w8 b _ _ _ _ _ _ F8 0 1 (by omega)
  have HG8 : Hid (Grow w w8) := UpdS.new HG7.out.1 u8 (fun i hi => by have := HG.out.2; omega)
  have ho8 := HG7.out.2.upd u8 (fun i _ hi e => by omega)
  obtain ⟨⟨-, c1, -, -, -⟩, -⟩ := F8.five
  have k8 : (convert 35 9 v7).run Try.prog w8 = .ok (.string ⟨#[7]⟩) w8 := by rw [← str7]; exact ho8.rd.i.string 35 9 5 Try.underlying35 Try.underlying5 Try.underlying9
  clear hN F8 u8 ho8
  go_wp2_with fail
  refine hX.mono ?_
  rintro e w9 ⟨rfl, rfl⟩
  go_wp2
  go_ret
  exact ⟨rfl, HG8.out⟩
end Go.Proofs.Ytcmehefaceaioaa
