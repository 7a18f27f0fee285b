/-
  The walks of rights' right, Names and Parse. Conditions: each theorem's own.
-/
import Derived.Test.YtfpgbicikpkkiaaDoorRig
namespace Go.Proofs.YtfpgbicikpkkiaaDoor
open Go.RowKit
set_option linter.unusedVariables false
set_option linter.unusedSimpArgs false

theorem ix0 (w : World) : (Instr.index 49 (.agg #[.string (nm 0), .string (nm 1), .string (nm 2), .string (nm 3)]) (.int .i64 0)).run Tryd.prog w = .ok (.string (nm 0)) w := by kernel_rfl
theorem ix1 (w : World) : (Instr.index 49 (.agg #[.string (nm 0), .string (nm 1), .string (nm 2), .string (nm 3)]) (.int .i64 1)).run Tryd.prog w = .ok (.string (nm 1)) w := by kernel_rfl
theorem ix2 (w : World) : (Instr.index 49 (.agg #[.string (nm 0), .string (nm 1), .string (nm 2), .string (nm 3)]) (.int .i64 2)).run Tryd.prog w = .ok (.string (nm 2)) w := by kernel_rfl
theorem ix3 (w : World) : (Instr.index 49 (.agg #[.string (nm 0), .string (nm 1), .string (nm 2), .string (nm 3)]) (.int .i64 3)).run Tryd.prog w = .ok (.string (nm 3)) w := by kernel_rfl

set_option maxHeartbeats 1000000 in
theorem right_any (s : ByteArray) (w : World) (hw : WT w) : Calls Tryd.prog 25 #[.string s] w fun e w' => e = .returned (.int .i64 (rg s)) ∧ w = w' := by
  obtain ⟨c0, c1, c2, c3⟩ := hw
  have x0 := ix0
  have x1 := ix1
  have x2 := ix2
  have x3 := ix3
  have b0 := ba_beq (nm 0) s
  have b1 := ba_beq (nm 1) s
  have b2 := ba_beq (nm 2) s
  have b3 := ba_beq (nm 3) s
  have HR : Hid (rg s = if nm 0 = s then 1 else if nm 1 = s then 2 else if nm 2 = s then 4 else if nm 3 = s then 8 else 0) := rfl
  generalize nm 0 = n0 at *
  generalize nm 1 = n1 at *
  generalize nm 2 = n2 at *
  generalize nm 3 = n3 at *
  go_enter Tryd.func25, Tryd.ntmps25
  go_wp2
  go_loopg [6] 4 (fun k i wr => ∃ j : Nat, k = 4 - j ∧ j ≤ 4 ∧ i = .int .i64 j ∧ Hid ((0 < j → n0 ≠ s) ∧ (1 < j → n1 ≠ s) ∧ (2 < j → n2 ≠ s) ∧ (3 < j → n3 ≠ s)) ∧ w = wr)
  case atStart => exact ⟨0, rfl, Nat.zero_le _, rfl, by show _ ∧ _; omega, rfl⟩
  case round =>
    obtain ⟨j, hk, hj, rfl, HN, rfl⟩ := hrel
    rcases (show j = 0 ∨ j = 1 ∨ j = 2 ∨ j = 3 ∨ j = 4 by omega) with rfl | rfl | rfl | rfl | rfl
    · by_cases h : n0 = s
      · rw [decide_eq_true h] at b0
        have HE : Hid (rg s = 1) := by
          have := HR.out
          rw [if_pos h] at this
          exact this
        clear h
        go_wp2
        go_ret
        exact ⟨by rw [HE.out]; rfl, rfl⟩
      · rw [decide_eq_false h] at b0
        have HH : Hid (n0 ≠ s) := h
        clear h
        go_wp2
        go_roundg (4 - 1)
        case measure => omega
        case rel => exact ⟨1, rfl, by omega, by go_num, ⟨fun hx => HH.out, fun hx => absurd hx (by omega), fun hx => absurd hx (by omega), fun hx => absurd hx (by omega)⟩, rfl⟩
    · by_cases h : n1 = s
      · rw [decide_eq_true h] at b1
        have HE : Hid (rg s = 2) := by
          have := HR.out
          rw [if_neg (HN.out.1 (by omega))] at this; rw [if_pos h] at this
          exact this
        clear h
        go_wp2
        go_ret
        exact ⟨by rw [HE.out]; rfl, rfl⟩
      · rw [decide_eq_false h] at b1
        have HH : Hid (n1 ≠ s) := h
        clear h
        go_wp2
        go_roundg (4 - 2)
        case measure => omega
        case rel => exact ⟨2, rfl, by omega, by go_num, ⟨fun hx => HN.out.1 (by omega), fun hx => HH.out, fun hx => absurd hx (by omega), fun hx => absurd hx (by omega)⟩, rfl⟩
    · by_cases h : n2 = s
      · rw [decide_eq_true h] at b2
        have HE : Hid (rg s = 4) := by
          have := HR.out
          rw [if_neg (HN.out.1 (by omega))] at this; rw [if_neg (HN.out.2.1 (by omega))] at this; rw [if_pos h] at this
          exact this
        clear h
        go_wp2
        go_ret
        exact ⟨by rw [HE.out]; rfl, rfl⟩
      · rw [decide_eq_false h] at b2
        have HH : Hid (n2 ≠ s) := h
        clear h
        go_wp2
        go_roundg (4 - 3)
        case measure => omega
        case rel => exact ⟨3, rfl, by omega, by go_num, ⟨fun hx => HN.out.1 (by omega), fun hx => HN.out.2.1 (by omega), fun hx => HH.out, fun hx => absurd hx (by omega)⟩, rfl⟩
    · by_cases h : n3 = s
      · rw [decide_eq_true h] at b3
        have HE : Hid (rg s = 8) := by
          have := HR.out
          rw [if_neg (HN.out.1 (by omega))] at this; rw [if_neg (HN.out.2.1 (by omega))] at this; rw [if_neg (HN.out.2.2.1 (by omega))] at this; rw [if_pos h] at this
          exact this
        clear h
        go_wp2
        go_ret
        exact ⟨by rw [HE.out]; rfl, rfl⟩
      · rw [decide_eq_false h] at b3
        have HH : Hid (n3 ≠ s) := h
        clear h
        go_wp2
        go_roundg (4 - 4)
        case measure => omega
        case rel => exact ⟨4, rfl, by omega, by go_num, ⟨fun hx => HN.out.1 (by omega), fun hx => HN.out.2.1 (by omega), fun hx => HN.out.2.2.1 (by omega), fun hx => HH.out⟩, rfl⟩
    · have HE : Hid (rg s = 0) := by
        have := HR.out
        rw [if_neg (HN.out.1 (by omega)), if_neg (HN.out.2.1 (by omega)), if_neg (HN.out.2.2.1 (by omega)), if_neg (HN.out.2.2.2 (by omega))] at this
        exact this
      go_wp2
      go_ret
      exact ⟨by rw [HE.out]; rfl, rfl⟩
/- NAMES -/
theorem Tryd.infoSt : (Tryd.prog.info? 9).map (fun i => (i.zero, i.size, i.bytes)) = some (some (Value.string ⟨#[]⟩), 1, 16) := by kernel_rfl

set_option maxHeartbeats 2000000 in
theorem names_any (s : Nat) (w : World) (hw : WT w) (hs : s < 16) : Calls Tryd.prog 19 #[.int .i64 s] w fun e w' => ∃ v, e = .returned v ∧ OwnV Value.string ⟨#[]⟩ (fun i => w.heap.size ≤ i) w' v (nmL s 4) ∧ Grow w w' := by
  obtain ⟨i0, hi, hz0, hz1, hz2⟩ := info_parts Tryd.infoSt
  obtain ⟨c0, c1, c2, c3⟩ := hw
  have x0 := ix0
  have x1 := ix1
  have x2 := ix2
  have x3 := ix3
  have h0 : ∀ u, Calls Tryd.prog 13 #[.int .i64 s, .int .i64 1] u fun e w' => e = .returned (.bool (hasB s 1)) ∧ u = w' := fun u => has_any s 1 u hs (by omega)
  have h1 : ∀ u, Calls Tryd.prog 13 #[.int .i64 s, .int .i64 2] u fun e w' => e = .returned (.bool (hasB s 2)) ∧ u = w' := fun u => has_any s 2 u hs (by omega)
  have h2 : ∀ u, Calls Tryd.prog 13 #[.int .i64 s, .int .i64 4] u fun e w' => e = .returned (.bool (hasB s 4)) ∧ u = w' := fun u => has_any s 4 u hs (by omega)
  have h3 : ∀ u, Calls Tryd.prog 13 #[.int .i64 s, .int .i64 8] u fun e w' => e = .returned (.bool (hasB s 8)) ∧ u = w' := fun u => has_any s 8 u hs (by omega)
  rw [show hasB s 1 = s.testBit 0 from has_bit s hs 0 (by omega)] at h0
  rw [show hasB s 2 = s.testBit 1 from has_bit s hs 1 (by omega)] at h1
  rw [show hasB s 4 = s.testBit 2 from has_bit s hs 2 (by omega)] at h2
  rw [show hasB s 8 = s.testBit 3 from has_bit s hs 3 (by omega)] at h3
  have HY : Hid (∀ j, s.testBit j = true → nmL s (j + 1) = nmL s j ++ [nm j]) := fun j h => nmL_yes s j h
  have HN : Hid (∀ j, s.testBit j = false → nmL s (j + 1) = nmL s j) := fun j h => nmL_no s j h
  have HL : Hid (∀ j, (nmL s j).length ≤ j) := fun j => nmL_len s j
  go_enter Tryd.func19, Tryd.ntmps19
  go_wp2
  go_loopg [3, 7] 4 (fun k v i wr => ∃ j : Nat, k = 4 - j ∧ j ≤ 4 ∧ i = .int .i64 j ∧ Hid (OwnV Value.string ⟨#[]⟩ (fun i => w.heap.size ≤ i) wr v (nmL s j) ∧ Grow w wr))
  case atStart => exact ⟨0, rfl, Nat.zero_le _, rfl, OwnV.nil _ _ _ _ _, Grow.refl _⟩
  case round =>
    obtain ⟨j, hk, hj, rfl, HO⟩ := hrel
    rcases (show j = 0 ∨ j = 1 ∨ j = 2 ∨ j = 3 ∨ j = 4 by omega) with rfl | rfl | rfl | rfl | rfl
    · go_wp2_with fail
      refine (h0 wr).mono ?_
      rintro e w1 ⟨rfl, rfl⟩
      cases hb : s.testBit 0
      · go_wp2
        go_roundg (4 - 1)
        case measure => omega
        case rel => exact ⟨1, rfl, by omega, by go_num, by rw [HN.out 0 hb]; exact HO.out⟩
      · have ho := HO.out.1.grow ((Grow.refl wr).alloc (.cells #[Value.string (nm 0)] 9))
        have hll := HL.out 0
        go_wp2_with (at_builtin; refine wpList_appV (f := Value.string) (d := ⟨#[]⟩) rfl (.tmp 15) (.tmp 17) 38 38 rfl i0 (Value.string ⟨#[]⟩) 16 Tryd.underlying38 hi hz0 hz1 hz2 rfl rfl rfl ho (Src.oneV (w := wr) Tryd.underlying38 Value.string (nm 0) rfl 9) (by simp only [maxLen, List.length_singleton]; omega) (by simp only [List.length_singleton]; omega) ?_)
        intro v' w' ho' hu'
        have hsz : (wr.alloc (.cells #[Value.string (nm 0)] 9)).heap.size = wr.heap.size + 1 := World.size_alloc _ _
        have hgs := HO.out.2.size
        have HF : Hid (OwnV Value.string ⟨#[]⟩ (fun i => w.heap.size ≤ i) w' v' (nmL s (0 + 1)) ∧ Grow w w') :=
          ⟨by rw [HY.out 0 hb]; exact ho'.mono (fun i _ hi => hi.elim (fun h => h) (fun h => by omega)), UpdS.new (HO.out.2.alloc _) hu' (fun i hi => hi)⟩
        clear ho' hu' hsz hgs ho hll
        go_wp2
        go_roundg (4 - 1)
        case measure => omega
        case rel => exact ⟨1, rfl, by omega, by go_num, HF.out⟩
    · go_wp2_with fail
      refine (h1 wr).mono ?_
      rintro e w1 ⟨rfl, rfl⟩
      cases hb : s.testBit 1
      · go_wp2
        go_roundg (4 - 2)
        case measure => omega
        case rel => exact ⟨2, rfl, by omega, by go_num, by rw [HN.out 1 hb]; exact HO.out⟩
      · have ho := HO.out.1.grow ((Grow.refl wr).alloc (.cells #[Value.string (nm 1)] 9))
        have hll := HL.out 1
        go_wp2_with (at_builtin; refine wpList_appV (f := Value.string) (d := ⟨#[]⟩) rfl (.tmp 15) (.tmp 17) 38 38 rfl i0 (Value.string ⟨#[]⟩) 16 Tryd.underlying38 hi hz0 hz1 hz2 rfl rfl rfl ho (Src.oneV (w := wr) Tryd.underlying38 Value.string (nm 1) rfl 9) (by simp only [maxLen, List.length_singleton]; omega) (by simp only [List.length_singleton]; omega) ?_)
        intro v' w' ho' hu'
        have hsz : (wr.alloc (.cells #[Value.string (nm 1)] 9)).heap.size = wr.heap.size + 1 := World.size_alloc _ _
        have hgs := HO.out.2.size
        have HF : Hid (OwnV Value.string ⟨#[]⟩ (fun i => w.heap.size ≤ i) w' v' (nmL s (1 + 1)) ∧ Grow w w') :=
          ⟨by rw [HY.out 1 hb]; exact ho'.mono (fun i _ hi => hi.elim (fun h => h) (fun h => by omega)), UpdS.new (HO.out.2.alloc _) hu' (fun i hi => hi)⟩
        clear ho' hu' hsz hgs ho hll
        go_wp2
        go_roundg (4 - 2)
        case measure => omega
        case rel => exact ⟨2, rfl, by omega, by go_num, HF.out⟩
    · go_wp2_with fail
      refine (h2 wr).mono ?_
      rintro e w1 ⟨rfl, rfl⟩
      cases hb : s.testBit 2
      · go_wp2
        go_roundg (4 - 3)
        case measure => omega
        case rel => exact ⟨3, rfl, by omega, by go_num, by rw [HN.out 2 hb]; exact HO.out⟩
      · have ho := HO.out.1.grow ((Grow.refl wr).alloc (.cells #[Value.string (nm 2)] 9))
        have hll := HL.out 2
        go_wp2_with (at_builtin; refine wpList_appV (f := Value.string) (d := ⟨#[]⟩) rfl (.tmp 15) (.tmp 17) 38 38 rfl i0 (Value.string ⟨#[]⟩) 16 Tryd.underlying38 hi hz0 hz1 hz2 rfl rfl rfl ho (Src.oneV (w := wr) Tryd.underlying38 Value.string (nm 2) rfl 9) (by simp only [maxLen, List.length_singleton]; omega) (by simp only [List.length_singleton]; omega) ?_)
        intro v' w' ho' hu'
        have hsz : (wr.alloc (.cells #[Value.string (nm 2)] 9)).heap.size = wr.heap.size + 1 := World.size_alloc _ _
        have hgs := HO.out.2.size
        have HF : Hid (OwnV Value.string ⟨#[]⟩ (fun i => w.heap.size ≤ i) w' v' (nmL s (2 + 1)) ∧ Grow w w') :=
          ⟨by rw [HY.out 2 hb]; exact ho'.mono (fun i _ hi => hi.elim (fun h => h) (fun h => by omega)), UpdS.new (HO.out.2.alloc _) hu' (fun i hi => hi)⟩
        clear ho' hu' hsz hgs ho hll
        go_wp2
        go_roundg (4 - 3)
        case measure => omega
        case rel => exact ⟨3, rfl, by omega, by go_num, HF.out⟩
    · go_wp2_with fail
      refine (h3 wr).mono ?_
      rintro e w1 ⟨rfl, rfl⟩
      cases hb : s.testBit 3
      · go_wp2
        go_roundg (4 - 4)
        case measure => omega
        case rel => exact ⟨4, rfl, by omega, by go_num, by rw [HN.out 3 hb]; exact HO.out⟩
      · have ho := HO.out.1.grow ((Grow.refl wr).alloc (.cells #[Value.string (nm 3)] 9))
        have hll := HL.out 3
        go_wp2_with (at_builtin; refine wpList_appV (f := Value.string) (d := ⟨#[]⟩) rfl (.tmp 15) (.tmp 17) 38 38 rfl i0 (Value.string ⟨#[]⟩) 16 Tryd.underlying38 hi hz0 hz1 hz2 rfl rfl rfl ho (Src.oneV (w := wr) Tryd.underlying38 Value.string (nm 3) rfl 9) (by simp only [maxLen, List.length_singleton]; omega) (by simp only [List.length_singleton]; omega) ?_)
        intro v' w' ho' hu'
        have hsz : (wr.alloc (.cells #[Value.string (nm 3)] 9)).heap.size = wr.heap.size + 1 := World.size_alloc _ _
        have hgs := HO.out.2.size
        have HF : Hid (OwnV Value.string ⟨#[]⟩ (fun i => w.heap.size ≤ i) w' v' (nmL s (3 + 1)) ∧ Grow w w') :=
          ⟨by rw [HY.out 3 hb]; exact ho'.mono (fun i _ hi => hi.elim (fun h => h) (fun h => by omega)), UpdS.new (HO.out.2.alloc _) hu' (fun i hi => hi)⟩
        clear ho' hu' hsz hgs ho hll
        go_wp2
        go_roundg (4 - 4)
        case measure => omega
        case rel => exact ⟨4, rfl, by omega, by go_num, HF.out⟩
    · go_wp2
      go_ret
      exact ⟨_, rfl, HO.out.1, HO.out.2⟩
end Go.Proofs.YtfpgbicikpkkiaaDoor
