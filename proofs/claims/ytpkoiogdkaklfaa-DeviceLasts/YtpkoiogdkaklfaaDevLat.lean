/-
  The walk of the device's Later. Conditions: the theorem's own.
-/
import Derived.Test.YtpkoiogdkaklfaaDev
import Derived.Deep.LoopGhost
namespace Go.Proofs.Ytpkoiogdkaklfaa
open Go.RowKit
set_option linter.unusedVariables false
set_option linter.unusedSimpArgs false

/-- sectors as ints -/
abbrev natV (n : Nat) : Value := .int .i64 n
theorem oneN (n : Nat) : (natV n).oneCell' = true := rfl
theorem Try.info3 : (Try.prog.info? 3).map (fun i => (i.zero, i.size, i.bytes)) = some (some (.int .i64 0), 1, 8) := by kernel_rfl

set_option maxHeartbeats 2000000 in
theorem dlater_any (w : World) (p : Nat → Prop) (b bl bt s : Nat) (las lat : List (List Int)) (hd : List Int) (h : DevAt w p b bl bt s las lat hd) (f t : Int) (hf : (Lit.int .i64 f).wf = true) (ht : (Lit.int .i64 t).wf = true) :
    Calls Try.prog 24 #[.pointer (some ⟨b, 0, none⟩), .int .i64 f, .int .i64 t] w fun e w' => ∃ v', e = .returned v' ∧ OwnV natV 0 (fun i => w.heap.size ≤ i) w' v' (laterL lat f t) ∧ Grow w w' := by
  obtain ⟨i0, hi, hz0, hz1, hz2⟩ := info_parts Try.info3
  have H : Hid (DevAt w p b bl bt s las lat hd) := h
  have ok := h.ok
  have hlt := h.lt.1
  have hn := ok.2.2.2.2.2
  have hll : lat.length = las.length := ok.1
  obtain ⟨s', a, c, h1, -, h2, -⟩ := h
  obtain ⟨⟨c0, c1, c2⟩, -⟩ := h1.three
  have HM : Hid (CMap Try.prog 3 p w bt s' (latF lat)) := h2
  have bf := bounds_i64 hf
  have bt' := bounds_i64 ht
  have HL : Hid (lat.length = las.length) := hll
  have hn' : (las.length : Int) ≤ 1024 := by omega
  clear h1 h2 c0 c2 ok hll hf ht
  by_cases hf0 : 0 ≤ f
  · obtain ⟨j0, rfl⟩ := Int.eq_ofNat_of_zero_le hf0
    have H0 : Hid (laterTo lat j0 t j0 = []) := laterTo_low (fun i hi => by omega)
    have HF : Hid (∀ i : Nat, j0 ≤ i → (j0 : Int) ≤ i) := fun i hi => by omega
    have HJ0 : Hid ((j0 : Int) ≤ 9223372036854775807) := by show (j0 : Int) ≤ _; omega
    have hj0b : (j0 : Int) ≤ 9223372036854775807 := bf.2
    clear bf bt'
    go_enter Try.func24, Try.ntmps24
    go_wp2
    go_loopg [7, 8] (las.length - j0) (fun k d i wr => ∃ j : Nat, k = las.length - j ∧ j0 ≤ j ∧ Hid ((j : Int) ≤ 9223372036854775807) ∧ i = .int .i64 j ∧ Hid (OwnV natV 0 (fun i => w.heap.size ≤ i) wr d (laterTo lat j0 t j)) ∧ Grow w wr)
    case atStart => exact ⟨j0, rfl, Nat.le_refl _, HJ0, rfl, by show OwnV _ _ _ _ _ _; rw [H0.out]; exact OwnV.nil _ _ _ _ _, Grow.refl _⟩
    case round =>
      obtain ⟨j, hk, hj, HJM, rfl, HO, hg⟩ := hrel
      have D : Hid (DevAt wr p b bl bt s las lat hd) := H.out.grow hg
      have hc := dlen_any wr p b bl bt s las lat hd D.out
      have c1' : wr.cell? ⟨b, 1, none⟩ = some (.map (some bt)) := by rw [Below.cell (p := ⟨b, 1, none⟩) hg hlt]; exact c1
      by_cases htn : t ≤ (las.length : Int)
      · by_cases hin : (j : Int) < t
        · have hjn : j < las.length := by omega
          have hkw : (Lit.int .i64 (j : Int)).wf = true := wfI (by omega)
          have HR : Hid (j < las.length ∧ (j0 : Int) ≤ (j : Int) ∧ (j : Int) < t) := ⟨hjn, HF.out j hj, by omega⟩
          have HK : Hid (gk = las.length - j ∧ j0 ≤ j) := ⟨hk, hj⟩
          have hjm : (j : Int) + 1 ≤ 1025 := by omega
          have hlen := laterTo_length lat j0 t j
          have hlen' : (laterTo lat j0 t j).length ≤ 1024 := by omega
          by_cases hl : lat.getD j [] = []
          · obtain ⟨hr, -⟩ := (HM.out.grow hg).look_none Try.underlying3 Try.underlying62 (zeroBS wr) hkw (latF_empty hl)
            have HT : Hid (laterTo lat j0 t (j + 1) = laterTo lat j0 t j) := laterTo_no (by rw [← Bool.not_eq_true, isLater_eq]; exact fun hh => hh.2.2 hl)
            clear hl hjn hk hj hlen
            go_wp2_with fail
            refine hc.mono ?_
            rintro e w1 ⟨rfl, rfl⟩
            go_wp2
            go_roundg (las.length - (j + 1))
            case measure => have h1 := HR.out; have h2 := HK.out; omega
            case rel => exact ⟨j + 1, rfl, by have := HK.out; omega, by show ((j + 1 : Nat) : Int) ≤ _; omega, by go_num, by show OwnV _ _ _ _ _ _; rw [HT.out]; exact HO.out, hg⟩
          · obtain ⟨a1, n1, hr, -, -⟩ := (HM.out.grow hg).look_some Try.underlying3 Try.underlying62 (zeroBS wr) hkw (latF_in hl)
            have HT : Hid (laterTo lat j0 t (j + 1) = laterTo lat j0 t j ++ [j]) := laterTo_yes (isLater_eq.2 ⟨HR.out.2.1, HR.out.2.2, hl⟩)
            have ho := HO.out.grow ((Grow.refl wr).alloc (.cells #[natV j] 3))
            obtain ⟨ad, cd, hv⟩ := HO.out.shape
            subst hv
            generalize (lat.getD j []).length = L at hr
            have hsz := hg.size
            clear hl hjn hk hj hlen
            go_wp2_with fail
            refine hc.mono ?_
            rintro e w1 ⟨rfl, rfl⟩
            go_wp2_with (at_builtin; refine wpList_appV (f := natV) (d := 0) rfl (.tmp 31) (.tmp 33) 41 41 rfl i0 (.int .i64 0) 8 Try.underlying41 hi hz0 hz1 hz2 rfl rfl rfl ho (Src.oneV (w := wr) Try.underlying41 natV j (oneN j) 3) (by simp only [maxLen, List.length_singleton]; omega) (by simp only [List.length_singleton]; omega) ?_)
            intro v' w' ho' hu'
            have HO' : Hid (OwnV natV 0 (fun i => w.heap.size ≤ i) w' v' (laterTo lat j0 t (j + 1)) ∧ Grow w w') := by
              refine ⟨?_, UpdS.new (hg.trans ((Grow.refl wr).alloc _)) hu' (fun i hi => hi)⟩
              rw [HT.out]
              exact ho'.mono (fun i _ hi => hi.elim id (fun e => by rw [e]; omega))
            clear ho ho' hu' hr
            go_wp2
            go_roundg (las.length - (j + 1))
            case measure => have h1 := HR.out; have h2 := HK.out; omega
            case rel => exact ⟨j + 1, rfl, by have := HK.out; omega, by show ((j + 1 : Nat) : Int) ≤ _; omega, by go_num, HO'.out.1, HO'.out.2⟩
        · have HE : Hid (laterL lat j0 t = laterTo lat j0 t j) := by
            show laterTo lat j0 t lat.length = _
            have hh := HL.out
            by_cases hjl : j ≤ lat.length
            · refine laterTo_high hjl (fun i h1 h2 => ?_)
              simp only [isLater, decide_eq_false_iff_not]
              omega
            · refine (laterTo_high (by omega) (fun i h1 h2 => ?_)).symm
              simp only [isLater, decide_eq_false_iff_not]
              intro hh2
              exact hh2.2.2 (by simp [List.getD, List.getElem?_eq_none (show lat.length ≤ i by omega)])
          clear hk
          go_wp2_with fail
          refine hc.mono ?_
          rintro e w1 ⟨rfl, rfl⟩
          go_wp2
          go_ret
          exact ⟨_, rfl, by rw [HE.out]; exact HO.out, hg⟩
      · by_cases hin : (j : Int) < (las.length : Int)
        · have hjn : j < las.length := by omega
          have hkw : (Lit.int .i64 (j : Int)).wf = true := wfI (by omega)
          have HR : Hid (j < las.length ∧ (j0 : Int) ≤ (j : Int) ∧ (j : Int) < t) := ⟨hjn, HF.out j hj, by omega⟩
          have HK : Hid (gk = las.length - j ∧ j0 ≤ j) := ⟨hk, hj⟩
          have hjm : (j : Int) + 1 ≤ 1025 := by omega
          have hlen := laterTo_length lat j0 t j
          have hlen' : (laterTo lat j0 t j).length ≤ 1024 := by omega
          by_cases hl : lat.getD j [] = []
          · obtain ⟨hr, -⟩ := (HM.out.grow hg).look_none Try.underlying3 Try.underlying62 (zeroBS wr) hkw (latF_empty hl)
            have HT : Hid (laterTo lat j0 t (j + 1) = laterTo lat j0 t j) := laterTo_no (by rw [← Bool.not_eq_true, isLater_eq]; exact fun hh => hh.2.2 hl)
            clear hl hjn hk hj hlen
            go_wp2_with fail
            refine hc.mono ?_
            rintro e w1 ⟨rfl, rfl⟩
            go_wp2
            go_roundg (las.length - (j + 1))
            case measure => have h1 := HR.out; have h2 := HK.out; omega
            case rel => exact ⟨j + 1, rfl, by have := HK.out; omega, by show ((j + 1 : Nat) : Int) ≤ _; omega, by go_num, by show OwnV _ _ _ _ _ _; rw [HT.out]; exact HO.out, hg⟩
          · obtain ⟨a1, n1, hr, -, -⟩ := (HM.out.grow hg).look_some Try.underlying3 Try.underlying62 (zeroBS wr) hkw (latF_in hl)
            have HT : Hid (laterTo lat j0 t (j + 1) = laterTo lat j0 t j ++ [j]) := laterTo_yes (isLater_eq.2 ⟨HR.out.2.1, HR.out.2.2, hl⟩)
            have ho := HO.out.grow ((Grow.refl wr).alloc (.cells #[natV j] 3))
            obtain ⟨ad, cd, hv⟩ := HO.out.shape
            subst hv
            generalize (lat.getD j []).length = L at hr
            have hsz := hg.size
            clear hl hjn hk hj hlen
            go_wp2_with fail
            refine hc.mono ?_
            rintro e w1 ⟨rfl, rfl⟩
            go_wp2_with (at_builtin; refine wpList_appV (f := natV) (d := 0) rfl (.tmp 31) (.tmp 33) 41 41 rfl i0 (.int .i64 0) 8 Try.underlying41 hi hz0 hz1 hz2 rfl rfl rfl ho (Src.oneV (w := wr) Try.underlying41 natV j (oneN j) 3) (by simp only [maxLen, List.length_singleton]; omega) (by simp only [List.length_singleton]; omega) ?_)
            intro v' w' ho' hu'
            have HO' : Hid (OwnV natV 0 (fun i => w.heap.size ≤ i) w' v' (laterTo lat j0 t (j + 1)) ∧ Grow w w') := by
              refine ⟨?_, UpdS.new (hg.trans ((Grow.refl wr).alloc _)) hu' (fun i hi => hi)⟩
              rw [HT.out]
              exact ho'.mono (fun i _ hi => hi.elim id (fun e => by rw [e]; omega))
            clear ho ho' hu' hr
            go_wp2
            go_roundg (las.length - (j + 1))
            case measure => have h1 := HR.out; have h2 := HK.out; omega
            case rel => exact ⟨j + 1, rfl, by have := HK.out; omega, by show ((j + 1 : Nat) : Int) ≤ _; omega, by go_num, HO'.out.1, HO'.out.2⟩
        · have HE : Hid (laterL lat j0 t = laterTo lat j0 t j) := by
            show laterTo lat j0 t lat.length = _
            have hh := HL.out
            by_cases hjl : j ≤ lat.length
            · refine laterTo_high hjl (fun i h1 h2 => ?_)
              simp only [isLater, decide_eq_false_iff_not]
              omega
            · refine (laterTo_high (by omega) (fun i h1 h2 => ?_)).symm
              simp only [isLater, decide_eq_false_iff_not]
              intro hh2
              exact hh2.2.2 (by simp [List.getD, List.getElem?_eq_none (show lat.length ≤ i by omega)])
          clear hk
          go_wp2_with fail
          refine hc.mono ?_
          rintro e w1 ⟨rfl, rfl⟩
          go_wp2
          go_ret
          exact ⟨_, rfl, by rw [HE.out]; exact HO.out, hg⟩
  · have H0 : Hid (laterTo lat f t 0 = []) := rfl
    have HF : Hid (∀ i : Nat, 0 ≤ i → f ≤ (i : Int)) := fun i _ => by omega
    have HJ0 : Hid (((0 : Nat) : Int) ≤ 9223372036854775807) := by show ((0 : Nat) : Int) ≤ _; omega
    clear bf bt'
    go_enter Try.func24, Try.ntmps24
    go_wp2
    go_loopg [7, 8] (las.length - 0) (fun k d i wr => ∃ j : Nat, k = las.length - j ∧ 0 ≤ j ∧ Hid ((j : Int) ≤ 9223372036854775807) ∧ i = .int .i64 j ∧ Hid (OwnV natV 0 (fun i => w.heap.size ≤ i) wr d (laterTo lat f t j)) ∧ Grow w wr)
    case atStart => exact ⟨0, rfl, Nat.le_refl _, HJ0, rfl, by show OwnV _ _ _ _ _ _; rw [H0.out]; exact OwnV.nil _ _ _ _ _, Grow.refl _⟩
    case round =>
      obtain ⟨j, hk, hj, HJM, rfl, HO, hg⟩ := hrel
      have D : Hid (DevAt wr p b bl bt s las lat hd) := H.out.grow hg
      have hc := dlen_any wr p b bl bt s las lat hd D.out
      have c1' : wr.cell? ⟨b, 1, none⟩ = some (.map (some bt)) := by rw [Below.cell (p := ⟨b, 1, none⟩) hg hlt]; exact c1
      by_cases htn : t ≤ (las.length : Int)
      · by_cases hin : (j : Int) < t
        · have hjn : j < las.length := by omega
          have hkw : (Lit.int .i64 (j : Int)).wf = true := wfI (by omega)
          have HR : Hid (j < las.length ∧ f ≤ (j : Int) ∧ (j : Int) < t) := ⟨hjn, HF.out j hj, by omega⟩
          have HK : Hid (gk = las.length - j ∧ 0 ≤ j) := ⟨hk, hj⟩
          have hjm : (j : Int) + 1 ≤ 1025 := by omega
          have hlen := laterTo_length lat f t j
          have hlen' : (laterTo lat f t j).length ≤ 1024 := by omega
          by_cases hl : lat.getD j [] = []
          · obtain ⟨hr, -⟩ := (HM.out.grow hg).look_none Try.underlying3 Try.underlying62 (zeroBS wr) hkw (latF_empty hl)
            have HT : Hid (laterTo lat f t (j + 1) = laterTo lat f t j) := laterTo_no (by rw [← Bool.not_eq_true, isLater_eq]; exact fun hh => hh.2.2 hl)
            clear hl hjn hk hj hlen
            go_wp2_with fail
            refine hc.mono ?_
            rintro e w1 ⟨rfl, rfl⟩
            go_wp2
            go_roundg (las.length - (j + 1))
            case measure => have h1 := HR.out; have h2 := HK.out; omega
            case rel => exact ⟨j + 1, rfl, by have := HK.out; omega, by show ((j + 1 : Nat) : Int) ≤ _; omega, by go_num, by show OwnV _ _ _ _ _ _; rw [HT.out]; exact HO.out, hg⟩
          · obtain ⟨a1, n1, hr, -, -⟩ := (HM.out.grow hg).look_some Try.underlying3 Try.underlying62 (zeroBS wr) hkw (latF_in hl)
            have HT : Hid (laterTo lat f t (j + 1) = laterTo lat f t j ++ [j]) := laterTo_yes (isLater_eq.2 ⟨HR.out.2.1, HR.out.2.2, hl⟩)
            have ho := HO.out.grow ((Grow.refl wr).alloc (.cells #[natV j] 3))
            obtain ⟨ad, cd, hv⟩ := HO.out.shape
            subst hv
            generalize (lat.getD j []).length = L at hr
            have hsz := hg.size
            clear hl hjn hk hj hlen
            go_wp2_with fail
            refine hc.mono ?_
            rintro e w1 ⟨rfl, rfl⟩
            go_wp2_with (at_builtin; refine wpList_appV (f := natV) (d := 0) rfl (.tmp 31) (.tmp 33) 41 41 rfl i0 (.int .i64 0) 8 Try.underlying41 hi hz0 hz1 hz2 rfl rfl rfl ho (Src.oneV (w := wr) Try.underlying41 natV j (oneN j) 3) (by simp only [maxLen, List.length_singleton]; omega) (by simp only [List.length_singleton]; omega) ?_)
            intro v' w' ho' hu'
            have HO' : Hid (OwnV natV 0 (fun i => w.heap.size ≤ i) w' v' (laterTo lat f t (j + 1)) ∧ Grow w w') := by
              refine ⟨?_, UpdS.new (hg.trans ((Grow.refl wr).alloc _)) hu' (fun i hi => hi)⟩
              rw [HT.out]
              exact ho'.mono (fun i _ hi => hi.elim id (fun e => by rw [e]; omega))
            clear ho ho' hu' hr
            go_wp2
            go_roundg (las.length - (j + 1))
            case measure => have h1 := HR.out; have h2 := HK.out; omega
            case rel => exact ⟨j + 1, rfl, by have := HK.out; omega, by show ((j + 1 : Nat) : Int) ≤ _; omega, by go_num, HO'.out.1, HO'.out.2⟩
        · have HE : Hid (laterL lat f t = laterTo lat f t j) := by
            show laterTo lat f t lat.length = _
            have hh := HL.out
            by_cases hjl : j ≤ lat.length
            · refine laterTo_high hjl (fun i h1 h2 => ?_)
              simp only [isLater, decide_eq_false_iff_not]
              omega
            · refine (laterTo_high (by omega) (fun i h1 h2 => ?_)).symm
              simp only [isLater, decide_eq_false_iff_not]
              intro hh2
              exact hh2.2.2 (by simp [List.getD, List.getElem?_eq_none (show lat.length ≤ i by omega)])
          clear hk
          go_wp2_with fail
          refine hc.mono ?_
          rintro e w1 ⟨rfl, rfl⟩
          go_wp2
          go_ret
          exact ⟨_, rfl, by rw [HE.out]; exact HO.out, hg⟩
      · by_cases hin : (j : Int) < (las.length : Int)
        · have hjn : j < las.length := by omega
          have hkw : (Lit.int .i64 (j : Int)).wf = true := wfI (by omega)
          have HR : Hid (j < las.length ∧ f ≤ (j : Int) ∧ (j : Int) < t) := ⟨hjn, HF.out j hj, by omega⟩
          have HK : Hid (gk = las.length - j ∧ 0 ≤ j) := ⟨hk, hj⟩
          have hjm : (j : Int) + 1 ≤ 1025 := by omega
          have hlen := laterTo_length lat f t j
          have hlen' : (laterTo lat f t j).length ≤ 1024 := by omega
          by_cases hl : lat.getD j [] = []
          · obtain ⟨hr, -⟩ := (HM.out.grow hg).look_none Try.underlying3 Try.underlying62 (zeroBS wr) hkw (latF_empty hl)
            have HT : Hid (laterTo lat f t (j + 1) = laterTo lat f t j) := laterTo_no (by rw [← Bool.not_eq_true, isLater_eq]; exact fun hh => hh.2.2 hl)
            clear hl hjn hk hj hlen
            go_wp2_with fail
            refine hc.mono ?_
            rintro e w1 ⟨rfl, rfl⟩
            go_wp2
            go_roundg (las.length - (j + 1))
            case measure => have h1 := HR.out; have h2 := HK.out; omega
            case rel => exact ⟨j + 1, rfl, by have := HK.out; omega, by show ((j + 1 : Nat) : Int) ≤ _; omega, by go_num, by show OwnV _ _ _ _ _ _; rw [HT.out]; exact HO.out, hg⟩
          · obtain ⟨a1, n1, hr, -, -⟩ := (HM.out.grow hg).look_some Try.underlying3 Try.underlying62 (zeroBS wr) hkw (latF_in hl)
            have HT : Hid (laterTo lat f t (j + 1) = laterTo lat f t j ++ [j]) := laterTo_yes (isLater_eq.2 ⟨HR.out.2.1, HR.out.2.2, hl⟩)
            have ho := HO.out.grow ((Grow.refl wr).alloc (.cells #[natV j] 3))
            obtain ⟨ad, cd, hv⟩ := HO.out.shape
            subst hv
            generalize (lat.getD j []).length = L at hr
            have hsz := hg.size
            clear hl hjn hk hj hlen
            go_wp2_with fail
            refine hc.mono ?_
            rintro e w1 ⟨rfl, rfl⟩
            go_wp2_with (at_builtin; refine wpList_appV (f := natV) (d := 0) rfl (.tmp 31) (.tmp 33) 41 41 rfl i0 (.int .i64 0) 8 Try.underlying41 hi hz0 hz1 hz2 rfl rfl rfl ho (Src.oneV (w := wr) Try.underlying41 natV j (oneN j) 3) (by simp only [maxLen, List.length_singleton]; omega) (by simp only [List.length_singleton]; omega) ?_)
            intro v' w' ho' hu'
            have HO' : Hid (OwnV natV 0 (fun i => w.heap.size ≤ i) w' v' (laterTo lat f t (j + 1)) ∧ Grow w w') := by
              refine ⟨?_, UpdS.new (hg.trans ((Grow.refl wr).alloc _)) hu' (fun i hi => hi)⟩
              rw [HT.out]
              exact ho'.mono (fun i _ hi => hi.elim id (fun e => by rw [e]; omega))
            clear ho ho' hu' hr
            go_wp2
            go_roundg (las.length - (j + 1))
            case measure => have h1 := HR.out; have h2 := HK.out; omega
            case rel => exact ⟨j + 1, rfl, by have := HK.out; omega, by show ((j + 1 : Nat) : Int) ≤ _; omega, by go_num, HO'.out.1, HO'.out.2⟩
        · have HE : Hid (laterL lat f t = laterTo lat f t j) := by
            show laterTo lat f t lat.length = _
            have hh := HL.out
            by_cases hjl : j ≤ lat.length
            · refine laterTo_high hjl (fun i h1 h2 => ?_)
              simp only [isLater, decide_eq_false_iff_not]
              omega
            · refine (laterTo_high (by omega) (fun i h1 h2 => ?_)).symm
              simp only [isLater, decide_eq_false_iff_not]
              intro hh2
              exact hh2.2.2 (by simp [List.getD, List.getElem?_eq_none (show lat.length ≤ i by omega)])
          clear hk
          go_wp2_with fail
          refine hc.mono ?_
          rintro e w1 ⟨rfl, rfl⟩
          go_wp2
          go_ret
          exact ⟨_, rfl, by rw [HE.out]; exact HO.out, hg⟩
end Go.Proofs.Ytpkoiogdkaklfaa
