/-
  The walks of the document's Later and SameInts. Conditions: each theorem's own.
-/
import Derived.Test.YtpkoiogdkaklfaaDevDoc
import Derived.Test.YtpkoiogdkaklfaaDevLat
namespace Go.Proofs.Ytpkoiogdkaklfaa
open Go.RowKit
set_option linter.unusedVariables false
set_option linter.unusedSimpArgs false

set_option maxRecDepth 8000 in
set_option maxHeartbeats 2000000 in
theorem qlater_any (p : Nat → Prop) (lv tv hv : Value) (las lat : List (List Int)) (hd : List Int) (w : World) (h : DocV p w lv tv hv las lat hd) (ok : DevOk las lat hd) (f t : Int) (hf : (Lit.int .i64 f).wf = true) (ht : (Lit.int .i64 t).wf = true) :
    Calls Try.prog 40 #[.agg #[lv, tv, hv], .int .i64 f, .int .i64 t] w fun e w' => ∃ v', e = .returned v' ∧ OwnV natV 0 (fun i => w.heap.size ≤ i) w' v' (laterL lat f t) ∧ Grow w w' := by
  obtain ⟨i0, hi, hz0, hz1, hz2⟩ := info_parts Try.info3
  have H : Hid (RowsV p w tv lat) := h.2.1
  obtain ⟨a, c, rfl, hc1, hc2⟩ := h.1.shape
  obtain ⟨a2, c2, rfl, hd1, hd2⟩ := h.2.1.shape
  obtain ⟨a3, c3, rfl⟩ := h.2.2.shape
  have hlb : lat.length ≤ 1024 := by have h1 := ok.1; have h2 := ok.2.2.2.2.2; omega
  unfold maxLen at hc2 hd2
  have HV : Hid (VarAt (w.alloc (.cells #[.slice a las.length c, .slice a2 lat.length c2, .slice a3 hd.length c3] 31)) w.heap.size [.slice a las.length c, .slice a2 lat.length c2, .slice a3 hd.length c3]) := VarAt.new w [.slice a las.length c, .slice a2 lat.length c2, .slice a3 hd.length c3] 31
  have HL : Hid (laterL lat f t = laterTo lat f t lat.length) := rfl
  clear h ok hf ht
  go_enter Try.func40, Try.ntmps40
  go_wp2
  go_loopg [7, 8] lat.length (fun k d i wr => ∃ j : Nat, k = lat.length - j ∧ j ≤ lat.length ∧ i = .int .i64 j ∧ Hid (OwnV natV 0 (fun i => w.heap.size + 1 ≤ i) wr d (laterTo lat f t j) ∧ VarAt wr w.heap.size [.slice a las.length c, .slice a2 lat.length c2, .slice a3 hd.length c3] ∧ Grow w wr))
  case atStart => exact ⟨0, rfl, Nat.zero_le _, rfl, OwnV.nil _ _ _ _ _, HV.out, (Grow.refl w).alloc _⟩
  case round =>
    obtain ⟨j, hk, hj, rfl, HO⟩ := hrel
    obtain ⟨⟨x0, x1, x2⟩, -⟩ := HO.out.2.1.three
    have hsz : w.heap.size < wr.heap.size := HO.out.2.1.lt
    by_cases hlt : j < lat.length
    · have hlt' : (j : Int) < (lat.length : Int) := by omega
      have HJ : Hid (j < lat.length ∧ gk = lat.length - j) := ⟨hlt, hk⟩
      have hlb' : (lat.length : Int) ≤ 1024 := by omega
      obtain ⟨b1, o1, ai, ci, rfl, hb1, hcell, hr⟩ := (H.out.grow HO.out.2.2).at hlt
      by_cases hf1 : f ≤ (j : Int)
      · by_cases ht1 : (j : Int) < t
        · by_cases hl : lat.getD j [] = []
          · have HT : Hid (laterTo lat f t (j + 1) = laterTo lat f t j) := laterTo_no (by rw [← Bool.not_eq_true, isLater_eq]; exact fun hh => hh.2.2 hl)
            rw [hl] at hcell
            simp only [List.length_nil] at hcell
            clear hl hr hlt hk
            go_wp2
            go_roundg (lat.length - (j + 1))
            case measure => have := HJ.out; omega
            case rel => exact ⟨j + 1, rfl, HJ.out.1, by go_num, by show OwnV _ _ _ _ _ _ ∧ _; rw [HT.out]; exact HO.out⟩
          · have HT : Hid (laterTo lat f t (j + 1) = laterTo lat f t j ++ [j]) := laterTo_yes (isLater_eq.2 ⟨hf1, ht1, hl⟩)
            have hll : 0 < (lat.getD j []).length := List.length_pos_iff.2 hl
            have hrl := hr.len
            unfold maxLen at hrl
            generalize (lat.getD j []).length = L at hcell hll hrl
            have hll' : 0 < (L : Int) := by omega
            have hlen' : (laterTo lat f t j).length ≤ 1024 := by have := laterTo_length lat f t j; omega
            have ho := HO.out.1.grow ((Grow.refl wr).alloc (.cells #[natV j] 3))
            obtain ⟨ad, cd, hv⟩ := HO.out.1.shape
            subst hv
            clear hl hr hlt hk hll
            go_wp2_with (at_builtin; refine wpList_appV (f := natV) (d := 0) rfl (.tmp 33) (.tmp 35) 41 41 rfl i0 (.int .i64 0) 8 Try.underlying41 hi hz0 hz1 hz2 rfl rfl rfl ho (Src.oneV (w := wr) Try.underlying41 natV j (oneN j) 3) (by simp only [maxLen, List.length_singleton]; omega) (by simp only [List.length_singleton]; omega) ?_)
            intro v' w' ho' hu'
            have HO' : Hid (OwnV natV 0 (fun i => w.heap.size + 1 ≤ i) w' v' (laterTo lat f t (j + 1)) ∧ VarAt w' w.heap.size [.slice a las.length c, .slice (some ⟨b1, o1, none⟩) lat.length c2, .slice a3 hd.length c3] ∧ Grow w w') := by
              refine ⟨?_, (HO.out.2.1.grow ((Grow.refl wr).alloc _)).upd hu' (by omega), UpdS.new (HO.out.2.2.trans ((Grow.refl wr).alloc _)) hu' (fun i hi => by omega)⟩
              rw [HT.out]
              exact ho'.mono (fun i _ hi => hi.elim id (fun e => by rw [e]; omega))
            clear ho ho' hu' hcell
            go_wp2
            go_roundg (lat.length - (j + 1))
            case measure => have := HJ.out; omega
            case rel => exact ⟨j + 1, rfl, HJ.out.1, by go_num, HO'⟩
        · have HT : Hid (laterTo lat f t (j + 1) = laterTo lat f t j) := laterTo_no (by rw [← Bool.not_eq_true, isLater_eq]; exact fun hh => ht1 hh.2.1)
          have ht1' : t ≤ (j : Int) := by omega
          clear hr hcell hlt hk
          go_wp2
          go_roundg (lat.length - (j + 1))
          case measure => have := HJ.out; omega
          case rel => exact ⟨j + 1, rfl, HJ.out.1, by go_num, by show OwnV _ _ _ _ _ _ ∧ _; rw [HT.out]; exact HO.out⟩
      · have HT : Hid (laterTo lat f t (j + 1) = laterTo lat f t j) := laterTo_no (by rw [← Bool.not_eq_true, isLater_eq]; exact fun hh => hf1 hh.1)
        clear hr hcell hlt hk
        go_wp2
        go_roundg (lat.length - (j + 1))
        case measure => have := HJ.out; omega
        case rel => exact ⟨j + 1, rfl, HJ.out.1, by go_num, by show OwnV _ _ _ _ _ _ ∧ _; rw [HT.out]; exact HO.out⟩
    · obtain rfl : j = lat.length := by omega
      clear hlt hk
      go_wp2
      go_ret
      exact ⟨_, rfl, by rw [HL.out]; exact HO.out.1.mono (fun i _ hi => by omega), HO.out.2.2⟩

theorem natV_ne {x y : Nat} (h : x ≠ y) : ¬ (x : Int) = (y : Int) := by omega

set_option maxHeartbeats 1000000 in
theorem samei_any (av bv : Value) (xs ys : List Nat) (p q : Nat → Prop) (w : World) (ha : RdV natV 0 p w av xs) (hb : RdV natV 0 q w bv ys) (hx : ∀ x ∈ xs, x < 100000) (hy : ∀ y ∈ ys, y < 100000) :
    Calls Try.prog 39 #[av, bv] w fun e w' => e = .returned (.bool (decide (xs = ys))) ∧ Grow w w' := by
  have la := ha.len
  have lb := hb.len
  unfold maxLen at la lb
  have HA : Hid (RdV natV 0 p w av xs) := ha
  have HB : Hid (RdV natV 0 q w bv ys) := hb
  obtain ⟨a1, c1, rfl⟩ := ha.shape
  obtain ⟨a2, c2, rfl⟩ := hb.shape
  clear ha hb
  by_cases hl : xs.length = ys.length
  · have hl' : (xs.length : Int) = (ys.length : Int) := by omega
    have HLL : Hid (xs.length = ys.length) := hl
    go_enter Try.func39, Try.ntmps39
    go_wp2
    go_loopg [5] xs.length (fun k i wr => ∃ j : Nat, k = xs.length - j ∧ j ≤ xs.length ∧ i = .int .i64 j ∧ Hid (xs.take j = ys.take j) ∧ Grow w wr)
    case atStart => exact ⟨0, rfl, Nat.zero_le _, rfl, by simp [Hid], Grow.refl _⟩
    case round =>
      obtain ⟨j, hk, hj, rfl, HE, hg⟩ := hrel
      by_cases hlt : j < xs.length
      · have hlt' : (j : Int) < (xs.length : Int) := by omega
        have hlt2 : (j : Int) < (ys.length : Int) := by omega
        obtain ⟨b1, o1, e1, -, hc1⟩ := (HA.out.grow hg).addr (by omega)
        obtain ⟨b2, o2, e2, -, hc2⟩ := (HB.out.grow hg).addr (by omega)
        have f1 := hc1 j hlt
        have f2 := hc2 j (by omega)
        clear hc1 hc2
        have HT : Hid (xs.take (j + 1) = xs.take j ++ [xs.getD j 0] ∧ ys.take (j + 1) = ys.take j ++ [ys.getD j 0]) := ⟨take_snoc xs 0 j hlt, take_snoc ys 0 j (by omega)⟩
        have hne : ∀ x y : Nat, x ≠ y → xs.getD j 0 = x → ys.getD j 0 = y → xs ≠ ys := fun x y h1 h2 h3 h4 => h1 (by rw [← h2, ← h3, h4])
        have bx : xs.getD j 0 < 100000 := hx _ (by simp only [List.getD, List.getElem?_eq_getElem hlt, Option.getD_some]; exact List.getElem_mem hlt)
        have by' : ys.getD j 0 < 100000 := hy _ (by simp only [List.getD, List.getElem?_eq_getElem (show j < ys.length by omega), Option.getD_some]; exact List.getElem_mem _)
        have HJ : Hid (j < xs.length ∧ gk = xs.length - j) := ⟨hlt, hk⟩
        generalize xs.getD j 0 = x at f1 HT hne bx
        generalize ys.getD j 0 = y at f2 HT hne by'
        clear hlt hk hl
        have HN := hne x y
        clear hne
        subst e1 e2
        by_cases hxy : x = y
        · subst hxy
          clear HN
          go_wp2
          go_region
          all_goals
            go_wp2
            go_roundg (xs.length - (j + 1))
            case measure => have := HJ.out; omega
            case rel =>
              refine ⟨j + 1, rfl, HJ.out.1, by go_num, ?_, hg.drew⟩
              show xs.take (j + 1) = ys.take (j + 1)
              rw [HT.out.1, HT.out.2, HE.out]
        · have hns : xs ≠ ys := HN hxy rfl rfl
          have hd : decide (xs = ys) = false := decide_eq_false hns
          clear HN hns
          have hxy2 : ¬ (x : Int) = (y : Int) := natV_ne hxy
          go_wp2
          go_region
          all_goals
            go_wp2
            go_ret
            exact ⟨ret_bool hd.symm, hg.drew⟩
      · obtain rfl : j = xs.length := by omega
        have he : xs = ys := by
          have := HE.out
          rwa [List.take_length, HLL.out, List.take_length] at this
        have hd : decide (xs = ys) = true := decide_eq_true he
        clear he hl
        go_wp2
        go_ret
        exact ⟨ret_bool hd.symm, hg⟩
  · have hl' : ¬ (xs.length : Int) = (ys.length : Int) := by omega
    have hd : decide (xs = ys) = false := decide_eq_false (fun h => hl (by rw [h]))
    go_enter Try.func39, Try.ntmps39
    go_wp2
    go_ret
    exact ⟨ret_bool hd.symm, Grow.refl _⟩
end Go.Proofs.Ytpkoiogdkaklfaa
