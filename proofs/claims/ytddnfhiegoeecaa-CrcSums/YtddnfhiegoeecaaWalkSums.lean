/-
  The walks of allotmentlaw02.CrcSums and CrcParts: they return true, and nothing that was there is written. Conditions: none but the reading of their arguments.
-/
import Derived.Test.YtddnfhiegoeecaaLive
namespace Go.Proofs.Ytddnfhiegoeecaa
open Go.RowKit
set_option linter.unusedVariables false
set_option linter.unusedSimpArgs false

set_option maxHeartbeats 2000000 in
theorem crcSums_walk (v : Value) (zs : List Int) (n : Nat) (w : World) (h : Rd .u8 w.heap.size w v zs) (ho : Oct zs) (hn : n < 4294967296) :
    Calls Try.prog 3 #[v, .int .u32 (n : Int)] w fun e w' => e = .returned (.bool true) ∧ Below w.heap.size w w' := by
  have hot := ho.take 60
  go_enter Try.func3, Try.ntmps3
  go_wp2_with fail
  refine (few_any _ zs _ 60 _ _ rfl h (by omega)).mono ?_
  rintro e w1 ⟨v1, rfl, ho1, hb1⟩
  generalize zs.take 60 = ys at ho1 hot
  have hr1 := ho1.rd
  go_wp2_with fail
  refine (sum_any _ ys _ _ hr1 hot).mono ?_
  rintro e w2 ⟨rfl, hb2⟩
  have hb12 := hb1.trans (hb2.mono hb1.size)
  have hr2 := (hr1.below hb2).size
  go_wp2_with fail
  refine (rmore_any 0 _ ys _ _ (by omega) hr2 hot).mono ?_
  rintro e w3 ⟨rfl, rfl⟩
  go_wp2_with fail
  refine (more_any n _ ys _ _ hn hr2 hot).mono ?_
  rintro e w3 ⟨rfl, hb3⟩
  have hb13 := hb12.trans (hb3.mono hb12.size)
  have hr3 := (hr2.below hb3).size
  go_wp2_with fail
  refine (rmore_any n _ ys _ _ hn hr3 hot).mono ?_
  rintro e w4 ⟨rfl, rfl⟩
  go_wp2_with fail
  refine (lives_any _).mono ?_
  rintro e w4 ⟨rfl, hb4⟩
  go_wp2
  go_ret
  exact ⟨rfl, hb13.trans (hb4.mono hb13.size)⟩

set_option maxHeartbeats 2000000 in
theorem crcParts_walk (v u : Value) (zs xs : List Int) (w : World) (h : Rd .u8 w.heap.size w v zs) (ho : Oct zs) (h' : Rd .u8 w.heap.size w u xs) (ho' : Oct xs) :
    Calls Try.prog 4 #[v, u] w fun e w' => e = .returned (.bool true) ∧ Below w.heap.size w w' := by
  obtain ⟨i0, hi, hz0, hz1, hz2⟩ := info_parts Try.info5
  have hot := ho.take 30
  have hot' := ho'.take 30
  have hla : (zs.take 30).length ≤ 30 := by rw [List.length_take]; omega
  have hlb : (xs.take 30).length ≤ 30 := by rw [List.length_take]; omega
  go_enter Try.func4, Try.ntmps4
  go_wp2_with fail
  refine (few_any _ zs _ 30 _ _ rfl h (by omega)).mono ?_
  rintro e w1 ⟨v1, rfl, ho1, hb1⟩
  generalize zs.take 30 = a at ho1 hot hla
  go_wp2_with fail
  refine (few_any _ xs _ 30 _ _ rfl (h'.below hb1) (by omega)).mono ?_
  rintro e w2 ⟨v2, rfl, ho2, hb2⟩
  generalize xs.take 30 = b at ho2 hot' hlb
  have hb12 := hb1.trans (hb2.mono hb1.size)
  have ho1' := ho1.below hb2 (Nat.le_refl _)
  have hs1 := ho1'.rd.src (P := Try.prog) Try.underlying22
  go_wp2_with (at_builtin; refine wpList_app rfl (.tmp 12) (.tmp 13) 22 22 rfl i0 (.int .u8 0) 1 Try.underlying22 hi hz0 hz1 hz2 rfl rfl rfl (Own.nil .u8 w2.heap.size w2 _) hs1 (by simp only [maxLen, List.length_nil]; omega) (by simp only [List.length_nil]; omega) (Nat.le_refl _) ?_)
  intro v3 w3 ho3 hb3
  have hb13 := hb12.trans (hb3.mono hb12.size)
  have hra := ho1'.rd.below hb3
  have hrb := ho2.rd.below hb3
  have hs2 := hrb.src (P := Try.prog) Try.underlying22
  go_wp2_with (at_builtin; refine wpList_app rfl (.tmp 15) (.tmp 16) 22 22 rfl i0 (.int .u8 0) 1 Try.underlying22 hi hz0 hz1 hz2 rfl rfl rfl ho3 hs2 (by simp only [maxLen]; omega) (by omega) hb3.size ?_)
  intro v4 w4 ho4 hb4
  have hb14 := hb13.trans (hb4.mono hb12.size)
  have hra4 := (hra.below hb4).size
  have hrb4 := (hrb.below hb4).size
  have hrc4 := ho4.rd
  clear hs1 hs2 hra hrb ho3 ho1' ho1 ho2 ho4
  go_wp2_with fail
  refine (sum_any _ a _ _ hra4 hot).mono ?_
  rintro e w5 ⟨rfl, hb5⟩
  have hb15 := hb14.trans (hb5.mono hb14.size)
  have hra5 := (hra4.below hb5).size
  have hrb5 := (hrb4.below hb5).size
  have hrc5 := (hrc4.below hb5).size
  go_wp2_with fail
  refine (more_any _ _ b _ _ (chk_lt _ _) hrb5 hot').mono ?_
  rintro e w6 ⟨rfl, hb6⟩
  rw [chk_append _ _ _ hot]
  have hb16 := hb15.trans (hb6.mono hb15.size)
  have hra6 := (hra5.below hb6).size
  have hrc6 := (hrc5.below hb6).size
  go_wp2_with fail
  refine (sum_any _ (a ++ b) _ _ hrc6 (hot.append hot')).mono ?_
  rintro e w7 ⟨rfl, hb7⟩
  have hb17 := hb16.trans (hb7.mono hb16.size)
  have hra7 := (hra6.below hb7).size
  go_wp2_with fail
  refine (sum_any _ a _ _ hra7 hot).mono ?_
  rintro e w8 ⟨rfl, hb8⟩
  have hb18 := hb17.trans (hb8.mono hb17.size)
  have hra8 := (hra7.below hb8).size
  go_wp2_with fail
  refine (more_any _ _ [] _ _ (chk_lt _ _) (Rd.nil .u8 0 _ none 0 (Nat.zero_le _)) (fun x hx => by cases hx)).mono ?_
  rintro e w9 ⟨rfl, hb9⟩
  rw [chk_nil (chk_lt _ _)]
  have hb19 := hb18.trans (hb9.mono hb18.size)
  have hra9 := (hra8.below hb9).size
  go_wp2_with fail
  refine (sum_any _ a _ _ hra9 hot).mono ?_
  rintro e w10 ⟨rfl, hb10⟩
  have hb110 := hb19.trans (hb10.mono hb19.size)
  go_wp2_with fail
  refine (lives_any _).mono ?_
  rintro e w11 ⟨rfl, hb11⟩
  go_wp2
  go_ret
  exact ⟨rfl, hb110.trans (hb11.mono hb110.size)⟩
end Go.Proofs.Ytddnfhiegoeecaa
