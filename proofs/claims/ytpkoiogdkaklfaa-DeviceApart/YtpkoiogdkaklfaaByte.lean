/-
  The walks of crc's calls that put a check behind bytes and take it away (tail, Put, Take, bytes.Equal). Conditions: each theorem's own.
-/
import Derived.Test.YtpkoiogdkaklfaaMore
namespace Go.Proofs.Ytpkoiogdkaklfaa
open Go.RowKit
set_option linter.unusedVariables false
set_option linter.unusedSimpArgs false






set_option maxHeartbeats 1000000 in
theorem tail_any (n : Nat) (w : World) (hn1 : n < 4294967296) :
    Calls Try.prog 54 #[.int .u32 (n : Int)] w fun e w' => ∃ v', e = .returned v' ∧ Own .u8 w.heap.size w' v' (le 4 (n : Int)) ∧ Below w.heap.size w w' := by
  obtain ⟨i0, hi, hz0, hz1, hz2⟩ := info_parts Try.info5
  go_enter Try.func54, Try.ntmps54
  go_wp2_with (at_make; refine wpList_make rfl (.const (.int .i64 0)) (.const (.int .i64 4)) 29 rfl .u8 5 i0 (.int .u8 0) Try.underlying29 hi hz0 hz1 hz2 .i64 .i64 4 4 rfl rfl rfl (by omega) ?_)
  intro v1 w1 ho1 hb1
  go_wp2
  go_loopg [0, 3, 5] 4 (fun k m d c wr => ∃ j : Nat, ∃ q : Int, k = 4 - j ∧ j ≤ 4 ∧ c = .int .i64 j ∧ m = .int .u32 q ∧ 0 ≤ q ∧ q < 4294967296 ∧ Hid (q = (n : Int) / 256 ^ j) ∧ Own .u8 w.heap.size wr d (le j n) ∧ Below w.heap.size w wr)
  case atStart => exact ⟨0, n, rfl, Nat.zero_le _, rfl, rfl, by omega, by omega, by simp [Hid], ho1, hb1⟩
  case round =>
    obtain ⟨j, q, hk, hj, rfl, rfl, hq0, hq1, HQ, ho, hb⟩ := hrel
    have hBr := hb.size
    by_cases hlt : j < 4
    · have hlt' : (j : Int) < 4 := by omega
      have hll : (le j (n : Int)).length ≤ 4 := by rw [le_length]; omega
      go_wp2_with (at_builtin; refine wpList_app rfl (.tmp 7) (.tmp 10) 29 29 rfl i0 (.int .u8 0) 1 Try.underlying29 hi hz0 hz1 hz2 rfl rfl rfl (ho.alloc _) (Src.one (w := wr) Try.underlying29 .u8 (q % 256) 5) (by simp only [maxLen, List.length_singleton]; omega) (by simp only [List.length_singleton]; omega) (by simp; omega) ?_)
      intro v' w' ho' hb'
      go_wp2
      go_roundg (4 - (j + 1))
      case measure => omega
      case rel =>
        refine ⟨j + 1, q / 256, rfl, by omega, by go_num, ?_, by omega, by omega, ?_, ?_, ?_⟩
        · rfl
        · show q / 256 = (n : Int) / 256 ^ (j + 1)
          rw [HQ.out, ediv_pow]
        · rw [le_snoc, ← HQ.out]; exact ho'
        · exact hb.trans (((Below.refl _ wr).alloc hBr _).trans hb')
    · obtain rfl : j = 4 := by omega
      go_wp2
      go_ret
      exact ⟨_, rfl, ho, hb⟩

theorem str_beq {a b : List Int} (ha : Oct a) (hb : Oct b) : ((strOfNums a).toList == (strOfNums b).toList) = decide (a = b) := by
  by_cases h : a = b
  · subst h; simp
  · rw [decide_eq_false h]
    refine beq_eq_false_iff_ne.2 fun e => h (strOfNums_inj ha hb ?_)
    rw [ByteArray.toList_eq, ByteArray.toList_eq] at e
    have e' := Array.toList_inj.1 e
    cases hx : strOfNums a
    cases hy : strOfNums b
    rw [hx, hy] at e'
    simp only at e'
    rw [e']


set_option maxHeartbeats 1000000 in
theorem equal_any (v1 v2 : Value) (z1 z2 : List Int) (B1 B2 : Nat) (w : World) (h1 : Rd .u8 B1 w v1 z1) (h2 : Rd .u8 B2 w v2 z2) (o1 : Oct z1) (o2 : Oct z2) :
    Calls Try.prog 56 #[v1, v2] w fun e w' => e = .returned (.bool (decide (z1 = z2))) ∧ w = w' := by
  have hs1 := h1.string (P := Try.prog) 29 9 5 Try.underlying29 Try.underlying5 Try.underlying9
  have hs2 := h2.string (P := Try.prog) 29 9 5 Try.underlying29 Try.underlying5 Try.underlying9
  go_enter Try.func56, Try.ntmps56
  go_wp2
  go_ret
  exact ⟨ret_bool (str_beq o1 o2), rfl⟩

set_option maxHeartbeats 1000000 in
theorem put_any (v : Value) (zs : List Int) (B : Nat) (w : World) (h : Rd .u8 B w v zs) (ho : Oct zs) (hl : zs.length ≤ 1000000) :
    Calls Try.prog 48 #[v] w fun e w' => ∃ v', e = .returned v' ∧ Own .u8 w.heap.size w' v' (zs ++ le 4 (chk 0 zs : Nat)) ∧ Below w.heap.size w w' := by
  obtain ⟨i0, hi, hz0, hz1, hz2⟩ := info_parts Try.info5
  have h' := h.size
  obtain ⟨a, c, rfl, -⟩ := h
  go_enter Try.func48, Try.ntmps48
  go_wp2_with (at_make; refine wpList_make rfl (.const (.int .i64 0)) (.tmp 6) 29 rfl .u8 5 i0 (.int .u8 0) Try.underlying29 hi hz0 hz1 hz2 .i64 .i64 _ (zs.length + 4) rfl rfl (by omega) (by omega) ?_)
  intro v1 w1 ho1 hb1
  have hs1 := (h'.below hb1).src (P := Try.prog) Try.underlying29
  go_wp2_with (at_builtin; refine wpList_app rfl (.tmp 7) (.tmp 8) 29 29 rfl i0 (.int .u8 0) 1 Try.underlying29 hi hz0 hz1 hz2 rfl rfl rfl ho1 hs1 (by simp only [maxLen, List.length_nil]; omega) (by simp only [List.length_nil]; omega) hb1.size ?_)
  intro v2 w2 ho2 hb2
  have hb12 := hb1.trans hb2
  go_wp2_with fail
  refine (sum_any _ zs _ _ (h'.below hb12) ho).mono ?_
  rintro e w3 ⟨rfl, hb3⟩
  have hb13 := hb12.trans (hb3.mono hb12.size)
  replace ho2 := ho2.below hb3 (Nat.le_refl _)
  go_wp2_with fail
  refine (tail_any _ _ (chk_lt _ _)).mono ?_
  rintro e w4 ⟨v4, rfl, ho4, hb4⟩
  have hb14 := hb13.trans (hb4.mono hb13.size)
  replace ho2 := ho2.below hb4 (Nat.le_refl _)
  have hs4 := ho4.rd.src (P := Try.prog) Try.underlying29
  have hl4 := le_length 4 ((chk 0 zs : Nat) : Int)
  go_wp2_with (at_builtin; refine wpList_app rfl (.tmp 10) (.tmp 13) 29 29 rfl i0 (.int .u8 0) 1 Try.underlying29 hi hz0 hz1 hz2 rfl rfl rfl ho2 hs4 (by simp only [maxLen]; omega) (by omega) hb14.size ?_)
  intro v5 w5 ho5 hb5
  go_wp2
  go_ret
  exact ⟨_, rfl, ho5, hb14.trans hb5⟩
/-- what Take tells -/
def taken (zs : List Int) : List Int × Int :=
  if zs.length < 4 then ([], 2)
  else if zs.drop (zs.length - 4) = le 4 (chk 0 (zs.take (zs.length - 4)) : Nat) then (zs.take (zs.length - 4), 0) else ([], 9)

set_option maxHeartbeats 2000000 in
theorem take_any (v : Value) (zs : List Int) (B : Nat) (w : World) (h : Rd .u8 B w v zs) (ho : Oct zs) (hl : zs.length ≤ 1000000) :
    Calls Try.prog 52 #[v] w fun e w' => ∃ v', e = .returned (.tuple #[v', .int .i64 (taken zs).2]) ∧ Own .u8 w.heap.size w' v' (taken zs).1 ∧ Below w.heap.size w w' := by
  obtain ⟨i0, hi, hz0, hz1, hz2⟩ := info_parts Try.info5
  have h' := h.size
  obtain ⟨a, c, rfl, hlc, hcm, -⟩ := h
  by_cases h4 : zs.length < 4
  · have h4' : (zs.length : Int) < 4 := by omega
    have HT : Hid (taken zs = ([], 2)) := by unfold taken; rw [if_pos h4]; rfl
    go_enter Try.func52, Try.ntmps52
    go_wp2
    go_ret2
    rw [HT.out]
    exact ⟨_, rfl, Own.nil _ _ _ _, Below.refl _ _⟩
  · obtain ⟨m, hm⟩ : ∃ m, zs.length = m + 4 := ⟨zs.length - 4, by omega⟩
    have ht := h'.take m (by omega)
    have hd := h'.drop m (by omega)
    have HT : Hid (taken zs = if zs.drop m = le 4 (chk 0 (zs.take m) : Nat) then (zs.take m, 0) else ([], 9)) := by
      unfold taken
      rw [if_neg h4, hm, Nat.add_sub_cancel]
      rfl
    have hlt : (zs.take m).length ≤ 1000000 := by rw [List.length_take]; omega
    have hot := ho.take m
    have hod := ho.drop m
    have hge : ¬ (zs.length : Int) < 4 := by omega
    have HD : Hid (Rd .u8 w.heap.size w (.slice (if c = m then a else a.map (·.add m)) (zs.length - m) (c - m)) (zs.drop m)) := hd
    have HTK : Hid (Rd .u8 w.heap.size w (.slice a m c) (zs.take m)) := ht
    have HLT : Hid ((zs.take m).length ≤ 1000000) := hlt
    have HM : Hid (zs.length = m + 4) := hm
    unfold maxLen at hcm
    have hmc : (m : Int) ≤ (c : Int) := by omega
    have hsub : (zs.length : Int) - 4 = (m : Int) := by omega
    have hml : (m : Int) ≤ (zs.length : Int) := by omega
    have hm63 : (m : Int) < 1000000 := by omega
    have hwr : IntKind.i64.wrap (m : Int) = (m : Int) := by rw [IntKind.wrap_i64]; omega
    clear hm hl hlt hd ht h' h4 ho
    go_enter Try.func52, Try.ntmps52
    go_wp2
    refine wp_region_sched (by kernel_rfl) [(0, false), (1, false), (2, false), (3, false), (4, false), (5, false), (6, false), (7, false), (8, false), (9, false), (10, false), (11, false)] (by kernel_rfl) (by kernel_rfl) rfl (fun _ _ d _ _ h => by cases d <;> exact h) ?_
    simp only [inOrder, List.filterMap_cons, List.filterMap_nil, List.getElem?_toArray, List.getElem?_cons_zero, List.getElem?_cons_succ, Option.map_some]
    repeat (first
      | (refine wpS_move rfl ?_; simp only [Act.eval, Act.put, Array.getD_eq_getD_getElem?, List.getElem?_toArray, List.getElem?_cons_zero, List.getElem?_cons_succ, Option.getD_some, List.setIfInBounds_toArray, List.set_cons_zero, List.set_cons_succ])
      | (refine wpS_assign rfl ?_; simp only [Act.eval, Act.put, Array.getD_eq_getD_getElem?, List.getElem?_toArray, List.getElem?_cons_zero, List.getElem?_cons_succ, Option.getD_some, List.setIfInBounds_toArray, List.set_cons_zero, List.set_cons_succ])
      | (refine wpS_read (v := ?_) rfl ?_ ?_; rotate_left; (focus (intro w' hG; go_simp; try (with_reducible rfl))); simp only [Act.put, List.setIfInBounds_toArray, List.set_cons_zero, List.set_cons_succ]))
    refine wpS_nil ?_
    have hd := HD.out
    have ht := HTK.out
    clear HD HTK hsub hml hmc hwr hm63 hlc hcm
    generalize Value.slice (if c = m then a else a.map (·.add m)) (zs.length - m) (c - m) = dv at hd
    generalize Value.slice a m c = av at ht
    generalize Value.slice a zs.length c = zv
    have hlt := HLT.out
    replace hd : Rd .u8 w.heap.size w dv (zs.drop m) := hd
    replace ht : Rd .u8 w.heap.size w av (zs.take m) := ht
    have hb0 : Below w.heap.size w w.drew := (Below.refl _ _).drew
    go_wp2_with fail
    refine (sum_any _ (zs.take m) _ _ (ht.below hb0) hot).mono ?_
    rintro e w3 ⟨rfl, hb3⟩
    have hb03 : Below w.heap.size w w3 := hb0.trans hb3
    go_wp2_with fail
    refine (tail_any _ _ (chk_lt _ _)).mono ?_
    rintro e w4 ⟨v4, rfl, ho4, hb4⟩
    have hb04 := hb03.trans (hb4.mono hb03.size)
    have hs4 := (ht.below hb04).src (P := Try.prog) Try.underlying29
    have ho4' : Oct (le 4 (chk 0 (zs.take m) : Nat)) := oct_le _ _
    generalize le 4 (chk 0 (zs.take m) : Nat) = l4 at ho4 ho4' HT
    go_wp2_with fail
    refine (equal_any _ _ (zs.drop m) l4 _ _ _ (hd.below hb04) ho4.rd hod ho4').mono ?_
    rintro e w5 ⟨rfl, rfl⟩
    by_cases hq : zs.drop m = l4
    · rw [if_pos hq] at HT
      rw [decide_eq_true hq]
      go_wp2_with (at_builtin; refine wpList_app rfl (.const (.slice none 0 0)) (.tmp 25) 29 29 rfl i0 (.int .u8 0) 1 Try.underlying29 hi hz0 hz1 hz2 rfl rfl rfl (Own.nil .u8 w.heap.size w4 _) hs4 (by simp only [maxLen, List.length_nil]; omega) (by simp only [List.length_nil]; omega) hb04.size ?_)
      intro v5 w5 ho5 hb5
      go_wp2
      go_ret2
      rw [HT.out]
      exact ⟨_, rfl, by simpa using ho5, hb04.trans hb5⟩
    · rw [if_neg hq] at HT
      rw [decide_eq_false hq]
      go_wp2
      go_ret2
      rw [HT.out]
      exact ⟨_, rfl, Own.nil _ _ _ _, hb04⟩
end Go.Proofs.Ytpkoiogdkaklfaa
