/-
  The walks of the document's own check (More, Put, Good) and of the law's example. Conditions: each theorem's own.
-/
import Derived.Test.YtpkoiogdkaklfaaByte
namespace Go.Proofs.Ytpkoiogdkaklfaa
open Go.RowKit
set_option linter.unusedVariables false
set_option linter.unusedSimpArgs false

set_option maxHeartbeats 2000000 in
theorem rmore_any (s : Nat) (v : Value) (zs : List Int) (B : Nat) (w : World) (hs32 : s < 4294967296) (h : Rd .u8 B w v zs) (ho : Oct zs) :
    Calls Try.prog 49 #[.int .u32 (s : Int), v] w fun e w' => e = .returned (.int .u32 ((chk s zs : Nat) : Int)) ∧ w = w' := by
  have hl := h.len
  obtain ⟨a, c, rfl, h1, h2, h3⟩ := h
  unfold maxLen at hl
  have hsub : IntKind.u32.wrap (4294967295 - (s : Int)) = ((4294967295 - s : Nat) : Int) := by rw [IntKind.wrap_u32']; omega
  go_enter Try.func49, Try.ntmps49
  go_wp2
  go_loopg [5, 6] zs.length (fun k m c wr => ∃ j q : Nat, k = zs.length - j ∧ j ≤ zs.length ∧ c = .int .i64 j ∧ m = .int .u32 (q : Int) ∧ q < 4294967296 ∧ Hid (q = cr (4294967295 - s) (zs.take j)) ∧ w = wr)
  case atStart => exact ⟨0, 4294967295 - s, rfl, Nat.zero_le _, rfl, rfl, by omega, rfl, rfl⟩
  case round =>
    obtain ⟨j, q, hk, hj, rfl, rfl, hq, HQ, rfl⟩ := hrel
    by_cases hlt : j < zs.length
    · have hlt' : (j : Int) < (zs.length : Int) := by omega
      obtain ⟨b, o, rfl, hbB, hc⟩ := h3 j hlt
      have hx := ho.getD j
      have HT : Hid (cr (4294967295 - s) (zs.take (j + 1)) = step (cr (4294967295 - s) (zs.take j)) (zs.getD j 0)) := cr_take_succ _ zs j hlt
      clear h3
      generalize zs.getD j 0 = x at hc HT hx
      obtain ⟨hx0, hx1⟩ := hx
      have hxor : bits .xor .u32 (q : Int) x = ((q ^^^ x.toNat : Nat) : Int) := by
        have := u32_xor (q : Int) x (by omega) (by omega) hx0 (by omega)
        rwa [Int.toNat_natCast] at this
      have hlq : q ^^^ x.toNat < 4294967296 := xor_lt32 hq (by omega)
      have HS : Hid (step q x = halve 8 (q ^^^ x.toNat)) := rfl
      generalize q ^^^ x.toNat = q0 at hxor hlq HS
      clear hsub
      go_wp2
      go_loopg [5, 7] 8 (fun k m c wr => ∃ i p : Nat, k = 8 - i ∧ i ≤ 8 ∧ c = .int .i64 i ∧ m = .int .u32 (p : Int) ∧ p < 4294967296 ∧ Hid (p = halve i q0) ∧ w = wr)
      case atStart => exact ⟨0, q0, rfl, Nat.zero_le _, rfl, rfl, hlq, rfl, rfl⟩
      case round =>
        obtain ⟨i, p, hk', hi, rfl, rfl, hp, HP, rfl⟩ := hrel
        by_cases hil : i < 8
        · have hil' : (i : Int) < 8 := by omega
          have hxp := xor_poly p hp
          by_cases hodd : p % 2 = 1
          · have hodd' : (p : Int) % 2 = 1 := by omega
            go_wp2
            go_roundg (8 - (i + 1))
            case measure => omega
            case rel =>
              refine ⟨i + 1, hs p, rfl, by omega, by go_num, ?_, hs_lt hp, ?_, rfl⟩
              · rw [hs_odd hodd, ← hxp]
              · show hs p = halve (i + 1) q0
                rw [HP.out]; rfl
          · have hodd' : (p : Int) % 2 = 0 := by omega
            go_wp2
            go_roundg (8 - (i + 1))
            case measure => omega
            case rel =>
              refine ⟨i + 1, hs p, rfl, by omega, by go_num, ?_, hs_lt hp, ?_, rfl⟩
              · rw [hs_even (by omega)]; simp
              · show hs p = halve (i + 1) q0
                rw [HP.out]; rfl
        · obtain rfl : i = 8 := by omega
          go_wp2
          go_roundg (zs.length - (j + 1))
          case measure => omega
          case rel =>
            refine ⟨j + 1, p, rfl, by omega, by go_num, rfl, hp, ?_, rfl⟩
            show p = cr (4294967295 - s) (zs.take (j + 1))
            rw [HT.out, ← HQ.out, HS.out, HP.out]
    · have hge : ¬ (j : Int) < (zs.length : Int) := by omega
      have HJ : Hid (zs.take j = zs) := by show zs.take j = zs; rw [List.take_of_length_le (by omega)]
      have hsub' : IntKind.u32.wrap (4294967295 - (q : Int)) = ((4294967295 - q : Nat) : Int) := by rw [IntKind.wrap_u32']; omega
      clear h3 hsub
      go_wp2
      go_ret
      exact ⟨ret_int (by rw [HQ.out, HJ.out]; rfl), rfl⟩
set_option maxHeartbeats 1000000 in
theorem rput_any (v : Value) (zs : List Int) (B : Nat) (w : World) (h : Rd .u8 B w v zs) (ho : Oct zs) (hl : zs.length ≤ 1000000) :
    Calls Try.prog 32 #[v] w fun e w' => ∃ v', e = .returned v' ∧ Own .u8 w.heap.size w' v' (zs ++ le 4 (chk 0 zs : Nat)) ∧ Below w.heap.size w w' := by
  obtain ⟨i0, hi, hz0, hz1, hz2⟩ := info_parts Try.info5
  have h' := h.size
  have hsrc := h'.src (P := Try.prog) Try.underlying29
  have hn1 := chk_lt 0 zs
  go_enter Try.func32, Try.ntmps32
  go_wp2_with fail
  refine (rmore_any 0 _ zs B _ (by omega) h ho).mono ?_
  rintro e w1 ⟨rfl, rfl⟩
  generalize hN : chk 0 zs = n at hn1
  have HN : Hid (chk 0 zs = n) := hN
  clear hN
  go_wp2_with (at_builtin; refine wpList_app rfl (.tmp 8) (.tmp 9) 29 29 rfl i0 (.int .u8 0) 1 Try.underlying29 hi hz0 hz1 hz2 rfl rfl rfl (Own.nil .u8 w.heap.size w _) hsrc (by simp only [maxLen, List.length_nil]; omega) (by simp only [List.length_nil]; omega) (Nat.le_refl _) ?_)
  intro v1 w1 ho1 hb1
  go_wp2
  go_loopg [3, 4, 5] 4 (fun k m d c wr => ∃ j : Nat, ∃ q : Int, k = 4 - j ∧ j ≤ 4 ∧ c = .int .i64 j ∧ m = .int .u32 q ∧ 0 ≤ q ∧ q < 4294967296 ∧ Hid (q = (n : Int) / 256 ^ j) ∧ Own .u8 w.heap.size wr d (zs ++ le j n) ∧ Below w.heap.size w wr)
  case atStart => exact ⟨0, n, rfl, Nat.zero_le _, rfl, rfl, by omega, by omega, by simp [Hid], by simpa [le] using ho1, hb1⟩
  case round =>
    obtain ⟨j, q, hk, hj, rfl, rfl, hq0, hq1, HQ, ho, hb⟩ := hrel
    have hBr := hb.size
    by_cases hlt : j < 4
    · have hlt' : (j : Int) < 4 := by omega
      have hll : (zs ++ le j (n : Int)).length ≤ 1000004 := by rw [List.length_append, le_length]; omega
      go_wp2_with (at_builtin; refine wpList_app rfl (.tmp 15) (.tmp 19) 29 29 rfl i0 (.int .u8 0) 1 Try.underlying29 hi hz0 hz1 hz2 rfl rfl rfl (ho.alloc _) (Src.one (w := wr) Try.underlying29 .u8 (q % 256) 5) (by simp only [maxLen, List.length_singleton]; omega) (by simp only [List.length_singleton]; omega) (by simp; omega) ?_)
      intro v' w' ho' hb'
      go_wp2
      go_roundg (4 - (j + 1))
      case measure => omega
      case rel =>
        refine ⟨j + 1, q / 256, rfl, by omega, by go_num, ?_, by omega, by omega, ?_, ?_, ?_⟩
        · rfl
        · show q / 256 = (n : Int) / 256 ^ (j + 1)
          rw [HQ.out, ediv_pow]
        · rw [le_snoc, ← HQ.out]; exact ho'
        · exact hb.trans (((Below.refl _ wr).alloc hBr _).trans hb')
    · obtain rfl : j = 4 := by omega
      go_wp2
      go_ret
      exact ⟨_, rfl, by rw [HN.out]; exact ho, hb⟩

/-- with their check? -/
def isGood (zs : List Int) : Bool := decide (4 ≤ zs.length ∧ zs.take (zs.length - 4) ++ le 4 (chk 0 (zs.take (zs.length - 4)) : Nat) = zs)

set_option maxHeartbeats 2000000 in
theorem rgood_any (v : Value) (zs : List Int) (B : Nat) (w : World) (h : Rd .u8 B w v zs) (ho : Oct zs) (hl : zs.length ≤ 1000000) :
    Calls Try.prog 53 #[v] w fun e w' => e = .returned (.bool (isGood zs)) ∧ Below w.heap.size w w' := by
  have h' := h.size
  obtain ⟨a, c, rfl, hlc, hcm, -⟩ := h
  by_cases h4 : zs.length < 4
  · have h4' : (zs.length : Int) < 4 := by omega
    have HT : Hid (isGood zs = false) := decide_eq_false (by omega)
    go_enter Try.func53, Try.ntmps53
    go_wp2
    go_ret
    exact ⟨ret_bool HT.out.symm, Below.refl _ _⟩
  · obtain ⟨m, hm⟩ : ∃ m, zs.length = m + 4 := ⟨zs.length - 4, by omega⟩
    have ht : Rd .u8 w.heap.size w (.slice a m c) (zs.take m) := h'.take m (by omega)
    have HT : Hid (isGood zs = decide (zs.take m ++ le 4 (chk 0 (zs.take m) : Nat) = zs)) := by
      show isGood zs = _
      unfold isGood
      rw [hm, Nat.add_sub_cancel]
      simp
    have HLT : Hid ((zs.take m).length ≤ 1000000) := by show (zs.take m).length ≤ 1000000; rw [List.length_take]; omega
    have hot := ho.take m
    have hge : ¬ (zs.length : Int) < 4 := by omega
    have HTK : Hid (Rd .u8 w.heap.size w (.slice a m c) (zs.take m)) := ht
    have HTZ : Hid (Rd .u8 w.heap.size w (.slice a zs.length c) zs) := h'
    unfold maxLen at hcm
    have hmc : (m : Int) ≤ (c : Int) := by omega
    have hsub : (zs.length : Int) - 4 = (m : Int) := by omega
    have hml : (m : Int) ≤ (zs.length : Int) := by omega
    have hm63 : (m : Int) < 1000000 := by omega
    have hwr : IntKind.i64.wrap (m : Int) = (m : Int) := by rw [IntKind.wrap_i64]; omega
    have hs2 : ∀ w', Grow w.drew w' → (convert 29 9 (.slice a zs.length c)).run Try.prog w' = .ok (.string (strOfNums zs)) w' := fun w' hg => (h'.below ((Below.refl _ _).drew.trans hg)).string 29 9 5 Try.underlying29 Try.underlying5 Try.underlying9
    clear hm hl ht h' h4
    go_enter Try.func53, Try.ntmps53
    go_wp2
    refine wp_region_sched (by kernel_rfl) [(0, false), (1, false), (2, false), (3, false), (4, false), (7, false), (8, false), (5, true), (6, false), (9, false), (10, false)] (by kernel_rfl) (by kernel_rfl) rfl (fun _ _ d _ _ h => by cases d <;> exact h) ?_
    simp only [inOrder, List.filterMap_cons, List.filterMap_nil, List.getElem?_toArray, List.getElem?_cons_zero, List.getElem?_cons_succ, Option.map_some]
    repeat (first
      | (refine wpS_move rfl ?_; simp only [Act.eval, Act.put, Array.getD_eq_getD_getElem?, List.getElem?_toArray, List.getElem?_cons_zero, List.getElem?_cons_succ, Option.getD_some, List.setIfInBounds_toArray, List.set_cons_zero, List.set_cons_succ])
      | (refine wpS_assign rfl ?_; simp only [Act.eval, Act.put, Array.getD_eq_getD_getElem?, List.getElem?_toArray, List.getElem?_cons_zero, List.getElem?_cons_succ, Option.getD_some, List.setIfInBounds_toArray, List.set_cons_zero, List.set_cons_succ])
      | (refine wpS_read (v := ?_) rfl ?_ ?_; rotate_left; (focus (intro w' hG; go_simp; try (with_reducible rfl))); simp only [Act.put, List.setIfInBounds_toArray, List.set_cons_zero, List.set_cons_succ]))
    refine wpS_call (f := ?_) (args := ?_) (by rfl) ?_ ?_
    rotate_left 2; focus (go_simp; constructor <;> with_reducible rfl)
    refine (rput_any _ (zs.take m) _ _ (HTK.out.below (Below.refl _ _).drew) hot HLT.out).mono ?_
    rintro e w1 ⟨v1, rfl, ho1, hb1⟩
    refine ⟨v1, rfl, hb1, ?_⟩
    have hs1 : ∀ w', Grow w1 w' → (convert 29 9 v1).run Try.prog w' = .ok (.string (strOfNums (zs.take m ++ le 4 (chk 0 (zs.take m) : Nat)))) w' := fun w' hg => (ho1.rd.below hg).string 29 9 5 Try.underlying29 Try.underlying5 Try.underlying9
    have HO : Hid (Oct (zs.take m ++ le 4 (chk 0 (zs.take m) : Nat))) := hot.append (oct_le _ _)
    generalize zs.take m ++ le 4 (chk 0 (zs.take m) : Nat) = g at hs1 HO HT
    simp only [Act.put, List.setIfInBounds_toArray, List.set_cons_zero, List.set_cons_succ]
    repeat (first
      | (refine wpS_move rfl ?_; simp only [Act.eval, Act.put, Array.getD_eq_getD_getElem?, List.getElem?_toArray, List.getElem?_cons_zero, List.getElem?_cons_succ, Option.getD_some, List.setIfInBounds_toArray, List.set_cons_zero, List.set_cons_succ])
      | (refine wpS_assign rfl ?_; simp only [Act.eval, Act.put, Array.getD_eq_getD_getElem?, List.getElem?_toArray, List.getElem?_cons_zero, List.getElem?_cons_succ, Option.getD_some, List.setIfInBounds_toArray, List.set_cons_zero, List.set_cons_succ])
      | (refine wpS_read (v := ?_) rfl ?_ ?_; rotate_left; (focus (intro w' hG; go_simp; try (with_reducible rfl))); simp only [Act.put, List.setIfInBounds_toArray, List.set_cons_zero, List.set_cons_succ]))
    refine wpS_nil ?_
    have hbz : ((strOfNums g).toList == (strOfNums zs).toList) = isGood zs := by rw [HT.out]; exact str_beq HO.out ho
    clear hs1 hs2 hsub hml hmc hwr hm63
    go_wp2
    go_ret
    exact ⟨ret_bool hbz, (Below.refl w.heap.size w).drew.trans hb1⟩
end Go.Proofs.Ytpkoiogdkaklfaa
