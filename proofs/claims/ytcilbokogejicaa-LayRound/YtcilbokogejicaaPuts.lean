/-
  The walks of lay's calls that put numbers and bytes behind others (fresh, number, Uint, Ints, Bytes). Conditions: each theorem's own.
-/
import Derived.Test.YtcilbokogejicaaLib
import Derived.Test.YtcilbokogejicaaRows
import Derived.WalkKit
import Derived.ProofKit
import Derived.OpenShut
import Derived.Outline
import Derived.Deep.LoopGhost
import Derived.WalkLawsBesides
namespace Go.Proofs.Ytcilbokogejicaa
open Go.RowKit

theorem Try.info5 : (Try.prog.info? 5).map (fun i => (i.zero, i.size, i.bytes)) = some (some (.int .u8 0), 1, 1) := by kernel_rfl

set_option maxHeartbeats 400000 in
theorem fresh_any (v : Value) (zs : List Int) (B : Nat) (w : World) (h : Rd .u8 B w v zs) (hl : zs.length ≤ 1000000) :
    Calls Try.prog 31 #[v] w fun e w' => ∃ v', e = .returned v' ∧ Own .u8 w.heap.size w' v' zs ∧ Below w.heap.size w w' := by
  obtain ⟨i0, hi, hz0, hz1, hz2⟩ := info_parts Try.info5
  have hs := h.src (P := Try.prog) Try.underlying22
  obtain ⟨a, c, rfl, h1, h2, h3⟩ := h
  go_enter Try.func31, Try.ntmps31
  go_wp2_with (at_builtin; refine wpList_app rfl (.tmp 4) (.tmp 5) 22 22 rfl i0 (.int .u8 0) 1 Try.underlying22 hi hz0 hz1 hz2 rfl rfl rfl (Own.nil .u8 w.heap.size w _) hs (by simp only [maxLen]; simp; omega) (by simp; omega) (Nat.le_refl _) ?_)
  intro v' w' ho hb
  go_wp2
  go_ret
  exact ⟨_, rfl, ho, hb⟩

set_option maxHeartbeats 1000000 in
theorem number_any (v : Value) (zs : List Int) (n : Int) (B : Nat) (w : World) (h : Own .u8 B w v zs) (hl : zs.length ≤ 2000000) (hB : B ≤ w.heap.size) (hn0 : 0 ≤ n) (hn1 : n < 18446744073709551616) :
    Calls Try.prog 30 #[v, .int .u64 n] w fun e w' => ∃ v', e = .returned v' ∧ Own .u8 B w' v' (zs ++ le 8 n) ∧ Below B w w' := by
  obtain ⟨i0, hi, hz0, hz1, hz2⟩ := info_parts Try.info5
  go_enter Try.func30, Try.ntmps30
  go_wp2
  go_loopg [0, 1, 5] 8 (fun k d m c wr => ∃ j : Nat, ∃ q : Int, k = 8 - j ∧ j ≤ 8 ∧ c = .int .i64 j ∧ m = .int .u64 q ∧ 0 ≤ q ∧ q < 18446744073709551616 ∧ Hid (q = n / 256 ^ j) ∧ Own .u8 B wr d (zs ++ le j n) ∧ Below B w wr)
  case atStart => exact ⟨0, n, rfl, Nat.zero_le _, rfl, rfl, hn0, hn1, by simp [Hid], by simpa [le] using h, Below.refl _ _⟩
  case round =>
    obtain ⟨j, q, hk, hj, rfl, rfl, hq0, hq1, HQ, ho, hb⟩ := hrel
    have hBr : B ≤ wr.heap.size := Nat.le_trans hB hb.size
    by_cases hlt : j < 8
    · have hlt' : (j : Int) < 8 := by omega
      have hll : (zs ++ le j n).length ≤ 2000008 := by rw [List.length_append, le_length]; omega
      go_wp2_with (at_builtin; refine wpList_app rfl (.tmp 7) (.tmp 10) 22 22 rfl i0 (.int .u8 0) 1 Try.underlying22 hi hz0 hz1 hz2 rfl rfl rfl (ho.alloc _) (Src.one (w := wr) Try.underlying22 .u8 (q % 256) 5) (by simp only [maxLen, List.length_singleton]; omega) (by simp only [List.length_singleton]; omega) (by simp; omega) ?_)
      intro v' w' ho' hb'
      go_wp2
      go_roundg (8 - (j + 1))
      case measure => omega
      case rel =>
        refine ⟨j + 1, q / 256, rfl, by omega, by go_num, ?_, by omega, by omega, ?_, ?_, ?_⟩
        · rfl
        · show q / 256 = n / 256 ^ (j + 1)
          rw [HQ.out, ediv_pow]
        · rw [le_snoc, ← HQ.out]; exact ho'
        · exact hb.trans (((Below.refl B wr).alloc hBr _).trans hb')
    · obtain rfl : j = 8 := by omega
      go_wp2
      go_ret
      exact ⟨_, rfl, ho, hb⟩

set_option maxHeartbeats 1000000 in
theorem ints_any (v lv : Value) (zs ls : List Int) (B B' : Nat) (w : World) (h : Rd .u8 B w v zs) (hl : Rd .i64 B' w lv ls) (hz : zs.length ≤ 1000000) (hls : ls.length ≤ 100000) :
    Calls Try.prog 11 #[v, lv] w fun e w' => ∃ v', e = .returned v' ∧ Own .u8 w.heap.size w' v' (zs ++ leAll ls) ∧ Below w.heap.size w w' := by
  replace hl := hl.size
  obtain ⟨a, c, rfl, h1, h2, h3⟩ := hl
  go_enter Try.func11, Try.ntmps11
  go_wp2_with (go_at_call 31; refine (fresh_any _ zs B _ h hz).mono ?_; rintro e w1 ⟨v1, rfl, ho1, hb1⟩)
  go_loopg [5, 7, 12] ls.length (fun k d m c wr => ∃ j : Nat, k = ls.length - j ∧ j ≤ ls.length ∧ c = .int .i64 j ∧ Own .u8 w.heap.size wr d (zs ++ leAll (ls.take j)) ∧ Below w.heap.size w wr)
  case atStart => exact ⟨0, rfl, Nat.zero_le _, rfl, by simpa [leAll] using ho1, hb1⟩
  case round =>
    obtain ⟨j, hk, hj, rfl, ho, hb⟩ := hrel
    by_cases hlt : j < ls.length
    · have hlt' : (j : Int) < (ls.length : Int) := by omega
      obtain ⟨b, o, rfl, hbB, hc⟩ := h3 j hlt
      have hcr : wr.cell? ⟨b, o + j, none⟩ = some (.int .i64 (ls.getD j 0)) := by rw [hb.cell (p := ⟨b, o + j, none⟩) hbB]; exact hc
      have hll : (zs ++ leAll (ls.take j)).length ≤ 2000000 := by rw [List.length_append, leAll_length, List.length_take]; omega
      have HT : Hid (leAll (ls.take (j + 1)) = leAll (ls.take j) ++ leI (ls.getD j 0)) := leAll_take_succ ls j hlt
      clear hc h3
      generalize ls.getD j 0 = x at hcr HT
      go_wp2_with fail
      rw [IntKind.wrap_u64]
      refine (number_any _ _ _ w.heap.size _ ho hll hb.size (by omega) (by omega)).mono ?_
      rintro e w2 ⟨v2, rfl, ho2, hb2⟩
      go_wp2
      go_roundg (ls.length - (j + 1))
      case measure => omega
      case rel =>
        refine ⟨j + 1, rfl, by omega, by go_num, ?_, hb.trans hb2⟩
        rw [HT.out, ← List.append_assoc]; exact ho2
    · obtain rfl : j = ls.length := by omega
      go_wp2
      go_ret
      exact ⟨_, rfl, by simpa using ho, hb⟩

set_option maxHeartbeats 1000000 in
theorem uint_any (v : Value) (zs : List Int) (n : Int) (B : Nat) (w : World) (h : Rd .u8 B w v zs) (hz : zs.length ≤ 1000000) (hn0 : 0 ≤ n) (hn1 : n < 18446744073709551616) :
    Calls Try.prog 10 #[v, .int .u64 n] w fun e w' => ∃ v', e = .returned v' ∧ Own .u8 w.heap.size w' v' (zs ++ le 8 n) ∧ Below w.heap.size w w' := by
  go_enter Try.func10, Try.ntmps10
  go_wp2_with (go_at_call 31; refine (fresh_any _ zs B _ h hz).mono ?_; rintro e w1 ⟨v1, rfl, ho1, hb1⟩)
  refine (number_any _ _ _ w.heap.size _ ho1 (by omega) hb1.size hn0 hn1).mono ?_
  rintro e w2 ⟨v2, rfl, ho2, hb2⟩
  go_wp2
  go_ret
  exact ⟨_, rfl, ho2, hb1.trans hb2⟩

set_option maxHeartbeats 1000000 in
theorem bytes_any (v sv : Value) (zs ss : List Int) (B B' : Nat) (w : World) (h : Rd .u8 B w v zs) (hs : Rd .u8 B' w sv ss) (hz : zs.length ≤ 1000000) (hss : ss.length ≤ 1000000) :
    Calls Try.prog 12 #[v, sv] w fun e w' => ∃ v', e = .returned v' ∧ Own .u8 w.heap.size w' v' (zs ++ le 8 ss.length ++ ss) ∧ Below w.heap.size w w' := by
  obtain ⟨i0, hi, hz0, hz1, hz2⟩ := info_parts Try.info5
  have hs' := hs.size
  obtain ⟨a, c, rfl, -⟩ := hs
  go_enter Try.func12, Try.ntmps12
  go_wp2_with (go_at_call 31; refine (fresh_any _ zs B _ h hz).mono ?_; rintro e w1 ⟨v1, rfl, ho1, hb1⟩)
  refine (number_any _ _ _ w.heap.size _ ho1 (by omega) hb1.size (by omega) (by omega)).mono ?_
  rintro e w2 ⟨v2, rfl, ho2, hb2⟩
  have hb12 := hb1.trans hb2
  have hsrc := (hs'.below hb12).src (P := Try.prog) Try.underlying22
  have hll : (zs ++ le 8 ss.length).length ≤ 1000008 := by rw [List.length_append, le_length]; omega
  go_wp2_with (at_builtin; refine wpList_app rfl (.tmp 10) (.tmp 11) 22 22 rfl i0 (.int .u8 0) 1 Try.underlying22 hi hz0 hz1 hz2 rfl rfl rfl ho2 hsrc (by simp only [maxLen]; omega) (by omega) hb12.size ?_)
  intro v3 w3 ho3 hb3
  go_wp2
  go_ret
  exact ⟨_, rfl, by simpa using ho3, hb12.trans hb3⟩

/-! ### The document's own -/

set_option maxHeartbeats 1000000 in
theorem rUint_any (n : Int) (w : World) (hn0 : 0 ≤ n) (hn1 : n < 18446744073709551616) :
    Calls Try.prog 14 #[.int .u64 n] w fun e w' => ∃ v', e = .returned v' ∧ Own .u8 w.heap.size w' v' (le 8 n) ∧ Below w.heap.size w w' := by
  obtain ⟨i0, hi, hz0, hz1, hz2⟩ := info_parts Try.info5
  go_enter Try.func14, Try.ntmps14
  go_wp2
  go_loopg [0, 3, 4] 8 (fun k m d c wr => ∃ j : Nat, ∃ q : Int, k = 8 - j ∧ j ≤ 8 ∧ c = .int .i64 j ∧ m = .int .u64 q ∧ 0 ≤ q ∧ q < 18446744073709551616 ∧ Hid (q = n / 256 ^ j) ∧ Own .u8 w.heap.size wr d (le j n) ∧ Below w.heap.size w wr)
  case atStart => exact ⟨0, n, rfl, Nat.zero_le _, rfl, rfl, hn0, hn1, by simp [Hid], Own.nil _ _ _ _, Below.refl _ _⟩
  case round =>
    obtain ⟨j, q, hk, hj, rfl, rfl, hq0, hq1, HQ, ho, hb⟩ := hrel
    have hBr := hb.size
    by_cases hlt : j < 8
    · have hlt' : (j : Int) < 8 := by omega
      have hll : (le j n).length ≤ 8 := by rw [le_length]; omega
      go_wp2_with (at_builtin; refine wpList_app rfl (.tmp 9) (.tmp 13) 22 22 rfl i0 (.int .u8 0) 1 Try.underlying22 hi hz0 hz1 hz2 rfl rfl rfl (ho.alloc _) (Src.one (w := wr) Try.underlying22 .u8 (q % 256) 5) (by simp only [maxLen, List.length_singleton]; omega) (by simp only [List.length_singleton]; omega) (by simp; omega) ?_)
      intro v' w' ho' hb'
      go_wp2
      go_roundg (8 - (j + 1))
      case measure => omega
      case rel =>
        refine ⟨j + 1, q / 256, rfl, by omega, by go_num, ?_, by omega, by omega, ?_, ?_, ?_⟩
        · rfl
        · show q / 256 = n / 256 ^ (j + 1)
          rw [HQ.out, ediv_pow]
        · rw [le_snoc, ← HQ.out]; exact ho'
        · exact hb.trans (((Below.refl _ wr).alloc hBr _).trans hb')
    · obtain rfl : j = 8 := by omega
      go_wp2
      go_ret
      exact ⟨_, rfl, ho, hb⟩

set_option maxHeartbeats 1000000 in
theorem rInt_any (n : Int) (w : World) :
    Calls Try.prog 13 #[.int .i64 n] w fun e w' => ∃ v', e = .returned v' ∧ Own .u8 w.heap.size w' v' (leI n) ∧ Below w.heap.size w w' := by
  go_enter Try.func13, Try.ntmps13
  go_wp2_with fail
  rw [IntKind.wrap_u64]
  refine (rUint_any _ _ (by omega) (by omega)).mono ?_
  rintro e w2 ⟨v2, rfl, ho2, hb2⟩
  go_wp2
  go_ret
  exact ⟨_, rfl, ho2, hb2⟩

set_option maxHeartbeats 1000000 in
theorem rBytes_any (sv : Value) (ss : List Int) (B' : Nat) (w : World) (hs : Rd .u8 B' w sv ss) (hss : ss.length ≤ 1000000) :
    Calls Try.prog 15 #[sv] w fun e w' => ∃ v', e = .returned v' ∧ Own .u8 w.heap.size w' v' (leI ss.length ++ ss) ∧ Below w.heap.size w w' := by
  obtain ⟨i0, hi, hz0, hz1, hz2⟩ := info_parts Try.info5
  have hs' := hs.size
  obtain ⟨a, c, rfl, -⟩ := hs
  go_enter Try.func15, Try.ntmps15
  go_wp2_with fail
  refine (rInt_any _ _).mono ?_
  rintro e w1 ⟨v1, rfl, ho1, hb1⟩
  have hsrc := (hs'.below hb1).src (P := Try.prog) Try.underlying22
  have hll : (leI ss.length).length ≤ 8 := by rw [leI_length]; exact Nat.le_refl _
  go_wp2_with (at_builtin; refine wpList_app rfl (.tmp 5) (.tmp 6) 22 22 rfl i0 (.int .u8 0) 1 Try.underlying22 hi hz0 hz1 hz2 rfl rfl rfl ho1 hsrc (by simp only [maxLen]; omega) (by omega) hb1.size ?_)
  intro v3 w3 ho3 hb3
  go_wp2
  go_ret
  exact ⟨_, rfl, ho3, hb1.trans hb3⟩

set_option maxHeartbeats 1000000 in
theorem few_any (sv : Value) (ss : List Int) (mi : Int) (m : Nat) (B' : Nat) (w : World) (hmi : mi = m) (hs : Rd .u8 B' w sv ss) (hm : m ≤ 1000000) :
    Calls Try.prog 9 #[sv, .int .i64 mi] w fun e w' => ∃ v', e = .returned v' ∧ Own .u8 w.heap.size w' v' (ss.take m) ∧ Below w.heap.size w w' := by
  obtain ⟨i0, hi, hz0, hz1, hz2⟩ := info_parts Try.info5
  subst hmi
  have hs' := hs.size
  have hl := hs.len
  obtain ⟨a, c, rfl, h1, h2, -⟩ := hs
  by_cases hle : ss.length ≤ m
  · have hle' : (ss.length : Int) ≤ (m : Int) := by omega
    have hsrc := hs'.src (P := Try.prog) Try.underlying22
    rw [List.take_of_length_le hle]
    go_enter Try.func9, Try.ntmps9
    go_wp2_with (at_builtin; refine wpList_app rfl (.tmp 6) (.tmp 12) 22 22 rfl i0 (.int .u8 0) 1 Try.underlying22 hi hz0 hz1 hz2 rfl rfl rfl (Own.nil .u8 w.heap.size w _) hsrc (by simp only [maxLen, List.length_nil]; omega) (by simp only [List.length_nil]; omega) (Nat.le_refl _) ?_)
    intro v3 w3 ho3 hb3
    go_wp2
    go_ret
    exact ⟨_, rfl, by simpa using ho3, hb3⟩
  · have hle' : ¬ (ss.length : Int) ≤ (m : Int) := by omega
    have hle'' : (m : Int) < (ss.length : Int) := by omega
    have hsrc := (hs'.take m (by omega)).src (P := Try.prog) Try.underlying22
    have hll : (ss.take m).length ≤ 1000000 := by rw [List.length_take]; omega
    go_enter Try.func9, Try.ntmps9
    go_wp2_with (at_builtin; refine wpList_app rfl (.tmp 6) (.tmp 12) 22 22 rfl i0 (.int .u8 0) 1 Try.underlying22 hi hz0 hz1 hz2 rfl rfl rfl (Own.nil .u8 w.heap.size w _) hsrc (by simp only [maxLen, List.length_nil]; omega) (by simp only [List.length_nil]; omega) (Nat.le_refl _) ?_)
    intro v3 w3 ho3 hb3
    go_wp2
    go_ret
    exact ⟨_, rfl, by simpa using ho3, hb3⟩

/-- 'Around' -/
def around (n m : Int) : Int := if n < 0 then (-(n + 1)) % m else n % m
theorem around_bd (n m : Int) (hm : 0 < m) : 0 ≤ around n m ∧ around n m < m := by
  unfold around
  split
  · exact ⟨Int.emod_nonneg _ (by omega), Int.emod_lt_of_pos _ hm⟩
  · exact ⟨Int.emod_nonneg _ (by omega), Int.emod_lt_of_pos _ hm⟩

theorem neg_tmod_of (n m : Int) (h : n < 0) : -((n + 1).tmod m) = (-(n + 1)) % m := by
  rw [← Int.neg_tmod, Int.tmod_eq_emod_of_nonneg (by omega)]

theorem ret_int {k : IntKind} {a b : Int} (h : a = b) : Ending.returned (.int k a) = .returned (.int k b) := by rw [h]

set_option maxHeartbeats 1000000 in
theorem around_any (n m : Int) (w : World) (hn : (Lit.int .i64 n).wf = true) (hm : 0 < m) (hm1 : m ≤ 1000000000) :
    Calls Try.prog 18 #[.int .i64 n, .int .i64 m] w fun e w' => e = .returned (.int .i64 (around n m)) ∧ w = w' := by
  have hb := bounds_i64 hn
  by_cases h0 : n < 0
  · have e : around n m = (-(n + 1)) % m := by unfold around; rw [if_pos h0]
    rw [e]
    go_enter Try.func18, Try.ntmps18
    go_wp2
    go_ret
    exact ⟨ret_int (neg_tmod_of n m h0), rfl⟩
  · have e : around n m = n % m := by unfold around; rw [if_neg h0]
    rw [e]
    go_enter Try.func18, Try.ntmps18
    go_wp2
    go_ret
    exact ⟨rfl, rfl⟩

theorem rd_new (k : IntKind) (n : Int) (e : TypeId) (w : World) : Rd k (w.heap.size + 1) (w.alloc (.cells #[.int k n] e)) (.slice (some ⟨w.heap.size, 0, none⟩) 1 1) [n] := by
  refine ⟨_, 1, rfl, by simp, by simp [maxLen], fun i hi => ⟨w.heap.size, 0, rfl, by omega, ?_⟩⟩
  obtain rfl : i = 0 := by simp at hi; omega
  refine (World.cell?_alloc_new w _ _ _).trans ?_
  simp

set_option maxHeartbeats 1000000 in
theorem lives_any (w : World) :
    Calls Try.prog 16 #[] w fun e w' => e = .returned (.bool true) ∧ Below w.heap.size w w' := by
  go_enter Try.func16, Try.ntmps16
  go_wp2_with fail
  refine (ints_any _ _ [] [-2] 0 _ _ (Rd.nil .u8 0 _ none 0 (Nat.zero_le _)) (rd_new .i64 (-2) 3 w) (by simp) (by simp)).mono ?_
  rintro e w1 ⟨v1, rfl, ho1, hb1⟩
  have hstr := ho1.rd.string (P := Try.prog) 22 9 5 Try.underlying22 Try.underlying5 Try.underlying9
  rw [show strOfNums ([] ++ leAll [-2]) = ⟨#[254, 255, 255, 255, 255, 255, 255, 255]⟩ from by decide +kernel] at hstr
  go_wp2
  go_ret
  exact ⟨rfl, ((Below.refl _ w).alloc (Nat.le_refl _) _).trans (hb1.mono (by simp))⟩
end Go.Proofs.Ytcilbokogejicaa
