/-
  The walks of lay's calls that put numbers and bytes behind others (fresh, number, Uint, Ints, Bytes). Conditions: each theorem's own.
-/
import Derived.Test.YtdafamocnjfmjaaDoorBase
namespace Go.Proofs.YtdafamocnjfmjaaDoor
open Go.RowKit
set_option linter.unusedVariables false
set_option linter.unusedSimpArgs false

set_option maxHeartbeats 400000 in
theorem fresh_any (v : Value) (zs : List Int) (B : Nat) (w : World) (h : Rd .u8 B w v zs) (hl : zs.length ≤ 1000000) :
    Calls Tryd.prog 46 #[v] w fun e w' => ∃ v', e = .returned v' ∧ Own .u8 w.heap.size w' v' zs ∧ Below w.heap.size w w' := by
  obtain ⟨i0, hi, hz0, hz1, hz2⟩ := info_parts Tryd.info5
  have hs := h.src (P := Tryd.prog) Tryd.underlying22
  obtain ⟨a, c, rfl, h1, h2, h3⟩ := h
  go_enter Tryd.func46, Tryd.ntmps46
  go_wp2_with (at_builtin; refine wpList_app rfl (.tmp 4) (.tmp 5) 22 22 rfl i0 (.int .u8 0) 1 Tryd.underlying22 hi hz0 hz1 hz2 rfl rfl rfl (Own.nil .u8 w.heap.size w _) hs (by simp only [maxLen]; simp; omega) (by simp; omega) (Nat.le_refl _) ?_)
  intro v' w' ho hb
  go_wp2
  go_ret
  exact ⟨_, rfl, ho, hb⟩

set_option maxHeartbeats 1000000 in
theorem number_any (v : Value) (zs : List Int) (n : Int) (B : Nat) (w : World) (h : Own .u8 B w v zs) (hl : zs.length ≤ 2000000) (hB : B ≤ w.heap.size) (hn0 : 0 ≤ n) (hn1 : n < 18446744073709551616) :
    Calls Tryd.prog 45 #[v, .int .u64 n] w fun e w' => ∃ v', e = .returned v' ∧ Own .u8 B w' v' (zs ++ le 8 n) ∧ Below B w w' := by
  obtain ⟨i0, hi, hz0, hz1, hz2⟩ := info_parts Tryd.info5
  go_enter Tryd.func45, Tryd.ntmps45
  go_wp2
  go_loopg [0, 1, 5] 8 (fun k d m c wr => ∃ j : Nat, ∃ q : Int, k = 8 - j ∧ j ≤ 8 ∧ c = .int .i64 j ∧ m = .int .u64 q ∧ 0 ≤ q ∧ q < 18446744073709551616 ∧ Hid (q = n / 256 ^ j) ∧ Own .u8 B wr d (zs ++ le j n) ∧ Below B w wr)
  case atStart => exact ⟨0, n, rfl, Nat.zero_le _, rfl, rfl, hn0, hn1, by simp [Hid], by simpa [le] using h, Below.refl _ _⟩
  case round =>
    obtain ⟨j, q, hk, hj, rfl, rfl, hq0, hq1, HQ, ho, hb⟩ := hrel
    have hBr : B ≤ wr.heap.size := Nat.le_trans hB hb.size
    by_cases hlt : j < 8
    · have hlt' : (j : Int) < 8 := by omega
      have hll : (zs ++ le j n).length ≤ 2000008 := by rw [List.length_append, le_length]; omega
      go_wp2_with (at_builtin; refine wpList_app rfl (.tmp 7) (.tmp 10) 22 22 rfl i0 (.int .u8 0) 1 Tryd.underlying22 hi hz0 hz1 hz2 rfl rfl rfl (ho.alloc _) (Src.one (w := wr) Tryd.underlying22 .u8 (q % 256) 5) (by simp only [maxLen, List.length_singleton]; omega) (by simp only [List.length_singleton]; omega) (by simp; omega) ?_)
      intro v' w' ho' hb'
      go_wp2
      go_roundg (8 - (j + 1))
      case measure => omega
      case rel =>
        refine ⟨j + 1, q / 256, rfl, by omega, by go_num, ?_, by omega, by omega, ?_, ?_, ?_⟩
        · rfl
        · show q / 256 = n / 256 ^ (j + 1)
          rw [HQ.out, ediv_pow]
        · rw [le_snoc, ← HQ.out]; exact ho'
        · exact hb.trans (((Below.refl B wr).alloc hBr _).trans hb')
    · obtain rfl : j = 8 := by omega
      go_wp2
      go_ret
      exact ⟨_, rfl, ho, hb⟩

set_option maxHeartbeats 1000000 in
theorem ints_any (v lv : Value) (zs ls : List Int) (B B' : Nat) (w : World) (h : Rd .u8 B w v zs) (hl : Rd .i64 B' w lv ls) (hz : zs.length ≤ 1000000) (hls : ls.length ≤ 100000) :
    Calls Tryd.prog 31 #[v, lv] w fun e w' => ∃ v', e = .returned v' ∧ Own .u8 w.heap.size w' v' (zs ++ leAll ls) ∧ Below w.heap.size w w' := by
  replace hl := hl.size
  obtain ⟨a, c, rfl, h1, h2, h3⟩ := hl
  go_enter Tryd.func31, Tryd.ntmps31
  go_wp2_with (go_at_call 46; refine (fresh_any _ zs B _ h hz).mono ?_; rintro e w1 ⟨v1, rfl, ho1, hb1⟩)
  go_loopg [5, 7, 12] ls.length (fun k d m c wr => ∃ j : Nat, k = ls.length - j ∧ j ≤ ls.length ∧ c = .int .i64 j ∧ Own .u8 w.heap.size wr d (zs ++ leAll (ls.take j)) ∧ Below w.heap.size w wr)
  case atStart => exact ⟨0, rfl, Nat.zero_le _, rfl, by simpa [leAll] using ho1, hb1⟩
  case round =>
    obtain ⟨j, hk, hj, rfl, ho, hb⟩ := hrel
    by_cases hlt : j < ls.length
    · have hlt' : (j : Int) < (ls.length : Int) := by omega
      obtain ⟨b, o, rfl, hbB, hc⟩ := h3 j hlt
      have hcr : wr.cell? ⟨b, o + j, none⟩ = some (.int .i64 (ls.getD j 0)) := by rw [hb.cell (p := ⟨b, o + j, none⟩) hbB]; exact hc
      have hll : (zs ++ leAll (ls.take j)).length ≤ 2000000 := by rw [List.length_append, leAll_length, List.length_take]; omega
      have HT : Hid (leAll (ls.take (j + 1)) = leAll (ls.take j) ++ leI (ls.getD j 0)) := leAll_take_succ ls j hlt
      clear hc h3
      generalize ls.getD j 0 = x at hcr HT
      go_wp2_with fail
      rw [IntKind.wrap_u64]
      refine (number_any _ _ _ w.heap.size _ ho hll hb.size (by omega) (by omega)).mono ?_
      rintro e w2 ⟨v2, rfl, ho2, hb2⟩
      go_wp2
      go_roundg (ls.length - (j + 1))
      case measure => omega
      case rel =>
        refine ⟨j + 1, rfl, by omega, by go_num, ?_, hb.trans hb2⟩
        rw [HT.out, ← List.append_assoc]; exact ho2
    · obtain rfl : j = ls.length := by omega
      go_wp2
      go_ret
      exact ⟨_, rfl, by simpa using ho, hb⟩

set_option maxHeartbeats 1000000 in
theorem bytes_any (v sv : Value) (zs ss : List Int) (B B' : Nat) (w : World) (h : Rd .u8 B w v zs) (hs : Rd .u8 B' w sv ss) (hz : zs.length ≤ 1000000) (hss : ss.length ≤ 1000000) :
    Calls Tryd.prog 30 #[v, sv] w fun e w' => ∃ v', e = .returned v' ∧ Own .u8 w.heap.size w' v' (zs ++ le 8 ss.length ++ ss) ∧ Below w.heap.size w w' := by
  obtain ⟨i0, hi, hz0, hz1, hz2⟩ := info_parts Tryd.info5
  have hs' := hs.size
  obtain ⟨a, c, rfl, -⟩ := hs
  go_enter Tryd.func30, Tryd.ntmps30
  go_wp2_with (go_at_call 46; refine (fresh_any _ zs B _ h hz).mono ?_; rintro e w1 ⟨v1, rfl, ho1, hb1⟩)
  refine (number_any _ _ _ w.heap.size _ ho1 (by omega) hb1.size (by omega) (by omega)).mono ?_
  rintro e w2 ⟨v2, rfl, ho2, hb2⟩
  have hb12 := hb1.trans hb2
  have hsrc := (hs'.below hb12).src (P := Tryd.prog) Tryd.underlying22
  have hll : (zs ++ le 8 ss.length).length ≤ 1000008 := by rw [List.length_append, le_length]; omega
  go_wp2_with (at_builtin; refine wpList_app rfl (.tmp 10) (.tmp 11) 22 22 rfl i0 (.int .u8 0) 1 Tryd.underlying22 hi hz0 hz1 hz2 rfl rfl rfl ho2 hsrc (by simp only [maxLen]; omega) (by omega) hb12.size ?_)
  intro v3 w3 ho3 hb3
  go_wp2
  go_ret
  exact ⟨_, rfl, by simpa using ho3, hb12.trans hb3⟩
end Go.Proofs.YtdafamocnjfmjaaDoor
