/-
  The walks of the document's own check (More, Put, Good) and of the law's example. Conditions: each theorem's own.
-/
import Derived.Test.YtlcphhlimcnnaaaByte
namespace Go.Proofs.Ytlcphhlimcnnaaa
open Go.RowKit
set_option linter.unusedVariables false
set_option linter.unusedSimpArgs false

set_option maxHeartbeats 2000000 in
theorem rmore_any (s : Nat) (v : Value) (zs : List Int) (B : Nat) (w : World) (hs32 : s < 4294967296) (h : Rd .u8 B w v zs) (ho : Oct zs) :
    Calls Try.prog 45 #[.int .u32 (s : Int), v] w fun e w' => e = .returned (.int .u32 ((chk s zs : Nat) : Int)) ∧ w = w' := by
  have hl := h.len
  obtain ⟨a, c, rfl, h1, h2, h3⟩ := h
  unfold maxLen at hl
  have hsub : IntKind.u32.wrap (4294967295 - (s : Int)) = ((4294967295 - s : Nat) : Int) := by rw [IntKind.wrap_u32']; omega
  go_enter Try.func45, Try.ntmps45
  go_wp2
  go_loopg [5, 6] zs.length (fun k m c wr => ∃ j q : Nat, k = zs.length - j ∧ j ≤ zs.length ∧ c = .int .i64 j ∧ m = .int .u32 (q : Int) ∧ q < 4294967296 ∧ Hid (q = cr (4294967295 - s) (zs.take j)) ∧ w = wr)
  case atStart => exact ⟨0, 4294967295 - s, rfl, Nat.zero_le _, rfl, rfl, by omega, rfl, rfl⟩
  case round =>
    obtain ⟨j, q, hk, hj, rfl, rfl, hq, HQ, rfl⟩ := hrel
    by_cases hlt : j < zs.length
    · have hlt' : (j : Int) < (zs.length : Int) := by omega
      obtain ⟨b, o, rfl, hbB, hc⟩ := h3 j hlt
      have hx := ho.getD j
      have HT : Hid (cr (4294967295 - s) (zs.take (j + 1)) = step (cr (4294967295 - s) (zs.take j)) (zs.getD j 0)) := cr_take_succ _ zs j hlt
      clear h3
      generalize zs.getD j 0 = x at hc HT hx
      obtain ⟨hx0, hx1⟩ := hx
      have hxor : bits .xor .u32 (q : Int) x = ((q ^^^ x.toNat : Nat) : Int) := by
        have := u32_xor (q : Int) x (by omega) (by omega) hx0 (by omega)
        rwa [Int.toNat_natCast] at this
      have hlq : q ^^^ x.toNat < 4294967296 := xor_lt32 hq (by omega)
      have HS : Hid (step q x = halve 8 (q ^^^ x.toNat)) := rfl
      generalize q ^^^ x.toNat = q0 at hxor hlq HS
      clear hsub
      go_wp2
      go_loopg [5, 7] 8 (fun k m c wr => ∃ i p : Nat, k = 8 - i ∧ i ≤ 8 ∧ c = .int .i64 i ∧ m = .int .u32 (p : Int) ∧ p < 4294967296 ∧ Hid (p = halve i q0) ∧ w = wr)
      case atStart => exact ⟨0, q0, rfl, Nat.zero_le _, rfl, rfl, hlq, rfl, rfl⟩
      case round =>
        obtain ⟨i, p, hk', hi, rfl, rfl, hp, HP, rfl⟩ := hrel
        by_cases hil : i < 8
        · have hil' : (i : Int) < 8 := by omega
          have hxp := xor_poly p hp
          by_cases hodd : p % 2 = 1
          · have hodd' : (p : Int) % 2 = 1 := by omega
            go_wp2
            go_roundg (8 - (i + 1))
            case measure => omega
            case rel =>
              refine ⟨i + 1, hs p, rfl, by omega, by go_num, ?_, hs_lt hp, ?_, rfl⟩
              · rw [hs_odd hodd, ← hxp]
              · show hs p = halve (i + 1) q0
                rw [HP.out]; rfl
          · have hodd' : (p : Int) % 2 = 0 := by omega
            go_wp2
            go_roundg (8 - (i + 1))
            case measure => omega
            case rel =>
              refine ⟨i + 1, hs p, rfl, by omega, by go_num, ?_, hs_lt hp, ?_, rfl⟩
              · rw [hs_even (by omega)]; simp
              · show hs p = halve (i + 1) q0
                rw [HP.out]; rfl
        · obtain rfl : i = 8 := by omega
          go_wp2
          go_roundg (zs.length - (j + 1))
          case measure => omega
          case rel =>
            refine ⟨j + 1, p, rfl, by omega, by go_num, rfl, hp, ?_, rfl⟩
            show p = cr (4294967295 - s) (zs.take (j + 1))
            rw [HT.out, ← HQ.out, HS.out, HP.out]
    · have hge : ¬ (j : Int) < (zs.length : Int) := by omega
      have HJ : Hid (zs.take j = zs) := by show zs.take j = zs; rw [List.take_of_length_le (by omega)]
      have hsub' : IntKind.u32.wrap (4294967295 - (q : Int)) = ((4294967295 - q : Nat) : Int) := by rw [IntKind.wrap_u32']; omega
      clear h3 hsub
      go_wp2
      go_ret
      exact ⟨ret_int (by rw [HQ.out, HJ.out]; rfl), rfl⟩
set_option maxHeartbeats 1000000 in
theorem rput_any (v : Value) (zs : List Int) (B : Nat) (w : World) (h : Rd .u8 B w v zs) (ho : Oct zs) (hl : zs.length ≤ 1000000) :
    Calls Try.prog 29 #[v] w fun e w' => ∃ v', e = .returned v' ∧ Own .u8 w.heap.size w' v' (zs ++ le 4 (chk 0 zs : Nat)) ∧ Below w.heap.size w w' := by
  obtain ⟨i0, hi, hz0, hz1, hz2⟩ := info_parts Try.info5
  have h' := h.size
  have hsrc := h'.src (P := Try.prog) Try.underlying31
  have hn1 := chk_lt 0 zs
  go_enter Try.func29, Try.ntmps29
  go_wp2_with fail
  refine (rmore_any 0 _ zs B _ (by omega) h ho).mono ?_
  rintro e w1 ⟨rfl, rfl⟩
  generalize hN : chk 0 zs = n at hn1
  have HN : Hid (chk 0 zs = n) := hN
  clear hN
  go_wp2_with (at_builtin; refine wpList_app rfl (.tmp 8) (.tmp 9) 31 31 rfl i0 (.int .u8 0) 1 Try.underlying31 hi hz0 hz1 hz2 rfl rfl rfl (Own.nil .u8 w.heap.size w _) hsrc (by simp only [maxLen, List.length_nil]; omega) (by simp only [List.length_nil]; omega) (Nat.le_refl _) ?_)
  intro v1 w1 ho1 hb1
  go_wp2
  go_loopg [3, 4, 5] 4 (fun k m d c wr => ∃ j : Nat, ∃ q : Int, k = 4 - j ∧ j ≤ 4 ∧ c = .int .i64 j ∧ m = .int .u32 q ∧ 0 ≤ q ∧ q < 4294967296 ∧ Hid (q = (n : Int) / 256 ^ j) ∧ Own .u8 w.heap.size wr d (zs ++ le j n) ∧ Below w.heap.size w wr)
  case atStart => exact ⟨0, n, rfl, Nat.zero_le _, rfl, rfl, by omega, by omega, by simp [Hid], by simpa [le] using ho1, hb1⟩
  case round =>
    obtain ⟨j, q, hk, hj, rfl, rfl, hq0, hq1, HQ, ho, hb⟩ := hrel
    have hBr := hb.size
    by_cases hlt : j < 4
    · have hlt' : (j : Int) < 4 := by omega
      have hll : (zs ++ le j (n : Int)).length ≤ 1000004 := by rw [List.length_append, le_length]; omega
      go_wp2_with (at_builtin; refine wpList_app rfl (.tmp 15) (.tmp 19) 31 31 rfl i0 (.int .u8 0) 1 Try.underlying31 hi hz0 hz1 hz2 rfl rfl rfl (ho.alloc _) (Src.one (w := wr) Try.underlying31 .u8 (q % 256) 5) (by simp only [maxLen, List.length_singleton]; omega) (by simp only [List.length_singleton]; omega) (by simp; omega) ?_)
      intro v' w' ho' hb'
      go_wp2
      go_roundg (4 - (j + 1))
      case measure => omega
      case rel =>
        refine ⟨j + 1, q / 256, rfl, by omega, by go_num, ?_, by omega, by omega, ?_, ?_, ?_⟩
        · rfl
        · show q / 256 = (n : Int) / 256 ^ (j + 1)
          rw [HQ.out, ediv_pow]
        · rw [le_snoc, ← HQ.out]; exact ho'
        · exact hb.trans (((Below.refl _ wr).alloc hBr _).trans hb')
    · obtain rfl : j = 4 := by omega
      go_wp2
      go_ret
      exact ⟨_, rfl, by rw [HN.out]; exact ho, hb⟩

/-- with their check? -/
def isGood (zs : List Int) : Bool := decide (4 ≤ zs.length ∧ zs.take (zs.length - 4) ++ le 4 (chk 0 (zs.take (zs.length - 4)) : Nat) = zs)

end Go.Proofs.Ytlcphhlimcnnaaa
