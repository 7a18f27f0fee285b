/-
  The walks of the document's Get, Put, Open. Conditions: each theorem's own.
-/
import Derived.Test.YtcmehefaceaioaaCelFill
namespace Go.Proofs.Ytcmehefaceaioaa
open Go.RowKit
set_option linter.unusedVariables false
set_option linter.unusedSimpArgs false

set_option maxHeartbeats 1000000 in
theorem rget_form (a : Option Addr) (l c : Nat) (off n : Int) (w : World) (hlm : l ≤ maxLen) (hl : l ≠ 32) :
    Calls Try.prog 34 #[.slice a l c, .int .i64 off, .int .i64 n] w fun e w' => e = .returned (.tuple #[.slice none 0 0, .int .i64 2]) ∧ w = w' := by
  unfold maxLen at hlm
  have h2 : ¬ (l : Int) = 32 := by omega
  go_enter Try.func34, Try.ntmps34
  go_wp2
  go_ret2
  exact ⟨rfl, rfl⟩

set_option maxHeartbeats 2000000 in
theorem rget_range (a : Option Addr) (c : Nat) (off n : Int) (w : World) (ho : (Lit.int .i64 off).wf = true) (hn : (Lit.int .i64 n).wf = true) (h : off < 0 ∨ n < 0 ∨ 32 < off + n) :
    Calls Try.prog 34 #[.slice a 32 c, .int .i64 off, .int .i64 n] w fun e w' => e = .returned (.tuple #[.slice none 0 0, .int .i64 4]) ∧ w = w' := by
  have b1 := bounds_i64 ho
  have b2 := bounds_i64 hn
  clear ho hn
  by_cases h1 : off < 0
  · clear h
    go_enter Try.func34, Try.ntmps34
    go_wp2
    go_ret2
    exact ⟨rfl, rfl⟩
  · skip
    by_cases h2 : n < 0
    · clear h
      go_enter Try.func34, Try.ntmps34
      go_wp2
      go_ret2
      exact ⟨rfl, rfl⟩
    · skip
      by_cases h3 : 32 < off
      · clear h
        go_enter Try.func34, Try.ntmps34
        go_wp2
        go_ret2
        exact ⟨rfl, rfl⟩
      · skip
        by_cases h4 : 32 < n
        · clear h
          go_enter Try.func34, Try.ntmps34
          go_wp2
          go_ret2
          exact ⟨rfl, rfl⟩
        · skip
          have h5 : 32 < off + n := by omega
          clear h
          go_enter Try.func34, Try.ntmps34
          go_wp2
          go_ret2
          exact ⟨rfl, rfl⟩

set_option maxHeartbeats 2000000 in
theorem rget_yes (a : Option Addr) (c : Nat) (zs : List Int) (o m : Nat) (B : Nat) (w : World) (h : Rd .u8 B w (.slice a 32 c) zs) (hom : o + m ≤ 32) :
    Calls Try.prog 34 #[.slice a 32 c, .int .i64 (o : Int), .int .i64 (m : Int)] w fun e w' => ∃ v', e = .returned (.tuple #[v', .int .i64 0]) ∧ Own .u8 w.heap.size w' v' ((zs.drop o).take m) ∧ Grow w w' := by
  obtain ⟨i0, hi, hz0, hz1, hz2⟩ := info_parts Try.info5
  have hcap := h.caps
  have hcell : ∀ j, j < 32 → ∃ b p, a = some ⟨b, p, none⟩ ∧ b < w.heap.size ∧ w.cell? ⟨b, p + j, none⟩ = some (.int .u8 (zs.getD j 0)) := fun j hj => by
    obtain ⟨_, _, hm, b, p, e, _, hc⟩ := h.size.addr (by omega)
    exact ⟨b, p, e, World.block_lt_of_cell? _ _ (hc j (by omega)), hc j (by omega)⟩
  have HL : Hid (zs.length = 32) := by show zs.length = 32; omega
  have hc32 : 32 ≤ c := by omega
  clear h hcap
  have h1 : ¬ (o : Int) < 0 := by omega
  have h2 : ¬ (m : Int) < 0 := by omega
  have h3 : ¬ (32 : Int) < (o : Int) := by omega
  have h4 : ¬ (32 : Int) < (m : Int) := by omega
  have h5 : ¬ (32 : Int) < (o : Int) + (m : Int) := by omega
  go_enter Try.func34, Try.ntmps34
  go_wp2
  go_loopg [8, 9] m (fun k d i wr => ∃ j : Nat, k = m - j ∧ j ≤ m ∧ i = .int .i64 ((o : Int) + (j : Int)) ∧ Own .u8 w.heap.size wr d ((zs.drop o).take j) ∧ Below w.heap.size w wr)
  case atStart => exact ⟨0, rfl, Nat.zero_le _, by simp, Own.nil _ _ _ _, Below.refl _ _⟩
  case round =>
    obtain ⟨j, hk, hj, rfl, ho, hb⟩ := hrel
    have hBr := hb.size
    by_cases hlt : j < m
    · have hlt' : (o : Int) + (j : Int) < (o : Int) + (m : Int) := by omega
      have hll : ((zs.drop o).take j).length ≤ 32 := by rw [List.length_take]; omega
      obtain ⟨b, p, rfl, hbB, hc⟩ := hcell (o + j) (by omega)
      have hcr : wr.cell? ⟨b, p + (o + j), none⟩ = some (.int .u8 (zs.getD (o + j) 0)) := by rw [hb.cell (p := ⟨b, p + (o + j), none⟩) hbB]; exact hc
      have HT : Hid ((zs.drop o).take (j + 1) = (zs.drop o).take j ++ [zs.getD (o + j) 0]) := by
        show (zs.drop o).take (j + 1) = (zs.drop o).take j ++ [zs.getD (o + j) 0]
        rw [take_snoc _ 0 j (by rw [List.length_drop, HL.out]; omega)]
        simp [List.getD, List.getElem?_drop]
      clear hc hcell
      generalize zs.getD (o + j) 0 = x at hcr HT
      have hcast : (o : Int) + (j : Int) = ((o + j : Nat) : Int) := by omega
      rw [hcast] at hlt' ⊢
      have hup : (((o + j : Nat) : Int) + 1) = (o : Int) + ((j + 1 : Nat) : Int) := by omega
      have HUP : Hid ((((o + j : Nat) : Int) + 1) = (o : Int) + ((j + 1 : Nat) : Int)) := hup
      have hy : o + j < 32 := by omega
      have HJ : Hid (j < m ∧ gk = m - j) := ⟨hlt, hk⟩
      clear hup hcast hlt hk
      generalize o + j = y at hcr hlt' hy HUP ⊢
      have hyw : IntKind.i64.wrap ((y : Int) + 1) = (y : Int) + 1 := by rw [IntKind.wrap_i64]; omega
      go_wp2_with (at_builtin; refine wpList_app rfl (.tmp 41) (.tmp 46) 35 35 rfl i0 (.int .u8 0) 1 Try.underlying35 hi hz0 hz1 hz2 rfl rfl rfl (ho.alloc _) (Src.one (w := wr) Try.underlying35 .u8 x 5) (by simp only [maxLen, List.length_singleton]; omega) (by simp only [List.length_singleton]; omega) (by simp; omega) ?_)
      intro v' w' ho' hb'
      go_wp2
      go_roundg (m - (j + 1))
      case measure => have := HJ.out; omega
      case rel =>
        refine ⟨j + 1, rfl, by have := HJ.out; omega, by rw [← HUP.out], ?_, ?_⟩
        · rw [HT.out]; exact ho'
        · exact hb.trans (((Below.refl _ wr).alloc hBr _).trans hb')
    · obtain rfl : j = m := by omega
      go_wp2
      go_ret2
      exact ⟨_, rfl, ho, hb⟩

/-- the document's Get, of whatever page, place and number -/
theorem rget_any (v : Value) (zs : List Int) (off n : Int) (B : Nat) (w : World) (h : Rd .u8 B w v zs) (ho : (Lit.int .i64 off).wf = true) (hn : (Lit.int .i64 n).wf = true) :
    Calls Try.prog 34 #[v, .int .i64 off, .int .i64 n] w fun e w' => ∃ v', e = .returned (.tuple #[v', .int .i64 (got zs off n).2]) ∧ Own .u8 w.heap.size w' v' (got zs off n).1 ∧ Grow w w' := by
  have h' := h
  obtain ⟨a, c, rfl, h1, h2, -⟩ := h
  rcases fitE_cases zs.length off n with ⟨hl, hE⟩ | ⟨hl, hr, hE⟩ | ⟨hl, h3, h4, h5, hE⟩
  · have e : got zs off n = ([], 2) := by unfold got; rw [hE]; rfl
    refine (rget_form a _ c off n w (by omega) hl).mono ?_
    rintro _ _ ⟨rfl, rfl⟩
    rw [e]
    exact ⟨_, rfl, Own.nil _ _ _ _, Grow.refl _⟩
  · have e : got zs off n = ([], 4) := by unfold got; rw [hE]; rfl
    rw [hl]
    refine (rget_range a c off n w ho hn hr).mono ?_
    rintro _ _ ⟨rfl, rfl⟩
    rw [e]
    exact ⟨_, rfl, Own.nil _ _ _ _, Grow.refl _⟩
  · obtain ⟨o, rfl⟩ := Int.eq_ofNat_of_zero_le h3
    obtain ⟨m, rfl⟩ := Int.eq_ofNat_of_zero_le h4
    have e : got zs o m = ((zs.drop o).take m, 0) := by unfold got; rw [if_pos hE]; rfl
    rw [e]
    rw [hl] at h' ⊢
    exact rget_yes a c zs o m B w h' (by omega)
end Go.Proofs.Ytcmehefaceaioaa
