/-
  The walk of allotmentlaw01.LayCuts: it returns true, and nothing that was there is written. Conditions: none but the reading of its arguments.
-/
import Derived.Test.YtcilbokogejicaaReads
namespace Go.Proofs.Ytcilbokogejicaa
open Go.RowKit
set_option linter.unusedVariables false
set_option linter.unusedSimpArgs false

theorem val_le : ∀ (k : Nat) (n : Int), 0 ≤ n → n < 256 ^ k → val (le k n) = n
  | 0, n, h0, h1 => by simp [le, val]; omega
  | k + 1, n, h0, h1 => by
    rw [Int.pow_succ] at h1
    simp only [le, val]
    rw [val_le k (n / 256) (by omega) (by omega)]
    omega

theorem byte_le : ∀ (k : Nat) (n : Int), Byte (le k n)
  | 0, n => fun x hx => by cases hx
  | k + 1, n => fun x hx => by
    simp only [le, List.mem_cons] at hx
    rcases hx with rfl | hx
    · omega
    · exact byte_le k _ x hx

theorem Byte.append {a b : List Int} (ha : Byte a) (hb : Byte b) : Byte (a ++ b) := fun x hx => by
  rcases List.mem_append.1 hx with h | h
  · exact ha x h
  · exact hb x h

theorem byte_nil : Byte [] := fun x hx => by cases hx

theorem wrap64_zero : wrap64 0 = 0 := by unfold wrap64; omega

/-- A text's bytes, cut: no text is read. -/
theorem cut_read {p : Nat → Prop} (b : Nat) (ss : List Int) (k : Nat) (w : World) (h : RdrAt w b p ((le 8 ss.length ++ ss).take k) 0) (hby : Byte ss) (hk : k < 8 + ss.length) (hl : ss.length ≤ 20) :
    Calls Try.prog 22 #[.pointer (some ⟨b, 0, none⟩), .int .i64 20] w fun e w' => e = .returned (.slice none 0 0) ∧ RdrAt w' b p [] 2 ∧ Upd b w w' := by
  have hall : Byte ((le 8 ss.length ++ ss).take k) := ((byte_le 8 _).append hby).take k
  have hlen : ((le 8 ss.length ++ ss).take k).length = k := by rw [List.length_take, List.length_append, le_length]; omega
  by_cases h8 : k < 8
  · exact bytesR_short b _ 0 20 w h hall (by omega)
  · refine bytesR_bad b _ 20 ss.length w h hall (by omega) (by decide) ?_ (Or.inr (Or.inr ?_))
    · rw [List.take_take, show min 8 k = 8 by omega, List.take_append_of_le_length (by rw [le_length]; omega), List.take_of_length_le (by rw [le_length]; omega), val_le 8 _ (by omega) (by omega)]
    · rw [List.length_drop, hlen]; omega

set_option maxHeartbeats 2000000 in
theorem layCuts_walk (v0 : Value) (s0 : List Int) (a1 : Int) (w : World) (hs : Rd .u8 w.heap.size w v0 s0) (hby : Byte s0) (w1 : (Lit.int .i64 a1).wf = true) :
    Calls Try.prog 6 #[v0, .int .i64 a1] w fun e w' => e = .returned (.bool true) ∧ Below w.heap.size w w' := by
  obtain ⟨ss, hss⟩ : ∃ ss, s0.take 20 = ss := ⟨_, rfl⟩
  have hsl : ss.length ≤ 20 := by rw [← hss, List.length_take]; omega
  have hsb : Byte ss := by rw [← hss]; exact hby.take 20
  have hbl : ([] ++ le 8 ss.length ++ ss).length = 8 + ss.length := by rw [List.nil_append, List.length_append, le_length]
  have hbd := around_bd a1 (8 + ss.length) (by omega)
  obtain ⟨k, hk⟩ := Int.eq_ofNat_of_zero_le hbd.1
  rw [hk] at hbd
  obtain ⟨-, hk1⟩ := hbd
  have HR : Hid (∀ w, Calls Try.prog 18 #[.int .i64 a1, .int .i64 (8 + (ss.length : Int))] w fun e w' => e = .returned (.int .i64 (k : Int)) ∧ w = w') := fun w => by
    have := around_any a1 (8 + ss.length) w w1 (by omega) (by omega)
    rw [hk] at this
    exact this
  clear hk
  go_enter Try.func6, Try.ntmps6
  go_wp2_with fail
  refine (few_any _ s0 20 20 _ _ rfl hs (by omega)).mono ?_
  rintro e w1 ⟨v1, rfl, ho1, hg1⟩
  rw [hss] at ho1
  go_wp2_with fail
  refine (bytes_any _ _ [] ss 0 _ _ (Rd.nil _ _ _ _ _ (Nat.zero_le _)) ho1.rd (by simp) (by omega)).mono ?_
  rintro e w2 ⟨v2, rfl, ho2, hg2⟩
  have g2 : Grow w w2 := Grow.trans (b := w1) hg1 hg2
  obtain ⟨a2, c2, hv2⟩ := ho2.shape
  have r2 := ho2.rd
  rw [hbl] at hv2
  subst hv2
  have hc2 := r2.caps
  rw [hbl] at hc2
  rw [List.nil_append] at r2
  unfold maxLen at hc2
  have hk2 : (k : Int) ≤ (c2 : Int) := by omega
  have hne : (((8 + ss.length : Nat) : Int) == 0) = false := by simp; omega
  have r3 := r2.take k (by rw [List.length_append, le_length]; omega)
  have hlk : ((le 8 ss.length ++ ss).take k).length ≤ 1000000 := by rw [List.length_take]; omega
  clear ho1 ho2
  go_wp2_with fail
  refine (HR.out _).mono ?_
  rintro e w3 ⟨rfl, rfl⟩
  go_wp2_with fail
  refine (read_any _ _ _ _ r3 hlk).mono ?_
  rintro e w3 ⟨b, rfl, hr3, hg3, hb3⟩
  have g3 : Grow w w3 := Grow.trans g2 hg3
  have hwb : w.heap.size ≤ b := Nat.le_trans g2.size hb3
  go_wp2_with fail
  refine (cut_read b ss k _ hr3 hsb (by omega) hsl).mono ?_
  rintro e w4 ⟨rfl, hr4, hu4⟩
  go_wp2_with fail
  refine (errnoR_any b _ _ _ hr4).mono ?_
  rintro e w5 ⟨rfl, rfl⟩
  go_wp2_with fail
  refine (leftR_any b _ _ _ hr4).mono ?_
  rintro e w5 ⟨rfl, rfl⟩
  go_wp2_with fail
  refine (intR_any b _ _ _ hr4 byte_nil).mono ?_
  rintro e w5 ⟨rfl, hr5, hu5⟩
  rw [show uval [] = 0 from rfl, wrap64_zero]
  go_wp2_with fail
  refine (bytesR_short b _ _ 9 _ hr5 byte_nil (by decide)).mono ?_
  rintro e w6 ⟨rfl, hr6, hu6⟩
  go_wp2_with fail
  refine (endR_any b _ _ _ hr6).mono ?_
  rintro e w7 ⟨rfl, rfl⟩
  rw [show (if ([] : List Int).length = 0 then (2 : Int) else 2) = 2 from rfl]
  go_wp2_with fail
  refine (lives_any _).mono ?_
  rintro e w7 ⟨rfl, hg7⟩
  go_wp2
  go_ret
  have hu := UpdS.trans (UpdS.trans (UpdS.trans hu4 hu5) hu6) (Grow.s (S := fun k => k = b) hg7)
  exact ⟨rfl, UpdS.new g3 hu (fun i hi => by omega)⟩
end Go.Proofs.Ytcilbokogejicaa
