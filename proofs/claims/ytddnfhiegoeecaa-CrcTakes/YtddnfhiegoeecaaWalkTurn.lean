/-
  The walk of allotmentlaw02.CrcTurns: it returns true, and nothing that was there is written. Conditions: none but the reading of its arguments.
-/
import Derived.Test.YtddnfhiegoeecaaWalkDiff
namespace Go.Proofs.Ytddnfhiegoeecaa
open Go.RowKit
set_option linter.unusedVariables false
set_option linter.unusedSimpArgs false

theorem taken_append (ys t : List Int) (ht : t.length = 4) : taken (ys ++ t) = if t = le 4 (chk 0 ys : Nat) then (ys, 0) else ([], 9) := by
  have hl : (ys ++ t).length = ys.length + 4 := by rw [List.length_append, ht]
  unfold taken
  rw [if_neg (by omega), hl, Nat.add_sub_cancel, List.drop_left, List.take_left]

theorem taken_turned {ys : List Int} (ho : Oct ys) {k : Nat} (hk : k < (ys ++ le 4 (chk 0 ys : Nat)).length) {y : Int} (hy0 : 0 ≤ y) (hy : y < 256) (hne : y ≠ (ys ++ le 4 (chk 0 ys : Nat)).getD k 0) :
    taken ((ys ++ le 4 (chk 0 ys : Nat)).set k y) = ([], 9) := by
  have h4 : (le 4 (chk 0 ys : Nat)).length = 4 := le_length _ _
  by_cases hkn : k < ys.length
  · rw [List.set_append_left _ _ hkn, taken_append _ _ h4, if_neg]
    intro e
    have e' := le_inj 4 (by omega) (by have := chk_lt 0 ys; omega) (by omega) (by have := chk_lt 0 (ys.set k y); omega) e
    refine chk_set ho hkn hy0 hy ?_ (by omega)
    intro e2
    apply hne
    rw [e2]
    simp [List.getD, List.getElem?_append_left hkn]
  · rw [List.set_append_right _ _ (by omega), taken_append _ _ (by rw [List.length_set]; exact h4), if_neg]
    intro e
    apply hne
    rw [List.length_append, h4] at hk
    have hj : k - ys.length < (le 4 (chk 0 ys : Nat)).length := by rw [h4]; omega
    have e2 : ((le 4 (chk 0 ys : Nat)).set (k - ys.length) y).getD (k - ys.length) 0 = (le 4 (chk 0 ys : Nat)).getD (k - ys.length) 0 := by rw [e]
    have e3 : ((le 4 (chk 0 ys : Nat)).set (k - ys.length) y).getD (k - ys.length) 0 = y := by simp [List.getD, hj]
    rw [← e3, e2]
    simp [List.getD, List.getElem?_append_right (Nat.le_of_not_lt hkn)]

set_option maxHeartbeats 4000000 in
theorem crcTurns_walk (v : Value) (zs : List Int) (at' b0 : Int) (w : World) (h : Rd .u8 w.heap.size w v zs) (ho : Oct zs) (hat : (Lit.int .i64 at').wf = true) (hb0 : 0 ≤ b0) (hb1 : b0 < 256) :
    Calls Try.prog 7 #[v, .int .i64 at', .int .u8 b0] w fun e w' => e = .returned (.bool true) ∧ Below w.heap.size w w' := by
  obtain ⟨ys, hys⟩ : ∃ ys, zs.take 40 = ys := ⟨_, rfl⟩
  have hoy : Oct ys := by rw [← hys]; exact ho.take 40
  have hly : ys.length ≤ 40 := by rw [← hys, List.length_take]; omega
  have HY : Hid (zs.take 40 = ys) := hys
  clear hys
  obtain ⟨ps, hps⟩ : ∃ ps, ys ++ le 4 (chk 0 ys : Nat) = ps := ⟨_, rfl⟩
  have hop : Oct ps := by rw [← hps]; exact hoy.append (oct_le _ _)
  have hlp : ps.length = ys.length + 4 := by rw [← hps, List.length_append, le_length]
  have HP : Hid (ys ++ le 4 (chk 0 ys : Nat) = ps) := hps
  clear hps
  have hge : ¬ (ps.length : Int) < 4 := by omega
  have hl44 : ps.length ≤ 44 := by omega
  have hpos : 0 < ps.length := by omega
  clear hlp
  have hbd := around_bd at' (ps.length : Int) (by omega)
  obtain ⟨k, hk⟩ := Int.eq_ofNat_of_zero_le hbd.1
  rw [hk] at hbd
  obtain ⟨-, hk1⟩ := hbd
  have har := fun w => around_any at' (ps.length : Int) w hat (by omega) (by omega)
  rw [hk] at har
  have HR : Hid (∀ w, Calls Try.prog 17 #[.int .i64 at', .int .i64 (ps.length : Int)] w fun e w' => e = .returned (.int .i64 (k : Int)) ∧ w = w') := har
  clear har hk
  have hk : k < ps.length := by omega
  have hk0 : (0 : Int) ≤ (k : Int) := by omega
  by_cases hz : b0 = 0
  · subst hz
    go_enter Try.func7, Try.ntmps7
    go_wp2_with fail
    refine (few_any _ zs _ 40 _ _ rfl h (by omega)).mono ?_
    rintro e w1 ⟨v1, rfl, ho1, hb1⟩
    rw [HY.out] at ho1
    go_wp2_with fail
    refine (put_any _ ys _ _ ho1.rd hoy (by omega)).mono ?_
    rintro e w2 ⟨v2, rfl, ho2, hb2⟩
    rw [HP.out] at ho2
    have hb12 := hb1.trans (hb2.mono hb1.size)
    obtain ⟨g, o, c, rfl, hg, hgc, hcm, hcell, hfr, hset⟩ := ho2.row hk
    have hown := hset ((ps.getD k 0).toNat ^^^ (1 : Int).toNat : Nat)
    have hbs : Below w.heap.size w (w2.setCell ⟨g, o + k, none⟩ (.int .u8 ((ps.getD k 0).toNat ^^^ (1 : Int).toNat : Nat))) := hb12.setCell (Nat.le_trans hb1.size hg) _
    have hxb := hop.getD k
    have hbx : bits .xor .u8 (ps.getD k 0) 1 = (((ps.getD k 0).toNat ^^^ (1 : Int).toNat : Nat) : Int) := u8_xor _ _ hxb.1 hxb.2 (by omega) (by omega)
    have hlt8 : (ps.getD k 0).toNat ^^^ (1 : Int).toNat < 256 := xor_lt8 (by omega) (by omega)
    have hne := xor_ne (x := ps.getD k 0) (b := 1) hxb.1 (by omega)
    have HTU : Hid (taken (ps.set k ((ps.getD k 0).toNat ^^^ (1 : Int).toNat : Nat)) = ([], 9)) := by
      have hpe := HP.out
      subst hpe
      exact taken_turned hoy hk (by omega) (by omega) hne
    have hos : Oct (ps.set k ((ps.getD k 0).toNat ^^^ (1 : Int).toNat : Nat)) := hop.set k (by omega) (by omega)
    have HLS : Hid ((ps.set k ((ps.getD k 0).toNat ^^^ (1 : Int).toNat : Nat)).length ≤ 1000000) := by show (ps.set k _).length ≤ 1000000; rw [List.length_set]; omega
    generalize ((ps.getD k 0).toNat ^^^ (1 : Int).toNat : Nat) = y at hown hbs hbx HTU hos HLS
    clear hset hne hxb hlt8
    generalize ps.getD k 0 = x at hcell hbx
    unfold maxLen at hcm
    go_wp2_with fail
    refine HR.out w2 |>.mono ?_
    rintro e w3 ⟨rfl, rfl⟩
    go_wp2_with fail
    refine (take_any _ (ps.set k y) _ _ hown.rd hos HLS.out).mono ?_
    rintro e w3 ⟨v3, rfl, ho3, hb3⟩
    rw [HTU.out] at ho3 ⊢
    obtain ⟨a3, c3, hv3⟩ := ho3.shape
    rw [show (([], 9) : List Int × Int).1 = [] from rfl, show ([] : List Int).length = 0 from rfl] at hv3
    subst hv3
    have hb13 := hbs.trans (hb3.mono hbs.size)
    go_wp2_with fail
    refine (lives_any _).mono ?_
    rintro e w5 ⟨rfl, hb5⟩
    go_wp2
    go_ret
    exact ⟨rfl, hb13.trans (hb5.mono hb13.size)⟩
  · have hbp : 0 < b0 := by omega
    go_enter Try.func7, Try.ntmps7
    go_wp2_with fail
    refine (few_any _ zs _ 40 _ _ rfl h (by omega)).mono ?_
    rintro e w1 ⟨v1, rfl, ho1, hb1⟩
    rw [HY.out] at ho1
    go_wp2_with fail
    refine (put_any _ ys _ _ ho1.rd hoy (by omega)).mono ?_
    rintro e w2 ⟨v2, rfl, ho2, hb2⟩
    rw [HP.out] at ho2
    have hb12 := hb1.trans (hb2.mono hb1.size)
    obtain ⟨g, o, c, rfl, hg, hgc, hcm, hcell, hfr, hset⟩ := ho2.row hk
    have hown := hset ((ps.getD k 0).toNat ^^^ (b0 : Int).toNat : Nat)
    have hbs : Below w.heap.size w (w2.setCell ⟨g, o + k, none⟩ (.int .u8 ((ps.getD k 0).toNat ^^^ (b0 : Int).toNat : Nat))) := hb12.setCell (Nat.le_trans hb1.size hg) _
    have hxb := hop.getD k
    have hbx : bits .xor .u8 (ps.getD k 0) b0 = (((ps.getD k 0).toNat ^^^ (b0 : Int).toNat : Nat) : Int) := u8_xor _ _ hxb.1 hxb.2 (by omega) (by omega)
    have hlt8 : (ps.getD k 0).toNat ^^^ (b0 : Int).toNat < 256 := xor_lt8 (by omega) (by omega)
    have hne := xor_ne (x := ps.getD k 0) (b := b0) hxb.1 (by omega)
    have HTU : Hid (taken (ps.set k ((ps.getD k 0).toNat ^^^ (b0 : Int).toNat : Nat)) = ([], 9)) := by
      have hpe := HP.out
      subst hpe
      exact taken_turned hoy hk (by omega) (by omega) hne
    have hos : Oct (ps.set k ((ps.getD k 0).toNat ^^^ (b0 : Int).toNat : Nat)) := hop.set k (by omega) (by omega)
    have HLS : Hid ((ps.set k ((ps.getD k 0).toNat ^^^ (b0 : Int).toNat : Nat)).length ≤ 1000000) := by show (ps.set k _).length ≤ 1000000; rw [List.length_set]; omega
    generalize ((ps.getD k 0).toNat ^^^ (b0 : Int).toNat : Nat) = y at hown hbs hbx HTU hos HLS
    clear hset hne hxb hlt8
    generalize ps.getD k 0 = x at hcell hbx
    unfold maxLen at hcm
    go_wp2_with fail
    refine HR.out w2 |>.mono ?_
    rintro e w3 ⟨rfl, rfl⟩
    go_wp2_with fail
    refine (take_any _ (ps.set k y) _ _ hown.rd hos HLS.out).mono ?_
    rintro e w3 ⟨v3, rfl, ho3, hb3⟩
    rw [HTU.out] at ho3 ⊢
    obtain ⟨a3, c3, hv3⟩ := ho3.shape
    rw [show (([], 9) : List Int × Int).1 = [] from rfl, show ([] : List Int).length = 0 from rfl] at hv3
    subst hv3
    have hb13 := hbs.trans (hb3.mono hbs.size)
    go_wp2_with fail
    refine (lives_any _).mono ?_
    rintro e w5 ⟨rfl, hb5⟩
    go_wp2
    go_ret
    exact ⟨rfl, hb13.trans (hb5.mono hb13.size)⟩
end Go.Proofs.Ytddnfhiegoeecaa
