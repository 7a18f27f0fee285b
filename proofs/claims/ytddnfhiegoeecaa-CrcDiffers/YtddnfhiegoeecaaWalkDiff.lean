/-
  The walks of allotmentlaw02.CrcDiffers and CrcTurns: they return true, and nothing that was there is written. Conditions: none but the reading of their arguments.
-/
import Derived.Test.YtddnfhiegoeecaaLive
namespace Go.Proofs.Ytddnfhiegoeecaa
open Go.RowKit
set_option linter.unusedVariables false
set_option linter.unusedSimpArgs false

/-- a slice of the call's own, one element of it set -/
theorem Own.row {k : IntKind} {B : Nat} {w : World} {v : Value} {zs : List Int} (h : Own k B w v zs) {j : Nat} (hj : j < zs.length) :
    ∃ g o c, v = .slice (some ⟨g, o, none⟩) zs.length c ∧ B ≤ g ∧ zs.length ≤ c ∧ c ≤ maxLen ∧ w.cell? ⟨g, o + j, none⟩ = some (.int k (zs.getD j 0)) ∧ w.frozen? ⟨g, o + j, none⟩ = false ∧
      ∀ y, Own k B (w.setCell ⟨g, o + j, none⟩ (.int k y)) v (zs.set j y) := by
  rcases h with ⟨rfl, _⟩ | ⟨g, o, c, rfl, hb, hnc, hcm, hc, ht⟩
  · exact absurd hj (Nat.not_lt_zero _)
  · refine ⟨g, o, c, rfl, hb, hnc, hcm, hc j hj, (ht j (by omega)).2, fun y => .inr ⟨g, o, c, by rw [List.length_set], hb, by rw [List.length_set]; exact hnc, hcm, fun i hi => ?_, fun i hi => ⟨?_, ?_⟩⟩⟩
    · rw [List.length_set] at hi
      by_cases e : i = j
      · subst e
        rw [World.cell?_setCell_same _ _ _ (hc i hi)]
        simp [List.getD, hi]
      · rw [World.cell?_setCell_other _ _ _ _ (by intro h; injection h with _ h2; omega), hc i hi]
        simp [List.getD, Ne.symm e]
    · obtain ⟨u, hu⟩ := Option.isSome_iff_exists.1 (ht i hi).1
      by_cases e : (⟨g, o + j, none⟩ : Addr) = ⟨g, o + i, none⟩
      · rw [e, World.cell?_setCell_same _ _ _ hu]; rfl
      · rw [World.cell?_setCell_other _ _ _ _ e, hu]; rfl
    · rw [World.frozen?_setCell]; exact (ht i hi).2

theorem xor_ne {x b : Int} (hx0 : 0 ≤ x) (hb0 : 0 < b) : ((x.toNat ^^^ b.toNat : Nat) : Int) ≠ x := by
  intro h
  have h1 : x.toNat ^^^ b.toNat = x.toNat := by omega
  have h2 : x.toNat ^^^ (x.toNat ^^^ b.toNat) = 0 := by rw [h1, Nat.xor_self]
  rw [← Nat.xor_assoc, Nat.xor_self, Nat.zero_xor] at h2
  omega

set_option maxHeartbeats 4000000 in
theorem crcDiffers_walk (v : Value) (zs : List Int) (at' b0 : Int) (w : World) (h : Rd .u8 w.heap.size w v zs) (ho : Oct zs) (hat : (Lit.int .i64 at').wf = true) (hb0 : 0 ≤ b0) (hb1 : b0 < 256) :
    Calls Try.prog 8 #[v, .int .i64 at', .int .u8 b0] w fun e w' => e = .returned (.bool true) ∧ Below w.heap.size w w' := by
  obtain ⟨ys, hys⟩ : ∃ ys, zs.take 40 = ys := ⟨_, rfl⟩
  have hoy : Oct ys := by rw [← hys]; exact ho.take 40
  have hly : ys.length ≤ 40 := by rw [← hys, List.length_take]; omega
  have HY : Hid (zs.take 40 = ys) := hys
  have HY4 : Hid (ys.take 40 = ys) := List.take_of_length_le hly
  clear hys
  by_cases hnil : ys.length = 0
  · have hnil' : (ys.length : Int) = 0 := by omega
    go_enter Try.func8, Try.ntmps8
    go_wp2_with fail
    refine (few_any _ zs _ 40 _ _ rfl h (by omega)).mono ?_
    rintro e w1 ⟨v1, rfl, ho1, hb1⟩
    rw [HY.out] at ho1
    obtain ⟨a1, c1, hv1⟩ := ho1.shape
    rw [hnil] at hv1
    subst hv1
    go_wp2_with fail
    refine (lives_any _).mono ?_
    rintro e w2 ⟨rfl, hb2⟩
    go_wp2
    go_ret
    exact ⟨rfl, hb1.trans (hb2.mono hb1.size)⟩
  have hpos : 0 < ys.length := by omega
  have hnil' : ¬ (ys.length : Int) = 0 := by omega
  have hbd := around_bd at' (ys.length : Int) (by omega)
  obtain ⟨k, hk⟩ := Int.eq_ofNat_of_zero_le hbd.1
  rw [hk] at hbd
  obtain ⟨-, hk1⟩ := hbd
  have har := fun w => around_any at' (ys.length : Int) w hat (by omega) (by omega)
  rw [hk] at har
  have HR : Hid (∀ w, Calls Try.prog 17 #[.int .i64 at', .int .i64 (ys.length : Int)] w fun e w' => e = .returned (.int .i64 (k : Int)) ∧ w = w') := har
  clear har hk
  have hk : k < ys.length := by omega
  have hk0 : (0 : Int) ≤ (k : Int) := by omega
  by_cases hz : b0 = 0
  · subst hz
    go_enter Try.func8, Try.ntmps8
    go_wp2_with fail
    refine (few_any _ zs _ 40 _ _ rfl h (by omega)).mono ?_
    rintro e w1 ⟨v1, rfl, ho1, hb1⟩
    rw [HY.out] at ho1
    have hr1 := ho1.rd
    obtain ⟨a1, c1, hv1⟩ := ho1.shape
    subst hv1
    go_wp2_with fail
    refine (few_any _ ys _ 40 _ _ rfl hr1 (by omega)).mono ?_
    rintro e w2 ⟨v2, rfl, ho2, hb2⟩
    rw [HY4.out] at ho2
    have hr2 := (hr1.below hb2)
    have hb12 := hb1.trans (hb2.mono hb1.size)
    obtain ⟨g, o, c, rfl, hg, hgc, hcm, hcell, hfr, hset⟩ := ho2.row hk
    have hown := hset ((ys.getD k 0).toNat ^^^ (1 : Int).toNat : Nat)
    have hrs : Rd .u8 (w2.setCell ⟨g, o + k, none⟩ (.int .u8 ((ys.getD k 0).toNat ^^^ (1 : Int).toNat : Nat))).heap.size (w2.setCell ⟨g, o + k, none⟩ (.int .u8 ((ys.getD k 0).toNat ^^^ (1 : Int).toNat : Nat))) (.slice a1 ys.length c1) ys := (hr2.below ((Below.refl w1.heap.size w2).setCell hg _)).size
    have hbs : Below w.heap.size w (w2.setCell ⟨g, o + k, none⟩ (.int .u8 ((ys.getD k 0).toNat ^^^ (1 : Int).toNat : Nat))) := hb12.setCell (Nat.le_trans hb1.size hg) _
    have hxb := hoy.getD k
    have hbx : bits .xor .u8 (ys.getD k 0) 1 = (((ys.getD k 0).toNat ^^^ (1 : Int).toNat : Nat) : Int) := u8_xor _ _ hxb.1 hxb.2 (by omega) (by omega)
    have hlt8 : (ys.getD k 0).toNat ^^^ (1 : Int).toNat < 256 := xor_lt8 (by omega) (by omega)
    have hne := xor_ne (x := ys.getD k 0) (b := 1) hxb.1 (by omega)
    have HNE : Hid (chk 0 (ys.set k ((ys.getD k 0).toNat ^^^ (1 : Int).toNat : Nat)) ≠ chk 0 ys) := chk_set hoy hk (by omega) (by omega) hne
    have hos : Oct (ys.set k ((ys.getD k 0).toNat ^^^ (1 : Int).toNat : Nat)) := hoy.set k (by omega) (by omega)
    generalize ((ys.getD k 0).toNat ^^^ (1 : Int).toNat : Nat) = y at hown hrs hbs hbx HNE hos
    clear hset hne hxb hlt8
    generalize ys.getD k 0 = x at hcell hbx
    unfold maxLen at hcm
    go_wp2_with fail
    refine HR.out w2 |>.mono ?_
    rintro e w3 ⟨rfl, rfl⟩
    go_wp2_with fail
    refine (sum_any _ (ys.set k y) _ _ hown.rd hos).mono ?_
    rintro e w3 ⟨rfl, hb3⟩
    have hb13 := hbs.trans (hb3.mono hbs.size)
    go_wp2_with fail
    refine (sum_any _ ys _ _ (hrs.below hb3) hoy).mono ?_
    rintro e w4 ⟨rfl, hb4⟩
    have hb14 := hb13.trans (hb4.mono hb13.size)
    have hne' : ¬ ((chk 0 (ys.set k y) : Nat) : Int) = ((chk 0 ys : Nat) : Int) := fun h => HNE.out (by omega)
    go_wp2_with fail
    refine (lives_any _).mono ?_
    rintro e w5 ⟨rfl, hb5⟩
    go_wp2
    go_ret
    exact ⟨ret_bool (bne_iff_ne.2 hne'), hb14.trans (hb5.mono hb14.size)⟩
  · have hbp : 0 < b0 := by omega
    go_enter Try.func8, Try.ntmps8
    go_wp2_with fail
    refine (few_any _ zs _ 40 _ _ rfl h (by omega)).mono ?_
    rintro e w1 ⟨v1, rfl, ho1, hb1⟩
    rw [HY.out] at ho1
    have hr1 := ho1.rd
    obtain ⟨a1, c1, hv1⟩ := ho1.shape
    subst hv1
    go_wp2_with fail
    refine (few_any _ ys _ 40 _ _ rfl hr1 (by omega)).mono ?_
    rintro e w2 ⟨v2, rfl, ho2, hb2⟩
    rw [HY4.out] at ho2
    have hr2 := (hr1.below hb2)
    have hb12 := hb1.trans (hb2.mono hb1.size)
    obtain ⟨g, o, c, rfl, hg, hgc, hcm, hcell, hfr, hset⟩ := ho2.row hk
    have hown := hset ((ys.getD k 0).toNat ^^^ (b0 : Int).toNat : Nat)
    have hrs : Rd .u8 (w2.setCell ⟨g, o + k, none⟩ (.int .u8 ((ys.getD k 0).toNat ^^^ (b0 : Int).toNat : Nat))).heap.size (w2.setCell ⟨g, o + k, none⟩ (.int .u8 ((ys.getD k 0).toNat ^^^ (b0 : Int).toNat : Nat))) (.slice a1 ys.length c1) ys := (hr2.below ((Below.refl w1.heap.size w2).setCell hg _)).size
    have hbs : Below w.heap.size w (w2.setCell ⟨g, o + k, none⟩ (.int .u8 ((ys.getD k 0).toNat ^^^ (b0 : Int).toNat : Nat))) := hb12.setCell (Nat.le_trans hb1.size hg) _
    have hxb := hoy.getD k
    have hbx : bits .xor .u8 (ys.getD k 0) b0 = (((ys.getD k 0).toNat ^^^ (b0 : Int).toNat : Nat) : Int) := u8_xor _ _ hxb.1 hxb.2 (by omega) (by omega)
    have hlt8 : (ys.getD k 0).toNat ^^^ (b0 : Int).toNat < 256 := xor_lt8 (by omega) (by omega)
    have hne := xor_ne (x := ys.getD k 0) (b := b0) hxb.1 (by omega)
    have HNE : Hid (chk 0 (ys.set k ((ys.getD k 0).toNat ^^^ (b0 : Int).toNat : Nat)) ≠ chk 0 ys) := chk_set hoy hk (by omega) (by omega) hne
    have hos : Oct (ys.set k ((ys.getD k 0).toNat ^^^ (b0 : Int).toNat : Nat)) := hoy.set k (by omega) (by omega)
    generalize ((ys.getD k 0).toNat ^^^ (b0 : Int).toNat : Nat) = y at hown hrs hbs hbx HNE hos
    clear hset hne hxb hlt8
    generalize ys.getD k 0 = x at hcell hbx
    unfold maxLen at hcm
    go_wp2_with fail
    refine HR.out w2 |>.mono ?_
    rintro e w3 ⟨rfl, rfl⟩
    go_wp2_with fail
    refine (sum_any _ (ys.set k y) _ _ hown.rd hos).mono ?_
    rintro e w3 ⟨rfl, hb3⟩
    have hb13 := hbs.trans (hb3.mono hbs.size)
    go_wp2_with fail
    refine (sum_any _ ys _ _ (hrs.below hb3) hoy).mono ?_
    rintro e w4 ⟨rfl, hb4⟩
    have hb14 := hb13.trans (hb4.mono hb13.size)
    have hne' : ¬ ((chk 0 (ys.set k y) : Nat) : Int) = ((chk 0 ys : Nat) : Int) := fun h => HNE.out (by omega)
    go_wp2_with fail
    refine (lives_any _).mono ?_
    rintro e w5 ⟨rfl, hb5⟩
    go_wp2
    go_ret
    exact ⟨ret_bool (bne_iff_ne.2 hne'), hb14.trans (hb5.mono hb14.size)⟩
end Go.Proofs.Ytddnfhiegoeecaa
