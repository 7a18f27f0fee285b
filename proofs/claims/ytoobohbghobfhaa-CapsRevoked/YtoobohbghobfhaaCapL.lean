/-
  What the laws ask of a table: its root, what a mint by it and a revoke by it leave; the walk of the law's own example. Conditions: each theorem's own.
-/
import Derived.Test.YtoobohbghobfhaaCapR
namespace Go.Proofs.Ytoobohbghobfhaa
open Go.RowKit
set_option linter.unusedVariables false
set_option linter.unusedSimpArgs false

theorem sl_set_ne {S : List Sl} {i j : Nat} (x : Sl) (h : i ≠ j) : (S.set i x).getD j Sl.zero = S.getD j Sl.zero := by
  simp only [List.getD, List.getElem?_set_ne h]
theorem sl_set_eq {S : List Sl} {i : Nat} (x : Sl) (h : i < S.length) : (S.set i x).getD i Sl.zero = x := by
  simp [List.getD, h]
theorem good_ne {S : List Sl} {i : Nat} {c : Cp} (x : Sl) (h : i ≠ c.s.toNat) : goodB (S.set i x) c = goodB S c := by
  unfold goodB atS
  rw [sl_set_ne x h]
theorem at_ne {S : List Sl} {i : Nat} {c : Cp} (x : Sl) (h : i ≠ c.s.toNat) : atS (S.set i x) c = atS S c := by
  unfold atS
  rw [sl_set_ne x h]
theorem at_eq {S : List Sl} {i : Nat} {c : Cp} (x : Sl) (hi : i < S.length) (h : i = c.s.toNat) : atS (S.set i x) c = x := by
  unfold atS
  rw [← h, sl_set_eq x hi]
/-- what is good behind a slot was set -/
theorem good_eq {S : List Sl} {i : Nat} {c : Cp} {x : Sl} (hi : i < S.length) (h : i = c.s.toNat) (hg : goodB (S.set i x) c = true) : x.emp = false ∧ x.cp = c := by
  obtain ⟨_, _, h1, h2⟩ := goodB_yes hg
  rw [at_eq x hi h] at h1 h2
  exact ⟨h1, h2⟩
theorem good_cleared {S : List Sl} {c : Cp} : goodB (S.set c.s.toNat Sl.zero) c = false := by
  cases hg : goodB (S.set c.s.toNat Sl.zero) c
  · rfl
  · obtain ⟨h0, h8, h1, h2⟩ := goodB_yes hg
    by_cases hi : c.s.toNat < S.length
    · rw [at_eq Sl.zero hi rfl, emp_zero] at h1; cases h1
    · have : atS (S.set c.s.toNat Sl.zero) c = Sl.zero := by
        unfold atS
        rw [List.getD_eq_getElem?_getD, List.getElem?_eq_none (by rw [List.length_set]; omega)]; rfl
      rw [this, emp_zero] at h1; cases h1

/-- a table whose root is there -/
def RootOk (S : List Sl) (k n : Int) : Prop := TbOk S k n ∧ S.getD 0 Sl.zero = ⟨0, k * 1048576, 15⟩
def rootC (k : Int) : Cp := ⟨0, k * 1048576⟩
theorem newS_root {k : Int} (h1 : 1 ≤ k) (h2 : k ≤ 1073741824) : RootOk (newS k) k 1 := ⟨newS_ok h1 h2, rfl⟩
theorem RootOk.at {S : List Sl} {k n : Int} (h : RootOk S k n) : atS S (rootC k) = ⟨0, k * 1048576, 15⟩ := h.2
theorem RootOk.full0 {S : List Sl} {k n : Int} (h : RootOk S k n) : (S.getD 0 Sl.zero).emp = false := by
  have := h.1.k1
  have hne : ¬ k * 1048576 = 0 := by omega
  rw [h.2]; simp [Sl.emp, hne]
theorem RootOk.good {S : List Sl} {k n : Int} (h : RootOk S k n) : goodB S (rootC k) = true :=
  goodB_is (by show (0 : Int) ≤ 0; omega) (by show (0 : Int) < 8; omega) h.full0 (by rw [h.at]; rfl)
theorem RootOk.check {S : List Sl} {k n : Int} (h : RootOk S k n) {need : Nat} (hn : need < 16) : chkS S (rootC k) need = 0 :=
  chkS_good h.good (by rw [h.at]; exact has_15 need hn)
theorem RootOk.room {S : List Sl} {k n : Int} (h : RootOk S k n) (hl : (allS S).length < 8) : roomN S < 8 ∧ 0 < roomN S := by
  have h8 := room_lt (S := S) (by rw [h.1.len]; exact hl)
  rw [h.1.len] at h8
  refine ⟨h8, ?_⟩
  have h1 := room_emp (S := S) (by rw [h.1.len]; exact h8)
  by_cases e : roomN S = 0
  · rw [e, h.full0] at h1; cases h1
  · omega
/-- a mint by the root -/
def minted (S : List Sl) (k n : Int) (r : Nat) : List Sl := S.set (roomN S) ⟨roomN S, k * 1048576 + n, r⟩
theorem RootOk.mint {S : List Sl} {k n : Int} (h : RootOk S k n) (hl : (allS S).length < 8) (hn : n < 1048576) {r : Nat} (hr : r < 16) :
    RootOk (minted S k n r) k (n + 1) ∧ (allS (minted S k n r)).length = (allS S).length + 1 := by
  obtain ⟨h8, h0⟩ := h.room hl
  refine ⟨⟨h.1.put hn hr, ?_⟩, ?_⟩
  · unfold minted
    rw [sl_set_ne _ (by omega)]; exact h.2
  · refine allS_put_len (by rw [h.1.len]; exact h8) ?_
    have := h.1.k1
    have := h.1.n1
    have hne : ¬ k * 1048576 + n = 0 := by omega
    simp [Sl.emp, hne]
/-- what is good behind it -/
theorem RootOk.mint_good {S : List Sl} {k n : Int} (h : RootOk S k n) (hl : (allS S).length < 8) (r : Nat) (c : Cp) : goodB (minted S k n r) c = true ↔ (goodB S c = true ∨ c = ⟨roomN S, k * 1048576 + n⟩) := by
  obtain ⟨h8, h0⟩ := h.room hl
  have h1 := h.1.k1
  have h2 := h.1.n1
  have hne : ¬ k * 1048576 + n = 0 := by omega
  unfold minted
  by_cases e : roomN S = c.s.toNat
  · constructor
    · intro hg
      exact .inr (good_eq (by rw [h.1.len]; exact h8) e hg).2.symm
    · rintro (hg | rfl)
      · obtain ⟨_, _, g1, _⟩ := goodB_yes hg
        have := room_emp (S := S) (by rw [h.1.len]; exact h8)
        rw [e] at this
        unfold atS at g1
        rw [this] at g1; cases g1
      · refine goodB_is (by show (0 : Int) ≤ (roomN S : Int); omega) (by show (roomN S : Int) < 8; omega) ?_ ?_
        · rw [at_eq _ (by rw [h.1.len]; exact h8) e]; simp [Sl.emp, hne]
        · rw [at_eq _ (by rw [h.1.len]; exact h8) e]; rfl
  · rw [good_ne _ e]
    constructor
    · exact .inl
    · rintro (hg | rfl)
      · exact hg
      · exact absurd (by simp) e
/-- all that are good are of generations that were given out -/
theorem TbOk.old {S : List Sl} {k n : Int} (h : TbOk S k n) {c : Cp} (hg : goodB S c = true) : c.g < k * 1048576 + n ∧ k * 1048576 ≤ c.g := by
  obtain ⟨h0, h8, he, hc⟩ := goodB_yes hg
  obtain ⟨_, h2, h3, _⟩ := (h.atS h0 h8).full he
  rw [← hc]
  exact ⟨h3, h2⟩
theorem RootOk.cut {S : List Sl} {k n : Int} (h : RootOk S k n) {d : Cp} (hd : 1 ≤ d.s) (hg : goodB S d = true) : RootOk (S.set d.s.toNat Sl.zero) k n ∧ (allS (S.set d.s.toNat Sl.zero)).length + 1 = (allS S).length :=
  ⟨⟨h.1.set (.inl rfl), by rw [sl_set_ne _ (by omega)]; exact h.2⟩, h.1.cut_len hg⟩
theorem newS_len (k : Int) (h : 1 ≤ k) : (allS (newS k)).length = 1 := by
  have hne : ¬ k * 1048576 = 0 := by omega
  have h0 : (⟨0, k * 1048576, 15⟩ : Sl).emp = false := by simp [Sl.emp, hne]
  unfold newS
  rw [allS_yes h0]
  rfl
theorem newS_good {k : Int} (h1 : 1 ≤ k) (h2 : k ≤ 1073741824) {c : Cp} (hg : goodB (newS k) c = true) : c = rootC k := by
  obtain ⟨h0, h8, he, hc⟩ := goodB_yes hg
  obtain ⟨s, g⟩ := c
  simp only at h0 h8
  obtain ⟨i, rfl⟩ := Int.eq_ofNat_of_zero_le h0
  have hi : i < 8 := by omega
  unfold atS at he hc
  simp only [Int.toNat_natCast] at he hc
  rcases lt8 hi with rfl | rfl | rfl | rfl | rfl | rfl | rfl | rfl
  · exact hc.symm
  all_goals exact absurd (show Sl.zero.emp = false from he) (by decide)

/-! the contracts, by the root -/
theorem rootR_any (b : Nat) (S : List Sl) (k n : Int) (w : World) (h : TbAt w b S k n) (hR : TbOk S k n) : Calls Try.prog 12 #[.pointer (some ⟨b, 0, none⟩)] w fun e w' => e = .returned (.agg #[.int .i64 0, .int .i64 (k * 1048576)]) ∧ Grow w w' :=
  root_any b S k n w h hR.len hR.k1 hR.k2
theorem mintR_any (b : Nat) (S : List Sl) (k n : Int) (r : Nat) (w : World) (h : TbAt w b S k n) (hR : RootOk S k n) (hl : (allS S).length < 8) (hn : n < 1048576) (hr : r < 16) : Calls Try.prog 21 #[.pointer (some ⟨b, 0, none⟩), .agg #[.int .i64 0, .int .i64 (k * 1048576)], .int .i64 r] w fun e w' => e = .returned (.tuple #[.agg #[.int .i64 (roomN S), .int .i64 (k * 1048576 + n)], .int .i64 0]) ∧ TbAt w' b (minted S k n r) k (n + 1) ∧ UpdS (fun x => x = b) w w' :=
  mint_5 b S k n (rootC k) r w h hR.1 (hR.check (by omega)) r hr rfl (hR.check hr) hn (hR.room hl).1
theorem mintR_full (b : Nat) (S : List Sl) (k n : Int) (r : Nat) (w : World) (h : TbAt w b S k n) (hR : RootOk S k n) (hl : (allS S).length = 8) (hr : r < 16) : Calls Try.prog 21 #[.pointer (some ⟨b, 0, none⟩), .agg #[.int .i64 0, .int .i64 (k * 1048576)], .int .i64 r] w fun e w' => e = .returned (.tuple #[.agg #[.int .i64 0, .int .i64 0], .int .i64 13]) ∧ Grow w w' :=
  mint_4 b S k n (rootC k) r w h hR.1 (hR.check (by omega)) r hr rfl (hR.check hr) (.inr (by rw [room_full (by rw [hR.1.len]; exact hl), hR.1.len]; omega))
theorem revokeR_yes (b : Nat) (S : List Sl) (k n : Int) (d : Cp) (w : World) (h : TbAt w b S k n) (hR : RootOk S k n) (hg : goodB S d = true) : Calls Try.prog 15 #[.pointer (some ⟨b, 0, none⟩), .agg #[.int .i64 0, .int .i64 (k * 1048576)], .agg #[.int .i64 d.s, .int .i64 d.g]] w fun e w' => e = .returned (.int .i64 0) ∧ TbAt w' b (S.set d.s.toNat Sl.zero) k n ∧ UpdS (fun x => x = b) w w' := by
  have := revoke_any b S k n (rootC k) d w h hR.1
  have e : errR S (rootC k) d = 0 := by unfold errR; rw [hR.check (by omega), hg]; rfl
  unfold setR at this
  rw [e, if_pos rfl] at this
  exact this
theorem revokeR_no (b : Nat) (S : List Sl) (k n : Int) (d : Cp) (w : World) (h : TbAt w b S k n) (hR : RootOk S k n) (hg : goodB S d = false) : Calls Try.prog 15 #[.pointer (some ⟨b, 0, none⟩), .agg #[.int .i64 0, .int .i64 (k * 1048576)], .agg #[.int .i64 d.s, .int .i64 d.g]] w fun e w' => e = .returned (.int .i64 10) ∧ Grow w w' :=
  revoke_2 b S k n (rootC k) d w h hR.1 (hR.check (by omega)) hg
theorem checkR_no (b : Nat) (S : List Sl) (k n : Int) (d : Cp) (w : World) (h : TbAt w b S k n) (hR : TbOk S k n) (hg : goodB S d = false) : Calls Try.prog 18 #[.pointer (some ⟨b, 0, none⟩), .agg #[.int .i64 d.s, .int .i64 d.g], .int .i64 0] w fun e w' => e = .returned (.int .i64 10) ∧ Grow w w' := by
  have := check_any b S k n d 0 w h hR (by omega)
  rw [chkS_bad 0 hg] at this
  exact this
theorem checkR_yes (b : Nat) (S : List Sl) (k n : Int) (d : Cp) (w : World) (h : TbAt w b S k n) (hR : TbOk S k n) (hg : goodB S d = true) : Calls Try.prog 18 #[.pointer (some ⟨b, 0, none⟩), .agg #[.int .i64 d.s, .int .i64 d.g], .int .i64 0] w fun e w' => e = .returned (.int .i64 0) ∧ Grow w w' := by
  have := check_any b S k n d 0 w h hR (by omega)
  rw [chkS_good hg (has_0 _ (hR.rlt d))] at this
  exact this

set_option maxHeartbeats 4000000 in
theorem lives_any (w : World) : Calls Try.prog 26 #[] w fun e w' => e = .returned (.bool true) ∧ Grow w w' := by
  have h1 := new_in 1 w (by omega) (by omega)
  obtain ⟨b, hb⟩ : ∃ b, b = w.heap.size := ⟨_, rfl⟩
  have HB : Hid (b = w.heap.size) := hb
  rw [← hb] at h1
  clear hb
  have hR := newS_root (k := 1) (by omega) (by omega)
  have K2 := hid (fun u (hu : TbAt u b (newS 1) 1 1) => rootR_any b (newS 1) 1 1 u hu hR.1)
  have K3 : Hid (∀ u, TbAt u b (newS 1) 1 1 → Calls Try.prog 21 #[.pointer (some ⟨b, 0, none⟩), .agg #[.int .i64 0, .int .i64 1048576], .int .i64 1] u fun e w' => e = .returned (.tuple #[.agg #[.int .i64 1, .int .i64 1048577], .int .i64 0]) ∧ TbAt w' b (minted (newS 1) 1 1 1) 1 (1 + 1) ∧ UpdS (fun x => x = b) u w') := fun u hu => mintR_any b (newS 1) 1 1 1 u hu hR (by rw [newS_len 1 (by omega)]; omega) (by omega) (by omega)
  have hR2 := (hR.mint (by rw [newS_len 1 (by omega)]; omega) (by omega) (show 1 < 16 by omega)).1
  have K4 := hid (fun u (hu : TbAt u b (minted (newS 1) 1 1 1) 1 (1 + 1)) => rootR_any b _ 1 _ u hu hR2.1)
  simp only [show (1 : Int) * 1048576 = 1048576 from rfl] at K2 K4
  clear hR hR2
  go_enter Try.func26, Try.ntmps26
  go_wp2_with fail
  refine h1.mono ?_
  rintro e w1 ⟨rfl, t1, g1⟩
  have k2 := K2.out w1 t1
  have T1 := hid t1
  have G1 := hid g1
  clear h1 t1 g1 K2
  go_wp2_with fail
  refine k2.mono ?_
  rintro e w2 ⟨rfl, g2⟩
  have k3 := K3.out w2 (T1.out.grow g2)
  have G2 := hid (G1.out.trans g2)
  clear k2 g2 T1 G1 K3
  go_wp2_with fail
  refine k3.mono ?_
  rintro e w3 ⟨rfl, t3, u3⟩
  have G3 : Hid (Grow w w3) := UpdS.new G2.out u3 (fun i hi => by have := HB.out; omega)
  have t4 := t3.grow ((Grow.refl w3).alloc (.cells #[.int .i64 1, .int .i64 1048577] 33))
  have k4 := K4.out _ t4
  obtain ⟨W4, hW4⟩ : ∃ W4, W4 = w3.alloc (.cells #[.int .i64 1, .int .i64 1048577] 33) := ⟨_, rfl⟩
  have HV : Hid (VarAt W4 w3.heap.size [.int .i64 1, .int .i64 1048577] ∧ Grow w W4) := by
    rw [hW4]; exact ⟨VarAt.new w3 [.int .i64 1, .int .i64 1048577] 33, G3.out.alloc _⟩
  rw [← hW4] at k4
  clear k3 t3 u3 t4 K4 G2 G3
  go_wp2_with fail
  rw [← hW4]
  clear hW4
  refine k4.mono ?_
  rintro e w5 ⟨rfl, g5⟩
  obtain ⟨⟨n0, n1⟩, -⟩ := (HV.out.1.grow g5).two
  clear k4
  go_wp2
  go_ret
  exact ⟨rfl, HV.out.2.trans g5⟩
end Go.Proofs.Ytoobohbghobfhaa
