/-
  The program's reader and the document's, side by side: what they tell is the same. Conditions: each theorem's own.
-/
import Derived.Test.YtdafamocnjfmjaaDoorRLayRB
namespace Go.Proofs.YtdafamocnjfmjaaDoor
open Go.RowKit
set_option linter.unusedVariables false
set_option linter.unusedSimpArgs false

/-- The program's reader (what is left, the error) and the document's (the place, whether there was an error) of the bytes ys. -/
def Sync (ys zs : List Int) (e : Int) (i : Nat) (bad : Bool) : Prop :=
  i ≤ ys.length ∧ ((bad = true ∧ zs = [] ∧ e = 2) ∨ (bad = false ∧ zs = ys.drop i ∧ e = 0))

theorem Sync.start (ys : List Int) : Sync ys ys 0 0 false := ⟨Nat.zero_le _, .inr ⟨rfl, rfl, rfl⟩⟩

theorem Sync.len {ys zs : List Int} {e : Int} {i : Nat} {bad : Bool} (h : Sync ys zs e i bad) : (zs.length : Int) = if bad = true then 0 else (ys.length : Int) - (i : Int) := by
  obtain ⟨hi, ⟨rfl, rfl, rfl⟩ | ⟨rfl, rfl, rfl⟩⟩ := h
  · rfl
  · rw [List.length_drop]; simp; omega

theorem Sync.errno {ys zs : List Int} {e : Int} {i : Nat} {bad : Bool} (h : Sync ys zs e i bad) : e = if bad = true then 2 else 0 := by
  obtain ⟨hi, ⟨rfl, rfl, rfl⟩ | ⟨rfl, rfl, rfl⟩⟩ := h <;> rfl

theorem Sync.fin {ys zs : List Int} {e : Int} {i : Nat} {bad : Bool} (h : Sync ys zs e i bad) : (if zs.length = 0 then e else 2) = if bad = true ∨ i < ys.length then 2 else 0 := by
  obtain ⟨hi, ⟨rfl, rfl, rfl⟩ | ⟨rfl, rfl, rfl⟩⟩ := h
  · rfl
  · rw [List.length_drop]
    by_cases hlt : i < ys.length
    · rw [if_neg (by omega), if_pos (Or.inr hlt)]
    · rw [if_pos (by omega), if_neg (by simp; omega)]

theorem Sync.byte {ys zs : List Int} {e : Int} {i : Nat} {bad : Bool} (h : Sync ys zs e i bad) (hby : Byte ys) : Byte zs := by
  obtain ⟨hi, ⟨rfl, rfl, rfl⟩ | ⟨rfl, rfl, rfl⟩⟩ := h
  · intro x hx; cases hx
  · exact hby.drop i

/-- A number. -/
theorem Sync.uint {ys zs : List Int} {e : Int} {i : Nat} {bad : Bool} (h : Sync ys zs e i bad) (hby : Byte ys) (hl : ys.length ≤ 1000000) :
    ∃ i' bad', Sync ys (urest zs) (uerr zs e) i' bad' ∧
      ∀ (w : World) (c B : Nat), RAt w c B ys i bad → Calls Tryd.prog 38 #[.pointer (some ⟨c, 0, none⟩)] w fun en w' => en = .returned (.int .u64 (uval zs)) ∧ RAt w' c B ys i' bad' ∧ Upd c w w' := by
  obtain ⟨hi, ⟨rfl, rfl, rfl⟩ | ⟨rfl, rfl, rfl⟩⟩ := h
  · exact ⟨i, true, ⟨hi, .inl ⟨rfl, rfl, rfl⟩⟩, fun w c B hr => uintW_bad c B ys i w hr⟩
  · by_cases hs : ys.length < i + 8
    · have h8 : (ys.drop i).length < 8 := by rw [List.length_drop]; omega
      refine ⟨i, true, ⟨hi, .inl ⟨rfl, ?_, ?_⟩⟩, fun w c B hr => ?_⟩
      · unfold urest; rw [if_pos h8]
      · unfold uerr; rw [if_pos h8]
      · unfold uval; rw [if_pos h8]; exact uintW_short c B ys i w hr hs hi hl
    · have h8 : ¬ (ys.drop i).length < 8 := by rw [List.length_drop]; omega
      refine ⟨i + 8, false, ⟨by omega, .inr ⟨rfl, ?_, ?_⟩⟩, fun w c B hr => ?_⟩
      · unfold urest; rw [if_neg h8, List.drop_drop]
      · unfold uerr; rw [if_neg h8]
      · unfold uval; rw [if_neg h8]; exact uintW_ok c B ys i w hr hby (by omega) hl

/-- A text. -/
theorem Sync.bytes {ys zs : List Int} {e : Int} {i : Nat} {bad : Bool} (h : Sync ys zs e i bad) (hby : Byte ys) (hl : ys.length ≤ 1000000) (most : Int) (hm : (Lit.int .i64 most).wf = true) :
    ∃ (res zs' : List Int) (e' : Int) (i' : Nat) (bad' : Bool), Sync ys zs' e' i' bad' ∧
      (∀ (w : World) (b : Nat) (p : Nat → Prop), RdrAt w b p zs e → Calls Tryd.prog 34 #[.pointer (some ⟨b, 0, none⟩), .int .i64 most] w fun en w' => ∃ v, en = .returned v ∧ Own .u8 w.heap.size w' v res ∧ RdrAt w' b p zs' e' ∧ Upd b w w') ∧
      ∀ (w : World) (c B : Nat), RAt w c B ys i bad → Calls Tryd.prog 39 #[.pointer (some ⟨c, 0, none⟩), .int .i64 most] w fun en w' => ∃ v, en = .returned v ∧ Rd .u8 B w' v res ∧ RAt w' c B ys i' bad' ∧ Upd c w w' := by
  have hzb := h.byte hby
  obtain ⟨hi, ⟨rfl, rfl, rfl⟩ | ⟨rfl, rfl, rfl⟩⟩ := h
  · refine ⟨[], [], 2, i, true, ⟨hi, .inl ⟨rfl, rfl, rfl⟩⟩, fun w b p hr => ?_, fun w c B hr => ?_⟩
    · exact (bytesR_short b [] 2 most w hr hzb (by simp)).mono fun en w' ⟨he, h1, h2⟩ => ⟨_, he, Own.nil _ _ _ _, h1, h2⟩
    · exact (bytesW_short c B ys i true most w hr (.inl rfl) hi hl).mono fun en w' ⟨he, h1, h2⟩ => ⟨_, he, Rd.nil _ _ _ _ _ (Nat.zero_le _), h1, h2⟩
  · by_cases hs : ys.length < i + 8
    · have h8 : (ys.drop i).length < 8 := by rw [List.length_drop]; omega
      refine ⟨[], [], 2, i, true, ⟨hi, .inl ⟨rfl, rfl, rfl⟩⟩, fun w b p hr => ?_, fun w c B hr => ?_⟩
      · exact (bytesR_short b _ 0 most w hr hzb h8).mono fun en w' ⟨he, h1, h2⟩ => ⟨_, he, Own.nil _ _ _ _, h1, h2⟩
      · exact (bytesW_short c B ys i false most w hr (.inr hs) hi hl).mono fun en w' ⟨he, h1, h2⟩ => ⟨_, he, Rd.nil _ _ _ _ _ (Nat.zero_le _), h1, h2⟩
    · have h8 : ¬ (ys.drop i).length < 8 := by rw [List.length_drop]; omega
      have hn := val_bd ((ys.drop i).take 8) ((hby.drop i).take 8)
      obtain ⟨n, hnn⟩ := Int.eq_ofNat_of_zero_le hn.1
      have hdl : (((ys.drop i).drop 8).length : Int) = (ys.length : Int) - ((i + 8 : Nat) : Int) := by rw [List.length_drop, List.length_drop]; omega
      by_cases hbad : most < 0 ∨ most < (n : Int) ∨ (ys.length : Int) - ((i + 8 : Nat) : Int) < (n : Int)
      · refine ⟨[], [], 2, i + 8, true, ⟨by omega, .inl ⟨rfl, rfl, rfl⟩⟩, fun w b p hr => ?_, fun w c B hr => ?_⟩
        · exact (bytesR_bad b _ most n w hr hzb h8 hm hnn (by rw [hdl]; exact hbad)).mono fun en w' ⟨he, h1, h2⟩ => ⟨_, he, Own.nil _ _ _ _, h1, h2⟩
        · exact (bytesW_bad c B ys i (i + 8) most n w hr hby (by omega) hl rfl hm hnn hbad).mono fun en w' ⟨he, h1, h2⟩ => ⟨_, he, Rd.nil _ _ _ _ _ (Nat.zero_le _), h1, h2⟩
      · refine ⟨(ys.drop (i + 8)).take n, ys.drop (i + 8 + n), 0, i + 8 + n, false, ⟨by omega, .inr ⟨rfl, rfl, rfl⟩⟩, fun w b p hr => ?_, fun w c B hr => ?_⟩
        · have := bytesR_ok b (ys.drop i) most n w hr hzb h8 hm hnn (by omega) (by have := hdl; omega) (by rw [List.length_drop]; omega)
          rw [List.drop_drop, List.drop_drop] at this
          exact this
        · exact bytesW_ok c B ys i (i + 8) most n w hr hby (by omega) hl rfl hm hnn (by omega) (by omega)

end Go.Proofs.YtdafamocnjfmjaaDoor
