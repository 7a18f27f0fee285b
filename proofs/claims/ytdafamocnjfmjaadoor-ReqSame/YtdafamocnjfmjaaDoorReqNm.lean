/-
  The walks of the operations' names: Name, the document's Name. Conditions: each theorem's own.
-/
import Derived.Test.YtdafamocnjfmjaaDoorReqMath
namespace Go.Proofs.YtdafamocnjfmjaaDoor
open Go.RowKit
set_option linter.unusedVariables false
set_option linter.unusedSimpArgs false

/-- the table of names lies in its variable -/
def WT (w : World) : Prop := ∀ k, k < 9 → w.cell? ⟨0, k, none⟩ = some (.string (nm k))
theorem grow_cell {w w' : World} (h : Grow w w') {p : Addr} {u : Value} (hp : w.cell? p = some u) : w'.cell? p = some u := by
  rw [World.cell?_of_block (w := w) (h.block p.block (World.block_lt_of_cell? _ _ hp))]; exact hp
theorem WT.grow {w w' : World} (h : WT w) (hg : Grow w w') : WT w' := fun k hk => grow_cell hg (h k hk)

theorem ret_str {a b : ByteArray} (h : a = b) : Ending.returned (.string a) = Ending.returned (.string b) := by rw [h]

theorem list_empty : (⟨#[]⟩ : ByteArray).toList = [] := by rw [ByteArray.toList_eq]
theorem str_empty : (⟨#[]⟩ : ByteArray).toList.isEmpty = true := by rw [list_empty]; rfl
theorem str_some {s : ByteArray} (h : s ≠ ⟨#[]⟩) : s.toList.isEmpty = false := by
  have h1 := ba_beq s ⟨#[]⟩
  rw [decide_eq_false h, list_empty] at h1
  cases hl : s.toList with
  | nil => rw [hl] at h1; cases h1
  | cons x xs => rfl

set_option maxHeartbeats 1000000 in
theorem name_any (n : Int) (w : World) (hw : WT w) : Calls Tryd.prog 15 #[.int .i64 n] w fun e w' => e = .returned (.string (nmI n)) ∧ w = w' := by
  by_cases h : 0 ≤ n ∧ n ≤ 8
  · obtain ⟨k, rfl⟩ := Int.eq_ofNat_of_zero_le h.1
    have hk : k < 9 := by omega
    have hk' : (k : Int) < 9 := by omega
    have c := hw k hk
    have HE : Hid (nmI (k : Int) = nm k) := by
      show nmI (k : Int) = nm k
      by_cases h1 : 1 ≤ k
      · exact nmI_yes h1 (by omega)
      · obtain rfl : k = 0 := by omega
        rfl
    clear hw h
    generalize nm k = s at c HE
    go_enter Tryd.func15, Tryd.ntmps15
    go_wp2
    go_ret
    exact ⟨ret_str HE.out.symm, rfl⟩
  · have HE : Hid (nmI n = ⟨#[]⟩) := nmI_no (by omega)
    clear hw
    by_cases h0 : n < 0
    · clear h
      go_enter Tryd.func15, Tryd.ntmps15
      go_wp2
      go_ret
      exact ⟨ret_str HE.out.symm, rfl⟩
    · have h9 : 9 ≤ n := by omega
      have h00 : 0 ≤ n := by omega
      clear h
      go_enter Tryd.func15, Tryd.ntmps15
      go_wp2
      go_ret
      exact ⟨ret_str HE.out.symm, rfl⟩

theorem nine_cell (w : World) (t : TypeId) (j : Nat) (h : j < 9) : (w.alloc (.cells #[.string ⟨#[]⟩, .string ⟨#[102, 101, 116, 99, 104]⟩, .string ⟨#[114, 101, 97, 100]⟩, .string ⟨#[119, 114, 105, 116, 101]⟩, .string ⟨#[117, 110, 112, 105, 110]⟩, .string ⟨#[102, 108, 117, 115, 104]⟩, .string ⟨#[102, 108, 117, 115, 104, 97, 108, 108]⟩, .string ⟨#[100, 105, 115, 99, 97, 114, 100]⟩, .string ⟨#[115, 116, 97, 116, 115]⟩] t)).cell? ⟨w.heap.size, j, none⟩ = some (.string (nm j)) := by
  refine (World.cell?_alloc_new w _ _ j).trans ?_
  rcases (show j = 0 ∨ j = 1 ∨ j = 2 ∨ j = 3 ∨ j = 4 ∨ j = 5 ∨ j = 6 ∨ j = 7 ∨ j = 8 by omega) with rfl | rfl | rfl | rfl | rfl | rfl | rfl | rfl | rfl <;> rfl

set_option maxHeartbeats 1000000 in
theorem rname_any (n : Int) (w : World) : Calls Tryd.prog 16 #[.int .i64 n] w fun e w' => e = .returned (.string (nmI n)) ∧ Grow w w' := by
  by_cases h : 1 ≤ n ∧ n ≤ 8
  · obtain ⟨k, rfl⟩ := Int.eq_ofNat_of_zero_le (show 0 ≤ n by omega)
    have h1 : 1 ≤ (k : Int) := by omega
    have h8 : (k : Int) ≤ 8 := by omega
    have hk' : (k : Int) < 9 := by omega
    have c := nine_cell w 9 k (by omega)
    have HG : Hid (∀ o, Grow w (w.alloc o)) := fun o => (Grow.refl w).alloc o
    have HE : Hid (nmI (k : Int) = nm k) := nmI_yes (by omega) (by omega)
    clear h
    generalize nm k = s at c HE
    go_enter Tryd.func16, Tryd.ntmps16
    go_wp2
    go_ret
    exact ⟨ret_str HE.out.symm, HG.out _⟩
  · have HE : Hid (nmI n = ⟨#[]⟩) := nmI_no h
    by_cases h0 : n < 1
    · clear h
      go_enter Tryd.func16, Tryd.ntmps16
      go_wp2
      go_ret
      exact ⟨ret_str HE.out.symm, Grow.refl _⟩
    · have h9 : 8 < n := by omega
      have h00 : 1 ≤ n := by omega
      clear h
      go_enter Tryd.func16, Tryd.ntmps16
      go_wp2
      go_ret
      exact ⟨ret_str HE.out.symm, Grow.refl _⟩
end Go.Proofs.YtdafamocnjfmjaaDoor
