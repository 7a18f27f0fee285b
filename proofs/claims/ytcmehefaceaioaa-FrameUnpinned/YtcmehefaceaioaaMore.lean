/-
  The walks of crc.numbers, crc.More and crc.Sum. Conditions: each theorem's own.
-/
import Derived.Test.YtcmehefaceaioaaHalve
import Derived.Test.YtcmehefaceaioaaArr
namespace Go.Proofs.Ytcmehefaceaioaa
open Go.RowKit
set_option linter.unusedVariables false

/-- the table -/
def tab : List Value := (List.range 256).map fun i => .int .u32 ((halve 8 i : Nat) : Int)
theorem tab_length : tab.length = 256 := by simp [tab]
theorem tab_one : tab.toArray.all (·.oneCell') = true := all_oneCell_toArray fun v hv => by
  simp only [tab, List.mem_map] at hv
  obtain ⟨i, _, rfl⟩ := hv
  rfl
theorem tab_at (i : Nat) (h : i < 256) : tab[i]? = some (.int .u32 ((halve 8 i : Nat) : Int)) := by simp [tab, h]

/-- block g's first 256 cells are there and may be written -/
def Room (g : Nat) (w : World) : Prop := ∀ i, i < 256 → (w.cell? ⟨g, i, none⟩).isSome = true ∧ w.frozen? ⟨g, i, none⟩ = false
theorem Room.there {g : Nat} {w : World} (h : Room g w) : w.there g 0 256 := fun j hj => by rw [Nat.zero_add]; exact h j hj
theorem room_new (w : World) (t : TypeId) (v : Value) : Room w.heap.size (w.alloc (.cells (Array.replicate 256 v) t)) := fun i hi => by
  refine ⟨?_, World.frozen?_alloc_new w _ _ _⟩
  refine (congrArg Option.isSome (World.cell?_alloc_new w _ _ i)).trans ?_
  rw [Array.getElem?_eq_getElem (by simpa using hi)]
  rfl
theorem Room.alloc {g : Nat} {w : World} (h : Room g w) (o : Obj) : Room g (w.alloc o) := fun i hi => by
  obtain ⟨h1, h2⟩ := h i hi
  obtain ⟨u, hu⟩ := Option.isSome_iff_exists.1 h1
  have hb := World.block_lt_of_cell? w _ hu
  exact ⟨by rw [World.cell?_alloc_lt _ _ _ hb]; exact h1, by rw [World.frozen?_alloc_past _ _ _ hb]; exact h2⟩
theorem Room.set {g : Nat} {w : World} (h : Room g w) (p : Addr) (v : Value) : Room g (w.setCell p v) := fun i hi => by
  refine ⟨?_, by rw [World.frozen?_setCell]; exact (h i hi).2⟩
  obtain ⟨u, hu⟩ := Option.isSome_iff_exists.1 (h i hi).1
  by_cases e : p = ⟨g, i, none⟩
  · subst e; rw [World.cell?_setCell_same _ _ _ hu]; rfl
  · rw [World.cell?_setCell_other _ _ _ _ e, hu]; rfl

theorem wrap32 (j : Nat) (h : j < 4294967296) : IntKind.u32.wrap (j : Int) = (j : Int) := by rw [IntKind.wrap_u32']; omega

end Go.Proofs.Ytcmehefaceaioaa
