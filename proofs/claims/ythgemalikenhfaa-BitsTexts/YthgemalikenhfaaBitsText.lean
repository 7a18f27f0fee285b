/-
  The walks of bits' Text, and of the document's. Conditions: each theorem's own.
-/
import Derived.Test.YthgemalikenhfaaBld
import Derived.Test.YthgemalikenhfaaBitsSame
namespace Go.Proofs.Ythgemalikenhfaa
open Go.RowKit
set_option linter.unusedVariables false
set_option linter.unusedSimpArgs false

/-- the text of bits -/
def txt (xs : List Bool) : List UInt8 := xs.map (fun x => if x then 49 else 48)
theorem txt_length (xs : List Bool) : (txt xs).length = xs.length := by simp [txt]
theorem txt_snoc (xs : List Bool) (j : Nat) (h : j < xs.length) : txt (xs.take (j + 1)) = txt (xs.take j) ++ [if xs.getD j false then 49 else 48] := by
  rw [take_snocB xs j h]
  simp [txt]
theorem cells_snoc (xs : List Bool) (j : Nat) (h : j < xs.length) (x : Bool) (hx : xs.getD j false = x) : Lib.byteCells (txt (xs.take (j + 1))) = Lib.byteCells (txt (xs.take j)) ++ [.int .u8 (if x then 49 else 48)] := by
  rw [txt_snoc xs j h, Lib.byteCells_append, hx]
  cases x <;> rfl
theorem str_snoc (xs : List Bool) (j : Nat) (h : j < xs.length) (x : Bool) (hx : xs.getD j false = x) : (⟨(txt (xs.take (j + 1))).toArray⟩ : ByteArray) = ⟨(txt (xs.take j)).toArray⟩ ++ ⟨#[if x then 49 else 48]⟩ := by
  rw [txt_snoc xs j h, hx, ByteArray.mk_append_mk]

set_option maxHeartbeats 1000000 in
theorem btext_any (sv : Value) (xs : List Bool) (p : Nat → Prop) (w : World) (hs : RdV Value.bool false p w sv xs) (hm : xs.length ≤ 1000) :
    Calls Try.prog 19 #[sv] w fun e w' => e = .returned (.string ⟨(txt xs).toArray⟩) ∧ Grow w w' := by
  have HS : Hid (RdV Value.bool false p w sv xs) := hs
  obtain ⟨a, c, rfl⟩ := hs.shape
  clear hs
  have hI := Lib.fresh_isBuilder 55 5 w
  have HI : Hid (Lib.IsBuilder 55 5 w.heap.size w.heap.size [] (w.alloc (.cells #[.pointer none, .slice none 0 0] 55)) ∧ Below w.heap.size w (w.alloc (.cells #[.pointer none, .slice none 0 0] 55))) := ⟨hI, (Grow.refl w).alloc _⟩
  clear hI
  go_enter Try.func19, Try.ntmps19
  go_wp2
  generalize w.alloc (.cells #[.pointer none, .slice none 0 0] 55) = w1 at HI ⊢
  go_loopg [8] xs.length (fun k i wr => ∃ j : Nat, k = xs.length - j ∧ j ≤ xs.length ∧ i = .int .i64 j ∧ Hid (Lib.IsBuilder 55 5 w.heap.size w.heap.size (Lib.byteCells (txt (xs.take j))) wr ∧ Below w.heap.size w wr))
  case atStart => exact ⟨0, rfl, Nat.zero_le _, rfl, HI⟩
  case round =>
    obtain ⟨j, hk, hj, rfl, X⟩ := hrel
    by_cases hlt : j < xs.length
    · have hlt' : (j : Int) < (xs.length : Int) := by omega
      have HJ : Hid (j < xs.length) := hlt
      obtain ⟨b1, o1, e1, hp1, hc1⟩ := (HS.out.grow X.out.2).addr (by omega)
      have f1 := hc1 j hlt
      have hcs := cells_snoc xs j hlt
      have hll : (Lib.byteCells (txt (xs.take j))).length ≤ 1000 := by rw [Lib.byteCells_length, txt_length, List.length_take]; omega
      have hwb := fun c => wb_any w.heap.size w.heap.size (Lib.byteCells (txt (xs.take j))) c wr X.out.1 (by omega) X.out.2.size
      clear hc1 hlt
      generalize xs.getD j false = x at f1 hcs
      have hcs' := hcs x rfl
      clear hcs
      subst e1
      cases x with
      | true =>
        go_wp2_with fail
        refine (hwb 49).mono ?_
        rintro e w2 ⟨rfl, hB2, hb2⟩
        have X2 : Hid (Lib.IsBuilder 55 5 w.heap.size w.heap.size (Lib.byteCells (txt (xs.take (j + 1)))) w2 ∧ Below w.heap.size w w2) := by
          show _ ∧ _
          rw [hcs']
          exact ⟨.inr hB2, X.out.2.trans hb2⟩
        clear hB2 hb2 hcs' hwb hll
        go_wp2
        go_roundg (xs.length - (j + 1))
        case measure => have := HJ.out; omega
        case rel => exact ⟨j + 1, rfl, HJ.out, by go_num, X2⟩
      | false =>
        go_wp2_with fail
        refine (hwb 48).mono ?_
        rintro e w2 ⟨rfl, hB2, hb2⟩
        have X2 : Hid (Lib.IsBuilder 55 5 w.heap.size w.heap.size (Lib.byteCells (txt (xs.take (j + 1)))) w2 ∧ Below w.heap.size w w2) := by
          show _ ∧ _
          rw [hcs']
          exact ⟨.inr hB2, X.out.2.trans hb2⟩
        clear hB2 hb2 hcs' hwb hll
        go_wp2
        go_roundg (xs.length - (j + 1))
        case measure => have := HJ.out; omega
        case rel => exact ⟨j + 1, rfl, HJ.out, by go_num, X2⟩
    · obtain rfl : j = xs.length := by omega
      have hst : Calls Try.prog 26 #[.pointer (some ⟨w.heap.size, 0, none⟩)] wr fun e w' => e = .returned (.string ⟨(txt xs).toArray⟩) ∧ Below w.heap.size wr w' := by
        have hx := X.out
        rw [List.take_length] at hx
        rcases hx.1 with h | h
        · exact bstr_any _ _ _ _ _ h hx.2.size
        · exact bstr_any _ _ _ _ _ h hx.2.size
      go_wp2_with fail
      refine hst.mono ?_
      rintro e w2 ⟨rfl, hb2⟩
      go_wp2
      go_ret
      exact ⟨rfl, X.out.2.trans hb2⟩

set_option maxHeartbeats 1000000 in
theorem rtext_any (sv : Value) (xs : List Bool) (p : Nat → Prop) (w : World) (hs : RdV Value.bool false p w sv xs) (hm : xs.length ≤ 1000) :
    Calls Try.prog 23 #[sv] w fun e w' => e = .returned (.string ⟨(txt xs).toArray⟩) ∧ Grow w w' := by
  have HS : Hid (RdV Value.bool false p w sv xs) := hs
  obtain ⟨a, c, rfl⟩ := hs.shape
  clear hs
  go_enter Try.func23, Try.ntmps23
  go_wp2
  go_loopg [3, 4] xs.length (fun k m i wr => ∃ j : Nat, k = xs.length - j ∧ j ≤ xs.length ∧ i = .int .i64 j ∧ (∃ sb : ByteArray, m = .string sb ∧ Hid (sb = ⟨(txt (xs.take j)).toArray⟩)) ∧ Grow w wr)
  case atStart => exact ⟨0, rfl, Nat.zero_le _, rfl, ⟨_, rfl, rfl⟩, Grow.refl _⟩
  case round =>
    obtain ⟨j, hk, hj, rfl, ⟨sb, rfl, HB⟩, hg⟩ := hrel
    by_cases hlt : j < xs.length
    · have hlt' : (j : Int) < (xs.length : Int) := by omega
      have HJ : Hid (j < xs.length) := hlt
      obtain ⟨b1, o1, e1, hp1, hc1⟩ := (HS.out.grow hg).addr (by omega)
      have f1 := hc1 j hlt
      have hcs := str_snoc xs j hlt
      have hsz : sb.size ≤ 1000 := by
        rw [HB.out]
        show (txt (xs.take j)).toArray.size ≤ 1000
        rw [List.size_toArray, txt_length, List.length_take]; omega
      clear hc1 hlt
      generalize xs.getD j false = x at f1 hcs
      have hcs' := hcs x rfl
      rw [← HB.out] at hcs'
      clear hcs
      subst e1
      obtain ⟨sb', hsb'⟩ : ∃ sb', sb' = sb ++ (⟨#[if x then 49 else 48]⟩ : ByteArray) := ⟨_, rfl⟩
      have HB' : Hid (sb' = ⟨(txt (xs.take (j + 1))).toArray⟩) := by show _ = _; rw [hsb', hcs']
      have hadd : ∀ w', (Op.stringOp .add sb (⟨#[if x then 49 else 48]⟩ : ByteArray)).run Try.prog w' = .ok (.string sb') w' := fun w' => by
        rw [hsb']
        exact run_string_add_sum (P := Try.prog) (w := w') sb _ (by show sb.size + 1 ≤ _; omega)
      clear hcs' hsb'
      cases x with
      | true =>
        simp only [if_true] at hadd
        go_wp2
        go_roundg (xs.length - (j + 1))
        case measure => have := HJ.out; omega
        case rel => exact ⟨j + 1, rfl, HJ.out, by go_num, ⟨sb', rfl, HB'⟩, hg⟩
      | false =>
        simp only [Bool.false_eq_true, if_false] at hadd
        go_wp2
        go_roundg (xs.length - (j + 1))
        case measure => have := HJ.out; omega
        case rel => exact ⟨j + 1, rfl, HJ.out, by go_num, ⟨sb', rfl, HB'⟩, hg⟩
    · obtain rfl : j = xs.length := by omega
      have he : sb = ⟨(txt xs).toArray⟩ := by rw [HB.out, List.take_length]
      go_wp2
      go_ret
      rw [he]
      exact ⟨rfl, hg⟩
end Go.Proofs.Ythgemalikenhfaa
