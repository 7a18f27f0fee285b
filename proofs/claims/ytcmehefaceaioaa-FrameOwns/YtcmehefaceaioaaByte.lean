/-
  The walks of crc's calls that put a check behind bytes and take it away (tail, Put, Take, bytes.Equal). Conditions: each theorem's own.
-/
import Derived.Test.YtcmehefaceaioaaMore
namespace Go.Proofs.Ytcmehefaceaioaa
open Go.RowKit
set_option linter.unusedVariables false
set_option linter.unusedSimpArgs false






theorem str_beq {a b : List Int} (ha : Oct a) (hb : Oct b) : ((strOfNums a).toList == (strOfNums b).toList) = decide (a = b) := by
  by_cases h : a = b
  · subst h; simp
  · rw [decide_eq_false h]
    refine beq_eq_false_iff_ne.2 fun e => h (strOfNums_inj ha hb ?_)
    rw [ByteArray.toList_eq, ByteArray.toList_eq] at e
    have e' := Array.toList_inj.1 e
    cases hx : strOfNums a
    cases hy : strOfNums b
    rw [hx, hy] at e'
    simp only at e'
    rw [e']


/-- what Take tells -/
def taken (zs : List Int) : List Int × Int :=
  if zs.length < 4 then ([], 2)
  else if zs.drop (zs.length - 4) = le 4 (chk 0 (zs.take (zs.length - 4)) : Nat) then (zs.take (zs.length - 4), 0) else ([], 9)

end Go.Proofs.Ytcmehefaceaioaa
