/-
  The walk of the law's 'does'. Conditions: each theorem's own.
-/
import Derived.Test.YthdhfojogckflaaPrtY
namespace Go.Proofs.Ythdhfojogckflaa
open Go.RowKit
set_option linter.unusedVariables false
set_option linter.unusedSimpArgs false

theorem UpdS.more {S T : Nat → Prop} {x y z : World} (h : UpdS S x y) (k : UpdS T y z) (hT : ∀ i, T i → x.heap.size ≤ i) : UpdS S x z :=
  ⟨k.os.trans h.os, k.tape.trans h.tape, k.output.trans h.output, Nat.le_trans h.size k.size, fun i hi hn => (k.block i (Nat.lt_of_lt_of_le hi h.size) (fun ht => by have := hT i ht; omega)).trans (h.block i hi hn)⟩
/-- the variable that is told, written at the end -/
theorem d_end {pq : Nat → Prop} {w W5 cur : World} {P b o X : Nat} {a2 : Option Addr} {n2 c2 : Nat} {L' : List FS} {h2 : Nat} (gw : Grow w W5) (rq : RdQ (fun i => pq i ∧ i ≠ X + 1 + 1) W5 (.slice a2 n2 c2) L') (Zc : VarAt W5 (X + 1 + 1) [.slice none 0 0, .int .i64 0]) (hpq : ∀ i, pq i → i ≠ P ∧ i ≠ b) (hX : w.heap.size ≤ X) (hP : P < X) (hb : b < X) (pt : PtO cur P b o L' h2) (uu : UpdS (fun i => i = P ∨ i = b) W5 cur) :
    (VarAt ((cur.setCell ⟨X + 1 + 1, 0, none⟩ (.slice a2 n2 c2)).setCell ⟨X + 1 + 1, 1, none⟩ (.int .i64 h2)) (X + 1 + 1) [.slice a2 n2 c2, .int .i64 h2] ∧ RdQ pq ((cur.setCell ⟨X + 1 + 1, 0, none⟩ (.slice a2 n2 c2)).setCell ⟨X + 1 + 1, 1, none⟩ (.int .i64 h2)) (.slice a2 n2 c2) L' ∧ PtO ((cur.setCell ⟨X + 1 + 1, 0, none⟩ (.slice a2 n2 c2)).setCell ⟨X + 1 + 1, 1, none⟩ (.int .i64 h2)) P b o L' h2 ∧ UpdS (fun i => i = P ∨ i = b) w ((cur.setCell ⟨X + 1 + 1, 0, none⟩ (.slice a2 n2 c2)).setCell ⟨X + 1 + 1, 1, none⟩ (.int .i64 h2))) ∧
    ((cur.cell? ⟨X + 1 + 1, 0, none⟩ = some (.slice none 0 0) ∧ cur.cell? ⟨X + 1 + 1, 1, none⟩ = some (.int .i64 0)) ∧ cur.frozen? ⟨X + 1 + 1, 0, none⟩ = false ∧ cur.frozen? ⟨X + 1 + 1, 1, none⟩ = false) := by
  have u2 := upd_pair cur (X + 1 + 1) (.slice a2 n2 c2) (.int .i64 h2)
  have Z1 := Zc.upd uu (by omega)
  exact ⟨⟨Z1.set2 _ _, (RdS.upd (RdS.upd rq uu (fun i _ hi => by have := hpq i hi.1; omega)) u2 (fun i _ hi => hi.2)).mono (fun i _ hi => hi.1), pt.upd u2 (by omega) (by omega), (UpdS.trans gw.s uu).more u2 (fun i hi => by omega)⟩, Z1.two⟩
end Go.Proofs.Ythdhfojogckflaa
