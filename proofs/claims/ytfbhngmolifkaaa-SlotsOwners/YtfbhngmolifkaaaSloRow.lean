/-
  The walk of Row: the owners of ticks side by side, by a method value. Conditions: each theorem's own.
-/
import Derived.Test.YtfbhngmolifkaaaSlo
import Derived.Test.YtfbhngmolifkaaaLibV
namespace Go.Proofs.Ytfbhngmolifkaaa
open Go.RowKit
set_option linter.unusedVariables false
set_option linter.unusedSimpArgs false

theorem Try.infoIq : (Try.prog.info? 3).map (fun i => (i.zero, i.size, i.bytes)) = some (some ((Value.int .i64) 0), 1, 8) := by kernel_rfl
theorem oneIq (x : Int) : ((Value.int .i64) x).oneCell' = true := rfl

/-- the owners of m ticks from t on -/
def owns (n t : Int) (m : Nat) : List Int := (List.range m).map (fun j : Nat => (t + j) % n)
theorem owns_len (n t : Int) (m : Nat) : (owns n t m).length = m := by simp [owns]
theorem owns_succ (n t : Int) (m : Nat) : owns n t (m + 1) = owns n t m ++ [(t + m) % n] := by simp [owns, List.range_succ]

set_option maxHeartbeats 1000000 in
theorem row_any (w : World) (b : Nat) (n : Int) (h : SAt w b n) (t : Int) (m : Nat) (h1 : 1 ≤ n) (h2 : n ≤ 16) (h3 : 0 ≤ t) (h4 : t ≤ 2000000) (h5 : m ≤ 1000) :
    Calls Try.prog 14 #[.pointer (some ⟨b, 0, none⟩), .int .i64 t, .int .i64 m] w fun e w' => ∃ v, e = .returned v ∧ OwnV (Value.int .i64) 0 (fun i => w.heap.size ≤ i) w' v (owns n t m) ∧ Grow w w' := by
  obtain ⟨i0, hi, hz0, hz1, hz2⟩ := info_parts Try.infoIq
  have HS : Hid (SAt w b n) := h
  have hm1 : ¬ 1048576 < (m : Int) := by omega
  have hmf : ∀ (fn : Fn) (first cap : Array Value) (w : World), (Instr.makeFunc fn first cap).run Try.prog w = .ok (.func fn first cap) w := fun _ _ _ _ => rfl
  clear h
  go_enter Try.func14, Try.ntmps14
  go_wp2
  go_loopg [8, 15] m (fun k v x wr => ∃ j : Nat, k = m - j ∧ j ≤ m ∧ x = .int .i64 j ∧ Hid (OwnV (Value.int .i64) 0 (fun i => w.heap.size ≤ i) wr v (owns n t j)) ∧ Hid (Grow w wr))
  case atStart => exact ⟨0, rfl, Nat.zero_le _, rfl, OwnV.nil _ _ _ _ _, Grow.refl _⟩
  case round =>
    obtain ⟨j, hk, hj, rfl, HO, HG⟩ := hrel
    have HJ : Hid (gk = m - j ∧ j ≤ m) := ⟨hk, hj⟩
    by_cases hlt : j < m
    · have hlt' : (j : Int) < (m : Int) := by omega
      have HL : Hid (j < m) := hlt
      have hw1 : IntKind.i64.wrap (t + (j : Int)) = t + (j : Int) := by rw [IntKind.wrap_i64]; omega
      have hw2 : IntKind.i64.wrap ((j : Int) + 1) = ((j + 1 : Nat) : Int) := by rw [IntKind.wrap_i64]; omega
      have ho := owner_any wr b n (HS.out.grow HG.out) (t + j) h1 h2 (by omega)
      have HE : Hid (owns n t (j + 1) = owns n t j ++ [(t + j) % n]) := owns_succ n t j
      have HLn : Hid ((owns n t j).length = j) := owns_len n t j
      clear hlt hk hj
      generalize (t + (j : Int)) % n = x at ho HE
      obtain ⟨a, c, hv⟩ := HO.out.shape
      generalize hli : (owns n t j).length = li at hv
      clear hli
      subst hv
      have hlen : (owns n t j).length ≤ 1000 := by rw [HLn.out]; have := HL.out; omega
      have hoo := HO.out.grow ((Grow.refl wr).alloc (.cells #[(Value.int .i64) x] 3))
      go_wp2_with fail
      refine ho.mono ?_
      rintro e w1 ⟨rfl, rfl⟩
      go_wp2_with (at_builtin; refine wpList_appV (f := (Value.int .i64)) (d := 0) rfl (.tmp 18) (.tmp 24) 27 27 rfl i0 ((Value.int .i64) 0) 8 Try.underlying27 hi hz0 hz1 hz2 rfl rfl rfl hoo (Src.oneV (w := wr) Try.underlying27 (Value.int .i64) x (oneIq x) 3) (by simp only [maxLen, List.length_singleton]; omega) (by simp only [List.length_singleton]; omega) ?_)
      intro v' w' ho' hu'
      have HO2 : Hid (OwnV (Value.int .i64) 0 (fun i => w.heap.size ≤ i) w' v' (owns n t (j + 1))) := by
        have ho2 := ho'.mono (q := fun i => w.heap.size ≤ i) (fun i hi hp => hp.elim id (fun e => by have h1 := HG.out.size; have h2 : (wr.alloc (.cells #[(Value.int .i64) x] 3)).heap.size = wr.heap.size + 1 := World.size_alloc _ _; omega))
        rw [← HE.out] at ho2
        exact ho2
      have HG2 : Hid (Grow w w') := UpdS.new (HG.out.trans ((Grow.refl wr).alloc _)) hu' (fun i hi => hi)
      clear ho' hu' hoo ho hlen
      go_wp2
      go_roundg (m - (j + 1))
      case measure => have := HJ.out; have := HL.out; omega
      case rel => exact ⟨j + 1, rfl, HL.out, rfl, HO2, HG2⟩
    · have hlt' : ¬ (j : Int) < (m : Int) := by omega
      obtain rfl : m = j := by omega
      go_wp2
      go_ret
      exact ⟨_, rfl, HO.out, HG.out⟩
end Go.Proofs.Ytfbhngmolifkaaa
