/-
  What is read of bytes: the six numbers, the Data, the error, as functions of the bytes; the two readers' Bytes by these. Conditions: each theorem's own.
-/
import Derived.Test.YtdafamocnjfmjaaDoorLaySync
import Derived.Test.YtdafamocnjfmjaaDoorReqV
namespace Go.Proofs.YtdafamocnjfmjaaDoor
open Go.RowKit
set_option linter.unusedVariables false
set_option linter.unusedSimpArgs false

/-- what is left behind so many numbers, and the error there -/
def zk (ys : List Int) : Nat → List Int
  | 0 => ys
  | k + 1 => urest (zk ys k)
def ek (ys : List Int) : Nat → Int
  | 0 => 0
  | k + 1 => uerr (zk ys k) (ek ys k)
/-- the number behind so many -/
def nk (ys : List Int) (k : Nat) : Int := wrap64 (uval (zk ys k))
/-- a text of at most 32: what is told, what is left, the error -/
def bq (z : List Int) : List Int × List Int × Int :=
  if z.length < 8 then ([], [], 2) else
  if 32 < val (z.take 8) ∨ ((z.drop 8).length : Int) < val (z.take 8) then ([], [], 2) else
  ((z.drop 8).take (val (z.take 8)).toNat, (z.drop 8).drop (val (z.take 8)).toNat, 0)
/-- the error of all -/
def rdE (ys : List Int) : Int := if (bq (zk ys 6)).2.1.length = 0 then (bq (zk ys 6)).2.2 else 2
/-- the numbers that are told, the Data -/
def rdN (ys : List Int) (k : Nat) : Int := if rdE ys = 0 then nk ys k else 0
def rdZ (ys : List Int) : List Int := if rdE ys = 0 then (bq (zk ys 6)).1 else []
theorem byte_zk {ys : List Int} (h : Byte ys) (k : Nat) : Byte (zk ys k) := by
  induction k with
  | zero => exact h
  | succ k ih => exact ih.urest
theorem oct_bq {z : List Int} (h : Byte z) : Oct (bq z).1 := by
  unfold bq
  by_cases h1 : z.length < 8
  · rw [if_pos h1]; intro x hx; cases hx
  rw [if_neg h1]
  by_cases h2 : 32 < val (z.take 8) ∨ ((z.drop 8).length : Int) < val (z.take 8)
  · rw [if_pos h2]; intro x hx; cases hx
  rw [if_neg h2]
  exact (h.drop 8).take _
theorem oct_rdZ {ys : List Int} (h : Byte ys) : Oct (rdZ ys) := by
  unfold rdZ
  split
  · exact oct_bq (byte_zk h 6)
  · intro x hx; cases hx
theorem bq_e (z : List Int) : (bq z).2.2 = 0 ∨ (bq z).2.2 = 2 := by
  unfold bq
  split
  · exact .inr rfl
  · split
    · exact .inr rfl
    · exact .inl rfl
theorem rdE_02 (ys : List Int) : rdE ys = 0 ∨ rdE ys = 2 := by
  unfold rdE
  split
  · exact bq_e _
  · exact .inr rfl

set_option maxHeartbeats 1000000 in
/-- A text of at most 32. -/
theorem bytes_both {ys z : List Int} {e : Int} {i : Nat} {bad : Bool} (h : Sync ys z e i bad) (hby : Byte ys) (hl : ys.length ≤ 1000000) :
    ∃ (i' : Nat) (bad' : Bool), Sync ys (bq z).2.1 (bq z).2.2 i' bad' ∧
      (∀ (w : World) (b : Nat) (p : Nat → Prop), RdrAt w b p z e → Calls Tryd.prog 34 #[.pointer (some ⟨b, 0, none⟩), .int .i64 32] w fun en w' => ∃ v, en = .returned v ∧ Own .u8 w.heap.size w' v (bq z).1 ∧ RdrAt w' b p (bq z).2.1 (bq z).2.2 ∧ Upd b w w') ∧
      ∀ (w : World) (c B : Nat), RAt w c B ys i bad → Calls Tryd.prog 39 #[.pointer (some ⟨c, 0, none⟩), .int .i64 32] w fun en w' => ∃ v, en = .returned v ∧ Rd .u8 B w' v (bq z).1 ∧ RAt w' c B ys i' bad' ∧ Upd c w w' := by
  have hzb := h.byte hby
  obtain ⟨hi, ⟨rfl, rfl, rfl⟩ | ⟨rfl, rfl, rfl⟩⟩ := h
  · have hq : bq [] = ([], [], 2) := rfl
    rw [hq]
    refine ⟨i, true, ⟨hi, .inl ⟨rfl, rfl, rfl⟩⟩, fun w b p hr => ?_, fun w c B hr => ?_⟩
    · exact (bytesR_short b [] 2 32 w hr hzb (by simp)).mono fun en w' ⟨he, h1, h2⟩ => ⟨_, he, Own.nil _ _ _ _, h1, h2⟩
    · exact (bytesW_short c B ys i true 32 w hr (.inl rfl) hi hl).mono fun en w' ⟨he, h1, h2⟩ => ⟨_, he, Rd.nil _ _ _ _ _ (Nat.zero_le _), h1, h2⟩
  · by_cases hs : ys.length < i + 8
    · have h8 : (ys.drop i).length < 8 := by rw [List.length_drop]; omega
      have hq : bq (ys.drop i) = ([], [], 2) := if_pos h8
      rw [hq]
      refine ⟨i, true, ⟨hi, .inl ⟨rfl, rfl, rfl⟩⟩, fun w b p hr => ?_, fun w c B hr => ?_⟩
      · exact (bytesR_short b _ 0 32 w hr hzb h8).mono fun en w' ⟨he, h1, h2⟩ => ⟨_, he, Own.nil _ _ _ _, h1, h2⟩
      · exact (bytesW_short c B ys i false 32 w hr (.inr hs) hi hl).mono fun en w' ⟨he, h1, h2⟩ => ⟨_, he, Rd.nil _ _ _ _ _ (Nat.zero_le _), h1, h2⟩
    · have h8 : ¬ (ys.drop i).length < 8 := by rw [List.length_drop]; omega
      have hn := val_bd ((ys.drop i).take 8) ((hby.drop i).take 8)
      obtain ⟨n, hnn⟩ := Int.eq_ofNat_of_zero_le hn.1
      have hdl : (((ys.drop i).drop 8).length : Int) = (ys.length : Int) - ((i + 8 : Nat) : Int) := by rw [List.length_drop, List.length_drop]; omega
      have hm : (Lit.int .i64 32).wf = true := by decide
      by_cases hbad : (32 : Int) < (n : Int) ∨ (ys.length : Int) - ((i + 8 : Nat) : Int) < (n : Int)
      · have hq : bq (ys.drop i) = ([], [], 2) := by
          unfold bq
          rw [if_neg h8, hnn, hdl, if_pos hbad]
        rw [hq]
        refine ⟨i + 8, true, ⟨by omega, .inl ⟨rfl, rfl, rfl⟩⟩, fun w b p hr => ?_, fun w c B hr => ?_⟩
        · exact (bytesR_bad b _ 32 n w hr hzb h8 hm hnn (by rw [hdl]; omega)).mono fun en w' ⟨he, h1, h2⟩ => ⟨_, he, Own.nil _ _ _ _, h1, h2⟩
        · exact (bytesW_bad c B ys i (i + 8) 32 n w hr hby (by omega) hl rfl hm hnn (by omega)).mono fun en w' ⟨he, h1, h2⟩ => ⟨_, he, Rd.nil _ _ _ _ _ (Nat.zero_le _), h1, h2⟩
      · have hq : bq (ys.drop i) = ((ys.drop (i + 8)).take n, ys.drop (i + 8 + n), 0) := by
          unfold bq
          rw [if_neg h8, hnn, hdl, if_neg hbad, Int.toNat_natCast, List.drop_drop, List.drop_drop]
        rw [hq]
        refine ⟨i + 8 + n, false, ⟨by omega, .inr ⟨rfl, rfl, rfl⟩⟩, fun w b p hr => ?_, fun w c B hr => ?_⟩
        · have := bytesR_ok b (ys.drop i) 32 n w hr hzb h8 hm hnn (by omega) (by have := hdl; omega) (by rw [List.length_drop]; omega)
          rw [List.drop_drop, List.drop_drop] at this
          exact this
        · exact bytesW_ok c B ys i (i + 8) 32 n w hr hby (by omega) hl rfl hm hnn (by omega) (by omega)

/-- behind so many numbers, both readers stand at one place -/
theorem sync_zk {ys : List Int} (hby : Byte ys) (hl : ys.length ≤ 1000000) (k : Nat) : ∃ i bad, Sync ys (zk ys k) (ek ys k) i bad := by
  induction k with
  | zero => exact ⟨0, false, Sync.start ys⟩
  | succ k ih =>
    obtain ⟨i, bad, h⟩ := ih
    obtain ⟨i', bad', h', _⟩ := h.uint hby hl
    exact ⟨i', bad', h'⟩

theorem results_cct {P : Program} {fn : Func} {p q t : Tmp} {ty ty2 : TypeId} (h : fn.results = #[.cell p ty, .cell q ty2, .tmp t]) (tmps : Array Value) (w : World) (x y : Addr) (v u : Value) (hp : tmps.getD p undef = .pointer (some x)) (hq : tmps.getD q undef = .pointer (some y))
    (hl : (loadVar ty x).run P w = .ok v w) (hm : (loadVar ty2 y).run P w = .ok u w) : (results fn tmps).run P w = .ok (.tuple #[v, u, tmps.getD t undef]) w := by
  have hp' : tmps[p]?.getD undef = .pointer (some x) := by simpa using hp
  have hq' : tmps[q]?.getD undef = .pointer (some y) := by simpa using hq
  simp only [results, h]
  simp [hp', hq', asAddr, hl, hm]
end Go.Proofs.YtdafamocnjfmjaaDoor
