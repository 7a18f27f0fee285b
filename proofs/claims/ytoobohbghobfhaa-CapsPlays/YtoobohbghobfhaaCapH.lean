/-
  The document's side: parts of a list, results in cells. Conditions: each theorem's own.
-/
import Derived.Test.YtoobohbghobfhaaCapE
namespace Go.Proofs.Ytoobohbghobfhaa
open Go.RowKit
set_option linter.unusedVariables false
set_option linter.unusedSimpArgs false

theorem flat_drop {α : Type} {f : α → List Value} {k : Nat} (hk : ∀ x, (f x).length = k) : ∀ (zs : List α) (l : Nat), (zs.drop l).flatMap f = (zs.flatMap f).drop (l * k)
  | zs, 0 => by simp
  | [], l + 1 => by simp
  | z :: zs, l + 1 => by
    rw [List.drop_succ_cons, flat_drop hk zs l, List.flatMap_cons, Nat.succ_mul, Nat.add_comm (l * k) k, ← List.drop_drop]
    rw [List.drop_left' (hk z)]
theorem RdS.dropS {α : Type} {f : α → List Value} {k : Nat} {p : Nat → Prop} {w : World} {b o n c : Nat} {zs : List α} (h : RdS f k p w (.slice (some ⟨b, o, none⟩) n c) zs) (hk : ∀ x, (f x).length = k) (l : Nat) (hl : l ≤ zs.length) :
    RdS f k p w (.slice (if c = l then some ⟨b, o, none⟩ else some ⟨b, o + l * k, none⟩) (n - l) (c - l)) (zs.drop l) := by
  obtain ⟨a', c', hv, h1, h2, h3⟩ := h
  injection hv with ea en ec
  subst ea; subst ec
  have hlen : (zs.drop l).length = n - l := by rw [List.length_drop, en]
  refine ⟨_, _, by rw [hlen], by rw [hlen]; omega, by omega, fun h0 => ?_⟩
  rw [hlen] at h0
  obtain ⟨b', o', e, hb, hlt, hc⟩ := h3 (by omega)
  injection e with e
  injection e with e1 e2
  subst e1 e2
  refine ⟨b, o + l * k, by rw [if_neg (by omega)], hb, hlt, fun j hj => ?_⟩
  rw [hlen] at hj
  have hm : l * k + (n - l) * k = n * k := by rw [← Nat.add_mul]; congr 1; omega
  rw [Nat.add_assoc, hc (l * k + j) (by rw [← en]; omega), flat_drop hk, List.getElem?_drop]
theorem infoS : (Try.prog.info? 49).map (fun i => (i.zero, i.size, i.bytes)) = some (some (.agg #[.int .i64 0, .int .i64 0, .int .i64 0]), 3, 24) := by kernel_rfl
theorem slice_to {p : Nat → Prop} {w : World} {b o n c : Nat} {L : List Sl} (h : RdL p w (.slice (some ⟨b, o, none⟩) n c) L) (q : Nat) (hq : q ≤ L.length) :
    ∃ v', (∀ u, (Instr.slice 28 (.slice (some ⟨b, o, none⟩) n c) none (some (.int .i64 q)) none).run Try.prog u = .ok v' u) ∧ RdL p w v' (L.take q) := by
  have hcap := RdS.caps h
  refine ⟨.slice (some ⟨b, o, none⟩) q c, fun u => ?_, RdS.take h slk q hq⟩
  have h0 : (0 : Int) ≤ (q : Int) := by omega
  have h1 : (q : Int) ≤ (c : Int) := by omega
  have h2 := run_slice_h (P := Try.prog) u 28 (some ⟨b, o, none⟩) n c (by kernel_rfl) .i64 (q : Int) h0 h1
  rw [h2]
  clear h2 h
  by_cases hc : c = 0
  · go_simp
  · go_simp
theorem slice_from {p : Nat → Prop} {w : World} {b o n c : Nat} {L : List Sl} (h : RdL p w (.slice (some ⟨b, o, none⟩) n c) L) (q : Nat) (hq : q ≤ L.length) :
    ∃ v', (∀ u, (Instr.slice 28 (.slice (some ⟨b, o, none⟩) n c) (some (.int .i64 q)) none none).run Try.prog u = .ok v' u) ∧ RdL p w v' (L.drop q) := by
  have hcap := RdS.caps h
  refine ⟨_, fun u => ?_, RdS.dropS h slk q hq⟩
  have h0 : (0 : Int) ≤ (q : Int) := by omega
  have h1 : (q : Int) ≤ (n : Int) := by omega
  have h2 := run_slice_l (P := Try.prog) u 28 (some ⟨b, o, none⟩) n c (by kernel_rfl) .i64 (q : Int) h0 h1
  rw [h2]
  clear h2 h
  by_cases hc : c = q
  · go_simp
  · go_simp
theorem results_cct {P : Program} {fn : Func} {p q t : Tmp} {ty ty2 : TypeId} (h : fn.results = #[.cell p ty, .cell q ty2, .tmp t]) (tmps : Array Value) (w : World) (x y : Addr) (v u : Value) (hp : tmps.getD p undef = .pointer (some x)) (hq : tmps.getD q undef = .pointer (some y))
    (hl : (loadVar ty x).run P w = .ok v w) (hm : (loadVar ty2 y).run P w = .ok u w) : (results fn tmps).run P w = .ok (.tuple #[v, u, tmps.getD t undef]) w := by
  have hp' : tmps[p]?.getD undef = .pointer (some x) := by simpa using hp
  have hq' : tmps[q]?.getD undef = .pointer (some y) := by simpa using hq
  simp only [results, h]
  simp [hp', hq', asAddr, hl, hm]
theorem srcL {p : Nat → Prop} {w : World} {v : Value} {L : List Sl} (h : RdL p w v L) : Src Try.prog 3 28 v L.length (L.flatMap Sl.cs) w := RdS.src h slk sl_one Try.underlying28
end Go.Proofs.Ytoobohbghobfhaa
