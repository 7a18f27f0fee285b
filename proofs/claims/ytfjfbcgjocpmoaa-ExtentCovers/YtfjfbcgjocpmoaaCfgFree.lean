/-
  The walks of Free, and of the document's. Conditions: each theorem's own.
-/
import Derived.Test.YtfjfbcgjocpmoaaCfgFew
namespace Go.Proofs.Ytfjfbcgjocpmoaa
open Go.RowKit
set_option linter.unusedVariables false
set_option linter.unusedSimpArgs false

theorem GoodC.small {fr dp se : Int} {ps : List Pt} (h : GoodC fr dp se ps) : ∀ x ∈ ps, Small x := h.2.2.2.2.2.1
theorem GoodC.inside {fr dp se : Int} {ps : List Pt} (h : GoodC fr dp se ps) : ∀ x ∈ ps, 0 ≤ x.g ∧ x.g ≤ 1000 ∧ 0 ≤ x.b ∧ x.b ≤ 100000 := by
  intro x hx
  have hb := h.bounds
  obtain ⟨h1, h2, h3, h4, h5, h6, e, h7, h8, h9⟩ := h
  have hm := chain_mem ps 0 e h7 h6 x hx
  obtain ⟨s1, s2, s3, s4⟩ := h6 x hx
  exact ⟨by omega, by omega, by omega, by omega⟩
theorem any_next (ps : List Pt) (f : Pt → Bool) (i : Nat) (h : i < ps.length) : (ps.take (i + 1)).any f = ((ps.take i).any f || f (ps.getD i Pt.zero)) := by
  rw [take_next ps i h, List.any_append]; simp

set_option maxHeartbeats 4000000 in
theorem rfree_any {p : Nat → Prop} (fr dp se : Int) (v : Value) (ps : List Pt) (w : World) (h : RdP p w v ps) (hg : GoodC fr dp se ps) :
    Calls Try.prog 17 #[.agg #[.int .i64 fr, .int .i64 dp, .int .i64 se, v]] w fun e w' => e = .returned (.int .i64 (se - gsum ps)) ∧ Grow w w' := by
  have hb := hg.bounds
  have hfree := hg.free
  obtain ⟨N, rfl⟩ : ∃ N : Nat, se = N := ⟨se.toNat, by omega⟩
  have HR : Hid (RdP p w v ps ∧ GoodC fr dp N ps ∧ (freeN ps N : Int) = N - gsum ps) := ⟨h, hg, by simpa using hfree⟩
  have HI : Hid (VarAt (w.alloc (.cells #[.int .i64 fr, .int .i64 dp, .int .i64 (N : Int), v] 24)) w.heap.size [.int .i64 fr, .int .i64 dp, .int .i64 (N : Int), v] ∧ Grow w (w.alloc (.cells #[.int .i64 fr, .int .i64 dp, .int .i64 (N : Int), v] 24))) := ⟨VarAt.new w [.int .i64 fr, .int .i64 dp, .int .i64 (N : Int), v] _, (Grow.refl w).alloc _⟩
  obtain ⟨a, cp, rfl, h1, h2, -⟩ := h
  unfold maxLen at h2
  have hN : N ≤ 42 := by omega
  have hlen : ps.length ≤ 4 := by omega
  clear hb hg hfree
  go_enter Try.func17, Try.ntmps17
  go_wp2
  generalize w.alloc (.cells #[.int .i64 fr, .int .i64 dp, .int .i64 (N : Int), .slice a ps.length cp] 24) = w1 at HI ⊢
  generalize w.heap.size = b1 at HI ⊢
  go_loopg [3, 4] N (fun m nv sv wr => ∃ (s n : Nat), m = N - s ∧ s ≤ N ∧ n ≤ s ∧ nv = .int .i64 n ∧ sv = .int .i64 s ∧ Hid (VarAt wr b1 [.int .i64 fr, .int .i64 dp, .int .i64 (N : Int), .slice a ps.length cp] ∧ Grow w wr ∧ n = freeN ps s))
  case atStart => exact ⟨0, 0, by omega, by omega, by omega, rfl, rfl, HI.out.1, HI.out.2, rfl⟩
  case round =>
    clear HI
    obtain ⟨s, n, hk, hsN, hns, rfl, rfl, X⟩ := hrel
    obtain ⟨⟨m0, m1, m2, m3⟩, -⟩ := X.out.1.four
    by_cases hst : s < N
    · have hle : (s : Int) < (N : Int) := by omega
      have HK : Hid (s < N ∧ gk = N - s) := ⟨hst, hk⟩
      have hw1 : IntKind.i64.wrap ((s : Int) + 1) = (s : Int) + 1 := by rw [IntKind.wrap_i64]; omega
      have hw2 : IntKind.i64.wrap ((n : Int) + 1) = (n : Int) + 1 := by rw [IntKind.wrap_i64]; omega
      have HNS : Hid (n ≤ s) := hns
      clear hk hst hsN hns
      go_wp2
      clear m0 m1 m2 m3
      go_loopg [5, 6] ps.length (fun m tv iv wr => ∃ (i : Nat) (t : Bool), m = ps.length - i ∧ i ≤ ps.length ∧ tv = .bool t ∧ iv = .int .i64 i ∧ Hid (VarAt wr b1 [.int .i64 fr, .int .i64 dp, .int .i64 (N : Int), .slice a ps.length cp] ∧ Grow w wr ∧ t = (ps.take i).any (fun p => hasB p s)))
      case atStart => exact ⟨0, false, by omega, by omega, rfl, rfl, X.out.1, X.out.2.1, rfl⟩
      case round =>
        obtain ⟨i, t, hk, hj, rfl, rfl, Y⟩ := hrel
        obtain ⟨⟨m0, m1, m2, m3⟩, -⟩ := Y.out.1.four
        by_cases hlt : i < ps.length
        · have hle2 : (i : Int) < (ps.length : Int) := by omega
          have HL : Hid (i < ps.length ∧ gk = ps.length - i) := ⟨hlt, hk⟩
          have hw3 : IntKind.i64.wrap ((i : Int) + 1) = (i : Int) + 1 := by rw [IntKind.wrap_i64]; omega
          obtain ⟨bb, oo, rfl, _, _, hin⟩ := rdP_at HR.out.1 hlt
          have hdi := HR.out.2.1.inside _ (getD_mem hlt)
          have HA : Hid ((ps.take (i + 1)).any (fun p => hasB p s) = (t || hasB (ps.getD i Pt.zero) s)) := by rw [any_next ps _ i hlt, ← Y.out.2.2]; exact rfl
          generalize ps.getD i Pt.zero = d at hin hdi HA
          obtain ⟨k0, k1, k2⟩ := hin.grow Y.out.2.1
          have hh := fun w' => has_any d s w' hdi.1 hdi.2.1 hdi.2.2.1 hdi.2.2.2
          clear hin hdi hk hj hlt
          cases t with
          | true =>
            have HT : Hid (true = (ps.take (i + 1)).any (fun p => hasB p s)) := by rw [HA.out]; exact rfl
            go_wp2
            go_roundg (ps.length - (i + 1))
            case measure => have := HL.out; omega
            case rel => exact ⟨i + 1, true, rfl, HL.out.1, rfl, by go_num, Y.out.1, Y.out.2.1, HT.out⟩
          | false =>
            obtain ⟨t, ht⟩ : ∃ t, t = hasB d s := ⟨_, rfl⟩
            have HT : Hid (t = (ps.take (i + 1)).any (fun p => hasB p s)) := by rw [HA.out, ht]; exact rfl
            rw [← ht] at hh
            clear ht
            go_wp2_with fail
            refine (hh _).mono ?_
            rintro e w3 ⟨rfl, g3⟩
            go_wp2
            go_roundg (ps.length - (i + 1))
            case measure => have := HL.out; omega
            case rel => exact ⟨i + 1, t, rfl, HL.out.1, rfl, by go_num, Y.out.1.grow g3, Y.out.2.1.trans g3, HT.out⟩
        · have hle2 : ¬ (i : Int) < (ps.length : Int) := by omega
          obtain rfl : i = ps.length := by omega
          have HT : Hid (t = ps.any (fun p => hasB p s)) := by have := Y.out.2.2; rw [List.take_length] at this; exact this
          have HF := freeN_next ps s
          rw [← HT.out, ← X.out.2.2] at HF
          cases t with
          | true =>
            have HV : Hid (n = freeN ps (s + 1)) := by rw [HF]; exact rfl
            clear hk hj hlt HF
            go_wp2
            go_roundg (N - (s + 1))
            case measure => have := HK.out; omega
            case rel => exact ⟨s + 1, n, rfl, HK.out.1, by have := HNS.out; omega, rfl, by go_num, Y.out.1, Y.out.2.1, HV.out⟩
          | false =>
            have HV : Hid (n + 1 = freeN ps (s + 1)) := by rw [HF]; exact rfl
            clear hk hj hlt HF
            go_wp2
            go_roundg (N - (s + 1))
            case measure => have := HK.out; omega
            case rel => exact ⟨s + 1, n + 1, rfl, HK.out.1, by have := HNS.out; omega, by go_num, by go_num, Y.out.1, Y.out.2.1, HV.out⟩
    · have hle : ¬ (s : Int) < (N : Int) := by omega
      obtain rfl : s = N := by omega
      have HE : Hid ((n : Int) = (s : Int) - gsum ps) := by rw [X.out.2.2]; exact HR.out.2.2
      go_wp2
      go_ret
      exact ⟨ret_int HE.out, X.out.2.1⟩
end Go.Proofs.Ytfjfbcgjocpmoaa
