/-
  Bytes as lists of numbers: what is below 256, the same texts, Equal, Clone, the document's Fill. Conditions: each theorem's own.
-/
import Derived.Test.YtdafamocnjfmjaaDoorWords
import Derived.Test.YtdafamocnjfmjaaDoorBase
import Derived.Test.YtdafamocnjfmjaaDoorEnds
import Derived.Test.YtdafamocnjfmjaaDoorVars
import Derived.Lib.SliceRun
namespace Go.Proofs.YtdafamocnjfmjaaDoor
open Go.RowKit
set_option linter.unusedVariables false
set_option linter.unusedSimpArgs false

/-- bytes, each at least 0 and below 256 -/
def Oct (bs : List Int) : Prop := ∀ x ∈ bs, 0 ≤ x ∧ x < 256

theorem Oct.getD {bs : List Int} (h : Oct bs) (j : Nat) : 0 ≤ bs.getD j 0 ∧ bs.getD j 0 < 256 := by
  by_cases hj : j < bs.length
  · rw [List.getD, List.getElem?_eq_getElem hj]; exact h _ (List.getElem_mem hj)
  · rw [List.getD, List.getElem?_eq_none (by omega)]; simp
theorem Oct.take {bs : List Int} (h : Oct bs) (k : Nat) : Oct (bs.take k) := fun x hx => h x (List.mem_of_mem_take hx)
theorem Oct.drop {bs : List Int} (h : Oct bs) (k : Nat) : Oct (bs.drop k) := fun x hx => h x (List.mem_of_mem_drop hx)
theorem Oct.append {a b : List Int} (h : Oct a) (h' : Oct b) : Oct (a ++ b) := fun x hx => by
  rcases List.mem_append.1 hx with hx | hx
  · exact h x hx
  · exact h' x hx
theorem Oct.set {bs : List Int} (h : Oct bs) (k : Nat) {y : Int} (h0 : 0 ≤ y) (h1 : y < 256) : Oct (bs.set k y) := fun x hx => by
  rcases List.mem_or_eq_of_mem_set hx with hx | rfl
  · exact h x hx
  · exact ⟨h0, h1⟩
theorem oct_le (k : Nat) (n : Int) : Oct (le k n) := by
  induction k generalizing n with
  | zero => intro x hx; cases hx
  | succ k ih =>
    intro x hx
    rw [le] at hx
    rcases List.mem_cons.1 hx with rfl | hx
    · omega
    · exact ih _ x hx


theorem strOfNums_inj {a b : List Int} (ha : Oct a) (hb : Oct b) (h : strOfNums a = strOfNums b) : a = b := by
  have h' : (strOfNums a).data.toList = (strOfNums b).data.toList := by rw [h]
  rw [strOfNums_data, strOfNums_data] at h'
  clear h
  induction a generalizing b with
  | nil =>
    cases b with
    | nil => rfl
    | cons y b => simp at h'
  | cons x a ih =>
    cases b with
    | nil => simp at h'
    | cons y b =>
      simp only [List.map_cons, List.cons.injEq] at h'
      have hx := ha x (by simp)
      have hy := hb y (by simp)
      have e : x.toNat = y.toNat := by
        have := congrArg UInt8.toNat h'.1
        rw [UInt8.toNat_ofNat', UInt8.toNat_ofNat'] at this
        omega
      rw [show x = y by omega, ih (fun z hz => ha z (by simp [hz])) (fun z hz => hb z (by simp [hz])) h'.2]


theorem str_beq {a b : List Int} (ha : Oct a) (hb : Oct b) : ((strOfNums a).toList == (strOfNums b).toList) = decide (a = b) := by
  by_cases h : a = b
  · subst h; simp
  · rw [decide_eq_false h]
    refine beq_eq_false_iff_ne.2 fun e => h (strOfNums_inj ha hb ?_)
    rw [ByteArray.toList_eq, ByteArray.toList_eq] at e
    have e' := Array.toList_inj.1 e
    cases hx : strOfNums a
    cases hy : strOfNums b
    rw [hx, hy] at e'
    simp only at e'
    rw [e']

set_option maxHeartbeats 1000000 in
theorem equal_any (v1 v2 : Value) (z1 z2 : List Int) (B1 B2 : Nat) (w : World) (h1 : Rd .u8 B1 w v1 z1) (h2 : Rd .u8 B2 w v2 z2) (o1 : Oct z1) (o2 : Oct z2) :
    Calls Tryd.prog 41 #[v1, v2] w fun e w' => e = .returned (.bool (decide (z1 = z2))) ∧ w = w' := by
  have hs1 := h1.string (P := Tryd.prog) 22 9 5 Tryd.underlying22 Tryd.underlying5 Tryd.underlying9
  have hs2 := h2.string (P := Tryd.prog) 22 9 5 Tryd.underlying22 Tryd.underlying5 Tryd.underlying9
  go_enter Tryd.func41, Tryd.ntmps41
  go_wp2
  go_ret
  exact ⟨ret_bool (str_beq o1 o2), rfl⟩

theorem zeroBS (w : World) : (zeroValue 22).run Tryd.prog w = .ok (.slice none 0 0) w := by kernel_rfl

set_option maxHeartbeats 1000000 in
theorem clone_any (v : Value) (zs : List Int) (B : Nat) (w : World) (h : Rd .u8 B w v zs) (hl : zs.length ≤ 1000000) :
    Calls Tryd.prog 42 #[v] w fun e w' => ∃ v', e = .returned v' ∧ Own .u8 w.heap.size w' v' zs ∧ Grow w w' := by
  obtain ⟨i0, hi, hz0, hz1, hz2⟩ := info_parts Tryd.info5
  have h' := h.size
  obtain ⟨a, c, rfl, h1, h2, h3⟩ := h
  cases a with
  | none =>
    have hz : zs = [] := by
      cases zs with
      | nil => rfl
      | cons x xs => obtain ⟨b, o, e, _⟩ := h3 0 (by simp); cases e
    subst hz
    have hq := fun w => Lib.run_eql_slice_nil (P := Tryd.prog) w 22 5 none ([] : List Int).length c 0 0 Tryd.underlying22
    simp only [List.length_nil, Option.isNone_none] at hq
    go_enter Tryd.func42, Tryd.ntmps42
    go_wp2
    go_ret
    exact ⟨_, rfl, Own.nil _ _ _ _, Grow.refl _⟩
  | some a =>
    have hsrc : ∀ o, Src Tryd.prog 1 22 (.slice (some a) zs.length c) zs.length (zs.map (Value.int .u8)) (w.alloc o) := fun o => (RdV.i (RdV.grow (Rd.v h') ((Grow.refl w).alloc o))).src (P := Tryd.prog) Tryd.underlying22
    clear h3
    have hq := fun w => Lib.run_eql_slice_nil (P := Tryd.prog) w 22 5 (some a) zs.length c 0 0 Tryd.underlying22
    simp only [Option.isNone_some] at hq
    go_enter Tryd.func42, Tryd.ntmps42
    go_wp2_with (at_builtin; refine wpList_app rfl (.tmp 5) (.tmp 6) 22 22 rfl i0 (.int .u8 0) 1 Tryd.underlying22 hi hz0 hz1 hz2 rfl rfl rfl (Own.nil .u8 w.heap.size _ _) (hsrc _) (by simp only [maxLen, List.length_nil]; omega) (by simp only [List.length_nil]; omega) (by simp) ?_)
    intro v3 w3 ho3 hb3
    go_wp2
    go_ret
    exact ⟨_, rfl, by simpa using ho3, Below.trans ((Grow.refl w).alloc _) hb3⟩

/-- 'Fill': so many bytes, made of any -/
def fillL (zs : List Int) (n : Nat) : List Int := (List.range n).map fun i => zs.getD (i % zs.length) 0
theorem fillL_length (zs : List Int) (n : Nat) : (fillL zs n).length = n := by simp [fillL]
theorem fillL_succ (zs : List Int) (j : Nat) : fillL zs (j + 1) = fillL zs j ++ [zs.getD (j % zs.length) 0] := by simp [fillL, List.range_succ]
theorem oct_fill {zs : List Int} (h : Oct zs) (n : Nat) : Oct (fillL zs n) := fun x hx => by
  unfold fillL at hx
  obtain ⟨i, _, rfl⟩ := List.mem_map.1 hx
  exact h.getD _

set_option maxHeartbeats 2000000 in
set_option maxRecDepth 8000 in
theorem fill_any (v : Value) (zs : List Int) (ni : Int) (n : Nat) (B : Nat) (w : World) (hni : ni = n) (h : Rd .u8 B w v zs) (hn : n ≤ 1000) :
    Calls Tryd.prog 25 #[v, .int .i64 ni] w fun e w' => ∃ v', e = .returned v' ∧ Own .u8 w.heap.size w' v' (fillL zs n) ∧ Grow w w' := by
  obtain ⟨i0, hi, hz0, hz1, hz2⟩ := info_parts Tryd.info5
  subst hni
  have hlm := h.len
  replace h := h.size
  obtain ⟨a, c, rfl, h1, h2, h3⟩ := h
  unfold maxLen at hlm
  by_cases h0 : zs.length = 0
  · have hx : ∀ j, zs.getD (j % zs.length) 0 = 0 := fun j => by rw [List.eq_nil_of_length_eq_zero h0]; rfl
    have HX : Hid (∀ j, fillL zs (j + 1) = fillL zs j ++ [0]) := fun j => by rw [fillL_succ, hx]
    rw [h0]
    clear hx h0 h3 hlm h1
    go_enter Tryd.func25, Tryd.ntmps25
    go_wp2
    go_loopg [5, 6] n (fun k d i wr => ∃ j : Nat, k = n - j ∧ j ≤ n ∧ i = .int .i64 j ∧ Own .u8 w.heap.size wr d (fillL zs j) ∧ Below w.heap.size w wr)
    case atStart => exact ⟨0, rfl, Nat.zero_le _, rfl, Own.nil _ _ _ _, Below.refl _ _⟩
    case round =>
      obtain ⟨j, hk, hj, rfl, ho, hb⟩ := hrel
      have hBr := hb.size
      by_cases hlt : j < n
      · have hlt' : (j : Int) < (n : Int) := by omega
        have hll : (fillL zs j).length ≤ 1000 := by rw [fillL_length]; omega
        go_wp2_with (at_builtin; refine wpList_app rfl (.tmp 25) (.tmp 26) 22 22 rfl i0 (.int .u8 0) 1 Tryd.underlying22 hi hz0 hz1 hz2 rfl rfl rfl (ho.alloc _) (Src.one (w := wr) Tryd.underlying22 .u8 0 5) (by simp only [maxLen, List.length_singleton]; omega) (by simp only [List.length_singleton]; omega) (by simp; omega) ?_)
        intro v' w' ho' hb'
        go_wp2
        go_roundg (n - (j + 1))
        case measure => omega
        case rel =>
          refine ⟨j + 1, rfl, by omega, by go_num, ?_, ?_⟩
          · rw [HX.out]; exact ho'
          · exact hb.trans (((Below.refl _ wr).alloc hBr _).trans hb')
      · obtain rfl : j = n := by omega
        go_wp2
        go_ret
        exact ⟨_, rfl, ho, hb⟩
  · have hpos : 0 < (zs.length : Int) := by omega
    have hne : ¬ (zs.length : Int) = 0 := by omega
    go_enter Tryd.func25, Tryd.ntmps25
    go_wp2
    go_loopg [5, 6] n (fun k d i wr => ∃ j : Nat, k = n - j ∧ j ≤ n ∧ i = .int .i64 j ∧ Own .u8 w.heap.size wr d (fillL zs j) ∧ Below w.heap.size w wr)
    case atStart => exact ⟨0, rfl, Nat.zero_le _, rfl, Own.nil _ _ _ _, Below.refl _ _⟩
    case round =>
      obtain ⟨j, hk, hj, rfl, ho, hb⟩ := hrel
      have hBr := hb.size
      by_cases hlt : j < n
      · have hlt' : (j : Int) < (n : Int) := by omega
        have hll : (fillL zs j).length ≤ 1000 := by rw [fillL_length]; omega
        have hml : j % zs.length < zs.length := Nat.mod_lt _ (by omega)
        obtain ⟨b, o, rfl, hbB, hc⟩ := h3 (j % zs.length) hml
        have hcr : wr.cell? ⟨b, o + j % zs.length, none⟩ = some (.int .u8 (zs.getD (j % zs.length) 0)) := by rw [hb.cell (p := ⟨b, o + j % zs.length, none⟩) hbB]; exact hc
        have HT : Hid (fillL zs (j + 1) = fillL zs j ++ [zs.getD (j % zs.length) 0]) := fillL_succ zs j
        have hmod : (j : Int) % (zs.length : Int) = ((j % zs.length : Nat) : Int) := by omega
        have htmod : (j : Int).tmod (zs.length : Int) = ((j % zs.length : Nat) : Int) := by rw [Int.tmod_eq_emod_of_nonneg (by omega)]; omega
        clear hc h3
        generalize zs.getD (j % zs.length) 0 = x at hcr HT
        generalize j % zs.length = y at hcr hml hmod htmod
        have hy0 : (0 : Int) ≤ (y : Int) := by omega
        have hy1 : (y : Int) < (zs.length : Int) := by omega
        go_wp2_with (at_builtin; refine wpList_app rfl (.tmp 15) (.tmp 23) 22 22 rfl i0 (.int .u8 0) 1 Tryd.underlying22 hi hz0 hz1 hz2 rfl rfl rfl (ho.alloc _) (Src.one (w := wr) Tryd.underlying22 .u8 x 5) (by simp only [maxLen, List.length_singleton]; omega) (by simp only [List.length_singleton]; omega) (by simp; omega) ?_)
        intro v' w' ho' hb'
        go_wp2
        go_roundg (n - (j + 1))
        case measure => omega
        case rel =>
          refine ⟨j + 1, rfl, by omega, by go_num, ?_, ?_⟩
          · rw [HT.out]; exact ho'
          · exact hb.trans (((Below.refl _ wr).alloc hBr _).trans hb')
      · obtain rfl : j = n := by omega
        go_wp2
        go_ret
        exact ⟨_, rfl, ho, hb⟩
end Go.Proofs.YtdafamocnjfmjaaDoor
