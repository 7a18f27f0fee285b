/-
  The document's functions of an arena (Good, May, Start, Of), and the law's example. Conditions: each theorem's own.
-/
import Derived.Test.YtgpigllimoafaaaAreC
import Derived.Deep.LoopGhost
namespace Go.Proofs.Ytgpigllimoafaaa
open Go.RowKit
set_option linter.unusedVariables false
set_option linter.unusedSimpArgs false

theorem infoTI15 : (Try.prog.info? 3).map (fun i => (i.zero, i.size, i.bytes)) = some (some (.int .i64 0), 1, 8) := by kernel_rfl
/-- quotas made of the first j -/
def quoTo (zs : List Int) (j : Nat) : List Int := (zs.take j).map (fun x => 1 + around x 3)
theorem quoTo_succ {zs : List Int} {j : Nat} (hj : j < zs.length) : quoTo zs (j + 1) = quoTo zs j ++ [1 + around (zs.getD j 0) 3] := by
  unfold quoTo
  rw [take_snoc zs 0 j hj, List.map_append, List.map_singleton]
theorem quoTo_len {zs : List Int} {j : Nat} (hj : j ≤ zs.length) : (quoTo zs j).length = j := by
  unfold quoTo; simp; omega
/-- quotas that may be -/
def quoL (zs : List Int) : List Int := if zs.length = 0 then [1] else quoTo zs (min zs.length 4)
theorem quoL_len (zs : List Int) : 1 ≤ (quoL zs).length ∧ (quoL zs).length ≤ 4 := by
  unfold quoL
  split
  · exact ⟨Nat.le_refl _, by show 1 ≤ 4; omega⟩
  · rw [quoTo_len (by omega)]; omega
theorem quoL_each (zs : List Int) : ∀ x ∈ quoL zs, 1 ≤ x ∧ x ≤ 3 := by
  intro x hx
  unfold quoL at hx
  split at hx
  · simp at hx; omega
  · unfold quoTo at hx
    rw [List.mem_map] at hx
    obtain ⟨y, -, rfl⟩ := hx
    have := around_bd y 3 (by omega)
    omega
theorem quoL_at (zs : List Int) {i : Nat} (hi : i < (quoL zs).length) : 1 ≤ (quoL zs).getD i 0 ∧ (quoL zs).getD i 0 ≤ 3 := quoL_each zs _ (getD_in hi)
theorem sm_bd {q : List Int} {b : Int} (hq : ∀ i, i < q.length → 0 ≤ q.getD i 0 ∧ q.getD i 0 ≤ b) {n : Nat} (hn : n ≤ q.length) : 0 ≤ sm q n ∧ sm q n ≤ b * n := by
  induction n with
  | zero => rw [sm_zero]; exact ⟨Int.le_refl _, by simp⟩
  | succ n ih =>
    have h1 := ih (by omega)
    have h2 := hq n (by omega)
    rw [sm_succ (by omega)]
    have h3 : b * ((n + 1 : Nat) : Int) = b * n + b := by rw [Int.natCast_succ, Int.mul_add, Int.mul_one]
    omega
theorem quoL_sum (zs : List Int) : (quoL zs).length ≤ sm (quoL zs) (quoL zs).length ∧ sm (quoL zs) (quoL zs).length ≤ 12 := by
  have h1 := (sm_bd (q := quoL zs) (b := 3) (fun i hi => by have := quoL_at zs hi; omega) (Nat.le_refl _)).2
  have h2 := quoL_len zs
  refine ⟨?_, by omega⟩
  have key : ∀ n, n ≤ (quoL zs).length → (n : Int) ≤ sm (quoL zs) n := by
    intro n
    induction n with
    | zero => intro _; rw [sm_zero]; exact Int.le_refl _
    | succ n ih =>
      intro hn
      have h1 := ih (by omega)
      have h2 := quoL_at zs (i := n) (by omega)
      rw [sm_succ (by omega)]
      omega
  exact key _ (Nat.le_refl _)
theorem quoL_ok (zs : List Int) : CutOk (quoL zs) := by
  have h1 := quoL_len zs
  have h2 := quoL_sum zs
  exact ⟨h1.1, by omega, fun i hi => by have := quoL_at zs hi; omega, by omega⟩

set_option maxRecDepth 8000 in
set_option maxHeartbeats 2000000 in
theorem agood_any (w : World) (p : Nat → Prop) (v : Value) (zs : List Int) (hv : RdV (Value.int .i64) 0 p w v zs) (hz : ∀ x ∈ zs, (Lit.int .i64 x).wf = true) : Calls Try.prog 16 #[v] w fun e w' => ∃ v', e = .returned v' ∧ OwnV (Value.int .i64) 0 (fun i => w.heap.size ≤ i) w' v' (quoL zs) ∧ Grow w w' := by
  obtain ⟨i0, hi, hz0, hz1, hz2⟩ := info_parts infoTI15
  have hlm := hv.len
  unfold maxLen at hlm
  obtain ⟨a, c, rfl⟩ := hv.shape
  by_cases h0 : zs.length = 0
  · have hzn : zs = [] := List.eq_nil_of_length_eq_zero h0
    subst hzn
    have HO : Hid (OwnV (Value.int .i64) 0 (fun i => w.heap.size ≤ i) (w.alloc (.cells #[.int .i64 1] 3)) (.slice (some ⟨w.heap.size, 0, none⟩) 1 1) (quoL []) ∧ Grow w (w.alloc (.cells #[.int .i64 1] 3))) := ⟨(own_row .i64 [1] 3 w w.heap.size (Nat.le_refl _) (by simp)).v, (Grow.refl w).alloc _⟩
    clear hv hz h0
    simp only [List.length_nil]
    go_enter Try.func16, Try.ntmps16
    go_wp2
    go_loopg [3, 4] 1 (fun m d iv wr => m = 1 ∧ iv = .int .i64 0 ∧ d = .slice none 0 0 ∧ wr = w)
    case atStart => exact ⟨rfl, rfl, rfl, rfl⟩
    case round =>
      obtain ⟨hj, rfl, rfl, hww⟩ := hrel
      subst hww
      clear hj
      go_wp2
      go_ret
      exact ⟨_, rfl, HO.out⟩
  · have h1 : 1 ≤ zs.length := by omega
    obtain ⟨b, o, rfl, -, -⟩ := hv.addr (by omega)
    have HC : Hid (∀ wr, Grow w wr → ∀ j, j < zs.length → wr.cell? ⟨b, o + j, none⟩ = some (.int .i64 (zs.getD j 0))) := fun wr g j hj => by
      obtain ⟨b', o', e, -, hc⟩ := (hv.grow g).addr (by omega)
      injection e with e
      injection e with e1 e2
      subst e1 e2
      exact hc j hj
    have HA : Hid (∀ wr j, j < zs.length → Calls Try.prog 8 #[.int .i64 (zs.getD j 0), .int .i64 3] wr fun e w' => e = .returned (.int .i64 (around (zs.getD j 0) 3)) ∧ wr = w') := fun wr j hj => around_any _ 3 wr (hz _ (getD_in hj)) (by omega) (by omega)
    have HZ : Hid (quoL zs = quoTo zs (min zs.length 4)) := if_neg h0
    have HM : Hid (1 ≤ zs.length) := h1
    clear hv hz h0 h1
    go_enter Try.func16, Try.ntmps16
    go_wp2
    go_loopg [3, 4] (min zs.length 4) (fun m d iv wr => ∃ j : Nat, m = min zs.length 4 - j ∧ j ≤ min zs.length 4 ∧ iv = .int .i64 j ∧ OwnV (Value.int .i64) 0 (fun i => w.heap.size ≤ i) wr d (quoTo zs j) ∧ Hid (Grow w wr))
    case atStart => exact ⟨0, rfl, by omega, rfl, OwnV.nil _ _ _ _ _, Grow.refl _⟩
    case round =>
      obtain ⟨j, hj, hj2, rfl, ho, HW⟩ := hrel
      have HG : Hid (gk = min zs.length 4 - j ∧ j ≤ min zs.length 4) := ⟨hj, hj2⟩
      clear hj
      by_cases hlt : j < min zs.length 4
      · have hl1 : (j : Int) < (zs.length : Int) := by omega
        have hl2 : (j : Int) < 4 := by omega
        have hj3 : j < zs.length := by omega
        have hcell := HC.out wr HW.out j hj3
        have har := HA.out wr j hj3
        have HS : Hid (quoTo zs (j + 1) = quoTo zs j ++ [1 + around (zs.getD j 0) 3] ∧ j < min zs.length 4) := ⟨quoTo_succ hj3, hlt⟩
        have hll : (quoTo zs j).length ≤ 4 := by rw [quoTo_len (by omega)]; omega
        have hab := around_bd (zs.getD j 0) 3 (by omega)
        generalize quoTo zs j = D at ho hll HS
        generalize around (zs.getD j 0) 3 = y at har hab HS
        generalize zs.getD j 0 = x at hcell har
        have hw1 : IntKind.i64.wrap (1 + y) = 1 + y := by rw [IntKind.wrap_i64]; omega
        have hw0 : IntKind.i64.wrap ((j : Int) + 1) = ((j + 1 : Nat) : Int) := by rw [IntKind.wrap_i64]; omega
        clear hab hj2 hlt
        go_wp2_with fail
        refine har.mono ?_
        rintro e w1 ⟨rfl, rfl⟩
        clear har hcell
        have ho1 := ho.grow ((Grow.refl wr).alloc (.cells #[.int .i64 (1 + y)] 3))
        obtain ⟨a3, c3, hsh⟩ := ho1.shape
        subst hsh
        clear ho
        go_wp2_with (at_builtin; refine wpList_appV (f := Value.int .i64) (d := 0) rfl (.tmp 15) (.tmp 22) 22 22 rfl i0 (.int .i64 0) 8 Try.underlying22 hi hz0 hz1 hz2 rfl rfl rfl ho1 (Src.oneV (w := wr) Try.underlying22 (Value.int .i64) (1 + y) (oneI .i64 _) 3) (by simp only [maxLen, List.length_singleton]; omega) (by simp only [List.length_singleton]; omega) ?_)
        intro v' w' ho' hu'
        have HN : Hid (OwnV (Value.int .i64) 0 (fun i => w.heap.size ≤ i) w' v' (quoTo zs (j + 1)) ∧ Grow w w') := by
          have hg := HW.out.size
          refine ⟨?_, UpdS.new (HW.out.alloc _) hu' (fun i hi => hi)⟩
          rw [HS.out.1]
          exact ho'.mono (fun i _ hi => by rcases hi with hi | hi; exact hi; omega)
        clear ho' hu' ho1
        go_wp2
        go_roundg (min zs.length 4 - (j + 1))
        case measure => have := HG.out; have := HS.out.2; omega
        case rel => exact ⟨j + 1, rfl, by have := HS.out.2; omega, by go_num, HN.out.1, HN.out.2⟩
      · have HE : Hid (OwnV (Value.int .i64) 0 (fun i => w.heap.size ≤ i) wr u3 (quoL zs) ∧ Grow w wr) := by
          refine ⟨?_, HW.out⟩
          rw [HZ.out, show min zs.length 4 = j by omega]; exact ho
        obtain ⟨a3, c3, hsh⟩ := ho.shape
        have hne : ¬ ((quoTo zs j).length : Int) = 0 := by
          rw [quoTo_len (by omega)]
          have := HM.out
          omega
        generalize (quoTo zs j).length = D at hsh hne
        subst hsh
        clear ho
        by_cases hl1 : (j : Int) < (zs.length : Int)
        · have hl2 : ¬ (j : Int) < 4 := by omega
          clear hlt hj2
          go_wp2
          go_ret
          exact ⟨_, rfl, HE.out⟩
        · clear hlt hj2
          go_wp2
          go_ret
          exact ⟨_, rfl, HE.out⟩

/-- what May tells -/
def MayTold (q : List Int) (e : Ending) : Prop := (CutOk q ∧ e = .returned (.bool true)) ∨ (¬ CutOk q ∧ e = .returned (.bool false))
set_option maxHeartbeats 2000000 in
theorem may_any (w : World) (p : Nat → Prop) (v : Value) (q : List Int) (hv : RdV (Value.int .i64) 0 p w v q) (hq : ∀ x ∈ q, (Lit.int .i64 x).wf = true) (hl : q.length ≤ 20) : Calls Try.prog 10 #[v] w fun e w' => MayTold q e ∧ w = w' := by
  obtain ⟨a, c, rfl⟩ := hv.shape
  have HC : Hid (∀ j, j < q.length → ∃ b o, a = some ⟨b, o, none⟩ ∧ w.cell? ⟨b, o + j, none⟩ = some (.int .i64 (q.getD j 0))) := fun j hj => by
    obtain ⟨b, o, e, -, hc⟩ := hv.addr (by omega)
    exact ⟨b, o, e, hc j hj⟩
  have HQ : Hid (∀ j, j < q.length → -9223372036854775808 ≤ q.getD j 0 ∧ q.getD j 0 ≤ 9223372036854775807) := fun j hj => by
    have := bounds_i64 (hq _ (getD_in (d := 0) hj))
    omega
  clear hv hq
  go_enter Try.func10, Try.ntmps10
  go_wp2
  go_loopg [3, 4] q.length (fun m s iv wr => ∃ j : Nat, m = q.length - j ∧ j ≤ q.length ∧ iv = .int .i64 j ∧ s = .int .i64 (sm q j) ∧ wr = w ∧ Hid (∀ i, i < j → 1 ≤ q.getD i 0 ∧ q.getD i 0 ≤ 64))
  case atStart => exact ⟨0, rfl, by omega, rfl, by rw [sm_zero], rfl, fun i hi => absurd hi (Nat.not_lt_zero _)⟩
  case round =>
    obtain ⟨j, hj, hj2, rfl, rfl, hww, HW⟩ := hrel
    subst hww
    have HG : Hid (gk = q.length - j) := hj
    clear hj
    have hsb : 0 ≤ sm q j ∧ sm q j ≤ 64 * j := by
      have key : ∀ n, n ≤ j → 0 ≤ sm q n ∧ sm q n ≤ 64 * n := by
        intro n
        induction n with
        | zero => intro _; rw [sm_zero]; exact ⟨Int.le_refl _, by simp⟩
        | succ n ih =>
          intro hn
          have h1 := ih (by omega)
          have h2 := HW.out n (by omega)
          rw [sm_succ (by omega)]
          omega
      exact key j (Nat.le_refl _)
    by_cases hlt : j < q.length
    · have hle : (j : Int) < (q.length : Int) := by omega
      obtain ⟨b, o, rfl, hcell⟩ := HC.out j hlt
      have hxb := HQ.out j hlt
      have HS : Hid (sm q (j + 1) = sm q j + q.getD j 0 ∧ j < q.length) := ⟨sm_succ hlt, hlt⟩
      have HB : Hid (¬ (1 ≤ q.getD j 0 ∧ q.getD j 0 ≤ 64) → ¬ CutOk q) := cut_bad hlt
      have HI : Hid ((1 ≤ q.getD j 0 ∧ q.getD j 0 ≤ 64) → ∀ i, i < j + 1 → 1 ≤ q.getD i 0 ∧ q.getD i 0 ≤ 64) := fun h i hi => by
        by_cases e : i = j
        · subst e; exact h
        · exact HW.out i (by omega)
      generalize sm q j = y at hsb HS ⊢
      generalize q.getD j 0 = x at hcell hxb HS HB HI
      have hw0 : IntKind.i64.wrap ((j : Int) + 1) = ((j + 1 : Nat) : Int) := by rw [IntKind.wrap_i64]; omega
      by_cases h1 : x < 1
      · have HN : Hid (¬ CutOk q) := HB.out (by omega)
        clear HB HI HS
        go_wp2
        go_ret
        exact ⟨.inr ⟨HN.out, rfl⟩, rfl⟩
      · by_cases h2 : 64 < x
        · have HN : Hid (¬ CutOk q) := HB.out (by omega)
          clear HB HI HS
          go_wp2
          go_ret
          exact ⟨.inr ⟨HN.out, rfl⟩, rfl⟩
        · have HI' : Hid (∀ i, i < j + 1 → 1 ≤ q.getD i 0 ∧ q.getD i 0 ≤ 64) := HI.out (by omega)
          have hw1 : IntKind.i64.wrap (y + x) = y + x := by rw [IntKind.wrap_i64]; omega
          clear HB HI
          go_wp2
          go_roundg (q.length - (j + 1))
          case measure => have := HG.out; have := HS.out.2; omega
          case rel => exact ⟨j + 1, rfl, by omega, by go_num, by rw [HS.out.1], rfl, HI'.out⟩
    · have hge : ¬ (j : Int) < (q.length : Int) := by omega
      obtain rfl : q.length = j := by omega
      have HR : Hid (CutOk q ↔ 0 < q.length ∧ q.length < 17 ∧ sm q q.length < 65) := ⟨fun k => ⟨by have := k.1; omega, by have := k.2.1; omega, by have := k.2.2.2; omega⟩, fun k => ⟨by omega, by omega, HW.out, by omega⟩⟩
      generalize sm q q.length = y at hsb HR ⊢
      clear hlt HW HC HQ
      by_cases g1 : 0 < q.length
      · have g1' : (0 : Int) < (q.length : Int) := by omega
        by_cases g2 : q.length < 17
        · have g2' : (q.length : Int) < 17 := by omega
          by_cases g3 : y < 65
          · have HN : Hid (CutOk q) := HR.out.2 ⟨g1, g2, g3⟩
            clear HR g1 g2
            go_wp2
            go_ret
            exact ⟨.inl ⟨HN.out, rfl⟩, rfl⟩
          · have HN : Hid (¬ CutOk q) := fun k => g3 (HR.out.1 k).2.2
            clear HR g1 g2
            go_wp2
            go_ret
            exact ⟨.inr ⟨HN.out, rfl⟩, rfl⟩
        · have g2' : ¬ (q.length : Int) < 17 := by omega
          have HN : Hid (¬ CutOk q) := fun k => g2 (HR.out.1 k).2.1
          clear HR g1 g2
          go_wp2
          go_ret
          exact ⟨.inr ⟨HN.out, rfl⟩, rfl⟩
      · have g1' : ¬ (0 : Int) < (q.length : Int) := by omega
        have HN : Hid (¬ CutOk q) := fun k => g1 (HR.out.1 k).1
        clear HR g1
        go_wp2
        go_ret
        exact ⟨.inr ⟨HN.out, rfl⟩, rfl⟩

set_option maxHeartbeats 2000000 in
theorem qstart_any (w : World) (p : Nat → Prop) (v : Value) (q : List Int) (hv : RdV (Value.int .i64) 0 p w v q) (hq : CutOk q) (i : Nat) (hi : i < q.length) : Calls Try.prog 21 #[v, .int .i64 i] w fun e w' => e = .returned (.int .i64 (sm q i)) ∧ w = w' := by
  obtain ⟨a, c, rfl⟩ := hv.shape
  obtain ⟨b, o, rfl, -, hcs⟩ := hv.addr (by omega)
  have HC : Hid (∀ j, j < q.length → w.cell? ⟨b, o + j, none⟩ = some (.int .i64 (q.getD j 0))) := hcs
  have HB : Hid (∀ j, j < q.length → 0 ≤ sm q j ∧ sm q j ≤ 1024 ∧ sm q (j + 1) = sm q j + q.getD j 0 ∧ 0 ≤ q.getD j 0 ∧ q.getD j 0 ≤ 64) := fun j hj => by
    have h1 := sm_bd (q := q) (b := 64) (fun i hi => by have := hq.2.2.1 i hi; omega) (n := j) (by omega)
    have h2 := hq.2.1
    have h3 := hq.2.2.1 j hj
    exact ⟨h1.1, by omega, sm_succ hj, by omega, by omega⟩
  have hil : (i : Int) < (q.length : Int) := by omega
  have hl16 := hq.2.1
  clear hv hq hcs
  go_enter Try.func21, Try.ntmps21
  go_wp2
  go_loopg [5, 6] i (fun m s iv wr => ∃ j : Nat, m = i - j ∧ j ≤ i ∧ iv = .int .i64 j ∧ s = .int .i64 (sm q j) ∧ wr = w)
  case atStart => exact ⟨0, rfl, by omega, rfl, by rw [sm_zero], rfl⟩
  case round =>
    obtain ⟨j, hj, hj2, rfl, rfl, hww⟩ := hrel
    subst hww
    have HG : Hid (gk = i - j) := hj
    clear hj
    by_cases hlt : j < i
    · have hle : (j : Int) < (i : Int) := by omega
      have hjl : (j : Int) < (q.length : Int) := by omega
      have hcell := HC.out j (by omega)
      obtain ⟨b1, b2, e1, b3, b4⟩ := HB.out j (by omega)
      have HS : Hid (sm q (j + 1) = sm q j + q.getD j 0) := e1
      clear e1
      generalize sm q j = y at b1 b2 HS ⊢
      generalize q.getD j 0 = x at hcell b3 b4 HS
      have hw0 : IntKind.i64.wrap ((j : Int) + 1) = ((j + 1 : Nat) : Int) := by rw [IntKind.wrap_i64]; omega
      have hw1 : IntKind.i64.wrap (y + x) = y + x := by rw [IntKind.wrap_i64]; omega
      go_wp2
      go_roundg (i - (j + 1))
      case measure => have := HG.out; omega
      case rel => exact ⟨j + 1, rfl, by omega, by go_num, by rw [HS.out], rfl⟩
    · have hge : ¬ (j : Int) < (i : Int) := by omega
      obtain rfl : i = j := by omega
      clear hlt
      go_wp2
      go_ret
      exact ⟨rfl, rfl⟩

/-- what the document's Of tells -/
def QOfTold (q : List Int) (n : Int) (e : Ending) : Prop :=
  (∃ m : Nat, m < q.length ∧ e = .returned (.tuple #[.int .i64 m, .int .i64 (n - sm q m)]) ∧ sm q m ≤ n ∧ n < sm q (m + 1)) ∨ (e = .returned (.tuple #[.int .i64 (-1), .int .i64 (-1)]) ∧ (n < 0 ∨ sm q q.length ≤ n))
set_option maxHeartbeats 4000000 in
theorem qof_any (w : World) (p : Nat → Prop) (v : Value) (q : List Int) (hv : RdV (Value.int .i64) 0 p w v q) (hq : CutOk q) (n : Int) : Calls Try.prog 18 #[v, .int .i64 n] w fun e w' => QOfTold q n e ∧ w = w' := by
  obtain ⟨a, c, rfl⟩ := hv.shape
  obtain ⟨b, o, rfl, -, hcs⟩ := hv.addr (by have := hq.1; omega)
  have HC : Hid (∀ j, j < q.length → w.cell? ⟨b, o + j, none⟩ = some (.int .i64 (q.getD j 0))) := hcs
  have HB : Hid (∀ j, j < q.length → 0 ≤ sm q j ∧ sm q j ≤ 1024 ∧ sm q (j + 1) = sm q j + q.getD j 0 ∧ 1 ≤ q.getD j 0 ∧ q.getD j 0 ≤ 64) := fun j hj => by
    have h1 := sm_bd (q := q) (b := 64) (fun i hi => by have := hq.2.2.1 i hi; omega) (n := j) (by omega)
    have h2 := hq.2.1
    have h3 := hq.2.2.1 j hj
    exact ⟨h1.1, by omega, sm_succ hj, by omega, by omega⟩
  have hl16 := hq.2.1
  clear hv hq hcs
  go_enter Try.func18, Try.ntmps18
  go_wp2
  go_loopg [6, 7] q.length (fun m s iv wr => ∃ j : Nat, m = q.length - j ∧ j ≤ q.length ∧ iv = .int .i64 j ∧ s = .int .i64 (sm q j) ∧ wr = w ∧ Hid (n < 0 ∨ sm q j ≤ n))
  case atStart => exact ⟨0, rfl, by omega, rfl, by rw [sm_zero], rfl, by show _ ∨ _; rw [sm_zero]; omega⟩
  case round =>
    obtain ⟨j, hj, hj2, rfl, rfl, hww, HW⟩ := hrel
    subst hww
    obtain ⟨W9, rfl⟩ : ∃ W9, W9 = wr := ⟨_, rfl⟩
    have HG : Hid (gk = q.length - j) := hj
    clear hj
    by_cases hlt : j < q.length
    · have hle : (j : Int) < (q.length : Int) := by omega
      have hcell := HC.out j hlt
      obtain ⟨b1, b2, e1, b3, b4⟩ := HB.out j hlt
      have HS : Hid (sm q (j + 1) = sm q j + q.getD j 0 ∧ j < q.length) := ⟨e1, hlt⟩
      clear e1
      obtain ⟨y, hy⟩ : ∃ y, sm q j = y := ⟨_, rfl⟩
      have HY : Hid (sm q j = y) := hy
      rw [hy] at b1 b2 ⊢
      have HW' : Hid (n < 0 ∨ y ≤ n) := by rw [← hy]; exact HW.out
      obtain ⟨x, hx⟩ : ∃ x, q.getD j 0 = x := ⟨_, rfl⟩
      have HX : Hid (q.getD j 0 = x) := hx
      rw [hx] at hcell b3 b4
      clear hy hx HW
      obtain ⟨x, rfl⟩ : ∃ m : Nat, x = m := ⟨x.toNat, by omega⟩
      have hw0 : IntKind.i64.wrap ((j : Int) + 1) = ((j + 1 : Nat) : Int) := by rw [IntKind.wrap_i64]; omega
      go_wp2
      go_loopg [6, 8] x (fun m s kv wr => ∃ k : Nat, m = x - k ∧ k ≤ x ∧ kv = .int .i64 k ∧ s = .int .i64 (y + k) ∧ wr = W9 ∧ Hid (n < 0 ∨ y + k ≤ n))
      case atStart => exact ⟨0, rfl, by omega, rfl, by go_num, rfl, by show _ ∨ _; have := HW'.out; omega⟩
      case round =>
        obtain ⟨k, hk, hk2, rfl, rfl, hww, HK⟩ := hrel
        subst hww
        have HGk : Hid (gk = x - k) := hk
        clear hk
        by_cases hlk : k < x
        · have hle2 : (k : Int) < (x : Int) := by omega
          have hwk : IntKind.i64.wrap ((k : Int) + 1) = ((k + 1 : Nat) : Int) := by rw [IntKind.wrap_i64]; omega
          have hwy : IntKind.i64.wrap (y + (k : Int) + 1) = y + (k : Int) + 1 := by rw [IntKind.wrap_i64]; omega
          by_cases hyn : y + (k : Int) = n
          · have HR : Hid (QOfTold q n (.returned (.tuple #[.int .i64 j, .int .i64 k]))) := by
              refine .inl ⟨j, HS.out.2, ?_, ?_, ?_⟩
              · rw [HY.out, show n - y = (k : Int) by omega]
              · rw [HY.out]; omega
              · rw [HS.out.1, HY.out, HX.out]; omega
            have hyn' : ((y + (k : Int)) == n) = true := by rw [beq_iff_eq]; exact hyn
            have HN : Hid (y + (k : Int) = n) := hyn
            clear hyn
            generalize y + (k : Int) = z at hyn'
            go_wp2
            go_ret2
            exact ⟨HR.out, rfl⟩
          · have hyn' : ((y + (k : Int)) == n) = false := by rw [beq_eq_false_iff_ne]; exact hyn
            have HN : Hid (n < 0 ∨ y + ((k + 1 : Nat) : Int) ≤ n) := by show _ ∨ _; have := HK.out; omega
            have HE : Hid (y + ((k + 1 : Nat) : Int) = y + (k : Int) + 1) := by show _ = _; omega
            clear hyn
            generalize y + (k : Int) = z at hyn' hwy HE
            go_wp2
            go_roundg (x - (k + 1))
            case measure => have := HGk.out; omega
            case rel => exact ⟨k + 1, rfl, by omega, by go_num, by rw [HE.out], rfl, HN.out⟩
        · have hge2 : ¬ (k : Int) < (x : Int) := by omega
          obtain rfl : x = k := by omega
          have HN : Hid (sm q (j + 1) = y + (x : Int) ∧ (n < 0 ∨ sm q (j + 1) ≤ n) ∧ j < q.length) := by
            have e : sm q (j + 1) = y + (x : Int) := by rw [HS.out.1, HY.out, HX.out]
            refine ⟨e, ?_, HS.out.2⟩
            rw [e]; exact HK.out
          generalize y + (x : Int) = z at HN
          clear hlk
          go_wp2
          go_roundg (q.length - (j + 1))
          case measure => have := HG.out; have := HN.out.2.2; omega
          case rel => exact ⟨j + 1, rfl, by have := HN.out.2.2; omega, by go_num, by rw [HN.out.1], rfl, HN.out.2.1⟩
    · have hge : ¬ (j : Int) < (q.length : Int) := by omega
      obtain rfl : q.length = j := by omega
      have HR : Hid (QOfTold q n (.returned (.tuple #[.int .i64 (-1), .int .i64 (-1)]))) := .inr ⟨rfl, HW.out⟩
      generalize sm q q.length = y
      clear hlt HW
      go_wp2
      go_ret2
      exact ⟨HR.out, rfl⟩
end Go.Proofs.Ytgpigllimoafaaa
