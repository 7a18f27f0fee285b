/-
  The walks of the document's Pages, Fetch, Flush. Conditions: each theorem's own.
-/
import Derived.Test.YtpmmlocigaehnaaDoorPlnF
namespace Go.Proofs.YtpmmlocigaehnaaDoor
open Go.RowKit
set_option linter.unusedVariables false
set_option linter.unusedSimpArgs false

theorem infoX : (Tryd.prog.info? 43).map (fun i => (i.zero, i.size, i.bytes)) = some (some (.agg #[.int .i64 0, .int .i64 0, .int .i64 0]), 3, 24) := by kernel_rfl
theorem src_oneX (w : World) (o p k : Int) : Src Tryd.prog 3 26 (.slice (some ⟨w.heap.size, 0, none⟩) 1 1) [(⟨o, p, k⟩ : Sp)].length ([(⟨o, p, k⟩ : Sp)].flatMap Sp.cs) (w.alloc (.cells #[.int .i64 o, .int .i64 p, .int .i64 k] 43)) :=
  (rdS_new (f := Sp.cs) (k := 3) w 43 [⟨o, p, k⟩] spk (by simp [maxLen])).src spk sp_one Tryd.underlying26

set_option maxHeartbeats 4000000 in
theorem rpages_any {B : Nat} (kd : Int) (a : Option Addr) (c : Nat) (l : List Int) (w : World) (h : Rd .i64 B w (.slice a l.length c) l) (hB : B ≤ w.heap.size) (hl : l.length ≤ 100) :
    Calls Tryd.prog 10 #[.int .i64 kd, .slice a l.length c] w fun e w' => ∃ v', e = .returned v' ∧ OwnS Sp.cs 3 (fun i => w.heap.size ≤ i) w' v' (pgsL kd l) ∧ Grow w w' := by
  obtain ⟨i0, hi, hz0, hz1, hz2⟩ := info_parts infoX
  have HR := hid h
  have HB := hid hB
  have HL := hid hl
  have hw2 : IntKind.i64.wrap (2 * (l.length : Int)) = 2 * (l.length : Int) := by rw [IntKind.wrap_i64]; omega
  clear h hB hl
  go_enter Tryd.func10, Tryd.ntmps10
  go_wp2
  go_loopg [5, 6] (2 * l.length) (fun m sv iv wr => ∃ j : Nat, m = 2 * l.length - j ∧ j ≤ 2 * l.length ∧ iv = .int .i64 j ∧ Hid (OwnS Sp.cs 3 (fun i => w.heap.size ≤ i) wr sv ((pgsL kd l).take j) ∧ Grow w wr))
  case atStart => exact ⟨0, rfl, Nat.zero_le _, rfl, OwnS.nil _ _ _ _ _, Grow.refl _⟩
  case round =>
    obtain ⟨j, hk, hj, rfl, HX⟩ := hrel
    have hl := HL.out
    by_cases hlt : j < 2 * l.length
    · have hlt' : (j : Int) < 2 * (l.length : Int) := by omega
      have hw1 : IntKind.i64.wrap ((j : Int) + 1) = ((j + 1 : Nat) : Int) := by rw [IntKind.wrap_i64]; omega
      have HJ : Hid (j < 2 * l.length ∧ gk = 2 * l.length - j) := ⟨hlt, hk⟩
      obtain ⟨q, hq⟩ : ∃ q, q = j / 2 := ⟨_, rfl⟩
      obtain ⟨r, hr⟩ : ∃ r, r = j % 2 := ⟨_, rfl⟩
      have hql : q < l.length := by omega
      have hq1 : (j : Int).tdiv 2 = (q : Int) := by rw [Int.tdiv_eq_ediv_of_nonneg (by omega)]; omega
      have hr1 : (j : Int).tmod 2 = (r : Int) := by rw [Int.tmod_eq_emod_of_nonneg (by omega)]; omega
      have hq2 : (q : Int) < (l.length : Int) := by omega
      have hqw : IntKind.i64.wrap (q : Int) = (q : Int) := by rw [IntKind.wrap_i64]; omega
      obtain ⟨bb, oo, e1, hc⟩ : ∃ bb oo, a = some ⟨bb, oo, none⟩ ∧ ∀ u, Grow wr u → u.cell? ⟨bb, oo + q, none⟩ = some (.int .i64 (l.getD q 0)) := by
        obtain ⟨a', c', hv, h1, h2, h3⟩ := HR.out
        injection hv with ea en ec
        subst ea
        obtain ⟨b, o, e, hb, hc⟩ := h3 q hql
        exact ⟨b, o, e, fun u g => by rw [Below.cell (p := ⟨b, o + q, none⟩) (HX.out.2.trans g) (by have := HB.out; show b < _; omega)]; exact hc⟩
      subst e1
      have HT : Hid (∀ x, l.getD q 0 = x → (pgsL kd l).take (j + 1) = (pgsL kd l).take j ++ [⟨kd, x, r⟩]) := fun x hx => pgsL_take kd l j hlt x (by rw [← hq]; exact hx) r (by rw [hr])
      have hlen : ((pgsL kd l).take j).length ≤ 200 := by rw [List.length_take, pgsL_len]; omega
      generalize hy : l.getD q 0 = x at hc
      have HT := hid (HT.out x hy)
      have hc0 := hc wr (Grow.refl _)
      have ho := HX.out.1.grow ((Grow.refl wr).alloc (.cells #[.int .i64 kd, .int .i64 x, .int .i64 (r : Int)] 43))
      clear hk hj hlt hl hy hc hq hr hql
      go_wp2_with (at_builtin; refine wpList_appS (f := Sp.cs) (k := 3) rfl (.tmp 14) (.tmp 24) 26 26 rfl spk (by omega) i0 (.agg #[.int .i64 0, .int .i64 0, .int .i64 0]) 24 Tryd.underlying26 hi hz0 hz1 hz2 rfl rfl rfl ho (src_oneX wr kd x r) (by simp only [maxLen, List.length_singleton]; omega) (by simp only [List.length_singleton]; omega) ?_)
      intro v' w' ho' hu'
      have hsz : (wr.alloc (.cells #[.int .i64 kd, .int .i64 x, .int .i64 (r : Int)] 43)).heap.size = wr.heap.size + 1 := World.size_alloc _ _
      have hgs := HX.out.2.size
      have HF : Hid (OwnS Sp.cs 3 (fun i => w.heap.size ≤ i) w' v' ((pgsL kd l).take (j + 1)) ∧ Grow w w') :=
        ⟨by rw [HT.out]; exact ho'.mono (fun i _ hi => hi.elim (fun h => h) (fun h => by omega)), UpdS.new (HX.out.2.alloc _) hu' (fun i h => h)⟩
      clear ho' hu' hsz hgs ho hlen hc0 HX HT
      go_wp2
      go_roundg (2 * l.length - (j + 1))
      case measure => have := HJ.out; omega
      case rel => exact ⟨j + 1, rfl, HJ.out.1, by first | rfl | go_num, HF⟩
    · have hlt' : ¬ (j : Int) < 2 * (l.length : Int) := by omega
      have HT : Hid ((pgsL kd l).take j = pgsL kd l) := List.take_of_length_le (by rw [pgsL_len]; omega)
      clear hk hj hlt hl
      go_wp2
      go_ret
      refine ⟨_, rfl, ?_, HX.out.2⟩
      have := HX.out.1
      rw [HT.out] at this
      exact this

set_option maxHeartbeats 4000000 in
theorem rflush_any {B : Nat} (a : Option Addr) (c : Nat) (l : List Int) (w : World) (h : Rd .i64 B w (.slice a l.length c) l) (hB : B ≤ w.heap.size) (hl : l.length ≤ 100) :
    Calls Tryd.prog 15 #[.slice a l.length c] w fun e w' => ∃ v', e = .returned v' ∧ OwnS Sp.cs 3 (fun i => w.heap.size ≤ i) w' v' (flL l) ∧ Grow w w' := by
  obtain ⟨i0, hi, hz0, hz1, hz2⟩ := info_parts infoX
  have hc := rpages_any 2 a c l w h hB hl
  have HL := hid hl
  clear h hB hl
  go_enter Tryd.func15, Tryd.ntmps15
  go_wp2_with fail
  refine hc.mono ?_
  rintro e w2 ⟨v2, rfl, h2, g2⟩
  have HX := hid (And.intro h2 g2)
  have ho := h2.grow ((Grow.refl w2).alloc (.cells #[.int .i64 3, .int .i64 0, .int .i64 0] 43))
  have hlen : (pgsL 2 l).length ≤ 200 := by have := HL.out; rw [pgsL_len]; omega
  clear hc h2 g2
  go_wp2_with (at_builtin; refine wpList_appS (f := Sp.cs) (k := 3) rfl (.tmp 4) (.tmp 6) 26 26 rfl spk (by omega) i0 (.agg #[.int .i64 0, .int .i64 0, .int .i64 0]) 24 Tryd.underlying26 hi hz0 hz1 hz2 rfl rfl rfl ho (src_oneX w2 3 0 0) (by simp only [maxLen, List.length_singleton]; omega) (by simp only [List.length_singleton]; omega) ?_)
  intro v' w' ho' hu'
  have hsz : (w2.alloc (.cells #[.int .i64 3, .int .i64 0, .int .i64 0] 43)).heap.size = w2.heap.size + 1 := World.size_alloc _ _
  have hgs := HX.out.2.size
  have HF : Hid (OwnS Sp.cs 3 (fun i => w.heap.size ≤ i) w' v' (flL l) ∧ Grow w w') :=
    ⟨ho'.mono (fun i _ hi => hi.elim (fun h => h) (fun h => by omega)), UpdS.new (HX.out.2.alloc _) hu' (fun i h => h)⟩
  clear ho' hu' hsz hgs ho hlen HX
  go_wp2
  go_ret
  exact ⟨_, rfl, HF.out⟩

/-- the document's steps of one page, behind what is there -/
def FeAt (w wr : World) (v : Value) (L : List Sp) : Prop := OwnS Sp.cs 3 (fun i => w.heap.size ≤ i) wr v L ∧ Grow w wr

set_option maxHeartbeats 4000000 in
theorem rfetch_any (p : Int) (d : Bool) (old : Int) (w : World) :
    Calls Tryd.prog 13 #[.int .i64 p, .bool d, .int .i64 old] w fun e w' => ∃ v', e = .returned v' ∧ OwnS Sp.cs 3 (fun i => w.heap.size ≤ i) w' v' (feL p d old) ∧ Grow w w' := by
  obtain ⟨i0, hi, hz0, hz1, hz2⟩ := info_parts infoX
  have one : ∀ (kd n : Int) (u : World), Calls Tryd.prog 10 #[.int .i64 kd, .slice (some ⟨u.heap.size, 0, none⟩) 1 1] (u.alloc (.cells #[.int .i64 n] 3)) fun e w' => ∃ v', e = .returned v' ∧ OwnS Sp.cs 3 (fun i => u.heap.size ≤ i) w' v' (pgL kd n) ∧ Grow u w' := fun kd n u => by
    have hs1 : (u.alloc (.cells #[.int .i64 n] 3)).heap.size = u.heap.size + 1 := by simp
    refine (rpages_any kd (some ⟨u.heap.size, 0, none⟩) 1 [n] (u.alloc (.cells #[.int .i64 n] 3)) (rd_one u n 3) (by rw [hs1]; exact Nat.le_refl _) (by simp)).mono fun e w' ⟨v', h1, h2, h3⟩ => ⟨v', h1, ?_, ((Grow.refl u).alloc _).trans h3⟩
    rw [pgsL_one] at h2
    exact h2.mono (fun i _ h => by rw [hs1] at h; omega)
  cases d with
  | false =>
    have ho0 := OwnS.nil Sp.cs 3 (fun i => w.heap.size ≤ i) w none
    have HO := hid ho0
    clear ho0
    go_enter Tryd.func13, Tryd.ntmps13
    go_wp2_with fail
    refine (one 1 p w).mono ?_
    rintro e w2 ⟨v2, rfl, h2, g2⟩
    have hs := h2.rd.src spk sp_one Tryd.underlying26
    have ho := HO.out.grow g2
    have hlen : (pgL 1 p).length = 2 := rfl
    have HX := hid g2
    clear one h2 g2
    go_wp2_with (at_builtin; refine wpList_appS (f := Sp.cs) (k := 3) rfl (.tmp 12) (.tmp 15) 26 26 rfl spk (by omega) i0 (.agg #[.int .i64 0, .int .i64 0, .int .i64 0]) 24 Tryd.underlying26 hi hz0 hz1 hz2 rfl rfl rfl ho hs (by simp only [maxLen, List.length_nil]; omega) (by simp only [List.length_nil]; omega) ?_)
    intro v' w' ho' hu'
    have hgs := HX.out.size
    have HF : Hid (OwnS Sp.cs 3 (fun i => w.heap.size ≤ i) w' v' (feL p false old) ∧ Grow w w') :=
      ⟨ho'.mono (fun i _ hi => hi.elim (fun h => h) (fun h => by omega)), UpdS.new HX.out hu' (fun i h => h)⟩
    clear ho' hu' hgs ho hlen hs HX HO
    go_wp2
    go_ret
    exact ⟨_, rfl, HF.out⟩
  | true =>
    have HQ := hid one
    go_enter Tryd.func13, Tryd.ntmps13
    go_wp2_with fail
    refine (one 2 old w).mono ?_
    rintro e w1 ⟨v1, rfl, h1, g1⟩
    have HX := hid (And.intro h1 g1)
    have o2 := HQ.out 1 p w1
    clear one h1 g1
    go_wp2_with fail
    refine o2.mono ?_
    rintro e w2 ⟨v2, rfl, h2, g2⟩
    have hs := h2.rd.src spk sp_one Tryd.underlying26
    have ho := HX.out.1.grow g2
    have hlen : (pgL 1 p).length = 2 := rfl
    have hlen' : (pgL 2 old).length = 2 := rfl
    have HY := hid (HX.out.2.trans g2)
    clear o2 h2 g2 HX HQ
    go_wp2_with (at_builtin; refine wpList_appS (f := Sp.cs) (k := 3) rfl (.tmp 12) (.tmp 15) 26 26 rfl spk (by omega) i0 (.agg #[.int .i64 0, .int .i64 0, .int .i64 0]) 24 Tryd.underlying26 hi hz0 hz1 hz2 rfl rfl rfl ho hs (by simp only [maxLen]; omega) (by omega) ?_)
    intro v' w' ho' hu'
    have hgs := HY.out.size
    have HF : Hid (OwnS Sp.cs 3 (fun i => w.heap.size ≤ i) w' v' (feL p true old) ∧ Grow w w') :=
      ⟨ho'.mono (fun i _ hi => hi.elim (fun h => h) (fun h => by omega)), UpdS.new HY.out hu' (fun i h => h)⟩
    clear ho' hu' hgs ho hlen hlen' hs HY
    go_wp2
    go_ret
    exact ⟨_, rfl, HF.out⟩
end Go.Proofs.YtpmmlocigaehnaaDoor
