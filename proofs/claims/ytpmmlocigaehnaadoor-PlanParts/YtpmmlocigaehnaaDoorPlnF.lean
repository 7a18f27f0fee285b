/-
  The walks of Fetch, Flush, Most, and of the document's steps. Conditions: each theorem's own.
-/
import Derived.Test.YtpmmlocigaehnaaDoorPln
namespace Go.Proofs.YtpmmlocigaehnaaDoor
open Go.RowKit
set_option linter.unusedVariables false
set_option linter.unusedSimpArgs false

theorem rd_one (w : World) (n : Int) (t : TypeId) : Rd .i64 (w.heap.size + 1) (w.alloc (.cells #[.int .i64 n] t)) (.slice (some ⟨w.heap.size, 0, none⟩) ([n] : List Int).length 1) [n] :=
  ⟨_, 1, rfl, Nat.le_refl _, by simp [maxLen], fun i hi => ⟨w.heap.size, 0, rfl, by omega, by
    obtain rfl : i = 0 := by simpa using hi
    exact World.cell?_alloc_new w _ _ 0⟩⟩
theorem grow_rd {k : IntKind} {B : Nat} {w w' : World} {v : Value} {zs : List Int} (h : Rd k B w v zs) (g : Grow w w') (hB : B ≤ w.heap.size) : Rd k B w' v zs := h.below (g.below hB)

set_option maxHeartbeats 4000000 in
theorem fetch_any (p : Int) (d : Bool) (old : Int) (w : World) :
    Calls Tryd.prog 12 #[.int .i64 p, .bool d, .int .i64 old] w fun e w' => ∃ v', e = .returned v' ∧ OwnS Sp.cs 3 (fun i => w.heap.size ≤ i) w' v' (feL p d old) ∧ Grow w w' := by
  cases d with
  | false =>
    have hc := fun u : World => loads_any p u
    go_enter Tryd.func12, Tryd.ntmps12
    go_wp2_with fail
    refine (hc w).mono ?_
    rintro e w2 ⟨v2, rfl, h2, g2⟩
    have HF : Hid (OwnS Sp.cs 3 (fun i => w.heap.size ≤ i) w2 v2 (feL p false old) ∧ Grow w w2) := ⟨h2, g2⟩
    clear hc h2 g2
    go_wp2
    go_ret
    exact ⟨_, rfl, HF.out⟩
  | true =>
    obtain ⟨W1, hW1⟩ : ∃ W1, W1 = w.alloc (.cells #[.int .i64 old] 3) := ⟨_, rfl⟩
    have hr := rd_one w old 3
    have g1 : Grow w W1 := by rw [hW1]; exact (Grow.refl w).alloc _
    have hs1 : W1.heap.size = w.heap.size + 1 := by rw [hW1]; simp
    rw [← hW1, ← hs1] at hr
    have hc := stores_any _ _ _ W1 hr (Nat.le_refl _) (by simp)
    have HW := hid hW1
    have HG := hid (And.intro g1 hs1)
    clear hr g1 hs1 hW1
    go_enter Tryd.func12, Tryd.ntmps12
    go_wp2_with fail
    rw [← HW.out]
    refine hc.mono ?_
    rintro e w2 ⟨v2, rfl, h2, g2⟩
    have h2' := h2.mono (q := fun i => w.heap.size ≤ i) (fun i _ h => by have := HG.out.2; omega)
    have HX : Hid (OwnS Sp.cs 3 (fun i => w.heap.size ≤ i) w2 v2 (pgsL 2 [old]) ∧ Grow w w2) := ⟨h2', HG.out.1.trans g2⟩
    have kc := whole_any w.heap.size v2 (pgsL 2 [old]) 1 p w2 h2' HX.out.2.size (by rw [pgsL_len]; simp)
    clear hc h2 g2 h2' HG HW
    go_wp2_with fail
    refine kc.mono ?_
    rintro e w3 ⟨v3, rfl, h3, u3⟩
    have HF : Hid (OwnS Sp.cs 3 (fun i => w.heap.size ≤ i) w3 v3 (feL p true old) ∧ Grow w w3) := ⟨by rw [pgsL_one] at h3; exact h3, UpdS.new HX.out.2 u3 (fun i h => h)⟩
    clear kc h3 u3 HX
    go_wp2
    go_ret
    exact ⟨_, rfl, HF.out⟩

set_option maxHeartbeats 4000000 in
theorem flush_any {B : Nat} (a : Option Addr) (c : Nat) (l : List Int) (w : World) (h : Rd .i64 B w (.slice a l.length c) l) (hB : B ≤ w.heap.size) (hl : l.length ≤ 100) :
    Calls Tryd.prog 14 #[.slice a l.length c] w fun e w' => ∃ v', e = .returned v' ∧ OwnS Sp.cs 3 (fun i => w.heap.size ≤ i) w' v' (flL l) ∧ Grow w w' := by
  obtain ⟨i0, hi, hz0, hz1, hz2⟩ := info_parts infoI
  have hc := stores_any a c l w h hB hl
  have HL := hid hl
  clear h hB hl
  go_enter Tryd.func14, Tryd.ntmps14
  go_wp2_with fail
  refine hc.mono ?_
  rintro e w2 ⟨v2, rfl, h2, g2⟩
  have HX := hid (And.intro h2 g2)
  have ho := h2.grow ((Grow.refl w2).alloc (.cells #[.int .i64 3, .int .i64 0, .int .i64 0] 39))
  have hlen : (pgsL 2 l).length ≤ 200 := by have := HL.out; rw [pgsL_len]; omega
  clear hc h2 g2
  go_wp2_with (at_builtin; refine wpList_appS (f := Sp.cs) (k := 3) rfl (.tmp 4) (.tmp 6) 24 24 rfl spk (by omega) i0 (.agg #[.int .i64 0, .int .i64 0, .int .i64 0]) 24 Tryd.underlying24 hi hz0 hz1 hz2 rfl rfl rfl ho (src_oneI w2 3 0 0) (by simp only [maxLen, List.length_singleton]; omega) (by simp only [List.length_singleton]; omega) ?_)
  intro v' w' ho' hu'
  have hsz : (w2.alloc (.cells #[.int .i64 3, .int .i64 0, .int .i64 0] 39)).heap.size = w2.heap.size + 1 := World.size_alloc _ _
  have hgs := HX.out.2.size
  have HF : Hid (OwnS Sp.cs 3 (fun i => w.heap.size ≤ i) w' v' (flL l) ∧ Grow w w') :=
    ⟨ho'.mono (fun i _ hi => hi.elim (fun h => h) (fun h => by omega)), UpdS.new (HX.out.2.alloc _) hu' (fun i h => h)⟩
  clear ho' hu' hsz hgs ho hlen HX
  go_wp2
  go_ret
  exact ⟨_, rfl, HF.out⟩

set_option maxHeartbeats 1000000 in
theorem most_any (q : Int) (w : World) (h1 : 1 ≤ q) (h2 : q ≤ 64) : Calls Tryd.prog 18 #[.int .i64 q] w fun e w' => e = .returned (.int .i64 (mostI q)) ∧ w = w' := by
  have hm : IntKind.i64.wrap (2 * q) = 2 * q := by rw [IntKind.wrap_i64]; omega
  have ha : IntKind.i64.wrap (2 * q + 1) = 2 * q + 1 := by rw [IntKind.wrap_i64]; omega
  by_cases h : 4 ≤ 2 * q + 1
  · have e : mostI q = 2 * q + 1 := by unfold mostI; rw [if_pos h]
    rw [e]
    clear e
    go_enter Tryd.func18, Tryd.ntmps18
    go_wp2
    go_ret
    exact ⟨rfl, rfl⟩
  · have e : mostI q = 4 := by unfold mostI; rw [if_neg h]
    rw [e]
    clear e
    go_enter Tryd.func18, Tryd.ntmps18
    go_wp2
    go_ret
    exact ⟨rfl, rfl⟩
end Go.Proofs.YtpmmlocigaehnaaDoor
