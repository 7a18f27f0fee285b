/-
  The walks of whole, Loads, Stores, Fetch, Flush, Most. Conditions: each theorem's own.
-/
import Derived.Test.YtpmmlocigaehnaaDoorPlnMath
import Derived.Test.YtpmmlocigaehnaaDoorAround
import Derived.Test.YtpmmlocigaehnaaDoorArr
import Derived.Deep.CutRange
namespace Go.Proofs.YtpmmlocigaehnaaDoor
open Go.RowKit
set_option linter.unusedVariables false
set_option linter.unusedSimpArgs false

theorem infoI : (Tryd.prog.info? 39).map (fun i => (i.zero, i.size, i.bytes)) = some (some (.agg #[.int .i64 0, .int .i64 0, .int .i64 0]), 3, 24) := by kernel_rfl
theorem src_oneI (w : World) (o p k : Int) : Src Tryd.prog 3 24 (.slice (some ⟨w.heap.size, 0, none⟩) 1 1) [(⟨o, p, k⟩ : Sp)].length ([(⟨o, p, k⟩ : Sp)].flatMap Sp.cs) (w.alloc (.cells #[.int .i64 o, .int .i64 p, .int .i64 k] 39)) :=
  (rdS_new (f := Sp.cs) (k := 3) w 39 [⟨o, p, k⟩] spk (by simp [maxLen])).src spk sp_one Tryd.underlying24

set_option maxHeartbeats 4000000 in
theorem whole_any (B : Nat) (v : Value) (zs : List Sp) (kd p : Int) (w : World) (h : OwnS Sp.cs 3 (fun i => B ≤ i) w v zs) (hB : B ≤ w.heap.size) (hl : zs.length ≤ 1000) :
    Calls Tryd.prog 21 #[v, .int .i64 kd, .int .i64 p] w fun e w' => ∃ v', e = .returned v' ∧ OwnS Sp.cs 3 (fun i => B ≤ i) w' v' (zs ++ pgL kd p) ∧ UpdS (fun i => B ≤ i) w w' := by
  obtain ⟨i0, hi, hz0, hz1, hz2⟩ := info_parts infoI
  have HO := hid h
  have HB := hid hB
  clear h hB
  go_enter Tryd.func21, Tryd.ntmps21
  go_wp2
  go_loopg [0, 8] 2 (fun m sv iv wr => ∃ j : Nat, m = 2 - j ∧ j ≤ 2 ∧ iv = .int .i64 j ∧ Hid (OwnS Sp.cs 3 (fun i => B ≤ i) wr sv (zs ++ (pgL kd p).take j) ∧ UpdS (fun i => B ≤ i) w wr))
  case atStart => exact ⟨0, rfl, Nat.zero_le _, rfl, by rw [List.take_zero, List.append_nil]; exact HO.out, UpdS.refl _ _⟩
  case round =>
    obtain ⟨j, hk, hj, rfl, HX⟩ := hrel
    by_cases hlt : j < 2
    · have hlt' : (j : Int) < 2 := by omega
      have hw1 : IntKind.i64.wrap ((j : Int) + 1) = ((j + 1 : Nat) : Int) := by rw [IntKind.wrap_i64]; omega
      have HJ : Hid (j < 2 ∧ gk = 2 - j) := ⟨hlt, hk⟩
      have HT : Hid ((pgL kd p).take (j + 1) = (pgL kd p).take j ++ [⟨kd, p, j⟩]) := by
        rcases (show j = 0 ∨ j = 1 by omega) with rfl | rfl <;> rfl
      have hll : (zs ++ (pgL kd p).take j).length ≤ 1001 := by
        rcases (show j = 0 ∨ j = 1 by omega) with rfl | rfl <;> simp [pgL] <;> omega
      have ho := HX.out.1.grow ((Grow.refl wr).alloc (.cells #[.int .i64 kd, .int .i64 p, .int .i64 (j : Int)] 39))
      clear hk hj hlt
      go_wp2_with (at_builtin; refine wpList_appS (f := Sp.cs) (k := 3) rfl (.tmp 11) (.tmp 16) 24 24 rfl spk (by omega) i0 (.agg #[.int .i64 0, .int .i64 0, .int .i64 0]) 24 Tryd.underlying24 hi hz0 hz1 hz2 rfl rfl rfl ho (src_oneI wr kd p j) (by simp only [maxLen, List.length_singleton]; omega) (by simp only [List.length_singleton]; omega) ?_)
      intro v' w' ho' hu'
      have hsz : (wr.alloc (.cells #[.int .i64 kd, .int .i64 p, .int .i64 (j : Int)] 39)).heap.size = wr.heap.size + 1 := World.size_alloc _ _
      have hgs := HX.out.2.size
      have hB := HB.out
      have HF : Hid (OwnS Sp.cs 3 (fun i => B ≤ i) w' v' (zs ++ (pgL kd p).take (j + 1)) ∧ UpdS (fun i => B ≤ i) w w') :=
        ⟨by rw [HT.out]; exact ho'.mono (fun i _ hi => hi.elim (fun h => h) (fun h => by omega)), (HX.out.2.trans ((Grow.refl wr).alloc _).s).trans hu'⟩
      clear ho' hu' hsz hgs ho hll hB
      go_wp2
      go_roundg (2 - (j + 1))
      case measure => have := HJ.out; omega
      case rel => exact ⟨j + 1, rfl, HJ.out.1, by first | rfl | go_num, HF⟩
    · have hlt' : ¬ (j : Int) < 2 := by omega
      have e2 : j = 2 := by omega
      clear hk hj hlt
      go_wp2
      go_ret
      refine ⟨_, rfl, ?_, HX.out.2⟩
      have := HX.out.1
      rw [e2] at this
      exact this

set_option maxHeartbeats 2000000 in
theorem loads_any (p : Int) (w : World) :
    Calls Tryd.prog 9 #[.int .i64 p] w fun e w' => ∃ v', e = .returned v' ∧ OwnS Sp.cs 3 (fun i => w.heap.size ≤ i) w' v' (pgL 1 p) ∧ Grow w w' := by
  have hc := fun u : World => whole_any u.heap.size (.slice none 0 0) [] 1 p u (OwnS.nil _ _ _ _ _) (Nat.le_refl _) (by simp)
  go_enter Tryd.func9, Tryd.ntmps9
  go_wp2_with fail
  refine (hc w).mono ?_
  rintro e w2 ⟨v2, rfl, h2, u2⟩
  have HF : Hid (OwnS Sp.cs 3 (fun i => w.heap.size ≤ i) w2 v2 (pgL 1 p) ∧ Grow w w2) := ⟨h2, UpdS.new (Grow.refl _) u2 (fun i h => h)⟩
  clear hc h2 u2
  go_wp2
  go_ret
  exact ⟨_, rfl, HF.out⟩

set_option maxHeartbeats 4000000 in
theorem stores_any {B : Nat} (a : Option Addr) (c : Nat) (l : List Int) (w : World) (h : Rd .i64 B w (.slice a l.length c) l) (hB : B ≤ w.heap.size) (hl : l.length ≤ 100) :
    Calls Tryd.prog 11 #[.slice a l.length c] w fun e w' => ∃ v', e = .returned v' ∧ OwnS Sp.cs 3 (fun i => w.heap.size ≤ i) w' v' (pgsL 2 l) ∧ Grow w w' := by
  have HR := hid h
  have HB := hid hB
  have HL := hid hl
  clear h hB hl
  go_enter Tryd.func11, Tryd.ntmps11
  go_wp2
  go_loopg [3, 8] l.length (fun m sv iv wr => ∃ j : Nat, m = l.length - j ∧ j ≤ l.length ∧ iv = .int .i64 j ∧ Hid (OwnS Sp.cs 3 (fun i => w.heap.size ≤ i) wr sv (pgsL 2 (l.take j)) ∧ Grow w wr))
  case atStart => exact ⟨0, rfl, Nat.zero_le _, rfl, OwnS.nil _ _ _ _ _, Grow.refl _⟩
  case round =>
    obtain ⟨j, hk, hj, rfl, HX⟩ := hrel
    have hl := HL.out
    by_cases hlt : j < l.length
    · have hlt' : (j : Int) < (l.length : Int) := by omega
      have hw1 : IntKind.i64.wrap ((j : Int) + 1) = ((j + 1 : Nat) : Int) := by rw [IntKind.wrap_i64]; omega
      have HJ : Hid (j < l.length ∧ gk = l.length - j) := ⟨hlt, hk⟩
      obtain ⟨bb, oo, e1, hc⟩ : ∃ bb oo, a = some ⟨bb, oo, none⟩ ∧ wr.cell? ⟨bb, oo + j, none⟩ = some (.int .i64 (l.getD j 0)) := by
        obtain ⟨a', c', hv, h1, h2, h3⟩ := HR.out
        injection hv with ea en ec
        subst ea
        obtain ⟨b, o, e, hb, hc⟩ := h3 j hlt
        exact ⟨b, o, e, by rw [Below.cell (p := ⟨b, o + j, none⟩) HX.out.2 (by have := HB.out; show b < _; omega)]; exact hc⟩
      subst e1
      have HT : Hid (∀ x, l.getD j 0 = x → pgsL 2 (l.take (j + 1)) = pgsL 2 (l.take j) ++ pgL 2 x) := fun x hx => pgsL_snoc 2 l j hlt x hx
      have hlen : (pgsL 2 (l.take j)).length ≤ 1000 := by rw [pgsL_len, List.length_take]; omega
      generalize hy : l.getD j 0 = x at hc
      have HT := hid (HT.out x hy)
      have kc := fun (u : World) (g : Grow wr u) => whole_any w.heap.size _ _ 2 x u (HX.out.1.grow g) ((HX.out.2.trans g).size) hlen
      have HK := hid kc
      clear hk hj hlt hl hy hlen kc
      go_wp2_with fail
      refine (HK.out _ (by first | exact Grow.refl _ | exact (Grow.refl _).drew)).mono ?_
      rintro e w2 ⟨v2, rfl, h2, u2⟩
      have HF : Hid (OwnS Sp.cs 3 (fun i => w.heap.size ≤ i) w2 v2 (pgsL 2 (l.take (j + 1))) ∧ Grow w w2) := ⟨by rw [HT.out]; exact h2, UpdS.new (by first | exact HX.out.2 | exact HX.out.2.drew) u2 (fun i h => h)⟩
      clear h2 u2 HX HK hc HT
      go_wp2
      go_roundg (l.length - (j + 1))
      case measure => have := HJ.out; omega
      case rel => exact ⟨j + 1, rfl, HJ.out.1, by first | rfl | go_num, HF⟩
    · have hlt' : ¬ (j : Int) < (l.length : Int) := by omega
      have HT : Hid (l.take j = l) := List.take_of_length_le (by omega)
      clear hk hj hlt hl
      go_wp2
      go_ret
      refine ⟨_, rfl, ?_, HX.out.2⟩
      have := HX.out.1
      rw [HT.out] at this
      exact this
end Go.Proofs.YtpmmlocigaehnaaDoor
