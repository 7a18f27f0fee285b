/-
  The walks of the document's Pin, Unpin, Load, Get, Put of a frame. Conditions: each theorem's own.
-/
import Derived.Test.YthdhfojogckflaaFraL
import Derived.Test.YthdhfojogckflaaCelA
import Derived.Laws.IdiomStrings
import Derived.Deep.CutRange
namespace Go.Proofs.Ythdhfojogckflaa
open Go.RowKit
set_option linter.unusedVariables false
set_option linter.unusedSimpArgs false

set_option maxRecDepth 8000 in
/-- a text's bytes, in new memory -/
theorem run_bytes (w : World) (bs : List Int) (ho : Oct bs) (hl : bs.length ≤ 1000000) :
    ∃ v' w', (convert 9 34 (.string (strOfNums bs))).run Try.prog w = .ok v' w' ∧ RdV (Value.int .u8) 0 (fun i => i = w.heap.size) w' v' bs ∧ Grow w w' := by
  have hrun := run_bytes_of_string (P := Try.prog) w 9 34 5 (strOfNums bs) Try.underlying9 Try.underlying34 Try.underlying5
  have hge := grownCap_ge w (strOfNums bs).size 0 5
  have hcm := grownCap_le_maxLen w (strOfNums bs).size 0 5 (by rw [strOfNums_size]; simp only [maxLen]; omega)
  generalize grownCap w (strOfNums bs).size 0 5 = C at hrun hge hcm
  refine ⟨_, _, hrun, ⟨some ⟨w.heap.size, 0, none⟩, C, by rw [strOfNums_size], by rw [strOfNums_size] at hge; exact hge, hcm, fun i hi => ⟨w.heap.size, 0, rfl, rfl, ?_⟩⟩, ((Grow.refl w).drew).alloc _⟩
  rw [Nat.zero_add]
  refine (World.cell?_alloc_mark w.drew _ _ _ _).trans ?_
  have hx := ho.getD i
  have hs : (strOfNums bs).data.size = bs.length := by simp [strOfNums]
  unfold bytesRow
  rw [Array.getElem?_append_left (by rw [Array.size_map, hs]; exact hi), Array.getElem?_map]
  have e : (strOfNums bs).data[i]? = some (UInt8.ofNat (bs.getD i 0).toNat) := by
    rw [← Array.getElem?_toList, strOfNums_data, List.getElem?_map, List.getElem?_eq_getElem hi]
    simp [List.getD, List.getElem?_eq_getElem hi]
  rw [e]
  simp only [Option.map_some, UInt8.toNat_ofNat']
  congr 2
  omega

section
variable (u d r : Bool) (p q : Int) (s : ByteArray) (w : World)

set_option maxHeartbeats 1000000 in
theorem rpin_unused (hu : u = false) : Calls Try.prog 61 #[.agg #[.bool u, .bool d, .bool r, .int .i64 p, .int .i64 q, .string s]] w fun e w' => e = .returned (.tuple #[.agg #[.bool u, .bool d, .bool r, .int .i64 p, .int .i64 q, .string s], .int .i64 6]) ∧ Grow w w' := by
  subst hu
  go_enter Try.func61, Try.ntmps61
  go_wp2
  exact bodyPost_ret_by (results_cell_tmp rfl _ _ _ _ rfl (load_F _ _ _ _ _ _ _ _ (VarAt.new2 w _ [.bool false, .bool d, .bool r, .int .i64 p, .int .i64 q, .string s] 68))) rfl ⟨rfl, ((Grow.refl w).alloc _).alloc _⟩

set_option maxHeartbeats 1000000 in
theorem rpin_full (hu : u = true) (hp : 100 ≤ p) : Calls Try.prog 61 #[.agg #[.bool u, .bool d, .bool r, .int .i64 p, .int .i64 q, .string s]] w fun e w' => e = .returned (.tuple #[.agg #[.bool u, .bool d, .bool r, .int .i64 p, .int .i64 q, .string s], .int .i64 13]) ∧ Grow w w' := by
  subst hu
  go_enter Try.func61, Try.ntmps61
  go_wp2
  exact bodyPost_ret_by (results_cell_tmp rfl _ _ _ _ rfl (load_F _ _ _ _ _ _ _ _ (VarAt.new2 w _ [.bool true, .bool d, .bool r, .int .i64 p, .int .i64 q, .string s] 68))) rfl ⟨rfl, ((Grow.refl w).alloc _).alloc _⟩

set_option maxHeartbeats 1000000 in
theorem rpin_yes (hu : u = true) (hp0 : 0 ≤ p) (hp : p < 100) : Calls Try.prog 61 #[.agg #[.bool u, .bool d, .bool r, .int .i64 p, .int .i64 q, .string s]] w fun e w' => e = .returned (.tuple #[.agg #[.bool u, .bool d, .bool true, .int .i64 (p + 1), .int .i64 q, .string s], .int .i64 0]) ∧ Grow w w' := by
  subst hu
  have hn : ¬ 100 ≤ p := by omega
  have hw : IntKind.i64.wrap (p + 1) = p + 1 := by rw [IntKind.wrap_i64]; omega
  go_enter Try.func61, Try.ntmps61
  go_wp2
  exact bodyPost_ret_by (results_cell_tmp rfl _ _ _ _ rfl (load_F _ _ _ _ _ _ _ _ (VarAt.new2 w _ [.bool true, .bool d, .bool true, .int .i64 (p + 1), .int .i64 q, .string s] 68))) rfl ⟨rfl, ((Grow.refl w).alloc _).alloc _⟩

set_option maxHeartbeats 1000000 in
theorem runpin_no (hp : p = 0) : Calls Try.prog 62 #[.agg #[.bool u, .bool d, .bool r, .int .i64 p, .int .i64 q, .string s]] w fun e w' => e = .returned (.tuple #[.agg #[.bool u, .bool d, .bool r, .int .i64 p, .int .i64 q, .string s], .int .i64 6]) ∧ Grow w w' := by
  subst hp
  go_enter Try.func62, Try.ntmps62
  go_wp2
  exact bodyPost_ret_by (results_cell_tmp rfl _ _ _ _ rfl (load_F _ _ _ _ _ _ _ _ (VarAt.new2 w _ [.bool u, .bool d, .bool r, .int .i64 0, .int .i64 q, .string s] 68))) rfl ⟨rfl, ((Grow.refl w).alloc _).alloc _⟩

set_option maxHeartbeats 1000000 in
theorem runpin_yes (hp0 : 0 < p) (hp : p ≤ 100) : Calls Try.prog 62 #[.agg #[.bool u, .bool d, .bool r, .int .i64 p, .int .i64 q, .string s]] w fun e w' => e = .returned (.tuple #[.agg #[.bool u, .bool d, .bool r, .int .i64 (p - 1), .int .i64 q, .string s], .int .i64 0]) ∧ Grow w w' := by
  have hn : (p == 0) = false := by rw [beq_eq_false_iff_ne]; omega
  have hw : IntKind.i64.wrap (p - 1) = p - 1 := by rw [IntKind.wrap_i64]; omega
  go_enter Try.func62, Try.ntmps62
  go_wp2
  exact bodyPost_ret_by (results_cell_tmp rfl _ _ _ _ rfl (load_F _ _ _ _ _ _ _ _ (VarAt.new2 w _ [.bool u, .bool d, .bool r, .int .i64 (p - 1), .int .i64 q, .string s] 68))) rfl ⟨rfl, ((Grow.refl w).alloc _).alloc _⟩

set_option maxHeartbeats 1000000 in
theorem rload_no (pg : Int) (a : Option Addr) (n c : Nat) (hn : n ≠ 32) (hm : n ≤ maxLen) : Calls Try.prog 65 #[.agg #[.bool u, .bool d, .bool r, .int .i64 p, .int .i64 q, .string s], .int .i64 pg, .slice a n c] w fun e w' => e = .returned (.tuple #[.agg #[.bool u, .bool d, .bool r, .int .i64 p, .int .i64 q, .string s], .int .i64 2]) ∧ Grow w w' := by
  have hn2 : ((n : Int) == 32) = false := by rw [beq_eq_false_iff_ne]; omega
  have hn3 : ¬ (n : Int) = 32 := by omega
  unfold maxLen at hm
  clear hn
  go_enter Try.func65, Try.ntmps65
  go_wp2
  exact bodyPost_ret_by (results_cell_tmp rfl _ _ _ _ rfl (load_F _ _ _ _ _ _ _ _ (VarAt.new2 w _ [.bool u, .bool d, .bool r, .int .i64 p, .int .i64 q, .string s] 68))) rfl ⟨rfl, ((Grow.refl w).alloc _).alloc _⟩

set_option maxHeartbeats 1000000 in
theorem rload_yes (pg : Int) (a : Option Addr) (c : Nat) (ys : List Int) (t : Nat → Prop) (hy : RdV (Value.int .u8) 0 t w (.slice a 32 c) ys) : Calls Try.prog 65 #[.agg #[.bool u, .bool d, .bool r, .int .i64 p, .int .i64 q, .string s], .int .i64 pg, .slice a 32 c] w fun e w' => e = .returned (.tuple #[.agg #[.bool true, .bool false, .bool false, .int .i64 0, .int .i64 pg, .string (strOfNums ys)], .int .i64 0]) ∧ Grow w w' := by
  have kc : ∀ w', Grow w w' → (convert 34 9 (.slice a 32 c)).run Try.prog w' = .ok (.string (strOfNums ys)) w' := fun w' g => (hy.grow g).i.string 34 9 5 Try.underlying34 Try.underlying5 Try.underlying9
  have k0 := kc ((w.alloc (.cells #[.bool u, .bool d, .bool r, .int .i64 p, .int .i64 q, .string s] 68)).alloc (.cells #[.bool false, .bool false, .bool false, .int .i64 0, .int .i64 0, .string ⟨#[]⟩] 68)) (((Grow.refl w).alloc _).alloc _)
  clear kc hy
  go_enter Try.func65, Try.ntmps65
  go_wp2
  exact bodyPost_ret_by (results_cell_tmp rfl _ _ _ _ rfl (load_F _ _ _ _ _ _ _ _ (VarAt.new2 w _ [.bool true, .bool false, .bool false, .int .i64 0, .int .i64 pg, .string (strOfNums ys)] 68))) rfl ⟨rfl, ((Grow.refl w).alloc _).alloc _⟩
end

section
variable (u d r : Bool) (p q : Int) (w : World)

set_option maxRecDepth 8000 in
set_option maxHeartbeats 2000000 in
theorem qget_free (bs : List Int) (off n : Int) (hp : p = 0) : Calls Try.prog 63 #[.agg #[.bool u, .bool d, .bool r, .int .i64 p, .int .i64 q, .string (strOfNums bs)], .int .i64 off, .int .i64 n] w fun e w' => e = .returned (.tuple #[.agg #[.bool u, .bool d, .bool r, .int .i64 p, .int .i64 q, .string (strOfNums bs)], .slice none 0 0, .int .i64 6]) ∧ Grow w w' := by
  obtain ⟨W0, hW0⟩ : ∃ W0, (w.alloc (.cells #[.bool u, .bool d, .bool r, .int .i64 p, .int .i64 q, .string (strOfNums bs)] 68)).alloc (.cells #[.bool false, .bool false, .bool false, .int .i64 0, .int .i64 0, .string ⟨#[]⟩] 68) = W0 := ⟨_, rfl⟩
  have V0 := (VarAt.new w [.bool u, .bool d, .bool r, .int .i64 p, .int .i64 q, .string (strOfNums bs)] 68).old (.cells #[.bool false, .bool false, .bool false, .int .i64 0, .int .i64 0, .string ⟨#[]⟩] 68)
  have Y0 := VarAt.new2 w (.cells #[.bool u, .bool d, .bool r, .int .i64 p, .int .i64 q, .string (strOfNums bs)] 68) [.bool false, .bool false, .bool false, .int .i64 0, .int .i64 0, .string ⟨#[]⟩] 68
  have g0 : Grow w W0 := by rw [← hW0]; exact ((Grow.refl w).alloc _).alloc _
  rw [hW0] at V0 Y0
  obtain ⟨X, hX⟩ : ∃ X, w.heap.size = X := ⟨_, rfl⟩
  rw [hX] at V0 Y0
  have H0 : Hid (VarAt W0 X [.bool u, .bool d, .bool r, .int .i64 p, .int .i64 q, .string (strOfNums bs)] ∧ VarAt W0 (X + 1) [.bool false, .bool false, .bool false, .int .i64 0, .int .i64 0, .string ⟨#[]⟩] ∧ Grow w W0 ∧ w.heap.size = X) := ⟨V0, Y0, g0, hX⟩
  obtain ⟨⟨x0, x1, x2, x3, x4, x5⟩, -⟩ := V0.six
  obtain ⟨⟨y0, y1, y2, y3, y4, y5⟩, f0, f1, f2, f3, f4, f5⟩ := Y0.six
  subst hp
  clear V0 Y0 g0
  go_enter Try.func63, Try.ntmps63
  go_upto_region 1 with fail
  (try rw [hW0])
  (try rw [hX])
  clear hW0 hX
  have HF : Hid (VarAt (put6 W0 (X + 1) (.bool u) (.bool d) (.bool r) (.int .i64 0) (.int .i64 q) (.string (strOfNums bs))) (X + 1) [.bool u, .bool d, .bool r, .int .i64 0, .int .i64 q, .string (strOfNums bs)] ∧ Grow w (put6 W0 (X + 1) (.bool u) (.bool d) (.bool r) (.int .i64 0) (.int .i64 q) (.string (strOfNums bs)))) := ⟨H0.out.2.1.put6 _ _ _ _ _ _, UpdS.new H0.out.2.2.1 (upd_put6 _ _ _ _ _ _ _ _) (fun i hi => by have := H0.out.2.2.2; omega)⟩
  unfold put6 at HF
  go_wp2
  exact bodyPost_ret_by (results_cell_tmp2 rfl _ _ _ _ rfl (load_F _ _ _ _ _ _ _ _ HF.out.1)) rfl ⟨rfl, HF.out.2⟩

set_option maxRecDepth 8000 in
set_option maxHeartbeats 2000000 in
theorem qput_free (bs : List Int) (off : Int) (v : Value) (hp : p = 0) : Calls Try.prog 64 #[.agg #[.bool u, .bool d, .bool r, .int .i64 p, .int .i64 q, .string (strOfNums bs)], .int .i64 off, v] w fun e w' => e = .returned (.tuple #[.agg #[.bool u, .bool d, .bool r, .int .i64 p, .int .i64 q, .string (strOfNums bs)], .int .i64 6]) ∧ Grow w w' := by
  obtain ⟨W0, hW0⟩ : ∃ W0, (w.alloc (.cells #[.bool u, .bool d, .bool r, .int .i64 p, .int .i64 q, .string (strOfNums bs)] 68)).alloc (.cells #[.bool false, .bool false, .bool false, .int .i64 0, .int .i64 0, .string ⟨#[]⟩] 68) = W0 := ⟨_, rfl⟩
  have V0 := (VarAt.new w [.bool u, .bool d, .bool r, .int .i64 p, .int .i64 q, .string (strOfNums bs)] 68).old (.cells #[.bool false, .bool false, .bool false, .int .i64 0, .int .i64 0, .string ⟨#[]⟩] 68)
  have Y0 := VarAt.new2 w (.cells #[.bool u, .bool d, .bool r, .int .i64 p, .int .i64 q, .string (strOfNums bs)] 68) [.bool false, .bool false, .bool false, .int .i64 0, .int .i64 0, .string ⟨#[]⟩] 68
  have g0 : Grow w W0 := by rw [← hW0]; exact ((Grow.refl w).alloc _).alloc _
  rw [hW0] at V0 Y0
  obtain ⟨X, hX⟩ : ∃ X, w.heap.size = X := ⟨_, rfl⟩
  rw [hX] at V0 Y0
  have H0 : Hid (VarAt W0 X [.bool u, .bool d, .bool r, .int .i64 p, .int .i64 q, .string (strOfNums bs)] ∧ VarAt W0 (X + 1) [.bool false, .bool false, .bool false, .int .i64 0, .int .i64 0, .string ⟨#[]⟩] ∧ Grow w W0 ∧ w.heap.size = X) := ⟨V0, Y0, g0, hX⟩
  obtain ⟨⟨x0, x1, x2, x3, x4, x5⟩, -⟩ := V0.six
  obtain ⟨⟨y0, y1, y2, y3, y4, y5⟩, f0, f1, f2, f3, f4, f5⟩ := Y0.six
  subst hp
  clear V0 Y0 g0
  go_enter Try.func64, Try.ntmps64
  go_upto_region 1 with fail
  (try rw [hW0])
  (try rw [hX])
  clear hW0 hX
  have HF : Hid (VarAt (put6 W0 (X + 1) (.bool u) (.bool d) (.bool r) (.int .i64 0) (.int .i64 q) (.string (strOfNums bs))) (X + 1) [.bool u, .bool d, .bool r, .int .i64 0, .int .i64 q, .string (strOfNums bs)] ∧ Grow w (put6 W0 (X + 1) (.bool u) (.bool d) (.bool r) (.int .i64 0) (.int .i64 q) (.string (strOfNums bs)))) := ⟨H0.out.2.1.put6 _ _ _ _ _ _, UpdS.new H0.out.2.2.1 (upd_put6 _ _ _ _ _ _ _ _) (fun i hi => by have := H0.out.2.2.2; omega)⟩
  unfold put6 at HF
  go_wp2
  exact bodyPost_ret_by (results_cell_tmp rfl _ _ _ _ rfl (load_F _ _ _ _ _ _ _ _ HF.out.1)) rfl ⟨rfl, HF.out.2⟩

set_option maxRecDepth 8000 in
set_option maxHeartbeats 2000000 in
theorem qget_err (bs : List Int) (off n E : Int) (hoct : Oct bs) (hl : bs.length = 32) (hp : 0 < p) (hp2 : p ≤ 100) (ho : (Lit.int .i64 off).wf = true) (hw : (Lit.int .i64 n).wf = true) (hE : (got bs off n).2 = E) (hE0 : E ≠ 0) : Calls Try.prog 63 #[.agg #[.bool u, .bool d, .bool r, .int .i64 p, .int .i64 q, .string (strOfNums bs)], .int .i64 off, .int .i64 n] w fun e w' => e = .returned (.tuple #[.agg #[.bool u, .bool d, .bool r, .int .i64 p, .int .i64 q, .string (strOfNums bs)], .slice none 0 0, .int .i64 E]) ∧ Grow w w' := by
  obtain ⟨W0, hW0⟩ : ∃ W0, (w.alloc (.cells #[.bool u, .bool d, .bool r, .int .i64 p, .int .i64 q, .string (strOfNums bs)] 68)).alloc (.cells #[.bool false, .bool false, .bool false, .int .i64 0, .int .i64 0, .string ⟨#[]⟩] 68) = W0 := ⟨_, rfl⟩
  have V0 := (VarAt.new w [.bool u, .bool d, .bool r, .int .i64 p, .int .i64 q, .string (strOfNums bs)] 68).old (.cells #[.bool false, .bool false, .bool false, .int .i64 0, .int .i64 0, .string ⟨#[]⟩] 68)
  have Y0 := VarAt.new2 w (.cells #[.bool u, .bool d, .bool r, .int .i64 p, .int .i64 q, .string (strOfNums bs)] 68) [.bool false, .bool false, .bool false, .int .i64 0, .int .i64 0, .string ⟨#[]⟩] 68
  have g0 : Grow w W0 := by rw [← hW0]; exact ((Grow.refl w).alloc _).alloc _
  rw [hW0] at V0 Y0
  obtain ⟨X, hX⟩ : ∃ X, w.heap.size = X := ⟨_, rfl⟩
  rw [hX] at V0 Y0
  have H0 : Hid (VarAt W0 X [.bool u, .bool d, .bool r, .int .i64 p, .int .i64 q, .string (strOfNums bs)] ∧ VarAt W0 (X + 1) [.bool false, .bool false, .bool false, .int .i64 0, .int .i64 0, .string ⟨#[]⟩] ∧ Grow w W0 ∧ w.heap.size = X) := ⟨V0, Y0, g0, hX⟩
  obtain ⟨⟨x0, x1, x2, x3, x4, x5⟩, -⟩ := V0.six
  obtain ⟨⟨y0, y1, y2, y3, y4, y5⟩, f0, f1, f2, f3, f4, f5⟩ := Y0.six
  obtain ⟨v1, W1, hcv, r1, g1⟩ := run_bytes W0 bs hoct (by omega)
  have hn : (p == 0) = false := by rw [beq_eq_false_iff_ne]; omega
  have hn2 : ¬ p = 0 := by omega
  clear V0 Y0 g0
  go_enter Try.func63, Try.ntmps63
  go_upto_region 1 with fail
  (try rw [hW0])
  (try rw [hX])
  clear hW0 hX
  have hg := rget_any _ bs off n _ W1 r1.i ho hw
  rw [hE] at hg
  generalize (got bs off n).1 = Z at hg
  have G1 : Hid (Grow W0 W1) := g1
  clear r1 g1 hoct
  go_wp2_with fail
  refine hg.mono ?_
  rintro e w2 ⟨v2, rfl, ho2, g2⟩
  clear hg x0 x1 x2 x3 x4 x5 y0 y1 y2 y3 y4 y5 f0 f1 f2 f3 f4 f5 hcv
  have V2 := (H0.out.1.grow G1.out).grow g2
  have Y2 := (H0.out.2.1.grow G1.out).grow g2
  have HG2 : Hid (Grow w w2) := (H0.out.2.2.1.trans G1.out).trans g2
  obtain ⟨⟨x0, x1, x2, x3, x4, x5⟩, e0, e1, e2, e3, e4, e5⟩ := V2.six
  obtain ⟨⟨y0, y1, y2, y3, y4, y5⟩, f0, f1, f2, f3, f4, f5⟩ := Y2.six
  have HF : Hid (VarAt (put6 w2 (X + 1) (.bool u) (.bool d) (.bool r) (.int .i64 p) (.int .i64 q) (.string (strOfNums bs))) (X + 1) [.bool u, .bool d, .bool r, .int .i64 p, .int .i64 q, .string (strOfNums bs)] ∧ Grow w (put6 w2 (X + 1) (.bool u) (.bool d) (.bool r) (.int .i64 p) (.int .i64 q) (.string (strOfNums bs)))) := ⟨Y2.put6 _ _ _ _ _ _, UpdS.new HG2.out (upd_put6 _ _ _ _ _ _ _ _) (fun i hi => by have := H0.out.2.2.2; omega)⟩
  unfold put6 at HF
  clear V2 Y2 g2 ho2
  go_wp2
  exact bodyPost_ret_by (results_cell_tmp2 rfl _ _ _ _ rfl (load_F _ _ _ _ _ _ _ _ HF.out.1)) rfl ⟨rfl, HF.out.2⟩

set_option maxRecDepth 8000 in
set_option maxHeartbeats 2000000 in
theorem qput_err (bs : List Int) (off E : Int) (v : Value) (ys : List Int) (t : Nat → Prop) (hy : RdV (Value.int .u8) 0 t w v ys) (hoct : Oct bs) (hl : bs.length = 32) (hp : 0 < p) (hp2 : p ≤ 100) (ho : (Lit.int .i64 off).wf = true) (hE : (putted bs off ys).2 = E) (hE0 : E ≠ 0) : Calls Try.prog 64 #[.agg #[.bool u, .bool d, .bool r, .int .i64 p, .int .i64 q, .string (strOfNums bs)], .int .i64 off, v] w fun e w' => e = .returned (.tuple #[.agg #[.bool u, .bool d, .bool r, .int .i64 p, .int .i64 q, .string (strOfNums bs)], .int .i64 E]) ∧ Grow w w' := by
  obtain ⟨W0, hW0⟩ : ∃ W0, (w.alloc (.cells #[.bool u, .bool d, .bool r, .int .i64 p, .int .i64 q, .string (strOfNums bs)] 68)).alloc (.cells #[.bool false, .bool false, .bool false, .int .i64 0, .int .i64 0, .string ⟨#[]⟩] 68) = W0 := ⟨_, rfl⟩
  have V0 := (VarAt.new w [.bool u, .bool d, .bool r, .int .i64 p, .int .i64 q, .string (strOfNums bs)] 68).old (.cells #[.bool false, .bool false, .bool false, .int .i64 0, .int .i64 0, .string ⟨#[]⟩] 68)
  have Y0 := VarAt.new2 w (.cells #[.bool u, .bool d, .bool r, .int .i64 p, .int .i64 q, .string (strOfNums bs)] 68) [.bool false, .bool false, .bool false, .int .i64 0, .int .i64 0, .string ⟨#[]⟩] 68
  have g0 : Grow w W0 := by rw [← hW0]; exact ((Grow.refl w).alloc _).alloc _
  rw [hW0] at V0 Y0
  obtain ⟨X, hX⟩ : ∃ X, w.heap.size = X := ⟨_, rfl⟩
  rw [hX] at V0 Y0
  have H0 : Hid (VarAt W0 X [.bool u, .bool d, .bool r, .int .i64 p, .int .i64 q, .string (strOfNums bs)] ∧ VarAt W0 (X + 1) [.bool false, .bool false, .bool false, .int .i64 0, .int .i64 0, .string ⟨#[]⟩] ∧ Grow w W0 ∧ w.heap.size = X) := ⟨V0, Y0, g0, hX⟩
  obtain ⟨⟨x0, x1, x2, x3, x4, x5⟩, -⟩ := V0.six
  obtain ⟨⟨y0, y1, y2, y3, y4, y5⟩, f0, f1, f2, f3, f4, f5⟩ := Y0.six
  obtain ⟨v1, W1, hcv, r1, g1⟩ := run_bytes W0 bs hoct (by omega)
  have hn : (p == 0) = false := by rw [beq_eq_false_iff_ne]; omega
  have hn2 : ¬ p = 0 := by omega
  clear V0 Y0 g0
  go_enter Try.func64, Try.ntmps64
  go_upto_region 1 with fail
  (try rw [hW0])
  (try rw [hX])
  clear hW0 hX
  have hg := rputp_any _ v bs ys off _ _ W1 r1.i ((hy.grow H0.out.2.2.1).grow g1).i ho
  rw [hE] at hg
  generalize (putted bs off ys).1 = Z at hg
  clear hy
  have G1 : Hid (Grow W0 W1) := g1
  clear r1 g1 hoct
  go_wp2_with fail
  refine hg.mono ?_
  rintro e w2 ⟨v2, rfl, ho2, g2⟩
  clear hg x0 x1 x2 x3 x4 x5 y0 y1 y2 y3 y4 y5 f0 f1 f2 f3 f4 f5 hcv
  have V2 := (H0.out.1.grow G1.out).grow g2
  have Y2 := (H0.out.2.1.grow G1.out).grow g2
  have HG2 : Hid (Grow w w2) := (H0.out.2.2.1.trans G1.out).trans g2
  obtain ⟨⟨x0, x1, x2, x3, x4, x5⟩, e0, e1, e2, e3, e4, e5⟩ := V2.six
  obtain ⟨⟨y0, y1, y2, y3, y4, y5⟩, f0, f1, f2, f3, f4, f5⟩ := Y2.six
  have HF : Hid (VarAt (put6 w2 (X + 1) (.bool u) (.bool d) (.bool r) (.int .i64 p) (.int .i64 q) (.string (strOfNums bs))) (X + 1) [.bool u, .bool d, .bool r, .int .i64 p, .int .i64 q, .string (strOfNums bs)] ∧ Grow w (put6 w2 (X + 1) (.bool u) (.bool d) (.bool r) (.int .i64 p) (.int .i64 q) (.string (strOfNums bs)))) := ⟨Y2.put6 _ _ _ _ _ _, UpdS.new HG2.out (upd_put6 _ _ _ _ _ _ _ _) (fun i hi => by have := H0.out.2.2.2; omega)⟩
  unfold put6 at HF
  clear V2 Y2 g2 ho2
  go_wp2
  exact bodyPost_ret_by (results_cell_tmp rfl _ _ _ _ rfl (load_F _ _ _ _ _ _ _ _ HF.out.1)) rfl ⟨rfl, HF.out.2⟩

set_option maxRecDepth 8000 in
set_option maxHeartbeats 2000000 in
theorem qget_yes (bs : List Int) (off n : Int) (Z : List Int) (hoct : Oct bs) (hl : bs.length = 32) (hp : 0 < p) (hp2 : p ≤ 100) (ho : (Lit.int .i64 off).wf = true) (hw : (Lit.int .i64 n).wf = true) (hE : got bs off n = (Z, 0)) : Calls Try.prog 63 #[.agg #[.bool u, .bool d, .bool r, .int .i64 p, .int .i64 q, .string (strOfNums bs)], .int .i64 off, .int .i64 n] w fun e w' => ∃ v', e = .returned (.tuple #[.agg #[.bool u, .bool d, .bool true, .int .i64 p, .int .i64 q, .string (strOfNums bs)], v', .int .i64 0]) ∧ OwnV (Value.int .u8) 0 (fun i => w.heap.size ≤ i) w' v' Z ∧ Grow w w' := by
  obtain ⟨W0, hW0⟩ : ∃ W0, (w.alloc (.cells #[.bool u, .bool d, .bool r, .int .i64 p, .int .i64 q, .string (strOfNums bs)] 68)).alloc (.cells #[.bool false, .bool false, .bool false, .int .i64 0, .int .i64 0, .string ⟨#[]⟩] 68) = W0 := ⟨_, rfl⟩
  have V0 := (VarAt.new w [.bool u, .bool d, .bool r, .int .i64 p, .int .i64 q, .string (strOfNums bs)] 68).old (.cells #[.bool false, .bool false, .bool false, .int .i64 0, .int .i64 0, .string ⟨#[]⟩] 68)
  have Y0 := VarAt.new2 w (.cells #[.bool u, .bool d, .bool r, .int .i64 p, .int .i64 q, .string (strOfNums bs)] 68) [.bool false, .bool false, .bool false, .int .i64 0, .int .i64 0, .string ⟨#[]⟩] 68
  have g0 : Grow w W0 := by rw [← hW0]; exact ((Grow.refl w).alloc _).alloc _
  rw [hW0] at V0 Y0
  obtain ⟨X, hX⟩ : ∃ X, w.heap.size = X := ⟨_, rfl⟩
  rw [hX] at V0 Y0
  have H0 : Hid (VarAt W0 X [.bool u, .bool d, .bool r, .int .i64 p, .int .i64 q, .string (strOfNums bs)] ∧ VarAt W0 (X + 1) [.bool false, .bool false, .bool false, .int .i64 0, .int .i64 0, .string ⟨#[]⟩] ∧ Grow w W0 ∧ w.heap.size = X) := ⟨V0, Y0, g0, hX⟩
  obtain ⟨⟨x0, x1, x2, x3, x4, x5⟩, -⟩ := V0.six
  obtain ⟨⟨y0, y1, y2, y3, y4, y5⟩, f0, f1, f2, f3, f4, f5⟩ := Y0.six
  obtain ⟨v1, W1, hcv, r1, g1⟩ := run_bytes W0 bs hoct (by omega)
  have hn : (p == 0) = false := by rw [beq_eq_false_iff_ne]; omega
  have hn2 : ¬ p = 0 := by omega
  clear V0 Y0 g0
  go_enter Try.func63, Try.ntmps63
  go_upto_region 1 with fail
  (try rw [hW0])
  (try rw [hX])
  clear hW0 hX
  have hg := rget_any _ bs off n _ W1 r1.i ho hw
  rw [hE] at hg
  have G1 : Hid (Grow W0 W1) := g1
  clear r1 g1 hoct
  go_wp2_with fail
  refine hg.mono ?_
  rintro e w2 ⟨v2, rfl, ho2, g2⟩
  clear hg x0 x1 x2 x3 x4 x5 y0 y1 y2 y3 y4 y5 f0 f1 f2 f3 f4 f5 hcv
  have V2 := (H0.out.1.grow G1.out).grow g2
  have Y2 := (H0.out.2.1.grow G1.out).grow g2
  have HG2 : Hid (Grow w w2) := (H0.out.2.2.1.trans G1.out).trans g2
  obtain ⟨⟨x0, x1, x2, x3, x4, x5⟩, e0, e1, e2, e3, e4, e5⟩ := V2.six
  obtain ⟨⟨y0, y1, y2, y3, y4, y5⟩, f0, f1, f2, f3, f4, f5⟩ := Y2.six
  have hsz := g2.size
  have hsz1 := G1.out.size
  have HO : Hid (OwnV (Value.int .u8) 0 (fun i => X + 1 < i) w2 v2 Z) := ho2.v.mono (fun i _ hi => by have := H0.out.2.1.lt; omega)
  have HF : Hid (VarAt (put6 (w2.setCell ⟨X, 2, none⟩ (.bool true)) (X + 1) (.bool u) (.bool d) (.bool true) (.int .i64 p) (.int .i64 q) (.string (strOfNums bs))) (X + 1) [.bool u, .bool d, .bool true, .int .i64 p, .int .i64 q, .string (strOfNums bs)] ∧ OwnV (Value.int .u8) 0 (fun i => w.heap.size ≤ i) (put6 (w2.setCell ⟨X, 2, none⟩ (.bool true)) (X + 1) (.bool u) (.bool d) (.bool true) (.int .i64 p) (.int .i64 q) (.string (strOfNums bs))) v2 Z ∧ Grow w (put6 (w2.setCell ⟨X, 2, none⟩ (.bool true)) (X + 1) (.bool u) (.bool d) (.bool true) (.int .i64 p) (.int .i64 q) (.string (strOfNums bs)))) := by
    have u1 := upd_one w2 X 2 (.bool true)
    have u2 := upd_put6 (w2.setCell ⟨X, 2, none⟩ (.bool true)) (X + 1) (.bool u) (.bool d) (.bool true) (.int .i64 p) (.int .i64 q) (.string (strOfNums bs))
    have hX := H0.out.2.2.2
    exact ⟨(Y2.upd u1 (by omega)).put6 _ _ _ _ _ _, ((HO.out.upd u1 (fun i _ hi e => by omega)).upd u2 (fun i _ hi e => by omega)).mono (fun i _ hi => by omega), UpdS.new (UpdS.new HG2.out u1 (fun i hi => by omega)) u2 (fun i hi => by omega)⟩
  unfold put6 at HF
  clear V2 Y2 g2 ho2 hsz hsz1 HO
  go_wp2
  exact bodyPost_ret_by (results_cell_tmp2 rfl _ _ _ _ rfl (load_F _ _ _ _ _ _ _ _ HF.out.1)) rfl ⟨_, rfl, HF.out.2⟩

set_option maxRecDepth 8000 in
set_option maxHeartbeats 2000000 in
theorem qput_yes (bs : List Int) (off : Int) (v : Value) (ys : List Int) (Z : List Int) (t : Nat → Prop) (hy : RdV (Value.int .u8) 0 t w v ys) (hoct : Oct bs) (hl : bs.length = 32) (hp : 0 < p) (hp2 : p ≤ 100) (ho : (Lit.int .i64 off).wf = true) (hE : putted bs off ys = (Z, 0)) : Calls Try.prog 64 #[.agg #[.bool u, .bool d, .bool r, .int .i64 p, .int .i64 q, .string (strOfNums bs)], .int .i64 off, v] w fun e w' => e = .returned (.tuple #[.agg #[.bool u, .bool true, .bool true, .int .i64 p, .int .i64 q, .string (strOfNums Z)], .int .i64 0]) ∧ Grow w w' := by
  obtain ⟨W0, hW0⟩ : ∃ W0, (w.alloc (.cells #[.bool u, .bool d, .bool r, .int .i64 p, .int .i64 q, .string (strOfNums bs)] 68)).alloc (.cells #[.bool false, .bool false, .bool false, .int .i64 0, .int .i64 0, .string ⟨#[]⟩] 68) = W0 := ⟨_, rfl⟩
  have V0 := (VarAt.new w [.bool u, .bool d, .bool r, .int .i64 p, .int .i64 q, .string (strOfNums bs)] 68).old (.cells #[.bool false, .bool false, .bool false, .int .i64 0, .int .i64 0, .string ⟨#[]⟩] 68)
  have Y0 := VarAt.new2 w (.cells #[.bool u, .bool d, .bool r, .int .i64 p, .int .i64 q, .string (strOfNums bs)] 68) [.bool false, .bool false, .bool false, .int .i64 0, .int .i64 0, .string ⟨#[]⟩] 68
  have g0 : Grow w W0 := by rw [← hW0]; exact ((Grow.refl w).alloc _).alloc _
  rw [hW0] at V0 Y0
  obtain ⟨X, hX⟩ : ∃ X, w.heap.size = X := ⟨_, rfl⟩
  rw [hX] at V0 Y0
  have H0 : Hid (VarAt W0 X [.bool u, .bool d, .bool r, .int .i64 p, .int .i64 q, .string (strOfNums bs)] ∧ VarAt W0 (X + 1) [.bool false, .bool false, .bool false, .int .i64 0, .int .i64 0, .string ⟨#[]⟩] ∧ Grow w W0 ∧ w.heap.size = X) := ⟨V0, Y0, g0, hX⟩
  obtain ⟨⟨x0, x1, x2, x3, x4, x5⟩, -⟩ := V0.six
  obtain ⟨⟨y0, y1, y2, y3, y4, y5⟩, f0, f1, f2, f3, f4, f5⟩ := Y0.six
  obtain ⟨v1, W1, hcv, r1, g1⟩ := run_bytes W0 bs hoct (by omega)
  have hn : (p == 0) = false := by rw [beq_eq_false_iff_ne]; omega
  have hn2 : ¬ p = 0 := by omega
  clear V0 Y0 g0
  go_enter Try.func64, Try.ntmps64
  go_upto_region 1 with fail
  (try rw [hW0])
  (try rw [hX])
  clear hW0 hX
  have hg := rputp_any _ v bs ys off _ _ W1 r1.i ((hy.grow H0.out.2.2.1).grow g1).i ho
  rw [hE] at hg
  clear hy
  have G1 : Hid (Grow W0 W1) := g1
  clear r1 g1 hoct
  go_wp2_with fail
  refine hg.mono ?_
  rintro e w2 ⟨v2, rfl, ho2, g2⟩
  clear hg x0 x1 x2 x3 x4 x5 y0 y1 y2 y3 y4 y5 f0 f1 f2 f3 f4 f5 hcv
  have V2 := (H0.out.1.grow G1.out).grow g2
  have Y2 := (H0.out.2.1.grow G1.out).grow g2
  have HG2 : Hid (Grow w w2) := (H0.out.2.2.1.trans G1.out).trans g2
  obtain ⟨⟨x0, x1, x2, x3, x4, x5⟩, e0, e1, e2, e3, e4, e5⟩ := V2.six
  obtain ⟨⟨y0, y1, y2, y3, y4, y5⟩, f0, f1, f2, f3, f4, f5⟩ := Y2.six
  have kc : (convert 34 9 v2).run Try.prog w2 = .ok (.string (strOfNums Z)) w2 := ho2.v.rd.i.string 34 9 5 Try.underlying34 Try.underlying5 Try.underlying9
  have HF : Hid (VarAt (put6 (((w2.setCell ⟨X, 5, none⟩ (.string (strOfNums Z))).setCell ⟨X, 2, none⟩ (.bool true)).setCell ⟨X, 1, none⟩ (.bool true)) (X + 1) (.bool u) (.bool true) (.bool true) (.int .i64 p) (.int .i64 q) (.string (strOfNums Z))) (X + 1) [.bool u, .bool true, .bool true, .int .i64 p, .int .i64 q, .string (strOfNums Z)] ∧ Grow w (put6 (((w2.setCell ⟨X, 5, none⟩ (.string (strOfNums Z))).setCell ⟨X, 2, none⟩ (.bool true)).setCell ⟨X, 1, none⟩ (.bool true)) (X + 1) (.bool u) (.bool true) (.bool true) (.int .i64 p) (.int .i64 q) (.string (strOfNums Z)))) := by
    have u1 : UpdS (fun i => i = X) w2 (((w2.setCell ⟨X, 5, none⟩ (.string (strOfNums Z))).setCell ⟨X, 2, none⟩ (.bool true)).setCell ⟨X, 1, none⟩ (.bool true)) := ((upd_one w2 X 5 _).trans (upd_one _ X 2 _)).trans (upd_one _ X 1 _)
    have u2 := upd_put6 (((w2.setCell ⟨X, 5, none⟩ (.string (strOfNums Z))).setCell ⟨X, 2, none⟩ (.bool true)).setCell ⟨X, 1, none⟩ (.bool true)) (X + 1) (.bool u) (.bool true) (.bool true) (.int .i64 p) (.int .i64 q) (.string (strOfNums Z))
    have hX := H0.out.2.2.2
    exact ⟨(Y2.upd u1 (by omega)).put6 _ _ _ _ _ _, UpdS.new (UpdS.new HG2.out u1 (fun i hi => by omega)) u2 (fun i hi => by omega)⟩
  unfold put6 at HF
  clear V2 Y2 g2 ho2
  go_wp2
  exact bodyPost_ret_by (results_cell_tmp rfl _ _ _ _ rfl (load_F _ _ _ _ _ _ _ _ HF.out.1)) rfl ⟨rfl, HF.out.2⟩
end
end Go.Proofs.Ythdhfojogckflaa
