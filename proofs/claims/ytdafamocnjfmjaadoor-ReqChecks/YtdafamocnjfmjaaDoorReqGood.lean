/-
  The walk of the document's Good. Conditions: each theorem's own.
-/
import Derived.Test.YtdafamocnjfmjaaDoorReqGd
import Derived.Test.YtdafamocnjfmjaaDoorLast
import Derived.Deep.CutRange
namespace Go.Proofs.YtdafamocnjfmjaaDoor
open Go.RowKit
set_option linter.unusedVariables false
set_option linter.unusedSimpArgs false

/-- what Good's boxes are, in a world -/
def GodW (r : Rq) (a : Option Addr) (n c : Nat) (w w' : World) : Prop :=
  VarAt w' w.heap.size [.int .i64 r.o, .int .i64 r.p, .int .i64 r.f, .int .i64 r.l, .slice a n c] ∧ VarAt w' (w.heap.size + 1) [.int .i64 0, .int .i64 0, .int .i64 0, .int .i64 0, .slice none 0 0] ∧ (∀ j : Nat, j < 14 → w'.cell? ⟨w.heap.size + 2, j, none⟩ = some (.int .i64 (gOp j))) ∧ Grow w w' ∧ w.heap.size + 3 ≤ w'.heap.size
theorem fourteen (w : World) (t : TypeId) (g : Nat) (hg : g = w.heap.size) (j : Nat) (h : j < 14) : (w.alloc (.cells #[.int .i64 1, .int .i64 1, .int .i64 1, .int .i64 2, .int .i64 2, .int .i64 3, .int .i64 3, .int .i64 3, .int .i64 4, .int .i64 4, .int .i64 5, .int .i64 6, .int .i64 7, .int .i64 8] t)).cell? ⟨g, j, none⟩ = some (.int .i64 (gOp j)) := by
  subst hg
  refine (World.cell?_alloc_new w _ _ j).trans ?_
  rcases (show j = 0 ∨ j = 1 ∨ j = 2 ∨ j = 3 ∨ j = 4 ∨ j = 5 ∨ j = 6 ∨ j = 7 ∨ j = 8 ∨ j = 9 ∨ j = 10 ∨ j = 11 ∨ j = 12 ∨ j = 13 by omega) with rfl | rfl | rfl | rfl | rfl | rfl | rfl | rfl | rfl | rfl | rfl | rfl | rfl | rfl <;> rfl
theorem godW_start (r : Rq) (a : Option Addr) (n c : Nat) (w : World) : GodW r a n c w (((w.alloc (.cells #[.int .i64 r.o, .int .i64 r.p, .int .i64 r.f, .int .i64 r.l, .slice a n c] 24)).alloc (.cells #[.int .i64 0, .int .i64 0, .int .i64 0, .int .i64 0, .slice none 0 0] 24)).alloc (.cells #[.int .i64 1, .int .i64 1, .int .i64 1, .int .i64 2, .int .i64 2, .int .i64 3, .int .i64 3, .int .i64 3, .int .i64 4, .int .i64 4, .int .i64 5, .int .i64 6, .int .i64 7, .int .i64 8] 3)) :=
  ⟨((VarAt.new w _ _).old _).old _, (VarAt.new2 w _ _ _).old _, fourteen _ _ _ (by simp), (((Grow.refl w).alloc _).alloc _).alloc _, by simp⟩
/-- the same with Good's own variable at b: its numbers so far -/
def GodV (r : Rq) (a : Option Addr) (n c : Nat) (w : World) (b : Nat) (o p f l : Int) (w' : World) : Prop :=
  VarAt w' w.heap.size [.int .i64 r.o, .int .i64 r.p, .int .i64 r.f, .int .i64 r.l, .slice a n c] ∧ VarAt w' (w.heap.size + 1) [.int .i64 0, .int .i64 0, .int .i64 0, .int .i64 0, .slice none 0 0] ∧ VarAt w' b [.int .i64 o, .int .i64 p, .int .i64 f, .int .i64 l, .slice none 0 0] ∧ Grow w w' ∧ w.heap.size + 3 ≤ b
theorem GodV.grow {r : Rq} {a : Option Addr} {n c : Nat} {w w' u : World} {b : Nat} {o p f l : Int} (h : GodV r a n c w b o p f l w') (g : Grow w' u) : GodV r a n c w b o p f l u :=
  ⟨h.1.grow g, h.2.1.grow g, h.2.2.1.grow g, h.2.2.2.1.trans g, h.2.2.2.2⟩
theorem GodV.set {r : Rq} {a : Option Addr} {n c : Nat} {w w' : World} {b : Nat} {o p f l : Int} (h : GodV r a n c w b o p f l w') (j : Nat) (x : Int) :
    VarAt (w'.setCell ⟨b, j, none⟩ (.int .i64 x)) w.heap.size [.int .i64 r.o, .int .i64 r.p, .int .i64 r.f, .int .i64 r.l, .slice a n c] ∧ VarAt (w'.setCell ⟨b, j, none⟩ (.int .i64 x)) (w.heap.size + 1) [.int .i64 0, .int .i64 0, .int .i64 0, .int .i64 0, .slice none 0 0] ∧ VarAt (w'.setCell ⟨b, j, none⟩ (.int .i64 x)) b ([.int .i64 o, .int .i64 p, .int .i64 f, .int .i64 l, .slice none 0 0].set j (.int .i64 x)) ∧ Grow w (w'.setCell ⟨b, j, none⟩ (.int .i64 x)) ∧ w.heap.size + 3 ≤ b := by
  have hu := upd_one w' b j (.int .i64 x)
  have hb := h.2.2.2.2
  exact ⟨h.1.upd hu (by omega), h.2.1.upd hu (by omega), h.2.2.1.set j _, UpdS.new h.2.2.2.1 hu (fun i hi => by omega), hb⟩
/-- the end: what is in Good's own variable is told -/
theorem good_end {r : Rq} {a : Option Addr} {n c : Nat} {w w' : World} {b : Nat} {o p f l : Int} (h : GodV r a n c w b o p f l w') :
    (loadVar 24 ⟨w.heap.size + 1, 0, none⟩).run Tryd.prog (((((w'.setCell ⟨w.heap.size + 1, 0, none⟩ (.int .i64 o)).setCell ⟨w.heap.size + 1, 1, none⟩ (.int .i64 p)).setCell ⟨w.heap.size + 1, 2, none⟩ (.int .i64 f)).setCell ⟨w.heap.size + 1, 3, none⟩ (.int .i64 l)).setCell ⟨w.heap.size + 1, 4, none⟩ (.slice none 0 0)) = .ok (.agg #[.int .i64 o, .int .i64 p, .int .i64 f, .int .i64 l, .slice none 0 0]) (((((w'.setCell ⟨w.heap.size + 1, 0, none⟩ (.int .i64 o)).setCell ⟨w.heap.size + 1, 1, none⟩ (.int .i64 p)).setCell ⟨w.heap.size + 1, 2, none⟩ (.int .i64 f)).setCell ⟨w.heap.size + 1, 3, none⟩ (.int .i64 l)).setCell ⟨w.heap.size + 1, 4, none⟩ (.slice none 0 0)) ∧
      Grow w (((((w'.setCell ⟨w.heap.size + 1, 0, none⟩ (.int .i64 o)).setCell ⟨w.heap.size + 1, 1, none⟩ (.int .i64 p)).setCell ⟨w.heap.size + 1, 2, none⟩ (.int .i64 f)).setCell ⟨w.heap.size + 1, 3, none⟩ (.int .i64 l)).setCell ⟨w.heap.size + 1, 4, none⟩ (.slice none 0 0)) :=
  ⟨load_Rq (w.heap.size + 1) o p f l (.slice none 0 0) _ (h.2.1.set5 _ _ _ _ _) rfl, UpdS.new h.2.2.2.1 (upd_five w' (w.heap.size + 1) (.int .i64 o) (.int .i64 p) (.int .i64 f) (.int .i64 l) (.slice none 0 0)) (fun i hi => by omega)⟩

/-- what Good tells: one that may be, of that operation -/
def GoodPost (w : World) (k : Int) (e : Ending) (w' : World) : Prop := ∃ (q : Rq) (v : Value), e = .returned (.agg #[.int .i64 q.o, .int .i64 q.p, .int .i64 q.f, .int .i64 q.l, v]) ∧ Rd .u8 w'.heap.size w' v q.z ∧ Grow w w' ∧ q.Ok 34 ∧ ckE q.o q.p q.f q.l q.z.length k = 0
theorem oct_nil : Oct [] := fun x hx => by cases hx
theorem wfS {n : Int} (h : -1000000000 ≤ n ∧ n ≤ 1000000000) : (Lit.int .i64 n).wf = true := wfI (by omega)

set_option maxRecDepth 8000 in
set_option maxHeartbeats 8000000 in
theorem good_six (w : World) (r : Rq) (a : Option Addr) (n c : Nat) (B : Nat) (k : Int) (hr : Rd .u8 B w (.slice a n c) r.z) (hok : r.Ok maxLen) (hk : 1 ≤ k ∧ k ≤ 1000000) (ho : gOp (around r.o 14) = 6) :
    Calls Tryd.prog 9 #[.agg #[.int .i64 r.o, .int .i64 r.p, .int .i64 r.f, .int .i64 r.l, .slice a n c], .int .i64 k] w (GoodPost w k) := by
  obtain ⟨hok1, hok2, hok3, hok4, hok5, hok6⟩ := hok
  have har : Calls Tryd.prog 8 #[.int .i64 r.o, .int .i64 14] (((w.alloc (.cells #[.int .i64 r.o, .int .i64 r.p, .int .i64 r.f, .int .i64 r.l, .slice a n c] 24)).alloc (.cells #[.int .i64 0, .int .i64 0, .int .i64 0, .int .i64 0, .slice none 0 0] 24)).alloc (.cells #[.int .i64 1, .int .i64 1, .int .i64 1, .int .i64 2, .int .i64 2, .int .i64 3, .int .i64 3, .int .i64 3, .int .i64 4, .int .i64 4, .int .i64 5, .int .i64 6, .int .i64 7, .int .i64 8] 3)) fun e w' => e = .returned (.int .i64 (around r.o 14)) ∧ GodW r a n c w w' := (around_any r.o 14 _ hok1 (by omega) (by omega)).mono (by rintro e w' ⟨rfl, rfl⟩; exact ⟨rfl, godW_start r a n c w⟩)
  have hb := around_bd r.o 14 (by omega)
  have HR : Hid (Rd .u8 w.heap.size w (.slice a n c) r.z) := Rd.size hr
  have HP : Hid (∀ (S : World → Prop) (W : World), S W → Calls Tryd.prog 8 #[.int .i64 r.p, .int .i64 k] W fun e w' => e = .returned (.int .i64 (around r.p k)) ∧ S w') := fun S W hS => (around_any r.p k _ hok2 (by omega) (by omega)).mono (by rintro e w' ⟨rfl, rfl⟩; exact ⟨rfl, hS⟩)
  have bp := around_bd r.p k (by omega)
  have HF : Hid (∀ (S : World → Prop) (W : World), S W → Calls Tryd.prog 8 #[.int .i64 r.f, .int .i64 33] W fun e w' => e = .returned (.int .i64 (around r.f 33)) ∧ S w') := fun S W hS => (around_any r.f 33 _ hok3 (by omega) (by omega)).mono (by rintro e w' ⟨rfl, rfl⟩; exact ⟨rfl, hS⟩)
  have bf := around_bd r.f 33 (by omega)
  have HL : Hid (∀ (S : World → Prop) (W : World) (m : Int), 0 < m → m ≤ 33 → S W → Calls Tryd.prog 8 #[.int .i64 r.l, .int .i64 m] W fun e w' => e = .returned (.int .i64 (around r.l m)) ∧ S w') := fun S W m h0 h1 hS => (around_any r.l m _ hok4 h0 (by omega)).mono (by rintro e w' ⟨rfl, rfl⟩; exact ⟨rfl, hS⟩)
  obtain ⟨j, hj⟩ := Int.eq_ofNat_of_zero_le hb.1
  rw [hj] at har ho hb
  have hj14 : (j : Int) < 14 := hb.2
  have HC : Hid (∀ u, GodW r a n c w u → u.cell? ⟨w.heap.size + 2, j, none⟩ = some (.int .i64 (gOp j))) := fun u hu => hu.2.2.1 j (by omega)
  generalize around r.p k = xp at *
  generalize around r.f 33 = xf at *
  generalize gOp (j : Int) = o at *
  clear hj hb hr hok1 hok2 hok3 hok4
  subst ho
  have HE : Hid ((⟨6, 0, 0, 0, []⟩ : Rq).Ok 34 ∧ ckE 6 0 0 0 ([] : List Int).length k = 0) := by
    clear har HR HP HF HC
    refine ⟨⟨wfS (n := 6) (by omega), wfS (n := 0) (by omega), wfS (n := 0) (by omega), wfS (n := 0) (by omega), oct_nil, Nat.zero_le _⟩, ?_⟩
    show ckE _ _ _ _ 0 _ = _
    unfold ckE
    (repeat' split) <;> first | rfl | omega
  go_enter Tryd.func9, Tryd.ntmps9
  go_wp2_with fail
  refine har.mono ?_
  rintro e w1 ⟨rfl, hX⟩
  have HX : Hid (GodW r a n c w w1) := hX
  have c14 := HC.out w1 hX
  clear har hX HC
  go_upto_if 20 with fail
  refine wp_gen (GodV r a n c w w1.heap.size 6 0 0 0) ⟨HX.out.1.old _, HX.out.2.1.old _, VarAt.new w1 _ _, HX.out.2.2.2.1.alloc _, HX.out.2.2.2.2⟩ ?_
  intro w2 hV2
  have HV2 : Hid (GodV r a n c w w1.heap.size 6 0 0 0 w2) := hV2
  clear hV2 c14 HX
  generalize w1.heap.size = b at *
  have n1 : ¬ b = w.heap.size := by have := HV2.out.2.2.2.2; omega
  have n2 : ¬ w.heap.size = b := by omega
  have n3 : ¬ b = w.heap.size + 1 := by have := HV2.out.2.2.2.2; omega
  have n4 : ¬ w.heap.size + 1 = b := by omega
  obtain ⟨⟨c0, c1, c2, c3, c4⟩, -⟩ := HV2.out.1.five
  obtain ⟨⟨d0, d1, d2, d3, d4⟩, k0, k1, k2, k3, k4⟩ := HV2.out.2.1.five
  obtain ⟨⟨e0, e1, e2, e3, e4⟩, f0, f1, f2, f3, f4⟩ := HV2.out.2.2.1.five
  go_wp2
  obtain ⟨q1, q2⟩ := good_end (o := 6) (p := 0) (f := 0) (l := 0) (HV2.out)
  exact bodyPost_ret_by (results_cell rfl _ _ _ _ rfl q1) rfl ⟨⟨6, 0, 0, 0, []⟩, .slice none 0 0, rfl, Rd.nil _ _ _ _ _ (Nat.zero_le _), q2, HE.out⟩

set_option maxRecDepth 8000 in
set_option maxHeartbeats 8000000 in
theorem good_eight (w : World) (r : Rq) (a : Option Addr) (n c : Nat) (B : Nat) (k : Int) (hr : Rd .u8 B w (.slice a n c) r.z) (hok : r.Ok maxLen) (hk : 1 ≤ k ∧ k ≤ 1000000) (ho : gOp (around r.o 14) = 8) :
    Calls Tryd.prog 9 #[.agg #[.int .i64 r.o, .int .i64 r.p, .int .i64 r.f, .int .i64 r.l, .slice a n c], .int .i64 k] w (GoodPost w k) := by
  obtain ⟨hok1, hok2, hok3, hok4, hok5, hok6⟩ := hok
  have har : Calls Tryd.prog 8 #[.int .i64 r.o, .int .i64 14] (((w.alloc (.cells #[.int .i64 r.o, .int .i64 r.p, .int .i64 r.f, .int .i64 r.l, .slice a n c] 24)).alloc (.cells #[.int .i64 0, .int .i64 0, .int .i64 0, .int .i64 0, .slice none 0 0] 24)).alloc (.cells #[.int .i64 1, .int .i64 1, .int .i64 1, .int .i64 2, .int .i64 2, .int .i64 3, .int .i64 3, .int .i64 3, .int .i64 4, .int .i64 4, .int .i64 5, .int .i64 6, .int .i64 7, .int .i64 8] 3)) fun e w' => e = .returned (.int .i64 (around r.o 14)) ∧ GodW r a n c w w' := (around_any r.o 14 _ hok1 (by omega) (by omega)).mono (by rintro e w' ⟨rfl, rfl⟩; exact ⟨rfl, godW_start r a n c w⟩)
  have hb := around_bd r.o 14 (by omega)
  have HR : Hid (Rd .u8 w.heap.size w (.slice a n c) r.z) := Rd.size hr
  have HP : Hid (∀ (S : World → Prop) (W : World), S W → Calls Tryd.prog 8 #[.int .i64 r.p, .int .i64 k] W fun e w' => e = .returned (.int .i64 (around r.p k)) ∧ S w') := fun S W hS => (around_any r.p k _ hok2 (by omega) (by omega)).mono (by rintro e w' ⟨rfl, rfl⟩; exact ⟨rfl, hS⟩)
  have bp := around_bd r.p k (by omega)
  have HF : Hid (∀ (S : World → Prop) (W : World), S W → Calls Tryd.prog 8 #[.int .i64 r.f, .int .i64 33] W fun e w' => e = .returned (.int .i64 (around r.f 33)) ∧ S w') := fun S W hS => (around_any r.f 33 _ hok3 (by omega) (by omega)).mono (by rintro e w' ⟨rfl, rfl⟩; exact ⟨rfl, hS⟩)
  have bf := around_bd r.f 33 (by omega)
  have HL : Hid (∀ (S : World → Prop) (W : World) (m : Int), 0 < m → m ≤ 33 → S W → Calls Tryd.prog 8 #[.int .i64 r.l, .int .i64 m] W fun e w' => e = .returned (.int .i64 (around r.l m)) ∧ S w') := fun S W m h0 h1 hS => (around_any r.l m _ hok4 h0 (by omega)).mono (by rintro e w' ⟨rfl, rfl⟩; exact ⟨rfl, hS⟩)
  obtain ⟨j, hj⟩ := Int.eq_ofNat_of_zero_le hb.1
  rw [hj] at har ho hb
  have hj14 : (j : Int) < 14 := hb.2
  have HC : Hid (∀ u, GodW r a n c w u → u.cell? ⟨w.heap.size + 2, j, none⟩ = some (.int .i64 (gOp j))) := fun u hu => hu.2.2.1 j (by omega)
  generalize around r.p k = xp at *
  generalize around r.f 33 = xf at *
  generalize gOp (j : Int) = o at *
  clear hj hb hr hok1 hok2 hok3 hok4
  subst ho
  have HE : Hid ((⟨8, 0, 0, 0, []⟩ : Rq).Ok 34 ∧ ckE 8 0 0 0 ([] : List Int).length k = 0) := by
    clear har HR HP HF HC
    refine ⟨⟨wfS (n := 8) (by omega), wfS (n := 0) (by omega), wfS (n := 0) (by omega), wfS (n := 0) (by omega), oct_nil, Nat.zero_le _⟩, ?_⟩
    show ckE _ _ _ _ 0 _ = _
    unfold ckE
    (repeat' split) <;> first | rfl | omega
  go_enter Tryd.func9, Tryd.ntmps9
  go_wp2_with fail
  refine har.mono ?_
  rintro e w1 ⟨rfl, hX⟩
  have HX : Hid (GodW r a n c w w1) := hX
  have c14 := HC.out w1 hX
  clear har hX HC
  go_upto_if 20 with fail
  refine wp_gen (GodV r a n c w w1.heap.size 8 0 0 0) ⟨HX.out.1.old _, HX.out.2.1.old _, VarAt.new w1 _ _, HX.out.2.2.2.1.alloc _, HX.out.2.2.2.2⟩ ?_
  intro w2 hV2
  have HV2 : Hid (GodV r a n c w w1.heap.size 8 0 0 0 w2) := hV2
  clear hV2 c14 HX
  generalize w1.heap.size = b at *
  have n1 : ¬ b = w.heap.size := by have := HV2.out.2.2.2.2; omega
  have n2 : ¬ w.heap.size = b := by omega
  have n3 : ¬ b = w.heap.size + 1 := by have := HV2.out.2.2.2.2; omega
  have n4 : ¬ w.heap.size + 1 = b := by omega
  obtain ⟨⟨c0, c1, c2, c3, c4⟩, -⟩ := HV2.out.1.five
  obtain ⟨⟨d0, d1, d2, d3, d4⟩, k0, k1, k2, k3, k4⟩ := HV2.out.2.1.five
  obtain ⟨⟨e0, e1, e2, e3, e4⟩, f0, f1, f2, f3, f4⟩ := HV2.out.2.2.1.five
  go_wp2
  obtain ⟨q1, q2⟩ := good_end (o := 8) (p := 0) (f := 0) (l := 0) (HV2.out)
  exact bodyPost_ret_by (results_cell rfl _ _ _ _ rfl q1) rfl ⟨⟨8, 0, 0, 0, []⟩, .slice none 0 0, rfl, Rd.nil _ _ _ _ _ (Nat.zero_le _), q2, HE.out⟩

set_option maxRecDepth 8000 in
set_option maxHeartbeats 8000000 in
theorem good_page (w : World) (r : Rq) (a : Option Addr) (n c : Nat) (B : Nat) (k : Int) (hr : Rd .u8 B w (.slice a n c) r.z) (hok : r.Ok maxLen) (hk : 1 ≤ k ∧ k ≤ 1000000) (ho : 1 ≤ gOp (around r.o 14) ∧ gOp (around r.o 14) ≤ 8 ∧ gOp (around r.o 14) ≠ 2 ∧ gOp (around r.o 14) ≠ 3 ∧ gOp (around r.o 14) ≠ 6 ∧ gOp (around r.o 14) ≠ 8) :
    Calls Tryd.prog 9 #[.agg #[.int .i64 r.o, .int .i64 r.p, .int .i64 r.f, .int .i64 r.l, .slice a n c], .int .i64 k] w (GoodPost w k) := by
  obtain ⟨hok1, hok2, hok3, hok4, hok5, hok6⟩ := hok
  have har : Calls Tryd.prog 8 #[.int .i64 r.o, .int .i64 14] (((w.alloc (.cells #[.int .i64 r.o, .int .i64 r.p, .int .i64 r.f, .int .i64 r.l, .slice a n c] 24)).alloc (.cells #[.int .i64 0, .int .i64 0, .int .i64 0, .int .i64 0, .slice none 0 0] 24)).alloc (.cells #[.int .i64 1, .int .i64 1, .int .i64 1, .int .i64 2, .int .i64 2, .int .i64 3, .int .i64 3, .int .i64 3, .int .i64 4, .int .i64 4, .int .i64 5, .int .i64 6, .int .i64 7, .int .i64 8] 3)) fun e w' => e = .returned (.int .i64 (around r.o 14)) ∧ GodW r a n c w w' := (around_any r.o 14 _ hok1 (by omega) (by omega)).mono (by rintro e w' ⟨rfl, rfl⟩; exact ⟨rfl, godW_start r a n c w⟩)
  have hb := around_bd r.o 14 (by omega)
  have HR : Hid (Rd .u8 w.heap.size w (.slice a n c) r.z) := Rd.size hr
  have HP : Hid (∀ (S : World → Prop) (W : World), S W → Calls Tryd.prog 8 #[.int .i64 r.p, .int .i64 k] W fun e w' => e = .returned (.int .i64 (around r.p k)) ∧ S w') := fun S W hS => (around_any r.p k _ hok2 (by omega) (by omega)).mono (by rintro e w' ⟨rfl, rfl⟩; exact ⟨rfl, hS⟩)
  have bp := around_bd r.p k (by omega)
  have HF : Hid (∀ (S : World → Prop) (W : World), S W → Calls Tryd.prog 8 #[.int .i64 r.f, .int .i64 33] W fun e w' => e = .returned (.int .i64 (around r.f 33)) ∧ S w') := fun S W hS => (around_any r.f 33 _ hok3 (by omega) (by omega)).mono (by rintro e w' ⟨rfl, rfl⟩; exact ⟨rfl, hS⟩)
  have bf := around_bd r.f 33 (by omega)
  have HL : Hid (∀ (S : World → Prop) (W : World) (m : Int), 0 < m → m ≤ 33 → S W → Calls Tryd.prog 8 #[.int .i64 r.l, .int .i64 m] W fun e w' => e = .returned (.int .i64 (around r.l m)) ∧ S w') := fun S W m h0 h1 hS => (around_any r.l m _ hok4 h0 (by omega)).mono (by rintro e w' ⟨rfl, rfl⟩; exact ⟨rfl, hS⟩)
  obtain ⟨j, hj⟩ := Int.eq_ofNat_of_zero_le hb.1
  rw [hj] at har ho hb
  have hj14 : (j : Int) < 14 := hb.2
  have HC : Hid (∀ u, GodW r a n c w u → u.cell? ⟨w.heap.size + 2, j, none⟩ = some (.int .i64 (gOp j))) := fun u hu => hu.2.2.1 j (by omega)
  generalize around r.p k = xp at *
  generalize around r.f 33 = xf at *
  generalize gOp (j : Int) = o at *
  clear hj hb hr hok1 hok2 hok3 hok4
  obtain ⟨o1, o2, o3, o4, o5, o6⟩ := ho
  have b2 : (o == 2) = false := beq_eq_false_iff_ne.2 o3
  have b3 : (o == 3) = false := beq_eq_false_iff_ne.2 o4
  have b6 : (o != 6) = true := by simp [bne, o5]
  have b8 : (o != 8) = true := by simp [bne, o6]
  have HE : Hid ((⟨o, xp, 0, 0, []⟩ : Rq).Ok 34 ∧ ckE o xp 0 0 ([] : List Int).length k = 0) := by
    clear har HR HP HF HC
    refine ⟨⟨wfS (n := o) (by omega), wfS (n := xp) (by omega), wfS (n := 0) (by omega), wfS (n := 0) (by omega), oct_nil, Nat.zero_le _⟩, ?_⟩
    show ckE _ _ _ _ 0 _ = _
    unfold ckE
    (repeat' split) <;> first | rfl | omega
  clear o1 o2 o3 o4 o5 o6
  go_enter Tryd.func9, Tryd.ntmps9
  go_wp2_with fail
  refine har.mono ?_
  rintro e w1 ⟨rfl, hX⟩
  have HX : Hid (GodW r a n c w w1) := hX
  have c14 := HC.out w1 hX
  clear har hX HC
  go_upto_if 20 with fail
  refine wp_gen (GodV r a n c w w1.heap.size o 0 0 0) ⟨HX.out.1.old _, HX.out.2.1.old _, VarAt.new w1 _ _, HX.out.2.2.2.1.alloc _, HX.out.2.2.2.2⟩ ?_
  intro w2 hV2
  have HV2 : Hid (GodV r a n c w w1.heap.size o 0 0 0 w2) := hV2
  clear hV2 c14 HX
  generalize w1.heap.size = b at *
  have n1 : ¬ b = w.heap.size := by have := HV2.out.2.2.2.2; omega
  have n2 : ¬ w.heap.size = b := by omega
  have n3 : ¬ b = w.heap.size + 1 := by have := HV2.out.2.2.2.2; omega
  have n4 : ¬ w.heap.size + 1 = b := by omega
  obtain ⟨⟨c0, c1, c2, c3, c4⟩, -⟩ := HV2.out.1.five
  obtain ⟨⟨d0, d1, d2, d3, d4⟩, k0, k1, k2, k3, k4⟩ := HV2.out.2.1.five
  obtain ⟨⟨e0, e1, e2, e3, e4⟩, f0, f1, f2, f3, f4⟩ := HV2.out.2.2.1.five
  go_wp2_with fail
  refine (HP.out (GodV r a n c w b o 0 0 0) _ HV2.out).mono ?_
  rintro e w3 ⟨rfl, hV3⟩
  have HV3 : Hid (GodV r a n c w b o 0 0 0 w3) := hV3
  clear hV3 HV2 HP
  clear c0 c1 c2 c3 c4 d0 d1 d2 d3 d4 k0 k1 k2 k3 k4 e0 e1 e2 e3 e4 f0 f1 f2 f3 f4
  obtain ⟨⟨c0, c1, c2, c3, c4⟩, -⟩ := HV3.out.1.five
  obtain ⟨⟨d0, d1, d2, d3, d4⟩, k0, k1, k2, k3, k4⟩ := HV3.out.2.1.five
  obtain ⟨⟨e0, e1, e2, e3, e4⟩, f0, f1, f2, f3, f4⟩ := HV3.out.2.2.1.five
  go_wp2
  obtain ⟨q1, q2⟩ := good_end (o := o) (p := xp) (f := 0) (l := 0) (HV3.out.set 1 xp)
  exact bodyPost_ret_by (results_cell rfl _ _ _ _ rfl q1) rfl ⟨⟨o, xp, 0, 0, []⟩, .slice none 0 0, rfl, Rd.nil _ _ _ _ _ (Nat.zero_le _), q2, HE.out⟩

set_option maxRecDepth 8000 in
set_option maxHeartbeats 8000000 in
theorem good_read (w : World) (r : Rq) (a : Option Addr) (n c : Nat) (B : Nat) (k : Int) (hr : Rd .u8 B w (.slice a n c) r.z) (hok : r.Ok maxLen) (hk : 1 ≤ k ∧ k ≤ 1000000) (ho : gOp (around r.o 14) = 2) :
    Calls Tryd.prog 9 #[.agg #[.int .i64 r.o, .int .i64 r.p, .int .i64 r.f, .int .i64 r.l, .slice a n c], .int .i64 k] w (GoodPost w k) := by
  obtain ⟨hok1, hok2, hok3, hok4, hok5, hok6⟩ := hok
  have har : Calls Tryd.prog 8 #[.int .i64 r.o, .int .i64 14] (((w.alloc (.cells #[.int .i64 r.o, .int .i64 r.p, .int .i64 r.f, .int .i64 r.l, .slice a n c] 24)).alloc (.cells #[.int .i64 0, .int .i64 0, .int .i64 0, .int .i64 0, .slice none 0 0] 24)).alloc (.cells #[.int .i64 1, .int .i64 1, .int .i64 1, .int .i64 2, .int .i64 2, .int .i64 3, .int .i64 3, .int .i64 3, .int .i64 4, .int .i64 4, .int .i64 5, .int .i64 6, .int .i64 7, .int .i64 8] 3)) fun e w' => e = .returned (.int .i64 (around r.o 14)) ∧ GodW r a n c w w' := (around_any r.o 14 _ hok1 (by omega) (by omega)).mono (by rintro e w' ⟨rfl, rfl⟩; exact ⟨rfl, godW_start r a n c w⟩)
  have hb := around_bd r.o 14 (by omega)
  have HR : Hid (Rd .u8 w.heap.size w (.slice a n c) r.z) := Rd.size hr
  have HP : Hid (∀ (S : World → Prop) (W : World), S W → Calls Tryd.prog 8 #[.int .i64 r.p, .int .i64 k] W fun e w' => e = .returned (.int .i64 (around r.p k)) ∧ S w') := fun S W hS => (around_any r.p k _ hok2 (by omega) (by omega)).mono (by rintro e w' ⟨rfl, rfl⟩; exact ⟨rfl, hS⟩)
  have bp := around_bd r.p k (by omega)
  have HF : Hid (∀ (S : World → Prop) (W : World), S W → Calls Tryd.prog 8 #[.int .i64 r.f, .int .i64 33] W fun e w' => e = .returned (.int .i64 (around r.f 33)) ∧ S w') := fun S W hS => (around_any r.f 33 _ hok3 (by omega) (by omega)).mono (by rintro e w' ⟨rfl, rfl⟩; exact ⟨rfl, hS⟩)
  have bf := around_bd r.f 33 (by omega)
  have HL : Hid (∀ (S : World → Prop) (W : World) (m : Int), 0 < m → m ≤ 33 → S W → Calls Tryd.prog 8 #[.int .i64 r.l, .int .i64 m] W fun e w' => e = .returned (.int .i64 (around r.l m)) ∧ S w') := fun S W m h0 h1 hS => (around_any r.l m _ hok4 h0 (by omega)).mono (by rintro e w' ⟨rfl, rfl⟩; exact ⟨rfl, hS⟩)
  obtain ⟨j, hj⟩ := Int.eq_ofNat_of_zero_le hb.1
  rw [hj] at har ho hb
  have hj14 : (j : Int) < 14 := hb.2
  have HC : Hid (∀ u, GodW r a n c w u → u.cell? ⟨w.heap.size + 2, j, none⟩ = some (.int .i64 (gOp j))) := fun u hu => hu.2.2.1 j (by omega)
  generalize around r.p k = xp at *
  generalize around r.f 33 = xf at *
  generalize gOp (j : Int) = o at *
  clear hj hb hr hok1 hok2 hok3 hok4
  subst ho
  have hw : IntKind.i64.wrap (33 - xf) = 33 - xf := by rw [IntKind.wrap_i64]; omega
  have bl := around_bd r.l (33 - xf) (by omega)
  have HLL := HL.out
  replace HLL := fun S W hS => HLL S W (33 - xf) (by omega) (by omega) hS
  generalize around r.l (33 - xf) = xl at *
  have HE : Hid ((⟨2, xp, xf, xl, []⟩ : Rq).Ok 34 ∧ ckE 2 xp xf xl ([] : List Int).length k = 0) := by
    clear har HR HP HF HC
    refine ⟨⟨wfS (n := 2) (by omega), wfS (n := xp) (by omega), wfS (n := xf) (by omega), wfS (n := xl) (by omega), oct_nil, Nat.zero_le _⟩, ?_⟩
    show ckE _ _ _ _ 0 _ = _
    unfold ckE
    (repeat' split) <;> first | rfl | omega
  have HL2 : Hid (∀ (S : World → Prop) (W : World), S W → Calls Tryd.prog 8 #[.int .i64 r.l, .int .i64 (33 - xf)] W fun e w' => e = .returned (.int .i64 xl) ∧ S w') := HLL
  clear HL HLL bp bl
  go_enter Tryd.func9, Tryd.ntmps9
  go_wp2_with fail
  refine har.mono ?_
  rintro e w1 ⟨rfl, hX⟩
  have HX : Hid (GodW r a n c w w1) := hX
  have c14 := HC.out w1 hX
  clear har hX HC
  go_upto_if 20 with fail
  refine wp_gen (GodV r a n c w w1.heap.size 2 0 0 0) ⟨HX.out.1.old _, HX.out.2.1.old _, VarAt.new w1 _ _, HX.out.2.2.2.1.alloc _, HX.out.2.2.2.2⟩ ?_
  intro w2 hV2
  have HV2 : Hid (GodV r a n c w w1.heap.size 2 0 0 0 w2) := hV2
  clear hV2 c14 HX
  generalize w1.heap.size = b at *
  have n1 : ¬ b = w.heap.size := by have := HV2.out.2.2.2.2; omega
  have n2 : ¬ w.heap.size = b := by omega
  have n3 : ¬ b = w.heap.size + 1 := by have := HV2.out.2.2.2.2; omega
  have n4 : ¬ w.heap.size + 1 = b := by omega
  obtain ⟨⟨c0, c1, c2, c3, c4⟩, -⟩ := HV2.out.1.five
  obtain ⟨⟨d0, d1, d2, d3, d4⟩, k0, k1, k2, k3, k4⟩ := HV2.out.2.1.five
  obtain ⟨⟨e0, e1, e2, e3, e4⟩, f0, f1, f2, f3, f4⟩ := HV2.out.2.2.1.five
  go_wp2_with fail
  refine (HP.out (GodV r a n c w b 2 0 0 0) _ HV2.out).mono ?_
  rintro e w3 ⟨rfl, hV3⟩
  have HV3 : Hid (GodV r a n c w b 2 0 0 0 w3) := hV3
  clear hV3 HV2 HP
  clear c0 c1 c2 c3 c4 d0 d1 d2 d3 d4 k0 k1 k2 k3 k4 e0 e1 e2 e3 e4 f0 f1 f2 f3 f4
  obtain ⟨⟨c0, c1, c2, c3, c4⟩, -⟩ := HV3.out.1.five
  obtain ⟨⟨d0, d1, d2, d3, d4⟩, k0, k1, k2, k3, k4⟩ := HV3.out.2.1.five
  obtain ⟨⟨e0, e1, e2, e3, e4⟩, f0, f1, f2, f3, f4⟩ := HV3.out.2.2.1.five
  go_wp2_with fail
  refine (HF.out (GodV r a n c w b 2 xp 0 0) _ (HV3.out.set 1 xp)).mono ?_
  rintro e w4 ⟨rfl, hV4⟩
  have HV4 : Hid (GodV r a n c w b 2 xp 0 0 w4) := hV4
  clear hV4 HV3 HF
  clear c0 c1 c2 c3 c4 d0 d1 d2 d3 d4 k0 k1 k2 k3 k4 e0 e1 e2 e3 e4 f0 f1 f2 f3 f4
  obtain ⟨⟨c0, c1, c2, c3, c4⟩, -⟩ := HV4.out.1.five
  obtain ⟨⟨d0, d1, d2, d3, d4⟩, k0, k1, k2, k3, k4⟩ := HV4.out.2.1.five
  obtain ⟨⟨e0, e1, e2, e3, e4⟩, f0, f1, f2, f3, f4⟩ := HV4.out.2.2.1.five
  go_wp2_with fail
  refine (HL2.out (GodV r a n c w b 2 xp xf 0) _ (HV4.out.set 2 xf)).mono ?_
  rintro e w5 ⟨rfl, hV5⟩
  have HV5 : Hid (GodV r a n c w b 2 xp xf 0 w5) := hV5
  clear hV5 HV4 HL2
  clear c0 c1 c2 c3 c4 d0 d1 d2 d3 d4 k0 k1 k2 k3 k4 e0 e1 e2 e3 e4 f0 f1 f2 f3 f4
  obtain ⟨⟨c0, c1, c2, c3, c4⟩, -⟩ := HV5.out.1.five
  obtain ⟨⟨d0, d1, d2, d3, d4⟩, k0, k1, k2, k3, k4⟩ := HV5.out.2.1.five
  obtain ⟨⟨e0, e1, e2, e3, e4⟩, f0, f1, f2, f3, f4⟩ := HV5.out.2.2.1.five
  go_wp2
  obtain ⟨q1, q2⟩ := good_end (o := 2) (p := xp) (f := xf) (l := xl) (HV5.out.set 3 xl)
  exact bodyPost_ret_by (results_cell rfl _ _ _ _ rfl q1) rfl ⟨⟨2, xp, xf, xl, []⟩, .slice none 0 0, rfl, Rd.nil _ _ _ _ _ (Nat.zero_le _), q2, HE.out⟩

end Go.Proofs.YtdafamocnjfmjaaDoor
