/-
  The walks of what is read of a superblock's bytes (parts, fields, Read), where they are a superblock's, and where their check is another one. Conditions: each theorem's own.
-/
import Derived.Test.YtlcphhlimcnnaaaSup
import Derived.Test.YtlcphhlimcnnaaaEnds
namespace Go.Proofs.Ytlcphhlimcnnaaa
open Go.RowKit
set_option linter.unusedVariables false
set_option linter.unusedSimpArgs false

theorem pnums_cons (p : Pt) (ps : List Pt) : pnums (p :: ps) = p.q :: p.b :: p.g :: pnums ps := rfl
theorem drop_at (ps : List Pt) (j : Nat) (h : j < ps.length) : ps.drop j = ps.getD j Pt.zero :: ps.drop (j + 1) := by
  rw [List.drop_eq_getElem_cons h]
  simp [List.getD, List.getElem?_eq_getElem h]
theorem ok_at {ps : List Pt} (h : ∀ x ∈ ps, x.Ok) (j : Nat) (hj : j < ps.length) : (ps.getD j Pt.zero).Ok := h _ (getD_mem hj)

/-- one part laid for an append -/
theorem part_src (w : World) (x y z : Int) : Src Try.prog 3 22 (.slice (some ⟨w.heap.size, 0, none⟩) 1 1) [(⟨x, y, z⟩ : Pt)].length ([(⟨x, y, z⟩ : Pt)].flatMap Pt.cs) (w.alloc (.cells #[.int .i64 x, .int .i64 y, .int .i64 z] 57)) :=
  (rdS_new (f := Pt.cs) (k := 3) w 57 [⟨x, y, z⟩] Pt.cs_length (by simp [maxLen])).src Pt.cs_length Pt.cs_one Try.underlying22

/-- what turned beside b is new -/
theorem upd_new {S : Nat → Prop} {b : Nat} {x y : World} (h : UpdS S x y) (hS : ∀ k, S k → k = b ∨ x.heap.size ≤ k) : Upd b x y :=
  ⟨h.os, h.tape, h.output, h.size, fun k hk hn => h.block k hk (fun hs => by rcases hS k hs with e | e; exact hn e; omega)⟩

section
variable {p : Nat → Prop}
set_option maxHeartbeats 4000000 in
theorem parts_any (b : Nat) (ps : List Pt) (er : Int) (w : World) (h : RdrAt w b p (leAll ((ps.length : Int) :: pnums ps)) er) (hok : ∀ x ∈ ps, x.Ok) (hl : ps.length ≤ 16) :
    Calls Try.prog 48 #[.pointer (some ⟨b, 0, none⟩)] w fun e w' => ∃ v', e = .returned v' ∧ OwnP (fun i => w.heap.size ≤ i) w' v' ps ∧ RdrAt w' b p [] er ∧ Upd b w w' := by
  obtain ⟨i0, hinf, hz0, hz1, hz2⟩ := info_parts infoP
  have HB : Hid (b < w.heap.size ∧ ∀ k, p k → k < w.heap.size) := ⟨h.lt, by obtain ⟨a, c, -, -, -, -, -, hp⟩ := h; exact fun k hk => (hp k hk).2⟩
  have hn16 : ¬ (16 : Int) < (ps.length : Int) := by omega
  go_enter Try.func48, Try.ntmps48
  go_wp2_with fail
  refine (intR_cons b _ _ er _ h ⟨by omega, by omega⟩).mono ?_
  rintro e w1 ⟨rfl, hr1, hu1⟩
  go_wp2
  go_loopg [4, 10] ps.length (fun k d c wr => ∃ j : Nat, k = ps.length - j ∧ j ≤ ps.length ∧ c = .int .i64 j ∧ Hid (OwnP (fun i => w.heap.size ≤ i) wr d (ps.take j) ∧ RdrAt wr b p (leAll (pnums (ps.drop j))) er ∧ Upd b w wr))
  case atStart => exact ⟨0, by omega, by omega, rfl, OwnS.nil _ _ _ _ _, hr1, hu1⟩
  case round =>
    clear hr1 hu1
    obtain ⟨j, hk, hj, rfl, X⟩ := hrel
    by_cases hlt : j < ps.length
    · have hle : (j : Int) < (ps.length : Int) := by omega
      have HL : Hid (j < ps.length ∧ gk = ps.length - j) := ⟨hlt, hk⟩
      obtain ⟨ho, hr, hu⟩ := X.out
      rw [drop_at ps j hlt, pnums_cons] at hr
      have hd := ok_at hok j hlt
      have HN : Hid (ps.take (j + 1) = ps.take j ++ [ps.getD j Pt.zero]) := take_next ps j hlt
      have hlen : (ps.take j).length ≤ 16 := by rw [List.length_take]; omega
      generalize ps.getD j Pt.zero = d at hr hd HN
      obtain ⟨q0, q1, q2⟩ := d
      obtain ⟨hd0, hd1, hd2⟩ := hd
      simp only at hr hd0 hd1 hd2
      generalize ps.take j = qs at ho HN hlen
      obtain ⟨L, hL⟩ : ∃ L, pnums (ps.drop (j + 1)) = L := ⟨_, rfl⟩
      have HP : Hid (pnums (ps.drop (j + 1)) = L) := hL
      rw [hL] at hr
      clear hL
      have hw1 : IntKind.i64.wrap ((j : Int) + 1) = (j : Int) + 1 := by rw [IntKind.wrap_i64]; omega
      have HO : Hid (OwnP (fun i => w.heap.size ≤ i) wr _ qs ∧ Upd b w wr) := ⟨ho, hu⟩
      clear X hk hj hlt ho hu
      go_wp2_with fail
      refine (intR_cons b _ _ er _ hr hd0).mono ?_
      rintro e w2 ⟨rfl, hr2, hu2⟩
      go_wp2_with fail
      refine (intR_cons b _ _ er _ hr2 hd1).mono ?_
      rintro e w3 ⟨rfl, hr3, hu3⟩
      go_wp2_with fail
      refine (intR_cons b _ _ er _ hr3 hd2).mono ?_
      rintro e w4 ⟨rfl, hr4, hu4⟩
      have hu24 : Upd b wr w4 := (hu2.trans hu3).trans hu4
      have ho4 : OwnP (fun i => w.heap.size ≤ i) w4 _ qs := OwnS.upd HO.out.1 hu24 (fun i _ hi => by have := HB.out.1; omega)
      have HU : Hid (Upd b w w4 ∧ RdrAt w4 b p (leAll L) er) := ⟨HO.out.2.trans hu24, hr4⟩
      have ho5 := OwnS.grow ho4 ((Grow.refl w4).alloc (.cells #[.int .i64 q0, .int .i64 q1, .int .i64 q2] 57))
      clear hr hr2 hr3 hr4 hu2 hu3 hu4 hu24 HO ho4
      go_wp2_with (at_builtin; refine wpList_appS (f := Pt.cs) (k := 3) rfl (.tmp 12) (.tmp 20) 22 22 rfl Pt.cs_length (by omega) i0 (.agg #[.int .i64 0, .int .i64 0, .int .i64 0]) 24 Try.underlying22 hinf hz0 hz1 hz2 rfl rfl rfl ho5 (part_src w4 q0 q1 q2) (by simp only [maxLen, List.length_cons, List.length_nil]; omega) (by simp only [List.length_cons, List.length_nil]; omega) ?_)
      intro v6 w6 ho6 hu6
      have HF : Hid (OwnP (fun i => w.heap.size ≤ i) w6 v6 (qs ++ [⟨q0, q1, q2⟩]) ∧ RdrAt w6 b p (leAll L) er ∧ Upd b w w6) := by
        have hs4 := HU.out.1.size
        refine ⟨OwnS.mono ho6 (fun i _ hi => by omega), ((HU.out.2.grow ((Grow.refl w4).alloc _)).upd hu6 (by have := HB.out.1; omega) (fun i hi => by have := HB.out.2 i hi; omega)), ?_⟩
        have u1 : UpdS (fun k => k = b ∨ w.heap.size ≤ k) w w4 := HU.out.1.mono (fun k hk => .inl hk)
        have u2 := u1.trans (Grow.s ((Grow.refl w4).alloc (.cells #[.int .i64 q0, .int .i64 q1, .int .i64 q2] 57)))
        exact upd_new (u2.trans (hu6.mono (fun k hk => .inr hk))) (fun k hk => hk)
      clear ho6 hu6 HU ho5
      go_wp2
      go_roundg (ps.length - (j + 1))
      case measure => have := HL.out; omega
      case rel =>
        refine ⟨j + 1, rfl, HL.out.1, by go_num, ?_⟩
        rw [HN.out, HP.out]; exact HF
    · have hle : ¬ (j : Int) < (ps.length : Int) := by omega
      obtain rfl : j = ps.length := by omega
      have HX := X.out
      rw [List.take_length, List.drop_length] at HX
      obtain ⟨ho, hr, hu⟩ := HX
      clear X
      go_wp2
      go_ret
      exact ⟨_, rfl, ho, hr, hu⟩
set_option maxHeartbeats 4000000 in
theorem fields_any (b : Nat) (ep fr dp se : Int) (ps : List Pt) (er : Int) (w : World) (h : RdrAt w b p (leAll (ep :: fr :: dp :: se :: (ps.length : Int) :: pnums ps)) er) (hep : W64 ep) (hfr : W64 fr) (hdp : W64 dp) (hse : W64 se) (hok : ∀ x ∈ ps, x.Ok) (hl : ps.length ≤ 16) :
    Calls Try.prog 33 #[.pointer (some ⟨b, 0, none⟩)] w fun e w' => ∃ v', e = .returned (.agg #[.int .i64 ep, .int .i64 fr, .int .i64 dp, .int .i64 se, v']) ∧ OwnP (fun i => w.heap.size ≤ i) w' v' ps ∧ RdrAt w' b p [] er ∧ Upd b w w' := by
  have HB : Hid (b < w.heap.size ∧ ∀ k, p k → k < w.heap.size) := ⟨h.lt, by obtain ⟨a, c, -, -, -, -, -, hp⟩ := h; exact fun k hk => (hp k hk).2⟩
  obtain ⟨b3, hb3⟩ : ∃ b3, b3 = w.heap.size + 1 := ⟨_, rfl⟩
  obtain ⟨b2, hb2⟩ : ∃ b2, b2 = w.heap.size := ⟨_, rfl⟩
  have X0 : Hid (VarAt ((w.alloc (.cells #[.int .i64 (0 : Int), .int .i64 (0 : Int), .int .i64 (0 : Int), .int .i64 (0 : Int), .slice none 0 0] 36)).alloc (.cells #[.int .i64 (0 : Int), .int .i64 (0 : Int), .int .i64 (0 : Int), .int .i64 (0 : Int), .slice none 0 0] 36)) b2 [.int .i64 (0 : Int), .int .i64 (0 : Int), .int .i64 (0 : Int), .int .i64 (0 : Int), .slice none 0 0] ∧ VarAt ((w.alloc (.cells #[.int .i64 (0 : Int), .int .i64 (0 : Int), .int .i64 (0 : Int), .int .i64 (0 : Int), .slice none 0 0] 36)).alloc (.cells #[.int .i64 (0 : Int), .int .i64 (0 : Int), .int .i64 (0 : Int), .int .i64 (0 : Int), .slice none 0 0] 36)) b3 [.int .i64 (0 : Int), .int .i64 (0 : Int), .int .i64 (0 : Int), .int .i64 (0 : Int), .slice none 0 0] ∧ RdrAt ((w.alloc (.cells #[.int .i64 (0 : Int), .int .i64 (0 : Int), .int .i64 (0 : Int), .int .i64 (0 : Int), .slice none 0 0] 36)).alloc (.cells #[.int .i64 (0 : Int), .int .i64 (0 : Int), .int .i64 (0 : Int), .int .i64 (0 : Int), .slice none 0 0] 36)) b p (leAll (ep :: fr :: dp :: se :: (ps.length : Int) :: pnums ps)) er ∧ Upd b w ((w.alloc (.cells #[.int .i64 (0 : Int), .int .i64 (0 : Int), .int .i64 (0 : Int), .int .i64 (0 : Int), .slice none 0 0] 36)).alloc (.cells #[.int .i64 (0 : Int), .int .i64 (0 : Int), .int .i64 (0 : Int), .int .i64 (0 : Int), .slice none 0 0] 36))) := by
    subst hb3 hb2
    exact ⟨(VarAt.new w [.int .i64 (0 : Int), .int .i64 (0 : Int), .int .i64 (0 : Int), .int .i64 (0 : Int), .slice none 0 0] _).old _, VarAt.new2 w _ [.int .i64 (0 : Int), .int .i64 (0 : Int), .int .i64 (0 : Int), .int .i64 (0 : Int), .slice none 0 0] _, h.grow (((Grow.refl w).alloc _).alloc _), Grow.upd (((Grow.refl w).alloc _).alloc _)⟩
  have HE : Hid (b2 = w.heap.size ∧ b3 = w.heap.size + 1) := ⟨hb2, hb3⟩
  have hne : ¬ b2 = b3 := by omega
  have hne' : ¬ b3 = b2 := by omega
  go_enter Try.func33, Try.ntmps33
  go_wp2_with fail
  rw [← hb3, ← hb2]
  clear hb2 hb3 h
  generalize ((w.alloc (.cells #[.int .i64 (0 : Int), .int .i64 (0 : Int), .int .i64 (0 : Int), .int .i64 (0 : Int), .slice none 0 0] 36)).alloc (.cells #[.int .i64 (0 : Int), .int .i64 (0 : Int), .int .i64 (0 : Int), .int .i64 (0 : Int), .slice none 0 0] 36)) = u0 at X0 ⊢
  refine (intR_cons b _ _ er _ X0.out.2.2.1 hep).mono ?_
  rintro e w1 ⟨rfl, hr, hu⟩
  have Y : Hid (VarAt w1 b2 [.int .i64 (0 : Int), .int .i64 (0 : Int), .int .i64 (0 : Int), .int .i64 (0 : Int), .slice none 0 0] ∧ VarAt w1 b3 [.int .i64 (0 : Int), .int .i64 (0 : Int), .int .i64 (0 : Int), .int .i64 (0 : Int), .slice none 0 0] ∧ RdrAt w1 b p (leAll (fr :: dp :: se :: (ps.length : Int) :: pnums ps)) er ∧ Upd b w w1) := ⟨X0.out.1.upd hu (by have := HE.out; have := HB.out.1; omega), X0.out.2.1.upd hu (by have := HE.out; have := HB.out.1; omega), hr, X0.out.2.2.2.trans hu⟩
  have X1 : Hid (VarAt (w1.setCell ⟨b3, 0, none⟩ (.int .i64 ep)) b2 [.int .i64 (0 : Int), .int .i64 (0 : Int), .int .i64 (0 : Int), .int .i64 (0 : Int), .slice none 0 0] ∧ VarAt (w1.setCell ⟨b3, 0, none⟩ (.int .i64 ep)) b3 [.int .i64 ep, .int .i64 (0 : Int), .int .i64 (0 : Int), .int .i64 (0 : Int), .slice none 0 0] ∧ RdrAt (w1.setCell ⟨b3, 0, none⟩ (.int .i64 ep)) b p (leAll (fr :: dp :: se :: (ps.length : Int) :: pnums ps)) er ∧ Upd b w (w1.setCell ⟨b3, 0, none⟩ (.int .i64 ep))) := ⟨Y.out.1.upd (upd_one _ b3 0 _) hne, Y.out.2.1.set 0 (.int .i64 ep), Y.out.2.2.1.upd (upd_one _ b3 0 _) (by have := HE.out; have := HB.out.1; omega) (fun i hi => by have := HE.out; have := HB.out.2 i hi; omega), upd_new ((Y.out.2.2.2.mono (S' := fun i => i = b ∨ i = b3) (fun i hi => .inl hi)).trans ((upd_one _ b3 0 _).mono (fun i hi => .inr hi))) (fun i hi => by have := HE.out; omega)⟩
  obtain ⟨⟨m0, m1, m2, m3, m4⟩, f0, f1, f2, f3, f4⟩ := Y.out.2.1.five
  clear hr hu X0 Y
  go_wp2_with fail
  clear m0 m1 m2 m3 m4 f0 f1 f2 f3 f4
  generalize w1.setCell ⟨b3, 0, none⟩ (.int .i64 ep) = u1 at X1 ⊢
  refine (intR_cons b _ _ er _ X1.out.2.2.1 hfr).mono ?_
  rintro e w2 ⟨rfl, hr, hu⟩
  have Y : Hid (VarAt w2 b2 [.int .i64 (0 : Int), .int .i64 (0 : Int), .int .i64 (0 : Int), .int .i64 (0 : Int), .slice none 0 0] ∧ VarAt w2 b3 [.int .i64 ep, .int .i64 (0 : Int), .int .i64 (0 : Int), .int .i64 (0 : Int), .slice none 0 0] ∧ RdrAt w2 b p (leAll (dp :: se :: (ps.length : Int) :: pnums ps)) er ∧ Upd b w w2) := ⟨X1.out.1.upd hu (by have := HE.out; have := HB.out.1; omega), X1.out.2.1.upd hu (by have := HE.out; have := HB.out.1; omega), hr, X1.out.2.2.2.trans hu⟩
  have X2 : Hid (VarAt (w2.setCell ⟨b3, 1, none⟩ (.int .i64 fr)) b2 [.int .i64 (0 : Int), .int .i64 (0 : Int), .int .i64 (0 : Int), .int .i64 (0 : Int), .slice none 0 0] ∧ VarAt (w2.setCell ⟨b3, 1, none⟩ (.int .i64 fr)) b3 [.int .i64 ep, .int .i64 fr, .int .i64 (0 : Int), .int .i64 (0 : Int), .slice none 0 0] ∧ RdrAt (w2.setCell ⟨b3, 1, none⟩ (.int .i64 fr)) b p (leAll (dp :: se :: (ps.length : Int) :: pnums ps)) er ∧ Upd b w (w2.setCell ⟨b3, 1, none⟩ (.int .i64 fr))) := ⟨Y.out.1.upd (upd_one _ b3 1 _) hne, Y.out.2.1.set 1 (.int .i64 fr), Y.out.2.2.1.upd (upd_one _ b3 1 _) (by have := HE.out; have := HB.out.1; omega) (fun i hi => by have := HE.out; have := HB.out.2 i hi; omega), upd_new ((Y.out.2.2.2.mono (S' := fun i => i = b ∨ i = b3) (fun i hi => .inl hi)).trans ((upd_one _ b3 1 _).mono (fun i hi => .inr hi))) (fun i hi => by have := HE.out; omega)⟩
  obtain ⟨⟨m0, m1, m2, m3, m4⟩, f0, f1, f2, f3, f4⟩ := Y.out.2.1.five
  clear hr hu X1 Y
  go_wp2_with fail
  clear m0 m1 m2 m3 m4 f0 f1 f2 f3 f4
  generalize w2.setCell ⟨b3, 1, none⟩ (.int .i64 fr) = u2 at X2 ⊢
  refine (intR_cons b _ _ er _ X2.out.2.2.1 hdp).mono ?_
  rintro e w3 ⟨rfl, hr, hu⟩
  have Y : Hid (VarAt w3 b2 [.int .i64 (0 : Int), .int .i64 (0 : Int), .int .i64 (0 : Int), .int .i64 (0 : Int), .slice none 0 0] ∧ VarAt w3 b3 [.int .i64 ep, .int .i64 fr, .int .i64 (0 : Int), .int .i64 (0 : Int), .slice none 0 0] ∧ RdrAt w3 b p (leAll (se :: (ps.length : Int) :: pnums ps)) er ∧ Upd b w w3) := ⟨X2.out.1.upd hu (by have := HE.out; have := HB.out.1; omega), X2.out.2.1.upd hu (by have := HE.out; have := HB.out.1; omega), hr, X2.out.2.2.2.trans hu⟩
  have X3 : Hid (VarAt (w3.setCell ⟨b3, 2, none⟩ (.int .i64 dp)) b2 [.int .i64 (0 : Int), .int .i64 (0 : Int), .int .i64 (0 : Int), .int .i64 (0 : Int), .slice none 0 0] ∧ VarAt (w3.setCell ⟨b3, 2, none⟩ (.int .i64 dp)) b3 [.int .i64 ep, .int .i64 fr, .int .i64 dp, .int .i64 (0 : Int), .slice none 0 0] ∧ RdrAt (w3.setCell ⟨b3, 2, none⟩ (.int .i64 dp)) b p (leAll (se :: (ps.length : Int) :: pnums ps)) er ∧ Upd b w (w3.setCell ⟨b3, 2, none⟩ (.int .i64 dp))) := ⟨Y.out.1.upd (upd_one _ b3 2 _) hne, Y.out.2.1.set 2 (.int .i64 dp), Y.out.2.2.1.upd (upd_one _ b3 2 _) (by have := HE.out; have := HB.out.1; omega) (fun i hi => by have := HE.out; have := HB.out.2 i hi; omega), upd_new ((Y.out.2.2.2.mono (S' := fun i => i = b ∨ i = b3) (fun i hi => .inl hi)).trans ((upd_one _ b3 2 _).mono (fun i hi => .inr hi))) (fun i hi => by have := HE.out; omega)⟩
  obtain ⟨⟨m0, m1, m2, m3, m4⟩, f0, f1, f2, f3, f4⟩ := Y.out.2.1.five
  clear hr hu X2 Y
  go_wp2_with fail
  clear m0 m1 m2 m3 m4 f0 f1 f2 f3 f4
  generalize w3.setCell ⟨b3, 2, none⟩ (.int .i64 dp) = u3 at X3 ⊢
  refine (intR_cons b _ _ er _ X3.out.2.2.1 hse).mono ?_
  rintro e w4 ⟨rfl, hr, hu⟩
  have Y : Hid (VarAt w4 b2 [.int .i64 (0 : Int), .int .i64 (0 : Int), .int .i64 (0 : Int), .int .i64 (0 : Int), .slice none 0 0] ∧ VarAt w4 b3 [.int .i64 ep, .int .i64 fr, .int .i64 dp, .int .i64 (0 : Int), .slice none 0 0] ∧ RdrAt w4 b p (leAll ((ps.length : Int) :: pnums ps)) er ∧ Upd b w w4) := ⟨X3.out.1.upd hu (by have := HE.out; have := HB.out.1; omega), X3.out.2.1.upd hu (by have := HE.out; have := HB.out.1; omega), hr, X3.out.2.2.2.trans hu⟩
  have X4 : Hid (VarAt (w4.setCell ⟨b3, 3, none⟩ (.int .i64 se)) b2 [.int .i64 (0 : Int), .int .i64 (0 : Int), .int .i64 (0 : Int), .int .i64 (0 : Int), .slice none 0 0] ∧ VarAt (w4.setCell ⟨b3, 3, none⟩ (.int .i64 se)) b3 [.int .i64 ep, .int .i64 fr, .int .i64 dp, .int .i64 se, .slice none 0 0] ∧ RdrAt (w4.setCell ⟨b3, 3, none⟩ (.int .i64 se)) b p (leAll ((ps.length : Int) :: pnums ps)) er ∧ Upd b w (w4.setCell ⟨b3, 3, none⟩ (.int .i64 se))) := ⟨Y.out.1.upd (upd_one _ b3 3 _) hne, Y.out.2.1.set 3 (.int .i64 se), Y.out.2.2.1.upd (upd_one _ b3 3 _) (by have := HE.out; have := HB.out.1; omega) (fun i hi => by have := HE.out; have := HB.out.2 i hi; omega), upd_new ((Y.out.2.2.2.mono (S' := fun i => i = b ∨ i = b3) (fun i hi => .inl hi)).trans ((upd_one _ b3 3 _).mono (fun i hi => .inr hi))) (fun i hi => by have := HE.out; omega)⟩
  obtain ⟨⟨m0, m1, m2, m3, m4⟩, f0, f1, f2, f3, f4⟩ := Y.out.2.1.five
  clear hr hu X3 Y
  go_wp2_with fail
  clear m0 m1 m2 m3 m4 f0 f1 f2 f3 f4
  generalize w4.setCell ⟨b3, 3, none⟩ (.int .i64 se) = u4 at X4 ⊢
  refine (parts_any b ps er _ X4.out.2.2.1 hok hl).mono ?_
  rintro e w5 ⟨v5, rfl, ho5, hr5, hu5⟩
  have hsz := X4.out.2.2.2.size
  have hO : OwnP (fun i => w.heap.size ≤ i ∧ i ≠ b2 ∧ i ≠ b3) w5 v5 ps := OwnS.mono ho5 (fun i _ hi => by have h2 := X4.out.1.lt; have h3 := X4.out.2.1.lt; omega)
  obtain ⟨a5, c5, rfl⟩ := ho5.shape
  have Y : Hid (VarAt w5 b2 [.int .i64 (0 : Int), .int .i64 (0 : Int), .int .i64 (0 : Int), .int .i64 (0 : Int), .slice none 0 0] ∧ VarAt w5 b3 [.int .i64 ep, .int .i64 fr, .int .i64 dp, .int .i64 se, .slice none 0 0] ∧ RdrAt w5 b p ([]) er ∧ Upd b w w5) := ⟨X4.out.1.upd hu5 (by have := HE.out; have := HB.out.1; omega), X4.out.2.1.upd hu5 (by have := HE.out; have := HB.out.1; omega), hr5, X4.out.2.2.2.trans hu5⟩
  have HO : Hid (OwnP (fun i => w.heap.size ≤ i ∧ i ≠ b2 ∧ i ≠ b3) w5 (.slice a5 ps.length c5) ps) := hO
  obtain ⟨⟨m0, m1, m2, m3, m4⟩, f0, f1, f2, f3, f4⟩ := Y.out.2.1.five
  obtain ⟨⟨n0, n1, n2, n3, n4⟩, g0, g1, g2, g3, g4⟩ := Y.out.1.five
  clear ho5 hO hr5 hu5 X4 hsz
  go_wp2
  have hU := (upd_one w5 b3 4 (.slice a5 ps.length c5)).mono (S' := fun i => i = b3 ∨ i = b2) (fun i hi => .inl hi)
  have hU2 := hU.trans ((upd_five (w5.setCell ⟨b3, 4, none⟩ (.slice a5 ps.length c5)) b2 (.int .i64 ep) (.int .i64 fr) (.int .i64 dp) (.int .i64 se) (.slice a5 ps.length c5)).mono (S' := fun i => i = b3 ∨ i = b2) (fun i hi => .inr hi))
  refine bodyPost_ret_by (results_cell rfl _ _ _ (.agg #[.int .i64 ep, .int .i64 fr, .int .i64 dp, .int .i64 se, .slice a5 ps.length c5]) rfl (load_Sup b2 ep fr dp se _ _ ((Y.out.1.upd (upd_one w5 b3 4 _) hne).set5 _ _ _ _ _) rfl)) rfl ⟨_, rfl, ?_, ?_, ?_⟩
  · exact OwnS.mono (OwnS.upd HO.out hU2 (fun i _ hi => by omega)) (fun i _ hi => hi.1)
  · exact Y.out.2.2.1.upd hU2 (by have := HE.out; have := HB.out.1; omega) (fun i hi => by have := HE.out; have := HB.out.2 i hi; omega)
  · exact upd_new ((Y.out.2.2.2.mono (S' := fun i => i = b ∨ i = b3 ∨ i = b2) (fun i hi => .inl hi)).trans (hU2.mono (fun i hi => .inr hi))) (fun i hi => by have := HE.out; omega)
end
end Go.Proofs.Ytlcphhlimcnnaaa
