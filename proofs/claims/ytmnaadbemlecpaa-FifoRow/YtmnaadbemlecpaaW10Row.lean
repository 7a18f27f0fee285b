/-
  The walk of FifoRow. Conditions: the theorem's own.
-/
import Derived.Test.YtmnaadbemlecpaaFifDoc
namespace Go.Proofs.Ytmnaadbemlecpaa
open Go.RowKit
set_option linter.unusedVariables false
set_option linter.unusedSimpArgs false

/-- the queue's rows, what went in, what came out: apart from each other and from what was there -/
def Sep (B n b : Nat) (p s t : Nat → Prop) : Prop := (∀ i, p i ∨ s i ∨ t i → B ≤ i ∧ i < n) ∧ (∀ i, p i → ¬ s i) ∧ (∀ i, p i → ¬ t i) ∧ (∀ i, s i → ¬ t i) ∧ ¬ p b ∧ ¬ s b ∧ ¬ t b ∧ B ≤ b ∧ b < n

theorem Sep.rot {B n b : Nat} {p s t : Nat → Prop} (h : Sep B n b p s t) : Sep B n b s t p := by
  obtain ⟨h1, h2, h3, h4, h5, h6, h7, h8, h9⟩ := h
  exact ⟨fun i hi => h1 i (hi.elim (fun x => .inr (.inl x)) (fun y => y.elim (fun x => .inr (.inr x)) .inl)), h4, fun i hs hp => h2 i hp hs, fun i ht hp => h3 i hp ht, h6, h7, h5, h8, h9⟩
theorem Sep.to {B n n' b : Nat} {p p' s t : Nat → Prop} (h : Sep B n b p s t) (hn : n ≤ n') (hp : ∀ i, p' i → (p i ∨ n ≤ i) ∧ i < n') : Sep B n' b p' s t := by
  obtain ⟨h1, h2, h3, h4, h5, h6, h7, h8, h9⟩ := h
  have old : ∀ i, s i ∨ t i → i < n := fun i hi => (h1 i (.inr hi)).2
  refine ⟨fun i hi => ?_, fun i hi hs => ?_, fun i hi ht => ?_, h4, fun hb => ?_, h6, h7, h8, by omega⟩
  · rcases hi with hi | hi
    · obtain ⟨h, hl⟩ := hp i hi
      refine ⟨h.elim (fun x => (h1 i (.inl x)).1) (fun x => by omega), hl⟩
    · have := h1 i (.inr hi)
      omega
  · have := old i (.inl hs)
    exact (hp i hi).1.elim (fun x => h2 i x hs) (fun x => by omega)
  · have := old i (.inr ht)
    exact (hp i hi).1.elim (fun x => h3 i x ht) (fun x => by omega)
  · exact (hp b hb).1.elim h5 (fun x => by omega)

/-- what holds at each step: what went in is what came out and what waits -/
def RowI (w : World) (b n : Nat) (vi vo : Value) (u : World) (ins outs zs : List Int) : Prop :=
  ∃ p s t, QAt (Value.int .i64) 0 p u b n zs ∧ OwnV (Value.int .i64) 0 s u vi ins ∧ OwnV (Value.int .i64) 0 t u vo outs ∧ Sep w.heap.size u.heap.size b p s t ∧ Grow w u

section
variable {w u u' : World} {b n : Nat} {vi vo v' : Value} {ins outs zs zs' : List Int} {p p' s t : Nat → Prop}
/-- the queue turned -/
theorem RowI.q (hi : OwnV (Value.int .i64) 0 s u vi ins) (ho : OwnV (Value.int .i64) 0 t u vo outs) (hs : Sep w.heap.size u.heap.size b p s t) (hg : Grow w u)
    (hq : QAt (Value.int .i64) 0 p' u' b n zs') (hp : ∀ i, p' i → p i ∨ u.heap.size ≤ i) (hu : UpdS (fun i => p i ∨ i = b) u u') : RowI w b n vi vo u' ins outs zs' := by
  have hl : ∀ i, p' i → i < u'.heap.size := by obtain ⟨_, _, _, _, _, _, _, h⟩ := hq; exact h
  have hs' := hs.to hu.size (fun i hi => ⟨hp i hi, hl i hi⟩)
  obtain ⟨h1, h2, h3, h4, h5, h6, h7, h8, h9⟩ := hs
  refine ⟨p', s, t, hq, hi.upd hu (fun i _ x e => e.elim (fun y => h2 i y x) (fun y => h6 (by rw [← y]; exact x))), ho.upd hu (fun i _ x e => e.elim (fun y => h3 i y x) (fun y => h7 (by rw [← y]; exact x))), hs', UpdS.new hg hu (fun i hi => hi.elim (fun y => (h1 i (.inl y)).1) (fun y => by omega))⟩
/-- something more went in -/
theorem RowI.i (hq : QAt (Value.int .i64) 0 p u b n zs) (ho : OwnV (Value.int .i64) 0 t u vo outs) (hs : Sep w.heap.size u.heap.size b p s t) (hg : Grow w u) (hgu : Grow u u') {u2 : World} {k : Nat} (hk : u.heap.size ≤ k)
    (hi : OwnV (Value.int .i64) 0 (fun i => s i ∨ i = k) u2 v' ins) (hu : UpdS s u' u2) : RowI w b n v' vo u2 ins outs zs := by
  have hi2 := hi.mono (q := fun i => (s i ∨ u.heap.size ≤ i) ∧ i < u2.heap.size) (fun i hl h => ⟨h.imp id (fun e => by omega), hl⟩)
  have hs' := ((hs.rot).to (p' := fun i => (s i ∨ u.heap.size ≤ i) ∧ i < u2.heap.size) (n' := u2.heap.size) (Nat.le_trans hgu.size hu.size) (fun i h => h)).rot.rot
  obtain ⟨h1, h2, h3, h4, h5, h6, h7, h8, h9⟩ := hs
  exact ⟨p, _, t, (hq.grow hgu).upd hu h6 (fun i _ x => h2 i x), hi2, (ho.grow hgu).upd hu (fun i _ x y => h4 i y x), hs', UpdS.new (hg.trans hgu) hu (fun i hi => (h1 i (.inr (.inl hi))).1)⟩
/-- something more came out -/
theorem RowI.o (hq : QAt (Value.int .i64) 0 p u b n zs) (hi : OwnV (Value.int .i64) 0 s u vi ins) (hs : Sep w.heap.size u.heap.size b p s t) (hg : Grow w u) (hgu : Grow u u') {u2 : World} {k : Nat} (hk : u.heap.size ≤ k)
    (ho : OwnV (Value.int .i64) 0 (fun i => t i ∨ i = k) u2 v' outs) (hu : UpdS t u' u2) : RowI w b n vi v' u2 ins outs zs := by
  have ho2 := ho.mono (q := fun i => (t i ∨ u.heap.size ≤ i) ∧ i < u2.heap.size) (fun i hl h => ⟨h.imp id (fun e => by omega), hl⟩)
  have hs' := ((hs.rot.rot).to (p' := fun i => (t i ∨ u.heap.size ≤ i) ∧ i < u2.heap.size) (n' := u2.heap.size) (Nat.le_trans hgu.size hu.size) (fun i h => h)).rot
  obtain ⟨h1, h2, h3, h4, h5, h6, h7, h8, h9⟩ := hs
  exact ⟨p, s, _, (hq.grow hgu).upd hu h7 (fun i _ x => h3 i x), (hi.grow hgu).upd hu (fun i _ x => h4 i x), ho2, hs', UpdS.new (hg.trans hgu) hu (fun i hi => (h1 i (.inr (.inr hi))).1)⟩
end

theorem RowI.grow {w u : World} {b n : Nat} {vi vo : Value} {ins outs zs : List Int} (h : RowI w b n vi vo u ins outs zs) : Grow w u := by
  obtain ⟨_, _, _, _, _, _, _, h⟩ := h
  exact h

set_option maxRecDepth 16000 in
set_option maxHeartbeats 8000000 in
theorem fifoRow_walk (x : Int) (v1 : Value) (ls : List Int) (v2 : Value) (ts : List Int) (w : World) (p1 p2 : Nat → Prop) (hx : (Lit.int .i64 x).wf = true) (hl : RdV (Value.int .i64) 0 p1 w v1 ls) (ht : RdV (Value.int .i64) 0 p2 w v2 ts) (hts : ∀ y ∈ ts, (Lit.int .i64 y).wf = true) :
    Calls Try.prog 5 #[.int .i64 x, v1, v2] w fun e w' => e = .returned (.bool true) ∧ Grow w w' := by
  obtain ⟨i0, hi, hz0, hz1, hz2⟩ := info_parts Try.infoIq
  have har := around_any x 6 w hx (by omega) (by omega)
  have hab := around_bd x 6 (by omega)
  generalize around x 6 = r at har hab
  obtain ⟨n0, rfl⟩ := Int.eq_ofNat_of_zero_le hab.1
  obtain ⟨n, hn⟩ : ∃ n, n = n0 + 1 := ⟨_, rfl⟩
  have hw1 : IntKind.i64.wrap (1 + (n0 : Int)) = (n : Int) := by rw [IntKind.wrap_i64]; omega
  have hn1 : 1 ≤ n := by omega
  have hn2 : n ≤ 6 := by omega
  obtain ⟨a1, c1, rfl⟩ := hl.shape
  obtain ⟨a2, c2, rfl⟩ := ht.shape
  have lm1 := hl.len
  have lm2 := ht.len
  unfold maxLen at lm1 lm2
  have HL : Hid (RdV (Value.int .i64) 0 p1 w (.slice a1 ls.length c1) ls) := hl
  have HT : Hid (RdV (Value.int .i64) 0 p2 w (.slice a2 ts.length c2) ts) := ht
  clear hn hab hl ht
  go_enter Try.func5, Try.ntmps5
  go_wp2_with fail
  refine har.mono ?_
  rintro e w1 ⟨rfl, rfl⟩
  clear har
  go_wp2_with fail
  refine (inew_yes n w hn1 (by omega)).mono ?_
  rintro e w1 ⟨b, rfl, q1, g1, hb1⟩
  have H1 : Hid (RowI w b n (.slice none 0 0) (.slice none 0 0) w1 [] [] []) := by
    have hb := q1.lt
    exact ⟨_, fun _ => False, fun _ => False, q1, OwnV.nil _ _ _ _ _, OwnV.nil _ _ _ _ _, ⟨fun i hi => by simp at hi, fun _ h => False.elim h, fun _ h => False.elim h, fun _ h => False.elim h, fun h => h, fun h => h, fun h => h, hb1, hb⟩, g1⟩
  clear q1 g1 hb1
  go_wp2
  go_loopg [10, 11, 12] 16 (fun k vi vo i wr => ∃ (j : Nat) (ins outs zs : List Int), k = 16 - j ∧ j ≤ 16 ∧ j ≤ ls.length ∧ i = .int .i64 j ∧ Hid (RowI w b n vi vo wr ins outs zs) ∧ Hid (ins = outs ++ zs) ∧ Hid (ins.length ≤ j))
  case atStart => exact ⟨0, [], [], [], rfl, Nat.zero_le _, Nat.zero_le _, rfl, H1, rfl, Nat.le_refl 0⟩
  case round =>
    clear H1
    obtain ⟨j, ins, outs, zs, hk, hj, hjl, rfl, HA, HB, HLEN⟩ := hrel
    have HI : Hid (RowI w b n u10 u11 wr ins outs zs ∧ ins = outs ++ zs) := ⟨HA.out, HB.out⟩
    by_cases hlt : j < ls.length
    · have hlt' : (j : Int) < (ls.length : Int) := by omega
      by_cases h16 : j < 16
      · have h16' : (j : Int) < 16 := by omega
        have HJ : Hid (j < ls.length ∧ j < 16 ∧ gk = 16 - j) := ⟨hlt, h16, hk⟩
        obtain ⟨p, s, t, q, oi, oo, sp, gw⟩ := HA.out
        obtain ⟨g, o, e1, -, hc1⟩ := (HL.out.grow gw).addr (by omega)
        have f1 := hc1 j hlt
        have hpu := iput_any wr p b n zs q (ls.getD j 0)
        have HX : Hid (∀ u, Grow w u → u.cell? ⟨g, o + j, none⟩ = some (.int .i64 (ls.getD j 0))) := fun u hu => by
          obtain ⟨g', o', e', -, hc'⟩ := (HL.out.grow hu).addr (by omega)
          rw [e1] at e'
          injection e' with e'
          injection e' with eb eo
          subst eb eo
          exact hc' j hlt
        generalize ls.getD j 0 = y at f1 hpu HX
        have HS : Hid (OwnV (Value.int .i64) 0 s wr u10 ins ∧ OwnV (Value.int .i64) 0 t wr u11 outs ∧ Sep w.heap.size wr.heap.size b p s t ∧ Grow w wr) := ⟨oi, oo, sp, gw⟩
        have hil : ins.length ≤ 16 := by have := HLEN.out; omega
        obtain ⟨ai, ci, hvi⟩ := oi.shape
        obtain ⟨ao, co, hvo⟩ := oo.shape
        generalize hli : ins.length = li at hvi
        generalize outs.length = lo at hvo
        have HLI : Hid (ins.length = li) := hli
        clear hli
        subst hvi hvo e1
        clear hc1 q oi oo sp gw HA HB hlt hk hj hjl
        by_cases hfull : zs.length = n
        · have E : putE n zs.length = 8 ∧ putL n zs y = zs := ⟨if_pos hfull, if_pos hfull⟩
          rw [E.1, E.2] at hpu
          clear E hfull
          go_wp2_with fail
          refine hpu.mono ?_
          rintro e w3 ⟨rfl, p3, q3, hp3, hu3⟩
          obtain ⟨ZS, hZS⟩ : ∃ ZS, ZS = zs := ⟨_, rfl⟩
          have HI3 : Hid (RowI w b n (.slice ai li ci) (.slice ao lo co) w3 ins outs ZS ∧ ins = outs ++ ZS) := ⟨by rw [hZS]; exact RowI.q HS.out.1 HS.out.2.1 HS.out.2.2.1 HS.out.2.2.2 q3 hp3 hu3, by rw [hZS]; exact HI.out.2⟩
          have HLEN2 : Hid (ins.length ≤ j + 1) := by have := HLEN.out; show _ ≤ _; omega
          clear q3 hp3 hu3 HS HI hZS HLEN HX f1 hpu
          have HI : Hid (RowI w b n (.slice ai li ci) (.slice ao lo co) w3 ins outs ZS ∧ ins = outs ++ ZS) := HI3.out
          have HLEN : Hid (ins.length ≤ j + 1) := HLEN2.out
          clear HI3 HLEN2
          obtain ⟨W6, rfl⟩ : ∃ W6, W6 = w3 := ⟨_, rfl⟩
          by_cases hjt : j < ts.length
          · have hjt' : (j : Int) < (ts.length : Int) := by omega
            obtain ⟨gt, ot, et, -, hct⟩ := (HT.out.grow HI.out.1.grow).addr (by omega)
            have f2 := hct j hjt
            have hwt : (Lit.int .i64 (ts.getD j 0)).wf = true := hts _ (by simp only [List.getD, List.getElem?_eq_getElem hjt, Option.getD_some]; exact List.getElem_mem hjt)
            have har2 := around_any (ts.getD j 0) 3 W6 hwt (by omega) (by omega)
            have hab2 := around_bd (ts.getD j 0) 3 (by omega)
            generalize ts.getD j 0 = tj at f2 har2 hab2
            generalize around tj 3 = r2 at har2 hab2
            obtain ⟨K, rfl⟩ := Int.eq_ofNat_of_zero_le hab2.1
            have hK2 : K ≤ 2 := by omega
            clear hct hwt hab2
            subst et
            go_wp2_with fail
            refine har2.mono ?_
            rintro e w4 ⟨rfl, rfl⟩
            clear har2 f2
            go_wp2
            go_loopg [11, 13] K (fun k o kv u => ∃ (c : Nat) (outs zs : List Int), k = c ∧ c ≤ 2 ∧ kv = .int .i64 c ∧ Hid (RowI w b n (.slice ai li ci) o u (ins) outs zs ∧ ins = outs ++ zs))
            case atStart => exact ⟨K, outs, ZS, rfl, hK2, rfl, HI⟩
            case round =>
              obtain ⟨c, outs2, zs2, hk2, hc2, rfl, HI2⟩ := hrel
              obtain ⟨W7, rfl⟩ : ∃ W7, W7 = wr := ⟨_, rfl⟩
              obtain ⟨⟨p, s, t, q, oi, oo, sp, gw⟩, hsum⟩ := HI2.out
              have hol : outs2.length ≤ 17 := by have h1 := congrArg List.length hsum; have h2 := HLEN.out; rw [List.length_append] at h1; omega
              have HSP : Hid (Sep w.heap.size W7.heap.size b p s t ∧ Grow w W7 ∧ OwnV (Value.int .i64) 0 s W7 (.slice ai li ci) (ins) ∧ OwnV (Value.int .i64) 0 t W7 u11 outs2 ∧ ins = outs2 ++ zs2) := ⟨sp, gw, oi, oo, hsum⟩
              by_cases hc0 : 0 < c
              · have hc0' : 0 < (c : Int) := by omega
                have hw3 : IntKind.i64.wrap ((c : Int) - 1) = ((c - 1 : Nat) : Int) := by rw [IntKind.wrap_i64]; omega
                have HC : Hid (0 < c ∧ gk = c) := ⟨hc0, hk2⟩
                have htk := itake_any W7 p b n zs2 q
                by_cases hz : 0 < zs2.length
                · have hz' : decide (0 < zs2.length) = true := decide_eq_true hz
                  have HD : Hid (zs2 = [zs2.getD 0 0] ++ zs2.drop 1) := by
                    show zs2 = _
                    cases zs2 with
                    | nil => simp at hz
                    | cons x xs => simp
                  rw [hz'] at htk
                  generalize zs2.getD 0 0 = y at htk HD
                  obtain ⟨ao, co, hvo⟩ := oo.shape
                  generalize outs2.length = lo at hvo hol
                  subst hvo
                  clear q oi oo sp gw hsum hk2 HI2 hc0 hz hz'
                  go_wp2_with fail
                  refine htk.mono ?_
                  rintro e w4 ⟨rfl, q4, hu4⟩
                  have HI4 : Hid (RowI w b n (.slice ai li ci) (.slice ao lo co) w4 (ins) outs2 (zs2.drop 1)) := RowI.q HSP.out.2.2.1 HSP.out.2.2.2.1 HSP.out.1 HSP.out.2.1 q4 (fun i hi => .inl hi) hu4
                  clear q4 hu4 htk
                  obtain ⟨p4, s4, t4, q4, oi4, oo4, sp4, gw4⟩ := HI4.out
                  have HQ4 : Hid (QAt (Value.int .i64) 0 p4 w4 b n (zs2.drop 1) ∧ OwnV (Value.int .i64) 0 s4 w4 (.slice ai li ci) (ins) ∧ Sep w.heap.size w4.heap.size b p4 s4 t4 ∧ Grow w w4) := ⟨q4, oi4, sp4, gw4⟩
                  have ho4 := oo4.grow ((Grow.refl w4).alloc (.cells #[.int .i64 y] 3))
                  have hlo : outs2.length = lo := by
                    obtain ⟨a', c', hv⟩ := oo4.shape
                    injection hv with _ h _
                    exact h.symm
                  have hol2 : outs2.length ≤ 17 := by rw [hlo]; exact hol
                  clear q4 oi4 oo4 sp4 gw4 HI4 hlo
                  go_wp2_with (at_builtin; refine wpList_appV (f := (Value.int .i64)) (d := 0) rfl (.tmp 73) (.tmp 75) 22 22 rfl i0 (.int .i64 0) 8 Try.underlying22 hi hz0 hz1 hz2 rfl rfl rfl ho4 (Src.oneV (w := w4) Try.underlying22 (Value.int .i64) y (oneIq y) 3) (by simp only [maxLen, List.length_singleton]; omega) (by simp only [List.length_singleton]; omega) ?_)
                  intro v5 w5 ho5 hu5
                  have HI5 : Hid (RowI w b n (.slice ai li ci) v5 w5 (ins) (outs2 ++ [y]) (zs2.drop 1) ∧ ins = (outs2 ++ [y]) ++ zs2.drop 1) :=
                    ⟨RowI.o HQ4.out.1 HQ4.out.2.1 HQ4.out.2.2.1 HQ4.out.2.2.2 ((Grow.refl w4).alloc (.cells #[.int .i64 y] 3)) (Nat.le_succ _) ho5 hu5, by rw [HSP.out.2.2.2.2, List.append_assoc, ← HD.out]⟩
                  clear ho4 ho5 hu5 HQ4
                  go_wp2
                  go_roundg (c - 1)
                  case measure => have := HC.out; omega
                  case rel => exact ⟨c - 1, _, _, rfl, by omega, rfl, HI5⟩
                · have hz' : decide (0 < zs2.length) = false := decide_eq_false hz
                  have HD : Hid (zs2 = zs2.drop 1) := by
                    show zs2 = _
                    cases zs2 with
                    | nil => rfl
                    | cons x xs => simp at hz
                  rw [hz'] at htk
                  generalize zs2.getD 0 0 = y at htk
                  obtain ⟨ao, co, hvo⟩ := oo.shape
                  generalize outs2.length = lo at hvo hol
                  subst hvo
                  clear q oi oo sp gw hsum hk2 HI2 hc0 hz hz'
                  go_wp2_with fail
                  refine htk.mono ?_
                  rintro e w4 ⟨rfl, q4, hu4⟩
                  have HI4 : Hid (RowI w b n (.slice ai li ci) (.slice ao lo co) w4 (ins) outs2 (zs2.drop 1) ∧ ins = outs2 ++ zs2.drop 1) := ⟨RowI.q HSP.out.2.2.1 HSP.out.2.2.2.1 HSP.out.1 HSP.out.2.1 q4 (fun i hi => .inl hi) hu4, by rw [← HD.out]; exact HSP.out.2.2.2.2⟩
                  clear q4 hu4 htk
                  go_wp2
                  go_roundg (c - 1)
                  case measure => have := HC.out; omega
                  case rel => exact ⟨c - 1, _, _, rfl, by omega, rfl, HI4⟩
              · have hc0' : ¬ 0 < (c : Int) := by omega
                have hc1 : c = 0 := by omega
                have HI5 : Hid (RowI w b n (.slice ai li ci) u11 W7 (ins) outs2 zs2 ∧ ins = outs2 ++ zs2) := HI2.out
                obtain ⟨ao, co, hvo⟩ := oo.shape
                generalize outs2.length = lo at hvo hol
                subst hvo
                subst hc1
                clear q oi oo sp gw hsum hk2 HI2 hc0 HSP
                go_wp2
                go_roundg (16 - (j + 1))
                case measure => have := HJ.out; omega
                case rel => exact ⟨j + 1, _, _, _, rfl, by have := HJ.out; omega, by have := HJ.out; omega, by go_num, HI5.out.1, HI5.out.2, by have := HLEN.out; omega⟩
          · have hjt' : ¬ (j : Int) < (ts.length : Int) := by omega
            have hK2 : 0 ≤ 2 := by omega
            go_wp2
            go_loopg [11, 13] 0 (fun k o kv u => ∃ (c : Nat) (outs zs : List Int), k = c ∧ c ≤ 2 ∧ kv = .int .i64 c ∧ Hid (RowI w b n (.slice ai li ci) o u (ins) outs zs ∧ ins = outs ++ zs))
            case atStart => exact ⟨0, outs, ZS, rfl, hK2, rfl, HI⟩
            case round =>
              obtain ⟨c, outs2, zs2, hk2, hc2, rfl, HI2⟩ := hrel
              obtain ⟨W7, rfl⟩ : ∃ W7, W7 = wr := ⟨_, rfl⟩
              obtain ⟨⟨p, s, t, q, oi, oo, sp, gw⟩, hsum⟩ := HI2.out
              have hol : outs2.length ≤ 17 := by have h1 := congrArg List.length hsum; have h2 := HLEN.out; rw [List.length_append] at h1; omega
              have HSP : Hid (Sep w.heap.size W7.heap.size b p s t ∧ Grow w W7 ∧ OwnV (Value.int .i64) 0 s W7 (.slice ai li ci) (ins) ∧ OwnV (Value.int .i64) 0 t W7 u11 outs2 ∧ ins = outs2 ++ zs2) := ⟨sp, gw, oi, oo, hsum⟩
              by_cases hc0 : 0 < c
              · have hc0' : 0 < (c : Int) := by omega
                have hw3 : IntKind.i64.wrap ((c : Int) - 1) = ((c - 1 : Nat) : Int) := by rw [IntKind.wrap_i64]; omega
                have HC : Hid (0 < c ∧ gk = c) := ⟨hc0, hk2⟩
                have htk := itake_any W7 p b n zs2 q
                by_cases hz : 0 < zs2.length
                · have hz' : decide (0 < zs2.length) = true := decide_eq_true hz
                  have HD : Hid (zs2 = [zs2.getD 0 0] ++ zs2.drop 1) := by
                    show zs2 = _
                    cases zs2 with
                    | nil => simp at hz
                    | cons x xs => simp
                  rw [hz'] at htk
                  generalize zs2.getD 0 0 = y at htk HD
                  obtain ⟨ao, co, hvo⟩ := oo.shape
                  generalize outs2.length = lo at hvo hol
                  subst hvo
                  clear q oi oo sp gw hsum hk2 HI2 hc0 hz hz'
                  go_wp2_with fail
                  refine htk.mono ?_
                  rintro e w4 ⟨rfl, q4, hu4⟩
                  have HI4 : Hid (RowI w b n (.slice ai li ci) (.slice ao lo co) w4 (ins) outs2 (zs2.drop 1)) := RowI.q HSP.out.2.2.1 HSP.out.2.2.2.1 HSP.out.1 HSP.out.2.1 q4 (fun i hi => .inl hi) hu4
                  clear q4 hu4 htk
                  obtain ⟨p4, s4, t4, q4, oi4, oo4, sp4, gw4⟩ := HI4.out
                  have HQ4 : Hid (QAt (Value.int .i64) 0 p4 w4 b n (zs2.drop 1) ∧ OwnV (Value.int .i64) 0 s4 w4 (.slice ai li ci) (ins) ∧ Sep w.heap.size w4.heap.size b p4 s4 t4 ∧ Grow w w4) := ⟨q4, oi4, sp4, gw4⟩
                  have ho4 := oo4.grow ((Grow.refl w4).alloc (.cells #[.int .i64 y] 3))
                  have hlo : outs2.length = lo := by
                    obtain ⟨a', c', hv⟩ := oo4.shape
                    injection hv with _ h _
                    exact h.symm
                  have hol2 : outs2.length ≤ 17 := by rw [hlo]; exact hol
                  clear q4 oi4 oo4 sp4 gw4 HI4 hlo
                  go_wp2_with (at_builtin; refine wpList_appV (f := (Value.int .i64)) (d := 0) rfl (.tmp 73) (.tmp 75) 22 22 rfl i0 (.int .i64 0) 8 Try.underlying22 hi hz0 hz1 hz2 rfl rfl rfl ho4 (Src.oneV (w := w4) Try.underlying22 (Value.int .i64) y (oneIq y) 3) (by simp only [maxLen, List.length_singleton]; omega) (by simp only [List.length_singleton]; omega) ?_)
                  intro v5 w5 ho5 hu5
                  have HI5 : Hid (RowI w b n (.slice ai li ci) v5 w5 (ins) (outs2 ++ [y]) (zs2.drop 1) ∧ ins = (outs2 ++ [y]) ++ zs2.drop 1) :=
                    ⟨RowI.o HQ4.out.1 HQ4.out.2.1 HQ4.out.2.2.1 HQ4.out.2.2.2 ((Grow.refl w4).alloc (.cells #[.int .i64 y] 3)) (Nat.le_succ _) ho5 hu5, by rw [HSP.out.2.2.2.2, List.append_assoc, ← HD.out]⟩
                  clear ho4 ho5 hu5 HQ4
                  go_wp2
                  go_roundg (c - 1)
                  case measure => have := HC.out; omega
                  case rel => exact ⟨c - 1, _, _, rfl, by omega, rfl, HI5⟩
                · have hz' : decide (0 < zs2.length) = false := decide_eq_false hz
                  have HD : Hid (zs2 = zs2.drop 1) := by
                    show zs2 = _
                    cases zs2 with
                    | nil => rfl
                    | cons x xs => simp at hz
                  rw [hz'] at htk
                  generalize zs2.getD 0 0 = y at htk
                  obtain ⟨ao, co, hvo⟩ := oo.shape
                  generalize outs2.length = lo at hvo hol
                  subst hvo
                  clear q oi oo sp gw hsum hk2 HI2 hc0 hz hz'
                  go_wp2_with fail
                  refine htk.mono ?_
                  rintro e w4 ⟨rfl, q4, hu4⟩
                  have HI4 : Hid (RowI w b n (.slice ai li ci) (.slice ao lo co) w4 (ins) outs2 (zs2.drop 1) ∧ ins = outs2 ++ zs2.drop 1) := ⟨RowI.q HSP.out.2.2.1 HSP.out.2.2.2.1 HSP.out.1 HSP.out.2.1 q4 (fun i hi => .inl hi) hu4, by rw [← HD.out]; exact HSP.out.2.2.2.2⟩
                  clear q4 hu4 htk
                  go_wp2
                  go_roundg (c - 1)
                  case measure => have := HC.out; omega
                  case rel => exact ⟨c - 1, _, _, rfl, by omega, rfl, HI4⟩
              · have hc0' : ¬ 0 < (c : Int) := by omega
                have hc1 : c = 0 := by omega
                have HI5 : Hid (RowI w b n (.slice ai li ci) u11 W7 (ins) outs2 zs2 ∧ ins = outs2 ++ zs2) := HI2.out
                obtain ⟨ao, co, hvo⟩ := oo.shape
                generalize outs2.length = lo at hvo hol
                subst hvo
                subst hc1
                clear q oi oo sp gw hsum hk2 HI2 hc0 HSP
                go_wp2
                go_roundg (16 - (j + 1))
                case measure => have := HJ.out; omega
                case rel => exact ⟨j + 1, _, _, _, rfl, by have := HJ.out; omega, by have := HJ.out; omega, by go_num, HI5.out.1, HI5.out.2, by have := HLEN.out; omega⟩
        · have E : putE n zs.length = 0 ∧ putL n zs y = zs ++ [y] := ⟨if_neg hfull, if_neg hfull⟩
          rw [E.1, E.2] at hpu
          clear E hfull
          go_wp2_with fail
          refine hpu.mono ?_
          rintro e w2 ⟨rfl, p2', q2, hp2, hu2⟩
          have HI2 : Hid (RowI w b n (.slice ai li ci) (.slice ao lo co) w2 ins outs (zs ++ [y])) := RowI.q HS.out.1 HS.out.2.1 HS.out.2.2.1 HS.out.2.2.2 q2 hp2 hu2
          clear q2 hp2 hu2 HS hpu f1
          obtain ⟨p4, s4, t4, q4, oi4, oo4, sp4, gw4⟩ := HI2.out
          have f3 := HX.out w2 gw4
          have HQ4 : Hid (QAt (Value.int .i64) 0 p4 w2 b n (zs ++ [y]) ∧ OwnV (Value.int .i64) 0 t4 w2 (.slice ao lo co) outs ∧ Sep w.heap.size w2.heap.size b p4 s4 t4 ∧ Grow w w2) := ⟨q4, oo4, sp4, gw4⟩
          have ho4 := oi4.grow ((Grow.refl w2).alloc (.cells #[.int .i64 y] 3))
          clear q4 oi4 oo4 sp4 gw4 HI2
          go_wp2_with (at_builtin; refine wpList_appV (f := Value.int .i64) (d := 0) rfl (.tmp 47) (.tmp 52) 22 22 rfl i0 (.int .i64 0) 8 Try.underlying22 hi hz0 hz1 hz2 rfl rfl rfl ho4 (Src.oneV (w := w2) Try.underlying22 (Value.int .i64) y (oneIq y) 3) (by simp only [maxLen, List.length_singleton]; omega) (by simp only [List.length_singleton]; omega) ?_)
          intro v5 w3 ho5 hu5
          obtain ⟨a5, c5, hv5⟩ := ho5.shape
          generalize (ins ++ [y]).length = l5 at hv5
          subst hv5
          obtain ⟨ZS, hZS⟩ : ∃ ZS, ZS = zs ++ [y] := ⟨_, rfl⟩
          obtain ⟨IN, hIN⟩ : ∃ IN, IN = ins ++ [y] := ⟨_, rfl⟩
          have HI3 : Hid (RowI w b n (.slice a5 l5 c5) (.slice ao lo co) w3 IN outs ZS ∧ IN = outs ++ ZS) :=
            ⟨by rw [hZS, hIN]; exact RowI.i HQ4.out.1 HQ4.out.2.1 HQ4.out.2.2.1 HQ4.out.2.2.2 ((Grow.refl w2).alloc (.cells #[.int .i64 y] 3)) (Nat.le_succ _) ho5 hu5, by rw [hZS, hIN, HI.out.2, List.append_assoc]⟩
          have HLEN2 : Hid (IN.length ≤ j + 1) := by have := HLEN.out; show _ ≤ _; rw [hIN, List.length_append, List.length_singleton]; omega
          clear ho4 ho5 hu5 HQ4 HI hZS hIN HLEN HX f3
          have HI : Hid (RowI w b n (.slice a5 l5 c5) (.slice ao lo co) w3 IN outs ZS ∧ IN = outs ++ ZS) := HI3.out
          have HLEN : Hid (IN.length ≤ j + 1) := HLEN2.out
          clear HI3 HLEN2
          obtain ⟨W6, rfl⟩ : ∃ W6, W6 = w3 := ⟨_, rfl⟩
          by_cases hjt : j < ts.length
          · have hjt' : (j : Int) < (ts.length : Int) := by omega
            obtain ⟨gt, ot, et, -, hct⟩ := (HT.out.grow HI.out.1.grow).addr (by omega)
            have f2 := hct j hjt
            have hwt : (Lit.int .i64 (ts.getD j 0)).wf = true := hts _ (by simp only [List.getD, List.getElem?_eq_getElem hjt, Option.getD_some]; exact List.getElem_mem hjt)
            have har2 := around_any (ts.getD j 0) 3 W6 hwt (by omega) (by omega)
            have hab2 := around_bd (ts.getD j 0) 3 (by omega)
            generalize ts.getD j 0 = tj at f2 har2 hab2
            generalize around tj 3 = r2 at har2 hab2
            obtain ⟨K, rfl⟩ := Int.eq_ofNat_of_zero_le hab2.1
            have hK2 : K ≤ 2 := by omega
            clear hct hwt hab2
            subst et
            go_wp2_with fail
            refine har2.mono ?_
            rintro e w4 ⟨rfl, rfl⟩
            clear har2 f2
            go_wp2
            go_loopg [11, 13] K (fun k o kv u => ∃ (c : Nat) (outs zs : List Int), k = c ∧ c ≤ 2 ∧ kv = .int .i64 c ∧ Hid (RowI w b n (.slice a5 l5 c5) o u (IN) outs zs ∧ IN = outs ++ zs))
            case atStart => exact ⟨K, outs, ZS, rfl, hK2, rfl, HI⟩
            case round =>
              obtain ⟨c, outs2, zs2, hk2, hc2, rfl, HI2⟩ := hrel
              obtain ⟨W7, rfl⟩ : ∃ W7, W7 = wr := ⟨_, rfl⟩
              obtain ⟨⟨p, s, t, q, oi, oo, sp, gw⟩, hsum⟩ := HI2.out
              have hol : outs2.length ≤ 17 := by have h1 := congrArg List.length hsum; have h2 := HLEN.out; rw [List.length_append] at h1; omega
              have HSP : Hid (Sep w.heap.size W7.heap.size b p s t ∧ Grow w W7 ∧ OwnV (Value.int .i64) 0 s W7 (.slice a5 l5 c5) (IN) ∧ OwnV (Value.int .i64) 0 t W7 u11 outs2 ∧ IN = outs2 ++ zs2) := ⟨sp, gw, oi, oo, hsum⟩
              by_cases hc0 : 0 < c
              · have hc0' : 0 < (c : Int) := by omega
                have hw3 : IntKind.i64.wrap ((c : Int) - 1) = ((c - 1 : Nat) : Int) := by rw [IntKind.wrap_i64]; omega
                have HC : Hid (0 < c ∧ gk = c) := ⟨hc0, hk2⟩
                have htk := itake_any W7 p b n zs2 q
                by_cases hz : 0 < zs2.length
                · have hz' : decide (0 < zs2.length) = true := decide_eq_true hz
                  have HD : Hid (zs2 = [zs2.getD 0 0] ++ zs2.drop 1) := by
                    show zs2 = _
                    cases zs2 with
                    | nil => simp at hz
                    | cons x xs => simp
                  rw [hz'] at htk
                  generalize zs2.getD 0 0 = y at htk HD
                  obtain ⟨ao, co, hvo⟩ := oo.shape
                  generalize outs2.length = lo at hvo hol
                  subst hvo
                  clear q oi oo sp gw hsum hk2 HI2 hc0 hz hz'
                  go_wp2_with fail
                  refine htk.mono ?_
                  rintro e w4 ⟨rfl, q4, hu4⟩
                  have HI4 : Hid (RowI w b n (.slice a5 l5 c5) (.slice ao lo co) w4 (IN) outs2 (zs2.drop 1)) := RowI.q HSP.out.2.2.1 HSP.out.2.2.2.1 HSP.out.1 HSP.out.2.1 q4 (fun i hi => .inl hi) hu4
                  clear q4 hu4 htk
                  obtain ⟨p4, s4, t4, q4, oi4, oo4, sp4, gw4⟩ := HI4.out
                  have HQ4 : Hid (QAt (Value.int .i64) 0 p4 w4 b n (zs2.drop 1) ∧ OwnV (Value.int .i64) 0 s4 w4 (.slice a5 l5 c5) (IN) ∧ Sep w.heap.size w4.heap.size b p4 s4 t4 ∧ Grow w w4) := ⟨q4, oi4, sp4, gw4⟩
                  have ho4 := oo4.grow ((Grow.refl w4).alloc (.cells #[.int .i64 y] 3))
                  have hlo : outs2.length = lo := by
                    obtain ⟨a', c', hv⟩ := oo4.shape
                    injection hv with _ h _
                    exact h.symm
                  have hol2 : outs2.length ≤ 17 := by rw [hlo]; exact hol
                  clear q4 oi4 oo4 sp4 gw4 HI4 hlo
                  go_wp2_with (at_builtin; refine wpList_appV (f := (Value.int .i64)) (d := 0) rfl (.tmp 73) (.tmp 75) 22 22 rfl i0 (.int .i64 0) 8 Try.underlying22 hi hz0 hz1 hz2 rfl rfl rfl ho4 (Src.oneV (w := w4) Try.underlying22 (Value.int .i64) y (oneIq y) 3) (by simp only [maxLen, List.length_singleton]; omega) (by simp only [List.length_singleton]; omega) ?_)
                  intro v5 w5 ho5 hu5
                  have HI5 : Hid (RowI w b n (.slice a5 l5 c5) v5 w5 (IN) (outs2 ++ [y]) (zs2.drop 1) ∧ IN = (outs2 ++ [y]) ++ zs2.drop 1) :=
                    ⟨RowI.o HQ4.out.1 HQ4.out.2.1 HQ4.out.2.2.1 HQ4.out.2.2.2 ((Grow.refl w4).alloc (.cells #[.int .i64 y] 3)) (Nat.le_succ _) ho5 hu5, by rw [HSP.out.2.2.2.2, List.append_assoc, ← HD.out]⟩
                  clear ho4 ho5 hu5 HQ4
                  go_wp2
                  go_roundg (c - 1)
                  case measure => have := HC.out; omega
                  case rel => exact ⟨c - 1, _, _, rfl, by omega, rfl, HI5⟩
                · have hz' : decide (0 < zs2.length) = false := decide_eq_false hz
                  have HD : Hid (zs2 = zs2.drop 1) := by
                    show zs2 = _
                    cases zs2 with
                    | nil => rfl
                    | cons x xs => simp at hz
                  rw [hz'] at htk
                  generalize zs2.getD 0 0 = y at htk
                  obtain ⟨ao, co, hvo⟩ := oo.shape
                  generalize outs2.length = lo at hvo hol
                  subst hvo
                  clear q oi oo sp gw hsum hk2 HI2 hc0 hz hz'
                  go_wp2_with fail
                  refine htk.mono ?_
                  rintro e w4 ⟨rfl, q4, hu4⟩
                  have HI4 : Hid (RowI w b n (.slice a5 l5 c5) (.slice ao lo co) w4 (IN) outs2 (zs2.drop 1) ∧ IN = outs2 ++ zs2.drop 1) := ⟨RowI.q HSP.out.2.2.1 HSP.out.2.2.2.1 HSP.out.1 HSP.out.2.1 q4 (fun i hi => .inl hi) hu4, by rw [← HD.out]; exact HSP.out.2.2.2.2⟩
                  clear q4 hu4 htk
                  go_wp2
                  go_roundg (c - 1)
                  case measure => have := HC.out; omega
                  case rel => exact ⟨c - 1, _, _, rfl, by omega, rfl, HI4⟩
              · have hc0' : ¬ 0 < (c : Int) := by omega
                have hc1 : c = 0 := by omega
                have HI5 : Hid (RowI w b n (.slice a5 l5 c5) u11 W7 (IN) outs2 zs2 ∧ IN = outs2 ++ zs2) := HI2.out
                obtain ⟨ao, co, hvo⟩ := oo.shape
                generalize outs2.length = lo at hvo hol
                subst hvo
                subst hc1
                clear q oi oo sp gw hsum hk2 HI2 hc0 HSP
                go_wp2
                go_roundg (16 - (j + 1))
                case measure => have := HJ.out; omega
                case rel => exact ⟨j + 1, _, _, _, rfl, by have := HJ.out; omega, by have := HJ.out; omega, by go_num, HI5.out.1, HI5.out.2, by have := HLEN.out; omega⟩
          · have hjt' : ¬ (j : Int) < (ts.length : Int) := by omega
            have hK2 : 0 ≤ 2 := by omega
            go_wp2
            go_loopg [11, 13] 0 (fun k o kv u => ∃ (c : Nat) (outs zs : List Int), k = c ∧ c ≤ 2 ∧ kv = .int .i64 c ∧ Hid (RowI w b n (.slice a5 l5 c5) o u (IN) outs zs ∧ IN = outs ++ zs))
            case atStart => exact ⟨0, outs, ZS, rfl, hK2, rfl, HI⟩
            case round =>
              obtain ⟨c, outs2, zs2, hk2, hc2, rfl, HI2⟩ := hrel
              obtain ⟨W7, rfl⟩ : ∃ W7, W7 = wr := ⟨_, rfl⟩
              obtain ⟨⟨p, s, t, q, oi, oo, sp, gw⟩, hsum⟩ := HI2.out
              have hol : outs2.length ≤ 17 := by have h1 := congrArg List.length hsum; have h2 := HLEN.out; rw [List.length_append] at h1; omega
              have HSP : Hid (Sep w.heap.size W7.heap.size b p s t ∧ Grow w W7 ∧ OwnV (Value.int .i64) 0 s W7 (.slice a5 l5 c5) (IN) ∧ OwnV (Value.int .i64) 0 t W7 u11 outs2 ∧ IN = outs2 ++ zs2) := ⟨sp, gw, oi, oo, hsum⟩
              by_cases hc0 : 0 < c
              · have hc0' : 0 < (c : Int) := by omega
                have hw3 : IntKind.i64.wrap ((c : Int) - 1) = ((c - 1 : Nat) : Int) := by rw [IntKind.wrap_i64]; omega
                have HC : Hid (0 < c ∧ gk = c) := ⟨hc0, hk2⟩
                have htk := itake_any W7 p b n zs2 q
                by_cases hz : 0 < zs2.length
                · have hz' : decide (0 < zs2.length) = true := decide_eq_true hz
                  have HD : Hid (zs2 = [zs2.getD 0 0] ++ zs2.drop 1) := by
                    show zs2 = _
                    cases zs2 with
                    | nil => simp at hz
                    | cons x xs => simp
                  rw [hz'] at htk
                  generalize zs2.getD 0 0 = y at htk HD
                  obtain ⟨ao, co, hvo⟩ := oo.shape
                  generalize outs2.length = lo at hvo hol
                  subst hvo
                  clear q oi oo sp gw hsum hk2 HI2 hc0 hz hz'
                  go_wp2_with fail
                  refine htk.mono ?_
                  rintro e w4 ⟨rfl, q4, hu4⟩
                  have HI4 : Hid (RowI w b n (.slice a5 l5 c5) (.slice ao lo co) w4 (IN) outs2 (zs2.drop 1)) := RowI.q HSP.out.2.2.1 HSP.out.2.2.2.1 HSP.out.1 HSP.out.2.1 q4 (fun i hi => .inl hi) hu4
                  clear q4 hu4 htk
                  obtain ⟨p4, s4, t4, q4, oi4, oo4, sp4, gw4⟩ := HI4.out
                  have HQ4 : Hid (QAt (Value.int .i64) 0 p4 w4 b n (zs2.drop 1) ∧ OwnV (Value.int .i64) 0 s4 w4 (.slice a5 l5 c5) (IN) ∧ Sep w.heap.size w4.heap.size b p4 s4 t4 ∧ Grow w w4) := ⟨q4, oi4, sp4, gw4⟩
                  have ho4 := oo4.grow ((Grow.refl w4).alloc (.cells #[.int .i64 y] 3))
                  have hlo : outs2.length = lo := by
                    obtain ⟨a', c', hv⟩ := oo4.shape
                    injection hv with _ h _
                    exact h.symm
                  have hol2 : outs2.length ≤ 17 := by rw [hlo]; exact hol
                  clear q4 oi4 oo4 sp4 gw4 HI4 hlo
                  go_wp2_with (at_builtin; refine wpList_appV (f := (Value.int .i64)) (d := 0) rfl (.tmp 73) (.tmp 75) 22 22 rfl i0 (.int .i64 0) 8 Try.underlying22 hi hz0 hz1 hz2 rfl rfl rfl ho4 (Src.oneV (w := w4) Try.underlying22 (Value.int .i64) y (oneIq y) 3) (by simp only [maxLen, List.length_singleton]; omega) (by simp only [List.length_singleton]; omega) ?_)
                  intro v5 w5 ho5 hu5
                  have HI5 : Hid (RowI w b n (.slice a5 l5 c5) v5 w5 (IN) (outs2 ++ [y]) (zs2.drop 1) ∧ IN = (outs2 ++ [y]) ++ zs2.drop 1) :=
                    ⟨RowI.o HQ4.out.1 HQ4.out.2.1 HQ4.out.2.2.1 HQ4.out.2.2.2 ((Grow.refl w4).alloc (.cells #[.int .i64 y] 3)) (Nat.le_succ _) ho5 hu5, by rw [HSP.out.2.2.2.2, List.append_assoc, ← HD.out]⟩
                  clear ho4 ho5 hu5 HQ4
                  go_wp2
                  go_roundg (c - 1)
                  case measure => have := HC.out; omega
                  case rel => exact ⟨c - 1, _, _, rfl, by omega, rfl, HI5⟩
                · have hz' : decide (0 < zs2.length) = false := decide_eq_false hz
                  have HD : Hid (zs2 = zs2.drop 1) := by
                    show zs2 = _
                    cases zs2 with
                    | nil => rfl
                    | cons x xs => simp at hz
                  rw [hz'] at htk
                  generalize zs2.getD 0 0 = y at htk
                  obtain ⟨ao, co, hvo⟩ := oo.shape
                  generalize outs2.length = lo at hvo hol
                  subst hvo
                  clear q oi oo sp gw hsum hk2 HI2 hc0 hz hz'
                  go_wp2_with fail
                  refine htk.mono ?_
                  rintro e w4 ⟨rfl, q4, hu4⟩
                  have HI4 : Hid (RowI w b n (.slice a5 l5 c5) (.slice ao lo co) w4 (IN) outs2 (zs2.drop 1) ∧ IN = outs2 ++ zs2.drop 1) := ⟨RowI.q HSP.out.2.2.1 HSP.out.2.2.2.1 HSP.out.1 HSP.out.2.1 q4 (fun i hi => .inl hi) hu4, by rw [← HD.out]; exact HSP.out.2.2.2.2⟩
                  clear q4 hu4 htk
                  go_wp2
                  go_roundg (c - 1)
                  case measure => have := HC.out; omega
                  case rel => exact ⟨c - 1, _, _, rfl, by omega, rfl, HI4⟩
              · have hc0' : ¬ 0 < (c : Int) := by omega
                have hc1 : c = 0 := by omega
                have HI5 : Hid (RowI w b n (.slice a5 l5 c5) u11 W7 (IN) outs2 zs2 ∧ IN = outs2 ++ zs2) := HI2.out
                obtain ⟨ao, co, hvo⟩ := oo.shape
                generalize outs2.length = lo at hvo hol
                subst hvo
                subst hc1
                clear q oi oo sp gw hsum hk2 HI2 hc0 HSP
                go_wp2
                go_roundg (16 - (j + 1))
                case measure => have := HJ.out; omega
                case rel => exact ⟨j + 1, _, _, _, rfl, by have := HJ.out; omega, by have := HJ.out; omega, by go_num, HI5.out.1, HI5.out.2, by have := HLEN.out; omega⟩
      · have h16' : ¬ (j : Int) < 16 := by omega
        clear HA HB hk
        obtain ⟨W8, rfl⟩ : ∃ W8, W8 = wr := ⟨_, rfl⟩
        obtain ⟨p, s, t, q, oi, oo, sp, gw⟩ := HI.out.1
        have hol : outs.length ≤ 17 := by have h1 := congrArg List.length HI.out.2; have h2 := HLEN.out; rw [List.length_append] at h1; omega
        have hzl : zs.length ≤ n := q.le.1
        have hall := iall_any W8 p b n zs q
        have HQ : Hid (QAt (Value.int .i64) 0 p W8 b n zs ∧ OwnV (Value.int .i64) 0 s W8 u10 ins ∧ OwnV (Value.int .i64) 0 t W8 u11 outs ∧ Sep w.heap.size W8.heap.size b p s t ∧ Grow w W8 ∧ ins = outs ++ zs) := ⟨q, oi, oo, sp, gw, HI.out.2⟩
        clear q oi oo sp gw HI
        go_wp2_with fail
        refine hall.mono ?_
        rintro e w4 ⟨v4, rfl, ho4, g4⟩
        have hsrc : Src Try.prog 1 22 v4 zs.length (zs.map (Value.int .i64)) w4 := ho4.rd.src (P := Try.prog) oneIq Try.underlying22
        have hoo4 := HQ.out.2.2.1.grow g4
        have HG4 : Hid (Grow W8 w4) := g4
        clear ho4 g4 hall
        go_wp2_with (at_builtin; refine wpList_appV (f := Value.int .i64) (d := 0) rfl (.tmp 77) (.tmp 79) 22 22 rfl i0 (.int .i64 0) 8 Try.underlying22 hi hz0 hz1 hz2 rfl rfl rfl hoo4 hsrc (by simp only [maxLen]; omega) (by omega) ?_)
        intro v5 w5 ho5 hu5
        have HI5 : Hid (RowI w b n u10 v5 w5 ins (outs ++ zs) zs) := RowI.o HQ.out.1 HQ.out.2.1 HQ.out.2.2.2.1 HQ.out.2.2.2.2.1 HG4.out HG4.out.size ho5 hu5
        clear hoo4 hsrc ho5 hu5
        obtain ⟨p5, s5, t5, q5, oi5, oo5, sp5, gw5⟩ := HI5.out
        have hsm := samez_any u10 v5 ins (outs ++ zs) _ _ w5 oi5.rd oo5.rd
        rw [decide_eq_true HQ.out.2.2.2.2.2] at hsm
        have HQ5 : Hid (QAt (Value.int .i64) 0 p5 w5 b n zs ∧ Grow w w5) := ⟨q5, gw5⟩
        clear q5 oi5 oo5 sp5 gw5 HI5 HQ
        go_wp2_with fail
        refine hsm.mono ?_
        rintro e w6 ⟨rfl, g6⟩
        have hle := ilen_any w6 p5 b n zs (HQ5.out.1.grow g6)
        have HG6 : Hid (Grow w w6) := HQ5.out.2.trans g6
        have hzi : (zs.length : Int) ≤ (n : Int) := by omega
        clear g6 hsm HQ5
        go_wp2_with fail
        refine hle.mono ?_
        rintro e w7 ⟨rfl, rfl⟩
        clear hle
        go_wp2_with fail
        refine (lives_any w6).mono ?_
        rintro e w8 ⟨rfl, g8⟩
        go_wp2
        go_ret
        exact ⟨rfl, HG6.out.trans g8⟩
    · have hlt' : ¬ (j : Int) < (ls.length : Int) := by omega
      clear HA HB hk
      obtain ⟨W8, rfl⟩ : ∃ W8, W8 = wr := ⟨_, rfl⟩
      obtain ⟨p, s, t, q, oi, oo, sp, gw⟩ := HI.out.1
      have hol : outs.length ≤ 17 := by have h1 := congrArg List.length HI.out.2; have h2 := HLEN.out; rw [List.length_append] at h1; omega
      have hzl : zs.length ≤ n := q.le.1
      have hall := iall_any W8 p b n zs q
      have HQ : Hid (QAt (Value.int .i64) 0 p W8 b n zs ∧ OwnV (Value.int .i64) 0 s W8 u10 ins ∧ OwnV (Value.int .i64) 0 t W8 u11 outs ∧ Sep w.heap.size W8.heap.size b p s t ∧ Grow w W8 ∧ ins = outs ++ zs) := ⟨q, oi, oo, sp, gw, HI.out.2⟩
      clear q oi oo sp gw HI
      go_wp2_with fail
      refine hall.mono ?_
      rintro e w4 ⟨v4, rfl, ho4, g4⟩
      have hsrc : Src Try.prog 1 22 v4 zs.length (zs.map (Value.int .i64)) w4 := ho4.rd.src (P := Try.prog) oneIq Try.underlying22
      have hoo4 := HQ.out.2.2.1.grow g4
      have HG4 : Hid (Grow W8 w4) := g4
      clear ho4 g4 hall
      go_wp2_with (at_builtin; refine wpList_appV (f := Value.int .i64) (d := 0) rfl (.tmp 77) (.tmp 79) 22 22 rfl i0 (.int .i64 0) 8 Try.underlying22 hi hz0 hz1 hz2 rfl rfl rfl hoo4 hsrc (by simp only [maxLen]; omega) (by omega) ?_)
      intro v5 w5 ho5 hu5
      have HI5 : Hid (RowI w b n u10 v5 w5 ins (outs ++ zs) zs) := RowI.o HQ.out.1 HQ.out.2.1 HQ.out.2.2.2.1 HQ.out.2.2.2.2.1 HG4.out HG4.out.size ho5 hu5
      clear hoo4 hsrc ho5 hu5
      obtain ⟨p5, s5, t5, q5, oi5, oo5, sp5, gw5⟩ := HI5.out
      have hsm := samez_any u10 v5 ins (outs ++ zs) _ _ w5 oi5.rd oo5.rd
      rw [decide_eq_true HQ.out.2.2.2.2.2] at hsm
      have HQ5 : Hid (QAt (Value.int .i64) 0 p5 w5 b n zs ∧ Grow w w5) := ⟨q5, gw5⟩
      clear q5 oi5 oo5 sp5 gw5 HI5 HQ
      go_wp2_with fail
      refine hsm.mono ?_
      rintro e w6 ⟨rfl, g6⟩
      have hle := ilen_any w6 p5 b n zs (HQ5.out.1.grow g6)
      have HG6 : Hid (Grow w w6) := HQ5.out.2.trans g6
      have hzi : (zs.length : Int) ≤ (n : Int) := by omega
      clear g6 hsm HQ5
      go_wp2_with fail
      refine hle.mono ?_
      rintro e w7 ⟨rfl, rfl⟩
      clear hle
      go_wp2_with fail
      refine (lives_any w6).mono ?_
      rintro e w8 ⟨rfl, g8⟩
      go_wp2
      go_ret
      exact ⟨rfl, HG6.out.trans g8⟩
end Go.Proofs.Ytmnaadbemlecpaa
