/-
  The walk of the closure of a search: one look. Conditions: each theorem's own.
-/
import Derived.Test.YtabhbeknpchpkaaClkDoc
namespace Go.Proofs.Ytabhbeknpchpkaa
open Go.RowKit
set_option linter.unusedVariables false
set_option linter.unusedSimpArgs false


theorem set_same {L : List Fl} {z : Nat} (hz : z < L.length) : L.set z (L.getD z Fl.zero) = L := by rw [getD_is hz]; exact List.set_getElem_self hz

set_option maxHeartbeats 1000000 in
theorem look_any (w : World) (bk bn ba g k z : Nat) (v : Value) (L : List Fl) (hk : VarAt w bk [.int .i64 k]) (hn : VarAt w bn [v]) (ha : VarAt w ba [.int .i64 z]) (ho : OwnF (fun i => i = g) w v L)
    (hz : z < L.length) (hL : L.length ≤ 1000000) (hkb : k ≤ 10000000) (n1 : bk ≠ bn) (n2 : bk ≠ ba) (n3 : bk ≠ g) :
    Calls Try.prog 25 #[.pointer (some ⟨bk, 0, none⟩), .pointer (some ⟨bn, 0, none⟩), .pointer (some ⟨ba, 0, none⟩)] w fun e w' => e = .returned (.bool (L.getD z Fl.zero).hit) ∧ OwnF (fun i => i = g) w' v (L.set z (L.getD z Fl.zero).pass) ∧ VarAt w' bk [.int .i64 ((k : Int) + 1)] ∧ UpdS (fun i => i = bk ∨ i = g) w w' := by
  have hw1 : IntKind.i64.wrap ((k : Int) + 1) = (k : Int) + 1 := by rw [IntKind.wrap_i64]; omega
  have hu : UpdS (fun i => i = bk) w (w.setCell ⟨bk, 0, none⟩ (.int .i64 ((k : Int) + 1))) := upd_one w bk 0 _
  have hk1 := hk.set 0 (.int .i64 ((k : Int) + 1))
  have hn1 := hn.upd hu (fun e => n1 e.symm)
  have ha1 := ha.upd hu (fun e => n2 e.symm)
  have ho1 := OwnS.upd ho hu (fun i _ hi => by omega)
  have c0 := (hk.2 0 (by show 0 < 1; omega)).1
  have f0 := (hk.2 0 (by show 0 < 1; omega)).2
  have c1 := (hn1.2 0 (by show 0 < 1; omega)).1
  have c2 := (ha1.2 0 (by show 0 < 1; omega)).1
  simp only [List.getElem?_cons_zero] at c0 c1 c2
  have HS : Hid (L.set z (L.getD z Fl.zero) = L) := set_same hz
  obtain ⟨g', o, c, rfl, e, _, hlc, hcm, hcell, hfr, hset⟩ := OwnS.row ho1 Fl.cs_length Fl.zero hz
  unfold maxLen at hcm
  subst e
  have q0 := hcell 0 (by omega)
  have q1 := hcell 1 (by omega)
  have q2 := hcell 2 (by omega)
  have q3 := hcell 3 (by omega)
  have f2 := hfr 2 (by omega)
  have hset2 := hset 2 (L.getD z Fl.zero).cool (.bool false) (by omega) rfl
  have hz' : (z : Int) < (L.length : Int) := by omega
  generalize L.getD z Fl.zero = x at *
  obtain ⟨u, d, r, p⟩ := x
  have hff := ffree_any g' (o + z * 4) ⟨u, d, r, p⟩ (w.setCell ⟨bk, 0, none⟩ (.int .i64 ((k : Int) + 1))) ⟨q0, q1, q2, q3⟩
  simp only [Fl.cs, List.getElem?_cons_zero, List.getElem?_cons_succ, Nat.add_zero] at q0 q1 q2 q3
  have HK : Hid (OwnF (fun i => i = g') (w.setCell ⟨bk, 0, none⟩ (.int .i64 ((k : Int) + 1))) (.slice (some ⟨g', o, none⟩) L.length c) L ∧ VarAt (w.setCell ⟨bk, 0, none⟩ (.int .i64 ((k : Int) + 1))) bk [.int .i64 ((k : Int) + 1)] ∧ UpdS (fun i => i = bk) w (w.setCell ⟨bk, 0, none⟩ (.int .i64 ((k : Int) + 1))) ∧ bk ≠ g') := ⟨ho1, hk1, hu, n3⟩
  have HC : Hid (OwnF (fun i => i = g') ((w.setCell ⟨bk, 0, none⟩ (.int .i64 ((k : Int) + 1))).setCell ⟨g', o + z * 4 + 2, none⟩ (.bool false)) (.slice (some ⟨g', o, none⟩) L.length c) (L.set z ⟨u, d, false, p⟩)) := hset2
  clear hk hn ha ho hu hk1 hn1 ha1 ho1 hcell hfr hset hset2 hz n1 n2 n3
  cases u
  · have HE : Hid ((Fl.mk false d r p).pass = ⟨false, d, r, p⟩ ∧ (Fl.mk false d r p).hit = true) := ⟨by simp [Fl.pass], by simp [Fl.hit]⟩
    clear hff
    go_enter Try.func25, Try.ntmps25
    go_wp2
    go_ret
    refine ⟨ret_bool HE.out.2.symm, ?_, HK.out.2.1, HK.out.2.2.1.mono (fun i hi => .inl hi)⟩
    rw [HE.out.1, HS.out]
    exact HK.out.1
  · by_cases hp : p ≤ 0
    · have hd : decide (p ≤ 0) = true := by simp [hp]
      simp only [] at hff
      rw [hd] at hff
      cases r
      · have HE : Hid ((Fl.mk true d false p).pass = ⟨true, d, false, p⟩ ∧ (Fl.mk true d false p).hit = true) := ⟨by simp [Fl.pass], by simp [Fl.hit, hp]⟩
        clear hd hp
        go_enter Try.func25, Try.ntmps25
        go_wp2_with fail
        refine hff.mono ?_
        rintro e w1 ⟨rfl, rfl⟩
        clear hff
        go_wp2
        go_ret
        refine ⟨ret_bool HE.out.2.symm, ?_, HK.out.2.1, HK.out.2.2.1.mono (fun i hi => .inl hi)⟩
        rw [HE.out.1, HS.out]
        exact HK.out.1
      · have HE : Hid ((Fl.mk true d true p).pass = ⟨true, d, false, p⟩ ∧ (Fl.mk true d true p).hit = false) := ⟨by simp [Fl.pass, Fl.cool, hp], by simp [Fl.hit]⟩
        clear hd hp
        go_enter Try.func25, Try.ntmps25
        go_wp2_with fail
        refine hff.mono ?_
        rintro e w1 ⟨rfl, rfl⟩
        clear hff
        go_wp2
        go_ret
        refine ⟨ret_bool HE.out.2.symm, ?_, HK.out.2.1.upd (upd_one _ g' _ _) (fun e => HK.out.2.2.2 e), (HK.out.2.2.1.mono (fun i hi => .inl hi)).trans ((upd_one _ g' _ _).mono (fun i hi => .inr hi))⟩
        rw [HE.out.1]
        exact HC.out
    · have hd : decide (p ≤ 0) = false := by simp; omega
      simp only [] at hff
      rw [hd] at hff
      have HE : Hid ((Fl.mk true d r p).pass = ⟨true, d, r, p⟩ ∧ (Fl.mk true d r p).hit = false) := ⟨by simp [Fl.pass, hp], by simp [Fl.hit, hp]⟩
      clear hd hp
      go_enter Try.func25, Try.ntmps25
      go_wp2_with fail
      refine hff.mono ?_
      rintro e w1 ⟨rfl, rfl⟩
      clear hff
      go_wp2
      go_ret
      refine ⟨ret_bool HE.out.2.symm, ?_, HK.out.2.1, HK.out.2.2.1.mono (fun i hi => .inl hi)⟩
      rw [HE.out.1, HS.out]
      exact HK.out.1
end Go.Proofs.Ytabhbeknpchpkaa
