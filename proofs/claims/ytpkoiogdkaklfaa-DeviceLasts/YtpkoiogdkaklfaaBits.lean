/-
  The walks of bits' streams (New, Next, At, Left, Add). Conditions: each theorem's own.
-/
import Derived.Test.YtpkoiogdkaklfaaLibV
import Derived.Test.YtpkoiogdkaklfaaArr
import Derived.Test.YtpkoiogdkaklfaaAround
namespace Go.Proofs.Ytpkoiogdkaklfaa
open Go.RowKit
set_option linter.unusedVariables false
set_option linter.unusedSimpArgs false

theorem Try.info4 : (Try.prog.info? 4).map (fun i => (i.zero, i.size, i.bytes)) = some (some (.bool false), 1, 1) := by kernel_rfl
theorem oneB : ∀ x : Bool, (Value.bool x).oneCell' = true := fun x => rfl

set_option maxHeartbeats 1000000 in
theorem bfresh_any (sv : Value) (ss : List Bool) (p : Nat → Prop) (w : World) (hs : RdV Value.bool false p w sv ss) (hm : ss.length ≤ 100000000) :
    Calls Try.prog 45 #[sv] w fun e w' => ∃ v', e = .returned v' ∧ OwnV Value.bool false (fun i => i = w.heap.size) w' v' ss ∧ Grow w w' ∧ w.heap.size < w'.heap.size := by
  obtain ⟨i0, hi, hz0, hz1, hz2⟩ := info_parts Try.info4
  have hs' := hs
  obtain ⟨a, c, rfl, h1, h2, -⟩ := hs
  go_enter Try.func45, Try.ntmps45
  go_wp2_with (at_make; refine wpList_makeV rfl (.tmp 5) (.tmp 5) 35 rfl Value.bool false 4 i0 Try.underlying35 hi hz0 rfl 1 hz1 hz2 .i64 .i64 _ ss.length rfl rfl rfl hm (by omega) ?_)
  intro v1 w1 ho1 hg1 hlt1
  have hs1 := hs'.grow hg1
  have Ho1 : Hid (OwnV Value.bool false (fun i => i = w.heap.size) w1 v1 (List.replicate ss.length false)) := ho1
  clear hs'
  have HG : Hid (Grow w w1 ∧ w.heap.size < w1.heap.size) := ⟨hg1, hlt1⟩
  clear hg1 hlt1
  obtain ⟨a1, c1, hv1⟩ := ho1.shape
  rw [List.length_replicate] at hv1
  subst hv1
  obtain ⟨w2, hrun, ho2, hu2⟩ := run_copyV (P := Try.prog) 35 35 3 4 Try.underlying35 (by rw [hi]; simp [hz1]) Ho1.out hs1 (by simp) oneB
  go_wp2
  go_ret
  obtain ⟨hg1, hlt1⟩ := HG.out
  exact ⟨_, rfl, ho2, UpdS.new hg1 hu2 (fun i hi => by omega), by have := hu2.size; omega⟩

/-- A stream at block b: the bits that are left, in a row of its own in block g (if it has room at all), and how many were told. -/
def StrAt (w : World) (b g : Nat) (ls : List Bool) (n : Int) : Prop :=
  ∃ a c, w.cell? ⟨b, 0, none⟩ = some (.slice a ls.length c) ∧ w.cell? ⟨b, 1, none⟩ = some (.int .i64 n) ∧ w.frozen? ⟨b, 0, none⟩ = false ∧ w.frozen? ⟨b, 1, none⟩ = false ∧
    OwnV Value.bool false (fun i => i = g) w (.slice a ls.length c) ls ∧ g ≠ b ∧ g < w.heap.size

theorem StrAt.lt {w : World} {b g : Nat} {ls : List Bool} {n : Int} (h : StrAt w b g ls n) : b < w.heap.size ∧ g < w.heap.size ∧ g ≠ b := by
  obtain ⟨a, c, h0, _, _, _, _, h1, h2⟩ := h
  exact ⟨World.block_lt_of_cell? _ _ h0, h2, h1⟩
theorem StrAt.upd {S : Nat → Prop} {w w' : World} {b g : Nat} {ls : List Bool} {n : Int} (h : StrAt w b g ls n) (hu : UpdS S w w') (hb : ¬ S b) (hg : ¬ S g) : StrAt w' b g ls n := by
  have hlt := h.lt.1
  obtain ⟨a, c, h0, h1, f0, f1, ho, hne, hgl⟩ := h
  refine ⟨a, c, ?_, ?_, ?_, ?_, ho.upd hu (fun i _ e => by rw [e]; exact hg), hne, Nat.lt_of_lt_of_le hgl hu.size⟩
  · rw [hu.cell (p := ⟨b, 0, none⟩) hlt hb]; exact h0
  · rw [hu.cell (p := ⟨b, 1, none⟩) hlt hb]; exact h1
  · rw [hu.frozen (p := ⟨b, 0, none⟩) hlt hb]; exact f0
  · rw [hu.frozen (p := ⟨b, 1, none⟩) hlt hb]; exact f1
theorem StrAt.grow {w w' : World} {b g : Nat} {ls : List Bool} {n : Int} (h : StrAt w b g ls n) (hu : Grow w w') : StrAt w' b g ls n := h.upd (S := fun _ => False) hu.s (fun f => f) (fun f => f)
/-- its bits set -/
theorem StrAt.set {w : World} {b g g' : Nat} {ls ls' : List Bool} {n : Int} {v : Value} (h : StrAt w b g ls n) (ho : OwnV Value.bool false (fun i => i = g') w v ls') (hne : g' ≠ b) (hgl : g' < w.heap.size) : StrAt (w.setCell ⟨b, 0, none⟩ v) b g' ls' n := by
  obtain ⟨a, c, h0, h1, f0, f1, _, _, _⟩ := h
  have ho' := ho.upd (UpdS.setCell (fun k => k = b) ⟨b, 0, none⟩ v w rfl) (fun i _ e => by rw [e]; exact hne)
  obtain ⟨a', c', hv⟩ := ho.shape
  refine ⟨a', c', ?_, ?_, ?_, ?_, by rw [← hv]; exact ho', hne, by simpa using hgl⟩
  · rw [World.cell?_setCell_same' w _ _ (by rw [h0]; rfl), hv]
  · rw [World.cell?_setCell_other w _ _ _ (by simp)]; exact h1
  · rw [World.frozen?_setCell]; exact f0
  · rw [World.frozen?_setCell]; exact f1
/-- its place set -/
theorem StrAt.told {w : World} {b g : Nat} {ls : List Bool} {n : Int} (n' : Int) (h : StrAt w b g ls n) : StrAt (w.setCell ⟨b, 1, none⟩ (.int .i64 n')) b g ls n' := by
  obtain ⟨a, c, h0, h1, f0, f1, ho, hne, hgl⟩ := h
  refine ⟨a, c, ?_, ?_, ?_, ?_, ho.upd (UpdS.setCell (fun k => k = b) ⟨b, 1, none⟩ _ w rfl) (fun i _ e => by rw [e]; exact hne), hne, by simpa using hgl⟩
  · rw [World.cell?_setCell_other w _ _ _ (by simp)]; exact h0
  · rw [World.cell?_setCell_same' w _ _ (by rw [h1]; rfl)]
  · rw [World.frozen?_setCell]; exact f0
  · rw [World.frozen?_setCell]; exact f1

set_option maxHeartbeats 1000000 in
theorem bnew_any (sv : Value) (ss : List Bool) (p : Nat → Prop) (w : World) (hs : RdV Value.bool false p w sv ss) (hm : ss.length ≤ 100000000) :
    Calls Try.prog 21 #[sv] w fun e w' => ∃ b g, e = .returned (.pointer (some ⟨b, 0, none⟩)) ∧ StrAt w' b g ss 0 ∧ Grow w w' ∧ w.heap.size ≤ g ∧ w.heap.size ≤ b := by
  have hc := bfresh_any sv ss p w hs hm
  obtain ⟨a, c, rfl, h1, h2, -⟩ := hs
  go_enter Try.func21, Try.ntmps21
  go_wp2_with fail
  refine hc.mono ?_
  rintro e w1 ⟨v1, rfl, ho1, hg1, hlt1⟩
  obtain ⟨a1, c1, rfl⟩ := ho1.shape
  have hr : StrAt (w1.alloc (.cells #[.slice a1 ss.length c1, .int .i64 0] 82)) w1.heap.size w.heap.size ss 0 := by
    refine ⟨a1, c1, ?_, ?_, ?_, ?_, ho1.grow ((Grow.refl w1).alloc _), by omega, by simp; omega⟩
    · exact (World.cell?_alloc_new w1 _ _ 0).trans (by simp)
    · exact (World.cell?_alloc_new w1 _ _ 1).trans (by simp)
    · exact World.frozen?_alloc_new w1 _ _ _
    · exact World.frozen?_alloc_new w1 _ _ _
  have HR : Hid (StrAt (w1.alloc (.cells #[.slice a1 ss.length c1, .int .i64 0] 82)) w1.heap.size w.heap.size ss 0) := hr
  clear hr ho1
  go_wp2
  go_ret
  exact ⟨_, _, rfl, HR.out, hg1.alloc _, Nat.le_refl _, by omega⟩

set_option maxHeartbeats 1000000 in
theorem bleft_any (b g : Nat) (ls : List Bool) (n : Int) (w : World) (h : StrAt w b g ls n) (hm : ls.length ≤ 100000000) :
    Calls Try.prog 36 #[.pointer (some ⟨b, 0, none⟩)] w fun e w' => ∃ v', e = .returned v' ∧ OwnV Value.bool false (fun i => i = w.heap.size) w' v' ls ∧ Grow w w' ∧ w.heap.size < w'.heap.size := by
  obtain ⟨a, c, h0, h1, f0, f1, ho, hne, hgl⟩ := h
  have hc := bfresh_any _ _ _ _ ho.rd hm
  go_enter Try.func36, Try.ntmps36
  go_wp2_with fail
  refine hc.mono ?_
  rintro e w1 ⟨v1, rfl, ho1, hg1, hlt1⟩
  go_wp2
  go_ret
  exact ⟨_, rfl, ho1, hg1, hlt1⟩

set_option maxHeartbeats 1000000 in
theorem bnext_any (b g : Nat) (ls : List Bool) (n : Int) (w : World) (h : StrAt w b g ls n) (hn0 : 0 ≤ n) (hn1 : n ≤ 100000000) :
    Calls Try.prog 46 #[.pointer (some ⟨b, 0, none⟩)] w fun e w' => e = .returned (.bool (ls.getD 0 false)) ∧ StrAt w' b g (ls.drop 1) (n + (min 1 ls.length : Nat)) ∧ UpdS (fun i => i = b) w w' := by
  have h' := h
  obtain ⟨a, c, h0, h1, f0, f1, ho, hne, hgl⟩ := h'
  cases ls with
  | nil =>
    clear ho
    simp only [List.length_nil] at h0
    go_enter Try.func46, Try.ntmps46
    go_wp2
    go_ret
    exact ⟨rfl, by simpa using h, UpdS.refl _ _⟩
  | cons x ls =>
    obtain ⟨-, hlc, hcm⟩ := ho.rd.caps
    obtain ⟨bb, oo, rfl, hbb, hcell⟩ := ho.rd.addr (by simp)
    have hbb' : bb = g := hbb
    clear hbb
    subst hbb'
    have hx := hcell 0 (by simp)
    rw [Nat.add_zero] at hx
    have hx' : w.cell? ⟨bb, oo, none⟩ = some (.bool x) := hx
    unfold maxLen at hcm
    simp only [List.length_cons] at h0 hlc
    have hd := ho.drop 1 (by simp)
    have hst := (h.set hd hne hgl).told (n + 1)
    clear hcell ho hd hx h
    have hw : IntKind.i64.wrap (n + 1) = n + 1 := by rw [IntKind.wrap_i64]; omega
    by_cases hc1 : c = 1
    · subst hc1
      have hl0 : ls.length = 0 := by omega
      simp only [if_true, List.length_cons, Nat.add_sub_cancel, Nat.sub_self, hl0] at hst
      have HS : Hid (StrAt ((w.setCell ⟨b, 0, none⟩ (.slice (some ⟨bb, oo, none⟩) 0 0)).setCell ⟨b, 1, none⟩ (.int .i64 (n + 1))) b bb ((x :: ls).drop 1) (n + 1)) := hst
      clear hst
      rw [hl0] at h0
      go_enter Try.func46, Try.ntmps46
      go_wp2
      go_ret
      exact ⟨rfl, by simpa using HS.out, (UpdS.setCell (fun i => i = b) ⟨b, 0, none⟩ _ _ rfl).trans (UpdS.setCell (fun i => i = b) ⟨b, 1, none⟩ _ _ rfl)⟩
    · simp only [if_neg hc1, List.length_cons, Nat.add_sub_cancel] at hst
      have HS : Hid (StrAt ((w.setCell ⟨b, 0, none⟩ (.slice (some ⟨bb, oo + 1, none⟩) ls.length (c - 1))).setCell ⟨b, 1, none⟩ (.int .i64 (n + 1))) b bb ((x :: ls).drop 1) (n + 1)) := by show StrAt _ _ _ _ _; simpa [Addr.add_lit] using hst
      clear hst
      go_enter Try.func46, Try.ntmps46
      go_wp2
      go_ret
      exact ⟨rfl, by simpa using HS.out, (UpdS.setCell (fun i => i = b) ⟨b, 0, none⟩ _ _ rfl).trans (UpdS.setCell (fun i => i = b) ⟨b, 1, none⟩ _ _ rfl)⟩
end Go.Proofs.Ytpkoiogdkaklfaa
