/-
  The walks of the device's Write, SetHead, settle, Turn. Conditions: each theorem's own.
-/
import Derived.Test.YtpkoiogdkaklfaaDev
import Derived.Test.YtpkoiogdkaklfaaLast
namespace Go.Proofs.Ytpkoiogdkaklfaa
open Go.RowKit
set_option linter.unusedVariables false
set_option linter.unusedSimpArgs false

section
variable {w w' : World} {p : Nat → Prop} {b bl bt s : Nat} {las lat : List (List Int)} {hd : List Int}

theorem DevAt.putLater (h : DevAt w p b bl bt s las lat hd) {i : Nat} (hi : i < las.length) {z : List Int} (hz : z.length = 20 ∧ Oct z) {s2 : Nat} (hs : s2 ≤ s + 1) (hu : UpdS (fun j => j = bt) w w')
    (hm : CMap Try.prog 3 p w' bt s2 (fun k => if k = (i : Int) then some z else latF lat k)) : DevAt w' p b bl bt (s + 1) las (lat.set i z) hd := by
  obtain ⟨s', a, c, h1, h2, h3, h4, h5, h6, h7, h8, h9, h10⟩ := h
  have hp : ∀ i, i < w.heap.size → p i → ¬ i = bt := fun i _ hi e => h3.not (by rw [← e]; exact hi)
  refine ⟨s2, a, c, h1.upd hu h8, h2.upd hu h9 hp, hm.same (fun k => latF_set (by have := h6.1; omega) (fun e => by rw [e] at hz; simp at hz) k), hs, h5.upd hu hp, h6.put hi (.inr hz), h7, h8, h9, h10⟩

theorem DevAt.delLater (h : DevAt w p b bl bt s las lat hd) {i : Nat} (hi : i < las.length) {s2 : Nat} (hs : s2 ≤ s) (hu : UpdS (fun j => j = bt) w w')
    (hm : CMap Try.prog 3 p w' bt s2 (fun k => if k = (i : Int) then none else latF lat k)) : DevAt w' p b bl bt s las (lat.set i []) hd := by
  obtain ⟨s', a, c, h1, h2, h3, h4, h5, h6, h7, h8, h9, h10⟩ := h
  have hp : ∀ i, i < w.heap.size → p i → ¬ i = bt := fun i _ hi e => h3.not (by rw [← e]; exact hi)
  exact ⟨s2, a, c, h1.upd hu h8, h2.upd hu h9 hp, hm.same (fun k => latF_del (by have := h6.1; omega) k), hs, h5.upd hu hp, h6.put hi (.inl rfl), h7, h8, h9, h10⟩

theorem DevAt.putLast (h : DevAt w p b bl bt s las lat hd) {i : Nat} (hi : i < las.length) {z : List Int} (hz : z.length = 20 ∧ Oct z) (hu : UpdS (fun j => j = bl) w w')
    (hm : CMap Try.prog 3 p w' bl las.length (fun k => if k = (i : Int) then some z else lastF las k)) : DevAt w' p b bl bt s (las.set i z) lat hd := by
  obtain ⟨s', a, c, h1, h2, h3, h4, h5, h6, h7, h8, h9, h10⟩ := h
  have hp : ∀ i, i < w.heap.size → p i → ¬ i = bl := fun i _ hi e => h2.not (by rw [← e]; exact hi)
  refine ⟨s', a, c, h1.upd hu h7, ?_, h3.upd hu (Ne.symm h9) hp, h4, h5.upd hu hp, h6.lasts hi hz, h7, h8, h9, h10⟩
  rw [List.length_set]
  exact hm.same (fun k => lastF_set hi z k)

theorem DevAt.setHead (h : DevAt w p b bl bt s las lat hd) {v : Value} {hd' : List Int} (hv : RdV (Value.int .u8) 0 p w v hd') (ho : Oct hd') (hl : hd'.length ≤ 1000000) : DevAt (w.setCell ⟨b, 2, none⟩ v) p b bl bt s las lat hd' := by
  obtain ⟨s', a, c, h1, h2, h3, h4, h5, h6, h7, h8, h9, h10⟩ := h
  have hu := upd_one w b 2 v
  have hp : ∀ i, i < w.heap.size → p i → ¬ i = b := fun i _ hi e => h10 (by rw [← e]; exact hi)
  obtain ⟨a', c', rfl⟩ := hv.shape
  exact ⟨s', a', c', h1.set 2 _, h2.upd hu (Ne.symm h7) hp, h3.upd hu (Ne.symm h8) hp, h4, hv.upd hu hp, h6.head ho hl, h7, h8, h9, h10⟩
end

/-- what is wrong with a Write -/
def writeE (las : List (List Int)) (k : Int) (n : Nat) : Int := if 0 ≤ k ∧ k < las.length then if n = 16 then 0 else 2 else 4
/-- what becomes of it -/
def writeL (las lat : List (List Int)) (k : Int) (zs : List Int) : List (List Int) := if writeE las k zs.length = 0 then lat.set k.toNat (zs ++ le 4 (chk 0 zs : Nat)) else lat


set_option maxHeartbeats 1000000 in
theorem dwrite_any (w : World) (p : Nat → Prop) (b bl bt s : Nat) (las lat : List (List Int)) (hd : List Int) (h : DevAt w p b bl bt s las lat hd) (k : Int) (hk : (Lit.int .i64 k).wf = true) (v : Value) (zs : List Int) (B : Nat) (hv : Rd .u8 B w v zs) (ho : Oct zs) (hs : s < 1000) (hp : ∀ i, w.heap.size ≤ i → p i) :
    Calls Try.prog 19 #[.pointer (some ⟨b, 0, none⟩), .int .i64 k, v] w fun e w' => e = .returned (.int .i64 (writeE las k zs.length)) ∧ DevAt w' p b bl bt (s + 1) las (writeL las lat k zs) hd ∧ UpdS (fun i => i = bt) w w' := by
  have hc := dhas_any w p b bl bt s las lat hd h k hk
  have H : Hid (DevAt w p b bl bt s las lat hd) := h
  have h' := h
  obtain ⟨s', a, c, h1, -, h2, h3, -⟩ := h
  obtain ⟨⟨c0, c1, c2⟩, -⟩ := h1.three
  have hlm := hv.len
  have hv' := hv
  obtain ⟨av, cv, rfl, -⟩ := hv
  by_cases hin : 0 ≤ k ∧ k < las.length
  · rw [decide_eq_true hin] at hc
    obtain ⟨i, rfl⟩ := Int.eq_ofNat_of_zero_le hin.1
    have hi : i < las.length := by omega
    by_cases h16 : zs.length = 16
    · have E : Hid (writeE las i zs.length = 0 ∧ writeL las lat i zs = lat.set i (zs ++ le 4 (chk 0 zs : Nat))) := by
        have e : writeE las i zs.length = 0 := by unfold writeE; rw [if_pos hin, if_pos h16]
        exact ⟨e, by unfold writeL; rw [if_pos e]; rfl⟩
      rw [E.out.1, E.out.2]
      have HZ : Hid ((zs ++ le 4 (chk 0 zs : Nat)).length = 20 ∧ Oct (zs ++ le 4 (chk 0 zs : Nat))) := ⟨by rw [List.length_append, le_length, h16], oct_seal ho⟩
      rw [h16] at hv' ⊢
      have hsl := seal_yes av cv zs B w hv' ho
      generalize zs ++ le 4 (chk 0 zs : Nat) = Z at hsl HZ
      have c1' : ∀ w', Grow w w' → w'.cell? ⟨b, 1, none⟩ = some (.map (some bt)) := fun w' hg => by rw [Below.cell (p := ⟨b, 1, none⟩) hg h1.lt]; exact c1
      have HM : Hid (CMap Try.prog 3 p w bt s' (latF lat) ∧ s' ≤ s) := ⟨h2, h3⟩
      have HI : Hid (i < las.length) := hi
      clear h1 h2 h3 hin hv' h16 E h' c0 c1 c2 ho hlm hi
      go_enter Try.func19, Try.ntmps19
      go_wp2_with fail
      refine hc.mono ?_
      rintro e w1 ⟨rfl, rfl⟩
      go_wp2_with fail
      refine hsl.mono ?_
      rintro e w1 ⟨v1, rfl, ho1, hb1⟩
      have c1'' := c1' w1 hb1
      obtain ⟨w2, hrun, hm2, hu2, hsz2⟩ := (HM.out.1.grow hb1).put Try.underlying3 Try.underlying62 (by have := HM.out.2; omega) (k := i) (ho1.v.rd.mono (fun j _ hj => hp j hj)) hk
      have HM2 : Hid (CMap Try.prog 3 p w2 bt (if (latF lat i).isSome then s' else s' + 1) (fun k => if k = (i : Int) then some Z else latF lat k) ∧ UpdS (fun i => i = bt) w1 w2) := ⟨hm2, hu2⟩
      have HD1 : Hid (DevAt w1 p b bl bt s las lat hd ∧ Grow w w1) := ⟨H.out.grow hb1, hb1⟩
      clear hm2 hu2 ho1 hb1 c1' hc hsl
      go_wp2
      go_ret
      refine ⟨rfl, HD1.out.1.putLater HI.out HZ.out ?_ HM2.out.2 HM2.out.1, (HD1.out.2.s).trans HM2.out.2⟩
      have := HM.out.2
      split <;> omega
    · have E : Hid (writeE las i zs.length = 2 ∧ writeL las lat i zs = lat) := by
        have e : writeE las i zs.length = 2 := by unfold writeE; rw [if_pos hin, if_neg h16]
        exact ⟨e, by unfold writeL; rw [e]; rfl⟩
      rw [E.out.1, E.out.2]
      have hsl := seal_no av zs.length cv w h16 hlm
      clear h1 h2 h3 hin hv' h16 E h' c0 c1 c2 ho hlm hi
      go_enter Try.func19, Try.ntmps19
      go_wp2_with fail
      refine hc.mono ?_
      rintro e w1 ⟨rfl, rfl⟩
      go_wp2_with fail
      refine hsl.mono ?_
      rintro e w1 ⟨rfl, rfl⟩
      go_wp2
      go_ret
      exact ⟨rfl, H.out.more (by omega), UpdS.refl _ _⟩
  · rw [decide_eq_false hin] at hc
    have E : Hid (writeE las k zs.length = 4 ∧ writeL las lat k zs = lat) := by
      have e : writeE las k zs.length = 4 := by unfold writeE; rw [if_neg hin]
      exact ⟨e, by unfold writeL; rw [e]; rfl⟩
    rw [E.out.1, E.out.2]
    clear h1 h2 h3 hin hv' E h' c0 c1 c2 ho hlm
    go_enter Try.func19, Try.ntmps19
    go_wp2_with fail
    refine hc.mono ?_
    rintro e w1 ⟨rfl, rfl⟩
    go_wp2
    go_ret
    exact ⟨rfl, H.out.more (by omega), UpdS.refl _ _⟩

set_option maxHeartbeats 1000000 in
theorem dsethead_any (w : World) (p : Nat → Prop) (b bl bt s : Nat) (las lat : List (List Int)) (hd : List Int) (h : DevAt w p b bl bt s las lat hd) (v : Value) (zs : List Int) (B : Nat) (hv : Rd .u8 B w v zs) (ho : Oct zs) (hl : zs.length ≤ 1000000) (hp : ∀ i, w.heap.size ≤ i → p i) :
    Calls Try.prog 29 #[.pointer (some ⟨b, 0, none⟩), v] w fun e w' => e = .returned (.tuple #[]) ∧ DevAt w' p b bl bt s las lat zs ∧ UpdS (fun i => i = b) w w' := by
  have H : Hid (DevAt w p b bl bt s las lat hd) := h
  have hc := clone_any v zs B w hv hl
  obtain ⟨s', a, c, h1, -⟩ := h
  go_enter Try.func29, Try.ntmps29
  go_wp2_with fail
  refine hc.mono ?_
  rintro e w1 ⟨v1, rfl, ho1, hb1⟩
  obtain ⟨⟨c0, c1, c2⟩, f0, f1, f2⟩ := (h1.grow hb1).three
  have HD : Hid (DevAt (w1.setCell ⟨b, 2, none⟩ v1) p b bl bt s las lat zs ∧ UpdS (fun i => i = b) w (w1.setCell ⟨b, 2, none⟩ v1)) :=
    ⟨(H.out.grow hb1).setHead (ho1.v.rd.mono (fun j _ hj => hp j hj)) ho hl, (Grow.s hb1).trans (upd_one w1 b 2 v1)⟩
  obtain ⟨a1, n1, rfl⟩ := ho1.shape
  clear h1 c0 c1 f0 f1 ho1 hb1
  go_wp2
  go_end0
  exact ⟨rfl, HD.out.1, HD.out.2⟩

set_option maxHeartbeats 2000000 in
theorem dsettle_any (w : World) (p : Nat → Prop) (b bl bt s : Nat) (las lat : List (List Int)) (hd : List Int) (h : DevAt w p b bl bt s las lat hd) (i : Nat) (hi : lat.getD i [] ≠ []) (kept : Bool) :
    Calls Try.prog 44 #[.pointer (some ⟨b, 0, none⟩), .int .i64 i, .bool kept] w fun e w' => e = .returned (.tuple #[]) ∧ DevAt w' p b bl bt s (if kept then las.set i (lat.getD i []) else las) (lat.set i []) hd ∧ UpdS (fun i => i = bl ∨ i = bt) w w' ∧ w'.heap.size = w.heap.size := by
  have H : Hid (DevAt w p b bl bt s las lat hd) := h
  have ok := h.ok
  have hlt : i < las.length := by
    rw [← ok.1]
    by_cases hi' : i < lat.length
    · exact hi'
    · exact absurd (by simp [List.getD, List.getElem?_eq_none (Nat.le_of_not_lt hi')]) hi
  have hk : (Lit.int .i64 (i : Int)).wf = true := wfI (by have := ok.2.2.2.2.2; omega)
  have hbd := h.lt
  obtain ⟨s', a, c, h1, h2, h3, h4, -⟩ := h
  obtain ⟨⟨c0, c1, c2⟩, -⟩ := h1.three
  have HS : Hid (i < las.length ∧ s' ≤ s) := ⟨hlt, h4⟩
  have Hne : Hid (b ≠ bl ∧ b ≠ bt ∧ bl ≠ bt) := ⟨hbd.2.2.2.1, hbd.2.2.2.2.1, hbd.2.2.2.2.2⟩
  cases kept with
  | false =>
    obtain ⟨w2, s2, hrun, hm2, hs2, hu2, hsz2⟩ := h3.del Try.underlying3 Try.underlying62 0 (k := i) hk
    have HM : Hid (DevAt w2 p b bl bt s las (lat.set i []) hd ∧ UpdS (fun i => i = bl ∨ i = bt) w w2 ∧ w2.heap.size = w.heap.size) :=
      ⟨H.out.delLater hlt (by omega) hu2 hm2, hu2.mono (fun _ h => .inr h), hsz2⟩
    clear h1 h2 h3 h4 hm2 hu2 hsz2 hs2 hlt ok hi
    go_enter Try.func44, Try.ntmps44
    go_wp2
    go_end0
    exact ⟨rfl, HM.out⟩
  | true =>
    obtain ⟨a1, n1, hall, hrd⟩ := h3.look_all Try.underlying3 Try.underlying62 zeroBS hk (latF_in hi)
    have hgd : Grow w w.drew := (Grow.refl w).drew
    obtain ⟨w1, hrun1, hm1, hu1, hsz1⟩ := (h2.grow hgd).put Try.underlying3 Try.underlying62 (by have := ok.2.2.2.2.2; omega) (k := i) (hrd.grow hgd) hk
    rw [lastF_in hlt] at hm1
    have D1 : DevAt w1 p b bl bt s (las.set i (lat.getD i [])) lat hd := (H.out.grow hgd).putLast hlt (ok.2.2.1 i hi) hu1 hm1
    have hp : ∀ i, i < w.drew.heap.size → p i → ¬ i = bl := fun i _ hi e => h2.not (by rw [← e]; exact hi)
    obtain ⟨w2, s2, hrun2, hm2, hs2, hu2, hsz2⟩ := ((h3.grow hgd).upd hu1 (Ne.symm Hne.out.2.2) hp).del Try.underlying3 Try.underlying62 0 (k := i) hk
    have HM : Hid (DevAt w2 p b bl bt s (las.set i (lat.getD i [])) (lat.set i []) hd ∧ UpdS (fun i => i = bl ∨ i = bt) w w2 ∧ w2.heap.size = w.heap.size) :=
      ⟨D1.delLater (by simpa using hlt) (by omega) hu2 hm2, ((hgd.s).trans (hu1.mono (fun _ h => .inl h))).trans (hu2.mono (fun _ h => .inr h)), by rw [hsz2, hsz1]; rfl⟩
    have c0' : ∀ w', Grow w.drew w' → w'.cell? ⟨b, 0, none⟩ = some (.map (some bl)) := fun w' hg => by rw [Below.cell (p := ⟨b, 0, none⟩) (hgd.trans hg) hbd.1]; exact c0
    have c1' : ∀ w', Grow w.drew w' → w'.cell? ⟨b, 1, none⟩ = some (.map (some bt)) := fun w' hg => by rw [Below.cell (p := ⟨b, 1, none⟩) (hgd.trans hg) hbd.1]; exact c1
    have c1'' : w1.cell? ⟨b, 1, none⟩ = some (.map (some bt)) := by rw [hu1.cell (p := ⟨b, 1, none⟩) (by exact hbd.1) Hne.out.1]; exact c1
    have hlk : ∀ w', Grow w.drew w' → (Instr.lookup 62 (.map (some bt)) (.int .i64 i) false).run Try.prog w' = .ok (.slice a1 (lat.getD i []).length n1) w' := fun w' hg => (hall w' (hgd.trans hg)).2
    generalize (lat.getD i []).length = L at hlk hrun1
    simp only [if_true]
    clear h1 h2 h3 h4 hm1 hu1 hsz1 hm2 hu2 hsz2 hs2 hlt ok hi D1 hp c0 c1 c2 hall hrd hbd
    go_enter Try.func44, Try.ntmps44
    go_wp2
    refine wp_region_last 11 (by kernel_rfl) [(0, false), (1, false), (2, false), (3, false), (4, false), (5, false), (6, false), (7, false), (8, false), (9, false), (10, false)] (by kernel_rfl) (by kernel_rfl) rfl (fun _ _ d _ _ h => by cases d <;> exact h) ?_
    simp only [inOrder, List.filterMap_cons, List.filterMap_nil, List.getElem?_toArray, List.getElem?_cons_zero, List.getElem?_cons_succ, Option.map_some]
    repeat (first
      | (refine wpS_move rfl ?_; simp only [Act.eval, Act.put, Array.getD_eq_getD_getElem?, List.getElem?_toArray, List.getElem?_cons_zero, List.getElem?_cons_succ, Option.getD_some, List.setIfInBounds_toArray, List.set_cons_zero, List.set_cons_succ])
      | (refine wpS_assign rfl ?_; simp only [Act.eval, Act.put, Array.getD_eq_getD_getElem?, List.getElem?_toArray, List.getElem?_cons_zero, List.getElem?_cons_succ, Option.getD_some, List.setIfInBounds_toArray, List.set_cons_zero, List.set_cons_succ])
      | (refine wpS_read (v := ?_) rfl ?_ ?_; rotate_left; (focus (intro w' hG; have k0 := c0' w' hG; have k1 := c1' w' hG; have k2 := hlk w' hG; go_simp; try (with_reducible rfl))); simp only [Act.put, List.setIfInBounds_toArray, List.set_cons_zero, List.set_cons_succ])
      | (refine wpS_skip rfl ?_; simp only [Act.put, List.setIfInBounds_toArray, List.set_cons_zero, List.set_cons_succ]))
    refine wpS_nil ?_
    refine last_store (w' := w1) rfl rfl (by go_simp) ?_
    simp only [Act.put, List.setIfInBounds_toArray, List.set_cons_zero, List.set_cons_succ]
    clear c0' c1' hlk hrun1
    go_wp2
    go_end0
    exact ⟨rfl, HM.out⟩
end Go.Proofs.Ytpkoiogdkaklfaa
