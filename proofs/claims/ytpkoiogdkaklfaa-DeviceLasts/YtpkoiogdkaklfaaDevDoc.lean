/-
  The document's device: lists of cells; the walks of with, Read, Lasting, Write. Conditions: each theorem's own.
-/
import Derived.Test.YtpkoiogdkaklfaaDev
import Derived.Test.YtpkoiogdkaklfaaDevWr
import Derived.Test.YtpkoiogdkaklfaaCelRPut
import Derived.Test.YtpkoiogdkaklfaaCelSplit
import Derived.Test.YtpkoiogdkaklfaaLast
import Derived.Test.YtpkoiogdkaklfaaEnds
namespace Go.Proofs.Ytpkoiogdkaklfaa
open Go.RowKit
set_option linter.unusedVariables false
set_option linter.unusedSimpArgs false

/-- A slice of rows of bytes, all in blocks of p. -/
def RowsV (p : Nat → Prop) (w : World) (v : Value) (rows : List (List Int)) : Prop :=
  ∃ ss, RdV slF sl0 p w v ss ∧ ss.length = rows.length ∧ ∀ i, i < rows.length → RdV (Value.int .u8) 0 p w (slF (ss.getD i sl0)) (rows.getD i [])

section
variable {p q : Nat → Prop} {w w' : World} {v : Value} {rows : List (List Int)}
theorem RowsV.upd {S : Nat → Prop} (h : RowsV p w v rows) (hu : UpdS S w w') (hS : ∀ i, i < w.heap.size → p i → ¬ S i) : RowsV p w' v rows := by
  obtain ⟨ss, h1, h2, h3⟩ := h
  exact ⟨ss, h1.upd hu hS, h2, fun i hi => (h3 i hi).upd hu hS⟩
theorem RowsV.grow (h : RowsV p w v rows) (hu : Grow w w') : RowsV p w' v rows := h.upd (S := fun _ => False) hu.s (fun _ _ _ f => f)
theorem RowsV.mono (h : RowsV p w v rows) (hp : ∀ i, i < w.heap.size → p i → q i) : RowsV q w v rows := by
  obtain ⟨ss, h1, h2, h3⟩ := h
  exact ⟨ss, h1.mono hp, h2, fun i hi => (h3 i hi).mono hp⟩
theorem RowsV.shape (h : RowsV p w v rows) : ∃ a c, v = .slice a rows.length c ∧ rows.length ≤ c ∧ c ≤ maxLen := by
  obtain ⟨ss, h1, h2, h3⟩ := h
  obtain ⟨a, c, rfl⟩ := h1.shape
  have := h1.caps
  exact ⟨a, c, by rw [h2], by omega, by omega⟩
theorem RowsV.at {a : Option Addr} {n c : Nat} (h : RowsV p w (.slice a n c) rows) {i : Nat} (hi : i < rows.length) :
    ∃ b o ai ci, a = some ⟨b, o, none⟩ ∧ b < w.heap.size ∧ w.cell? ⟨b, o + i, none⟩ = some (.slice ai (rows.getD i []).length ci) ∧ RdV (Value.int .u8) 0 p w (.slice ai (rows.getD i []).length ci) (rows.getD i []) := by
  obtain ⟨ss, h1, h2, h3⟩ := h
  obtain ⟨b, o, e, -, hc⟩ := h1.addr (by omega)
  have hci := hc i (by omega)
  have hr := h3 i hi
  have hcaps : (ss.getD i sl0).2.1 = (rows.getD i []).length := by
    have := RdV.caps (a := (ss.getD i sl0).1) (n := (ss.getD i sl0).2.1) (c := (ss.getD i sl0).2.2) hr
    exact this.1
  have e2 : slF (ss.getD i sl0) = .slice (ss.getD i sl0).1 (rows.getD i []).length (ss.getD i sl0).2.2 := by rw [← hcaps]; rfl
  rw [e2] at hci hr
  exact ⟨b, o, _, _, e, World.block_lt_of_cell? _ _ hci, hci, hr⟩
end

/-- the document's device, by its three parts -/
def DocV (p : Nat → Prop) (w : World) (lv tv hv : Value) (las lat : List (List Int)) (hd : List Int) : Prop := RowsV p w lv las ∧ RowsV p w tv lat ∧ RdV (Value.int .u8) 0 p w hv hd
section
variable {p q : Nat → Prop} {w w' : World} {lv tv hv : Value} {las lat : List (List Int)} {hd : List Int}
theorem DocV.upd {S : Nat → Prop} (h : DocV p w lv tv hv las lat hd) (hu : UpdS S w w') (hS : ∀ i, i < w.heap.size → p i → ¬ S i) : DocV p w' lv tv hv las lat hd := ⟨h.1.upd hu hS, h.2.1.upd hu hS, h.2.2.upd hu hS⟩
theorem DocV.grow (h : DocV p w lv tv hv las lat hd) (hu : Grow w w') : DocV p w' lv tv hv las lat hd := ⟨h.1.grow hu, h.2.1.grow hu, h.2.2.grow hu⟩
theorem DocV.mono (h : DocV p w lv tv hv las lat hd) (hp : ∀ i, i < w.heap.size → p i → q i) : DocV q w lv tv hv las lat hd := ⟨h.1.mono hp, h.2.1.mono hp, h.2.2.mono hp⟩
end

theorem Try.infoBS : (Try.prog.info? 29).map (fun i => (i.zero, i.size, i.bytes)) = some (some (.slice none 0 0), 1, 24) := by kernel_rfl

set_option maxHeartbeats 1000000 in
theorem qwith_any (p : Nat → Prop) (lv bv : Value) (rows : List (List Int)) (z : List Int) (i : Nat) (w : World) (h : RowsV p w lv rows) (hb : RdV (Value.int .u8) 0 p w bv z) (hi : i < rows.length) (hl : rows.length ≤ 1024) (hp : ∀ i, w.heap.size ≤ i → p i) :
    Calls Try.prog 50 #[lv, .int .i64 i, bv] w fun e w' => ∃ v', e = .returned v' ∧ RowsV p w' v' (rows.set i z) ∧ Grow w w' := by
  obtain ⟨i1, hi1, hy0, hy1, hy2⟩ := info_parts Try.infoBS
  obtain ⟨ss, h1, h2, h3⟩ := h
  have hsrc := h1.src (P := Try.prog) oneS Try.underlying28
  obtain ⟨a, c, rfl⟩ := h1.shape
  obtain ⟨a', c', rfl⟩ := hb.shape
  have HR : Hid ((∀ i, i < rows.length → RdV (Value.int .u8) 0 p w (slF (ss.getD i sl0)) (rows.getD i [])) ∧ RdV (Value.int .u8) 0 p w (.slice a' z.length c') z ∧ ss.length = rows.length ∧ i < rows.length) := ⟨h3, hb, h2, hi⟩
  have hsl : ss.length ≤ 1024 := by omega
  have hi' : (i : Int) < (ss.length : Int) := by omega
  have hi2 : i < ss.length := by omega
  clear h1 hb h3 h2 hi hl
  go_enter Try.func50, Try.ntmps50
  go_wp2_with (at_builtin; refine wpList_appV (f := slF) (d := sl0) (p := fun _ => False) rfl (.tmp 8) (.tmp 9) 28 28 rfl i1 (.slice none 0 0) 24 Try.underlying28 hi1 hy0 hy1 hy2 rfl rfl rfl (OwnV.nil _ _ _ _ _) hsrc (by simp only [maxLen, List.length_nil]; omega) (by simp only [List.length_nil]; omega) ?_)
  intro v1 w1 ho1 hu1
  have ho1' : OwnV slF sl0 (fun i => i = w.heap.size) w1 v1 ss := ho1
  have hg1 : Grow w w1 := UpdS.new (Grow.refl w) hu1 (fun i hi => hi.elim)
  obtain ⟨g, o, n, rfl, hgb, hgl, hnc, hcm, hcell, hfz, hset⟩ := ho1'.row (j := i) hi2
  have hO := hset (a', z.length, c')
  have HW : Hid (RowsV p (w1.setCell ⟨g, o + i, none⟩ (.slice a' z.length c')) (.slice (some ⟨g, o, none⟩) ss.length n) (rows.set i z) ∧ Grow w (w1.setCell ⟨g, o + i, none⟩ (.slice a' z.length c'))) := by
    obtain ⟨r1, r2, r3, r4⟩ := HR.out
    have hgw : w.heap.size ≤ g := by have : g = w.heap.size := hgb; omega
    have hgg : Grow w (w1.setCell ⟨g, o + i, none⟩ (.slice a' z.length c')) := UpdS.new hg1 (UpdS.setCell (fun j => j = g) ⟨g, o + i, none⟩ _ w1 rfl) (fun j hj => by omega)
    refine ⟨⟨ss.set i (a', z.length, c'), hO.rd.mono (fun j _ hj => hp j (by omega)), by simp [r3], fun j hj => ?_⟩, hgg⟩
    rw [List.length_set] at hj
    rw [getD_set _ _ _ _ _ hi2, getD_set _ _ _ _ _ r4]
    by_cases e : j = i
    · rw [if_pos e, if_pos e]; exact r2.grow hgg
    · rw [if_neg e, if_neg e]; exact (r1 j hj).grow hgg
  have hcm' : n ≤ 9223372036854775807 := hcm
  generalize slF (ss.getD i sl0) = u at hcell
  clear ho1 hu1 ho1' hg1 hset hO hcm HR hgb
  go_wp2
  go_ret
  exact ⟨_, rfl, HW.out.1, HW.out.2⟩

set_option maxHeartbeats 2000000 in
theorem qlasting_any (p : Nat → Prop) (lv tv hv : Value) (las lat : List (List Int)) (hd : List Int) (w : World) (h : DocV p w lv tv hv las lat hd) (ok : DevOk las lat hd) (k : Int) (hk : (Lit.int .i64 k).wf = true) :
    Calls Try.prog 26 #[.agg #[lv, tv, hv], .int .i64 k] w fun e w' => ∃ v', e = .returned (.tuple #[v', .int .i64 (lastingL las k).2]) ∧ Rd .u8 w'.heap.size w' v' (lastingL las k).1 ∧ Grow w w' := by
  have h' := h.1
  obtain ⟨a, c, rfl, hc1, hc2⟩ := h.1.shape
  have bk := bounds_i64 hk
  have hlb := ok.2.2.2.2.2
  unfold maxLen at hc2
  by_cases h0 : k < 0
  · have E : Hid (lastingL las k = ([], 4)) := if_neg (by omega)
    rw [E.out]
    clear h h' ok
    go_enter Try.func26, Try.ntmps26
    go_wp2
    go_ret2
    exact ⟨_, rfl, Rd.nil _ _ _ _ _ (Nat.zero_le _), (Grow.refl w).alloc _⟩
  · obtain ⟨i, rfl⟩ := Int.eq_ofNat_of_zero_le (show 0 ≤ k by omega)
    by_cases hin : i < las.length
    · have E : Hid (lastingL las i = opened (las.getD i [])) := by show lastingL las i = _; unfold lastingL; rw [if_pos (by omega)]; rfl
      rw [E.out]
      obtain ⟨hl, ho⟩ := ok.2.1 i hin
      have hg : ∀ o, Grow w (w.alloc o) := fun o => (Grow.refl w).alloc o
      obtain ⟨b1, o1, ai, ci, rfl, hb1, hcell, hr⟩ := h'.at hin
      have hcell' : ∀ o, (w.alloc o).cell? ⟨b1, o1 + i, none⟩ = some (.slice ai (las.getD i []).length ci) := fun o => by rw [Below.cell (p := ⟨b1, o1 + i, none⟩) (hg o) hb1]; exact hcell
      have hop := fun o => ropen_any _ _ _ (w.alloc o) (hr.grow (hg o)).i ho (by omega)
      rw [hl] at hop hcell'
      generalize opened (las.getD i []) = T at hop
      obtain ⟨T1, T2⟩ := T
      have hin' : ¬ (las.length : Int) ≤ (i : Int) := by omega
      clear h h' ok E hcell hr hl ho hlb
      go_enter Try.func26, Try.ntmps26
      go_wp2_with fail
      refine (hop _).mono ?_
      rintro e w1 ⟨v1, rfl, hr1, hb1⟩
      go_wp2
      go_ret2
      exact ⟨_, rfl, hr1, (hg _).trans hb1⟩
    · have E : Hid (lastingL las i = ([], 4)) := if_neg (by omega)
      rw [E.out]
      have hin' : (las.length : Int) ≤ (i : Int) := by omega
      clear h h' ok
      go_enter Try.func26, Try.ntmps26
      go_wp2
      go_ret2
      exact ⟨_, rfl, Rd.nil _ _ _ _ _ (Nat.zero_le _), (Grow.refl w).alloc _⟩

set_option maxHeartbeats 2000000 in
theorem qread_any (p : Nat → Prop) (lv tv hv : Value) (las lat : List (List Int)) (hd : List Int) (w : World) (h : DocV p w lv tv hv las lat hd) (ok : DevOk las lat hd) (k : Int) (hk : (Lit.int .i64 k).wf = true) :
    Calls Try.prog 25 #[.agg #[lv, tv, hv], .int .i64 k] w fun e w' => ∃ v', e = .returned (.tuple #[v', .int .i64 (readL las lat k).2]) ∧ Rd .u8 w'.heap.size w' v' (readL las lat k).1 ∧ Grow w w' := by
  have h' := h.1
  have h2' := h.2.1
  obtain ⟨a, c, rfl, hc1, hc2⟩ := h.1.shape
  obtain ⟨at2, ct, rfl, hd1, hd2⟩ := h.2.1.shape
  have bk := bounds_i64 hk
  have hlb := ok.2.2.2.2.2
  have hll := ok.1
  unfold maxLen at hc2 hd2
  by_cases h0 : k < 0
  · have E : Hid (readL las lat k = ([], 4)) := by
      show readL las lat k = _
      unfold readL
      rw [if_neg (by omega)]
      exact if_neg (by omega)
    rw [E.out]
    clear h h' ok h2' hll
    go_enter Try.func25, Try.ntmps25
    go_wp2
    go_ret2
    exact ⟨_, rfl, Rd.nil _ _ _ _ _ (Nat.zero_le _), (Grow.refl w).alloc _⟩
  · obtain ⟨i, rfl⟩ := Int.eq_ofNat_of_zero_le (show 0 ≤ k by omega)
    by_cases hin : i < las.length
    · have hg : ∀ o, Grow w (w.alloc o) := fun o => (Grow.refl w).alloc o
      obtain ⟨b2, o2, aj, cj, rfl, hb2, hcell2, hr2⟩ := h2'.at (show i < lat.length by omega)
      have hcell2' : ∀ o, (w.alloc o).cell? ⟨b2, o2 + i, none⟩ = some (.slice aj (lat.getD i []).length cj) := fun o => by rw [Below.cell (p := ⟨b2, o2 + i, none⟩) (hg o) hb2]; exact hcell2
      have hin' : ¬ (las.length : Int) ≤ (i : Int) := by omega
      have hin2 : (i : Int) < (lat.length : Int) := by omega
      have hlb2 : (lat.length : Int) ≤ 1024 := by omega
      by_cases hl2 : lat.getD i [] = []
      · have E : Hid (readL las lat i = opened (las.getD i [])) := by
          show readL las lat i = _
          unfold readL
          rw [if_neg (fun hh => hh.1 (by simpa using hl2))]
          unfold lastingL
          rw [if_pos (by omega)]; rfl
        rw [E.out]
        obtain ⟨hl, ho⟩ := ok.2.1 i hin
        obtain ⟨b1, o1, ai, ci, rfl, hb1, hcell, hr⟩ := h'.at hin
        have hcell' : ∀ o, (w.alloc o).cell? ⟨b1, o1 + i, none⟩ = some (.slice ai (las.getD i []).length ci) := fun o => by rw [Below.cell (p := ⟨b1, o1 + i, none⟩) (hg o) hb1]; exact hcell
        have hop := fun o => ropen_any _ _ _ (w.alloc o) (hr.grow (hg o)).i ho (by omega)
        rw [hl] at hop hcell'
        rw [hl2] at hcell2'
        simp only [List.length_nil] at hcell2'
        generalize opened (las.getD i []) = T at hop
        obtain ⟨T1, T2⟩ := T
        clear h h' ok E hcell hr hl ho hlb h2' hll hr2 hcell2 hl2
        go_enter Try.func25, Try.ntmps25
        go_wp2_with fail
        refine (hop _).mono ?_
        rintro e w1 ⟨v1, rfl, hr1, hb1⟩
        go_wp2
        go_ret2
        exact ⟨_, rfl, hr1, (hg _).trans hb1⟩
      · have E : Hid (readL las lat i = opened (lat.getD i [])) := by
          show readL las lat i = _
          unfold readL
          rw [if_pos ⟨by simpa using hl2, by omega, by omega⟩]; rfl
        rw [E.out]
        obtain ⟨hl, ho⟩ := ok.2.2.1 i hl2
        have hop := fun o => ropen_any _ _ _ (w.alloc o) (hr2.grow (hg o)).i ho (by omega)
        rw [hl] at hop hcell2'
        generalize opened (lat.getD i []) = T at hop
        obtain ⟨T1, T2⟩ := T
        clear h h' ok E hl ho hlb h2' hll hr2 hcell2 hl2
        go_enter Try.func25, Try.ntmps25
        go_wp2_with fail
        refine (hop _).mono ?_
        rintro e w1 ⟨v1, rfl, hr1, hb1⟩
        go_wp2
        go_ret2
        exact ⟨_, rfl, hr1, (hg _).trans hb1⟩
    · have E : Hid (readL las lat i = ([], 4)) := by
        show readL las lat i = _
        unfold readL
        rw [if_neg (by omega)]
        exact if_neg (by omega)
      rw [E.out]
      have hin' : (las.length : Int) ≤ (i : Int) := by omega
      clear h h' ok h2' hll
      go_enter Try.func25, Try.ntmps25
      go_wp2
      go_ret2
      exact ⟨_, rfl, Rd.nil _ _ _ _ _ (Nat.zero_le _), (Grow.refl w).alloc _⟩

/-- a variable of the document's device, loaded -/
theorem load_D (b : Nat) (x y z : Value) (w : World) (h : VarAt w b [x, y, z]) : (loadVar 31 ⟨b, 0, none⟩).run Try.prog w = .ok (.agg #[x, y, z]) w := by
  obtain ⟨⟨h0, h1, h2⟩, -⟩ := h.three
  go_simp

end Go.Proofs.Ytpkoiogdkaklfaa
