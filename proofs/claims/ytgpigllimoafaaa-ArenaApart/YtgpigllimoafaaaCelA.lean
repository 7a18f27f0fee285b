/-
  A sector's and a page's bytes as lists of numbers; a copy into the middle of a row. Conditions: each theorem's own.
  The walks of cell's small calls (own, fits, Zero, Seal, Open) and of the document's Fill. Conditions: each theorem's own.
  The walks of cell's Get and Put. Conditions: each theorem's own.
  The walk of the document's Fill. Conditions: the theorem's own.
  The walks of the document's Get, Put, Open. Conditions: each theorem's own.
  The walks of the document's Put and Open. Conditions: each theorem's own.
-/
import Derived.Test.YtgpigllimoafaaaLibA
import Derived.Test.YtgpigllimoafaaaCrc
import Derived.Test.YtgpigllimoafaaaEnds

/- A sector's and a page's bytes as lists of numbers; a copy into the middle of a row. Conditions: each theorem's own. -/
namespace Go.Proofs.Ytgpigllimoafaaa
open Go.RowKit
set_option linter.unusedVariables false

/-- 'Fill': so many bytes, made of any -/
def fillL (zs : List Int) (n : Nat) : List Int := (List.range n).map fun i => zs.getD (i % zs.length) 0
theorem fillL_length (zs : List Int) (n : Nat) : (fillL zs n).length = n := by simp [fillL]
theorem fillL_succ (zs : List Int) (j : Nat) : fillL zs (j + 1) = fillL zs j ++ [zs.getD (j % zs.length) 0] := by simp [fillL, List.range_succ]
theorem oct_fill {zs : List Int} (h : Oct zs) (n : Nat) : Oct (fillL zs n) := fun x hx => by
  unfold fillL at hx
  obtain ⟨i, _, rfl⟩ := List.mem_map.1 hx
  exact h.getD _

/-- what is wrong with n bytes from off on of so many -/
def fitE (l : Nat) (off n : Int) : Int := if l ≠ 32 then 2 else if off < 0 ∨ n < 0 ∨ 32 < off + n then 4 else 0
theorem fitE_form {l : Nat} (h : l ≠ 32) (off n : Int) : fitE l off n = 2 := if_pos h
theorem fitE_range {off n : Int} (h : off < 0 ∨ n < 0 ∨ 32 < off + n) : fitE 32 off n = 4 := by unfold fitE; rw [if_neg (by omega), if_pos h]
theorem fitE_ok {off n : Int} (h : ¬ (off < 0 ∨ n < 0 ∨ 32 < off + n)) : fitE 32 off n = 0 := by unfold fitE; rw [if_neg (by omega), if_neg h]
theorem fitE_cases (l : Nat) (off n : Int) : (l ≠ 32 ∧ fitE l off n = 2) ∨ (l = 32 ∧ (off < 0 ∨ n < 0 ∨ 32 < off + n) ∧ fitE l off n = 4) ∨ (l = 32 ∧ 0 ≤ off ∧ 0 ≤ n ∧ off + n ≤ 32 ∧ fitE l off n = 0) := by
  by_cases h : l = 32
  · subst h
    by_cases h2 : off < 0 ∨ n < 0 ∨ 32 < off + n
    · exact .inr (.inl ⟨rfl, h2, fitE_range h2⟩)
    · exact .inr (.inr ⟨rfl, by omega, by omega, by omega, fitE_ok h2⟩)
  · exact .inl ⟨h, fitE_form h _ _⟩

/-- what Open tells -/
def opened (zs : List Int) : List Int × Int := if zs.length = 20 then taken zs else ([], 2)
/-- what Get tells -/
def got (zs : List Int) (off n : Int) : List Int × Int := if fitE zs.length off n = 0 then ((zs.drop off.toNat).take n.toNat, 0) else ([], fitE zs.length off n)
/-- a list with others in its middle -/
def midL {α : Type} (zs : List α) (l : Nat) (ys : List α) : List α := zs.take l ++ ys ++ zs.drop (l + ys.length)
/-- what Put tells -/
def putted (zs : List Int) (off : Int) (ys : List Int) : List Int × Int := if fitE zs.length off ys.length = 0 then (midL zs off.toNat ys, 0) else ([], fitE zs.length off ys.length)

theorem midL_length {α : Type} {zs ys : List α} {l : Nat} (h : l + ys.length ≤ zs.length) : (midL zs l ys).length = zs.length := by
  unfold midL
  simp only [List.length_append, List.length_take, List.length_drop]
  omega
theorem midL_in {α : Type} {zs ys : List α} {l : Nat} (h : l + ys.length ≤ zs.length) (d : α) {j : Nat} (h1 : l ≤ j) (h2 : j < l + ys.length) : (midL zs l ys).getD j d = ys.getD (j - l) d := by
  unfold midL
  have e1 : (zs.take l).length = l := by rw [List.length_take]; omega
  rw [List.append_assoc]
  simp only [List.getD]
  rw [List.getElem?_append_right (by omega), e1, List.getElem?_append_left (by omega)]
theorem midL_out {α : Type} {zs ys : List α} {l : Nat} (h : l + ys.length ≤ zs.length) (d : α) {j : Nat} (h1 : j < l ∨ l + ys.length ≤ j) : (midL zs l ys).getD j d = zs.getD j d := by
  unfold midL
  have e1 : (zs.take l).length = l := by rw [List.length_take]; omega
  rw [List.append_assoc]
  simp only [List.getD]
  rcases h1 with h1 | h1
  · rw [List.getElem?_append_left (by omega), List.getElem?_take, if_pos h1]
  · rw [List.getElem?_append_right (by omega), e1, List.getElem?_append_right (by omega), List.getElem?_drop]
    rw [show l + ys.length + (j - l - ys.length) = j by omega]
theorem oct_mid {zs ys : List Int} (h : Oct zs) (k : Oct ys) (l : Nat) : Oct (midL zs l ys) := ((h.take l).append k).append (h.drop _)

theorem got_oct {zs : List Int} (h : Oct zs) (off n : Int) : Oct (got zs off n).1 := by
  unfold got
  split
  · exact (h.drop _).take _
  · intro x hx; cases hx
theorem putted_oct {zs ys : List Int} (h : Oct zs) (k : Oct ys) (off : Int) : Oct (putted zs off ys).1 := by
  unfold putted
  split
  · exact oct_mid h k _
  · intro x hx; cases hx
theorem taken_oct {zs : List Int} (h : Oct zs) : Oct (taken zs).1 := by
  unfold taken
  split
  · intro x hx; cases hx
  · split
    · exact h.take _
    · intro x hx; cases hx
theorem opened_oct {zs : List Int} (h : Oct zs) : Oct (opened zs).1 := by
  unfold opened
  split
  · exact taken_oct h
  · intro x hx; cases hx

/-- a slice by its three parts: for slices of slices -/
def slF (s : Option Addr × Nat × Nat) : Value := .slice s.1 s.2.1 s.2.2
theorem oneS (s : Option Addr × Nat × Nat) : (slF s).oneCell' = true := rfl

section
variable {P : Program} {α : Type} {f : α → Value} {d : α}
/-- a new slice, empty, of a capacity -/
theorem wpList_makeV0 {w : World} {ops : Array Oper} {rest : List Oper} {o : Oper} {a : Act} {Q : Exit → Act → World → Prop} (hgd : o.guard = none) (l c : Operand) (t : TypeId) (ho : o.op = .makeSlice t l c)
    (f : α → Value) (d : α) (e : TypeId) (i : TypeInfo) (z : Value) (ht : P.underlying t = some (.slice e)) (hi : P.info? e = some i) (hz : i.zero = some z) (hsize : i.size = 1) (bytes : Nat) (hby : i.bytes = bytes)
    (kl kc : IntKind) (n : Nat) (hl : a.eval l = .int kl 0) (hc : a.eval c = .int kc n) (hn0 : 0 < n) (hn : n ≤ 100000) (hb : bytes ≤ 1000)
    (hK : ∀ v' w', OwnV f d (fun i => i = w.heap.size) w' v' [] → Grow w w' → w.heap.size < w'.heap.size → wpList P ops Q rest (a.put o.dst v') w') : wpList P ops Q (o :: rest) a w := by
  refine wpList_plain hgd fun K hK' => ?_
  have hbb : (i.bytes : Int) * (n : Int) ≤ 1000 * 100000 := by
    rw [hby]
    exact Int.mul_le_mul (by omega) (by omega) (by omega) (by omega)
  have hrun := run_make (P := P) w t e i z ht hi hz kl kc 0 n (by omega) (by omega) (by omega) (by omega)
  unfold Oper.wp
  simp [execOp, ho, hl, hc, hrun, Result.andThen]
  refine hK' _ _ (hK _ _ (.inr ⟨w.heap.size, 0, n, rfl, rfl, hn0, Nat.zero_le _, by simp only [maxLen]; omega, fun j hj => absurd hj (Nat.not_lt_zero _), fun j hj => ⟨?_, ?_⟩⟩) ((Grow.refl w).alloc _) (by simp))
  · rw [Nat.zero_add]
    refine (congrArg Option.isSome (World.cell?_alloc_new w _ _ j)).trans ?_
    rw [Array.getElem?_eq_getElem (by rw [size_madeCells, hsize]; omega)]
    rfl
  · exact World.frozen?_alloc_new w _ _ _

/-- THE COPY into the middle of a row of the call's own: 'copy(s[l:], x)', where all of x fits. -/
theorem run_copyMid {w : World} (dT sT ty elem : TypeId) (hu : P.underlying dT = some (.slice elem)) (hsz : (P.info? elem).map (·.size) = some 1)
    {p q : Nat → Prop} {a : Option Addr} {n c : Nat} {x : Value} {zs ys : List α} (l : Nat) (hown : OwnV f d p w (.slice a n c) zs) (hrd : RdV f d q w x ys) (hl : l + ys.length ≤ zs.length) (hf : ∀ x, (f x).oneCell' = true) :
    ∃ w', (Builtin.copy_ #[dT, sT] ty #[.slice (if c = l then a else a.map (·.add l)) (n - l) (c - l), x]).run P w = .ok (goInt ys.length) w' ∧ OwnV f d p w' (.slice a n c) (midL zs l ys) ∧ UpdS p w w' := by
  obtain ⟨ax, cs, rfl⟩ := hrd.shape
  by_cases h0 : ys.length = 0
  · have hy : ys = [] := List.eq_nil_of_length_eq_zero h0
    subst hy
    refine ⟨w, run_copy_none (P := P) w dT sT ty elem _ ax _ _ _ _ hu hsz (Nat.zero_min _), ?_, UpdS.refl _ _⟩
    have e : midL zs l [] = zs := by simp [midL]
    rw [e]; exact hown
  · obtain ⟨b, ob, rfl, hqb, hcell⟩ := hrd.addr (by omega)
    rcases hown with ⟨rfl, _⟩ | ⟨g, og, c', hv, hb, hc0, hnc, hcm, hc, ht⟩
    · exact absurd hl (by simp only [List.length_nil]; omega)
    · injection hv with e1 e2 e3
      subst e1 e2 e3
      rw [if_neg (show ¬ c = l by omega)]
      have hget : ∀ j, j < ys.length → (ys.map f)[j]? = some (f (ys.getD j d)) := fun j hj => by
        rw [List.getElem?_map, List.getElem?_eq_getElem hj]
        simp [List.getD, List.getElem?_eq_getElem hj]
      have hth : ∀ j, j < (ys.map f).length → (w.cell? ⟨g, og + l + j, none⟩).isSome = true ∧ w.frozen? ⟨g, og + l + j, none⟩ = false := fun j hj => by
        rw [List.length_map] at hj
        rw [Nat.add_assoc]
        exact ht (l + j) (by omega)
      have hrun := run_copy_cells (P := P) w dT sT ty elem g (og + l) (zs.length - l) (c - l) ⟨b, ob, none⟩ ys.length cs (ys.map f) hu hsz (by rw [List.length_map]; exact (Nat.min_eq_left (by omega)).symm)
        (fun j u hu' => by
          have hj : j < ys.length := by
            have := (List.getElem?_eq_some_iff.1 hu').1
            simpa using this
          rw [Addr.add_lit, hcell j hj, ← hget j hj]; exact hu')
        (fun j hj => (hth j hj).1) (fun j hj => (hth j hj).2)
        (fun u hu' => by obtain ⟨y, _, rfl⟩ := List.mem_map.1 hu'; exact hf y)
      rw [List.length_map] at hrun
      have hml := midL_length hl
      have hin : ∀ j, l ≤ j → j < l + ys.length → (w.setCells g (og + l) (ys.map f)).cell? ⟨g, og + j, none⟩ = some (f (ys.getD (j - l) d)) := fun j h1 h2 => by
        have := World.cell?_setCells_in g (ys.map f) (og + l) w (fun j hj => (hth j hj).1) (j - l) (by simp; omega)
        rw [show og + l + (j - l) = og + j by omega] at this
        rw [this]
        simp [List.getD, List.getElem?_eq_getElem (show j - l < ys.length by omega)]
      have hout : ∀ j, (j < l ∨ l + ys.length ≤ j) → (w.setCells g (og + l) (ys.map f)).cell? ⟨g, og + j, none⟩ = w.cell? ⟨g, og + j, none⟩ := fun j h1 =>
        World.cell?_setCells_out g _ _ _ _ (fun _ _ => by show og + j < og + l ∨ og + l + (ys.map f).length ≤ og + j; simp; omega)
      refine ⟨_, by simpa [Addr.add_lit] using hrun, .inr ⟨g, og, c, by rw [hml], hb, hc0, by omega, hcm, fun j hj => ?_, fun j hj => ⟨?_, ?_⟩⟩, (updS_cells g _ _ w).mono (fun k hk => by rw [hk]; exact hb)⟩
      · rw [hml] at hj
        by_cases h1 : l ≤ j ∧ j < l + ys.length
        · rw [hin j h1.1 h1.2, midL_in hl d h1.1 h1.2]
        · rw [hout j (by omega), midL_out hl d (by omega)]; exact hc j hj
      · by_cases h1 : l ≤ j ∧ j < l + ys.length
        · rw [hin j h1.1 h1.2]; rfl
        · rw [hout j (by omega)]; exact (ht j hj).1
      · rw [World.frozen?_setCells]
        exact (ht j hj).2
end
end Go.Proofs.Ytgpigllimoafaaa

/- The walks of cell's small calls (own, fits, Zero, Seal, Open) and of the document's Fill. Conditions: each theorem's own. -/
namespace Go.Proofs.Ytgpigllimoafaaa
open Go.RowKit
set_option linter.unusedVariables false
set_option linter.unusedSimpArgs false

set_option maxHeartbeats 1000000 in
theorem cown_any (v : Value) (zs : List Int) (B : Nat) (w : World) (h : Rd .u8 B w v zs) (hl : zs.length ≤ 1000000) :
    Calls Try.prog 58 #[v] w fun e w' => ∃ v', e = .returned v' ∧ Own .u8 w.heap.size w' v' zs ∧ Grow w w' := by
  obtain ⟨i0, hi, hz0, hz1, hz2⟩ := info_parts Try.info5
  have h' := h.size
  obtain ⟨a, c, rfl, -⟩ := h
  go_enter Try.func58, Try.ntmps58
  go_wp2_with (at_make; refine wpList_makeV rfl (.tmp 5) (.tmp 5) 42 rfl (Value.int .u8) 0 5 i0 Try.underlying42 hi hz0 rfl 1 hz1 hz2 .i64 .i64 _ zs.length rfl rfl rfl (by omega) (by omega) ?_)
  intro v1 w1 ho1 hg1 hlt1
  have hs1 := RdV.grow (Rd.v h') hg1
  have Ho1 : Hid (OwnV (Value.int .u8) 0 (fun i => i = w.heap.size) w1 v1 (List.replicate zs.length 0)) := ho1
  have HG : Hid (Grow w w1 ∧ w.heap.size < w1.heap.size) := ⟨hg1, hlt1⟩
  clear hg1 hlt1 h'
  obtain ⟨a1, c1, hv1⟩ := ho1.shape
  rw [List.length_replicate] at hv1
  subst hv1
  obtain ⟨w2, hrun, ho2, hu2⟩ := run_copyV (P := Try.prog) 42 42 3 5 Try.underlying42 (by rw [hi]; simp [hz1]) Ho1.out hs1 (by simp) (oneI .u8)
  go_wp2
  go_ret
  obtain ⟨hg1, hlt1⟩ := HG.out
  exact ⟨_, rfl, ho2.i (fun i hi => by omega), UpdS.new hg1 hu2 (fun i hi => by omega)⟩

set_option maxHeartbeats 1000000 in
theorem fits_any (a : Option Addr) (l c : Nat) (off n : Int) (w : World) (hlm : l ≤ maxLen) (ho : (Lit.int .i64 off).wf = true) (hn : (Lit.int .i64 n).wf = true) :
    Calls Try.prog 57 #[.slice a l c, .int .i64 off, .int .i64 n] w fun e w' => e = .returned (.int .i64 (fitE l off n)) ∧ w = w' := by
  have b1 := bounds_i64 ho
  have b2 := bounds_i64 hn
  unfold maxLen at hlm
  by_cases h1 : l = 32
  · subst h1
    by_cases h2 : off < 0
    · have E : Hid (fitE 32 off n = 4) := fitE_range (by omega)
      go_enter Try.func57, Try.ntmps57
      go_wp2
      go_ret
      exact ⟨ret_int E.out.symm, rfl⟩
    · by_cases h3 : n < 0
      · have E : Hid (fitE 32 off n = 4) := fitE_range (by omega)
        go_enter Try.func57, Try.ntmps57
        go_wp2
        go_ret
        exact ⟨ret_int E.out.symm, rfl⟩
      · by_cases h4 : 32 - off < n
        · have E : Hid (fitE 32 off n = 4) := fitE_range (by omega)
          go_enter Try.func57, Try.ntmps57
          go_wp2
          go_ret
          exact ⟨ret_int E.out.symm, rfl⟩
        · have E : Hid (fitE 32 off n = 0) := fitE_ok (by omega)
          go_enter Try.func57, Try.ntmps57
          go_wp2
          go_ret
          exact ⟨ret_int E.out.symm, rfl⟩
  · have E : Hid (fitE l off n = 2) := fitE_form h1 _ _
    have h2 : ¬ (l : Int) = 32 := by omega
    go_enter Try.func57, Try.ntmps57
    go_wp2
    go_ret
    exact ⟨ret_int E.out.symm, rfl⟩

end Go.Proofs.Ytgpigllimoafaaa

/- The walks of cell's Get and Put. Conditions: each theorem's own. -/
namespace Go.Proofs.Ytgpigllimoafaaa
open Go.RowKit
set_option linter.unusedVariables false
set_option linter.unusedSimpArgs false

set_option maxHeartbeats 1000000 in
theorem put_no (a x : Option Addr) (l c m xc : Nat) (off E : Int) (w : World) (hlm : l ≤ maxLen) (hmm : m ≤ maxLen) (ho : (Lit.int .i64 off).wf = true) (hE : fitE l off m = E) (hE0 : E = 2 ∨ E = 4) :
    Calls Try.prog 53 #[.slice a l c, .int .i64 off, .slice x m xc] w fun e w' => e = .returned (.tuple #[.slice none 0 0, .int .i64 E]) ∧ w = w' := by
  unfold maxLen at hmm
  have hf := fits_any a l c off m w hlm ho (wfI (by omega))
  rw [hE] at hf
  clear hE hlm ho
  rcases hE0 with rfl | rfl
  · go_enter Try.func53, Try.ntmps53
    go_wp2_with fail
    refine hf.mono ?_
    rintro e w1 ⟨rfl, rfl⟩
    go_wp2
    go_ret2
    exact ⟨rfl, rfl⟩
  · go_enter Try.func53, Try.ntmps53
    go_wp2_with fail
    refine hf.mono ?_
    rintro e w1 ⟨rfl, rfl⟩
    go_wp2
    go_ret2
    exact ⟨rfl, rfl⟩

set_option maxHeartbeats 1000000 in
theorem put_yes (a x : Option Addr) (c m xc : Nat) (zs ys : List Int) (o : Nat) (B C : Nat) (w : World) (h : Rd .u8 B w (.slice a 32 c) zs) (hy : Rd .u8 C w (.slice x m xc) ys) (hom : o + m ≤ 32) :
    Calls Try.prog 53 #[.slice a 32 c, .int .i64 (o : Int), .slice x m xc] w fun e w' => ∃ v', e = .returned (.tuple #[v', .int .i64 0]) ∧ Own .u8 w.heap.size w' v' (midL zs o ys) ∧ Grow w w' := by
  obtain ⟨i0, hi, hz0, hz1, hz2⟩ := info_parts Try.info5
  have hcap := h.caps
  have hcay := hy.caps
  have hf := fits_any a 32 c o m w (by simp only [maxLen]; omega) (wfI (by omega)) (wfI (by omega))
  rw [fitE_ok (by omega)] at hf
  have hown := cown_any _ _ _ _ h (by omega)
  have hlz : zs.length = 32 := by omega
  have hly : ys.length = m := by omega
  have hm : m ≤ 32 := by omega
  have HL : Hid (zs.length = 32 ∧ ys.length = m) := ⟨hlz, hly⟩
  replace hy := hy.size
  clear hcap hcay h hlz hly
  go_enter Try.func53, Try.ntmps53
  go_wp2_with fail
  refine hf.mono ?_
  rintro e w1 ⟨rfl, rfl⟩
  go_wp2_with fail
  refine hown.mono ?_
  rintro e w1 ⟨v1, rfl, ho1, hb1⟩
  have hO := ho1.v
  have hR := RdV.grow hy.v hb1
  obtain ⟨a1, c1, hv1⟩ := ho1.shape
  rw [HL.out.1] at hv1
  subst hv1
  obtain ⟨w2, hrun, ho2, hu2⟩ := run_copyMid (P := Try.prog) 42 42 3 5 Try.underlying42 (by rw [hi]; simp [hz1]) o hO hR (by have := HL.out; omega) (oneI .u8)
  rw [HL.out.2] at hrun
  have hcap1 := ho1.rd.caps
  have hc32 : 32 ≤ c1 := by omega
  have hcm : c1 ≤ maxLen := by omega
  unfold maxLen at hcm
  have HO : Hid (Own .u8 w.heap.size w2 (.slice a1 32 c1) (midL zs o ys) ∧ Grow w w2) := ⟨ho2.i (fun i hi => hi), UpdS.new hb1 hu2 (fun i hi => hi)⟩
  clear hcap1 ho1 hO hR ho2 hu2 hown hf hb1
  by_cases hco : c1 = o
  · obtain rfl : o = 32 := by omega
    obtain rfl : c1 = 32 := by omega
    rw [if_pos rfl] at hrun
    clear hco hom hc32 hcm
    go_wp2
    go_ret2
    exact ⟨_, rfl, HO.out.1, HO.out.2⟩
  · rw [if_neg hco] at hrun
    go_wp2
    go_ret2
    exact ⟨_, rfl, HO.out.1, HO.out.2⟩

/-- Put, of whatever page, place and bytes -/
theorem putp_any (v vy : Value) (zs ys : List Int) (off : Int) (B C : Nat) (w : World) (h : Rd .u8 B w v zs) (hy : Rd .u8 C w vy ys) (ho : (Lit.int .i64 off).wf = true) :
    Calls Try.prog 53 #[v, .int .i64 off, vy] w fun e w' => ∃ v', e = .returned (.tuple #[v', .int .i64 (putted zs off ys).2]) ∧ Own .u8 w.heap.size w' v' (putted zs off ys).1 ∧ Grow w w' := by
  have h' := h
  have hy' := hy
  obtain ⟨a, c, rfl, h1, h2, -⟩ := h
  obtain ⟨x, xc, rfl, y1, y2, -⟩ := hy
  rcases fitE_cases zs.length off ys.length with ⟨_, hE⟩ | ⟨_, _, hE⟩ | ⟨hl, h3, h4, h5, hE⟩
  · have e : putted zs off ys = ([], 2) := by unfold putted; rw [hE]; rfl
    refine (put_no a x _ c _ xc off 2 w (by omega) (by omega) ho hE (.inl rfl)).mono ?_
    rintro _ _ ⟨rfl, rfl⟩
    rw [e]
    exact ⟨_, rfl, Own.nil _ _ _ _, Grow.refl _⟩
  · have e : putted zs off ys = ([], 4) := by unfold putted; rw [hE]; rfl
    refine (put_no a x _ c _ xc off 4 w (by omega) (by omega) ho hE (.inr rfl)).mono ?_
    rintro _ _ ⟨rfl, rfl⟩
    rw [e]
    exact ⟨_, rfl, Own.nil _ _ _ _, Grow.refl _⟩
  · obtain ⟨o, rfl⟩ := Int.eq_ofNat_of_zero_le h3
    have e : putted zs o ys = (midL zs o ys, 0) := by unfold putted; rw [if_pos hE]; rfl
    rw [e]
    rw [hl] at h' ⊢
    exact put_yes a x c _ xc zs ys o B C w h' hy' (by omega)
end Go.Proofs.Ytgpigllimoafaaa

/- The walk of the document's Fill. Conditions: the theorem's own. -/
namespace Go.Proofs.Ytgpigllimoafaaa
open Go.RowKit
set_option linter.unusedVariables false
set_option linter.unusedSimpArgs false

set_option maxHeartbeats 2000000 in
set_option maxRecDepth 8000 in
theorem fill_any (v : Value) (zs : List Int) (ni : Int) (n : Nat) (B : Nat) (w : World) (hni : ni = n) (h : Rd .u8 B w v zs) (hn : n ≤ 1000) :
    Calls Try.prog 23 #[v, .int .i64 ni] w fun e w' => ∃ v', e = .returned v' ∧ Own .u8 w.heap.size w' v' (fillL zs n) ∧ Grow w w' := by
  obtain ⟨i0, hi, hz0, hz1, hz2⟩ := info_parts Try.info5
  subst hni
  have hlm := h.len
  replace h := h.size
  obtain ⟨a, c, rfl, h1, h2, h3⟩ := h
  unfold maxLen at hlm
  by_cases h0 : zs.length = 0
  · have hx : ∀ j, zs.getD (j % zs.length) 0 = 0 := fun j => by rw [List.eq_nil_of_length_eq_zero h0]; rfl
    have HX : Hid (∀ j, fillL zs (j + 1) = fillL zs j ++ [0]) := fun j => by rw [fillL_succ, hx]
    rw [h0]
    clear hx h0 h3 hlm h1
    go_enter Try.func23, Try.ntmps23
    go_wp2
    go_loopg [5, 6] n (fun k d i wr => ∃ j : Nat, k = n - j ∧ j ≤ n ∧ i = .int .i64 j ∧ Own .u8 w.heap.size wr d (fillL zs j) ∧ Below w.heap.size w wr)
    case atStart => exact ⟨0, rfl, Nat.zero_le _, rfl, Own.nil _ _ _ _, Below.refl _ _⟩
    case round =>
      obtain ⟨j, hk, hj, rfl, ho, hb⟩ := hrel
      have hBr := hb.size
      by_cases hlt : j < n
      · have hlt' : (j : Int) < (n : Int) := by omega
        have hll : (fillL zs j).length ≤ 1000 := by rw [fillL_length]; omega
        go_wp2_with (at_builtin; refine wpList_app rfl (.tmp 25) (.tmp 26) 42 42 rfl i0 (.int .u8 0) 1 Try.underlying42 hi hz0 hz1 hz2 rfl rfl rfl (ho.alloc _) (Src.one (w := wr) Try.underlying42 .u8 0 5) (by simp only [maxLen, List.length_singleton]; omega) (by simp only [List.length_singleton]; omega) (by simp; omega) ?_)
        intro v' w' ho' hb'
        go_wp2
        go_roundg (n - (j + 1))
        case measure => omega
        case rel =>
          refine ⟨j + 1, rfl, by omega, by go_num, ?_, ?_⟩
          · rw [HX.out]; exact ho'
          · exact hb.trans (((Below.refl _ wr).alloc hBr _).trans hb')
      · obtain rfl : j = n := by omega
        go_wp2
        go_ret
        exact ⟨_, rfl, ho, hb⟩
  · have hpos : 0 < (zs.length : Int) := by omega
    have hne : ¬ (zs.length : Int) = 0 := by omega
    go_enter Try.func23, Try.ntmps23
    go_wp2
    go_loopg [5, 6] n (fun k d i wr => ∃ j : Nat, k = n - j ∧ j ≤ n ∧ i = .int .i64 j ∧ Own .u8 w.heap.size wr d (fillL zs j) ∧ Below w.heap.size w wr)
    case atStart => exact ⟨0, rfl, Nat.zero_le _, rfl, Own.nil _ _ _ _, Below.refl _ _⟩
    case round =>
      obtain ⟨j, hk, hj, rfl, ho, hb⟩ := hrel
      have hBr := hb.size
      by_cases hlt : j < n
      · have hlt' : (j : Int) < (n : Int) := by omega
        have hll : (fillL zs j).length ≤ 1000 := by rw [fillL_length]; omega
        have hml : j % zs.length < zs.length := Nat.mod_lt _ (by omega)
        obtain ⟨b, o, rfl, hbB, hc⟩ := h3 (j % zs.length) hml
        have hcr : wr.cell? ⟨b, o + j % zs.length, none⟩ = some (.int .u8 (zs.getD (j % zs.length) 0)) := by rw [hb.cell (p := ⟨b, o + j % zs.length, none⟩) hbB]; exact hc
        have HT : Hid (fillL zs (j + 1) = fillL zs j ++ [zs.getD (j % zs.length) 0]) := fillL_succ zs j
        have hmod : (j : Int) % (zs.length : Int) = ((j % zs.length : Nat) : Int) := by omega
        have htmod : (j : Int).tmod (zs.length : Int) = ((j % zs.length : Nat) : Int) := by rw [Int.tmod_eq_emod_of_nonneg (by omega)]; omega
        clear hc h3
        generalize zs.getD (j % zs.length) 0 = x at hcr HT
        generalize j % zs.length = y at hcr hml hmod htmod
        have hy0 : (0 : Int) ≤ (y : Int) := by omega
        have hy1 : (y : Int) < (zs.length : Int) := by omega
        go_wp2_with (at_builtin; refine wpList_app rfl (.tmp 15) (.tmp 23) 42 42 rfl i0 (.int .u8 0) 1 Try.underlying42 hi hz0 hz1 hz2 rfl rfl rfl (ho.alloc _) (Src.one (w := wr) Try.underlying42 .u8 x 5) (by simp only [maxLen, List.length_singleton]; omega) (by simp only [List.length_singleton]; omega) (by simp; omega) ?_)
        intro v' w' ho' hb'
        go_wp2
        go_roundg (n - (j + 1))
        case measure => omega
        case rel =>
          refine ⟨j + 1, rfl, by omega, by go_num, ?_, ?_⟩
          · rw [HT.out]; exact ho'
          · exact hb.trans (((Below.refl _ wr).alloc hBr _).trans hb')
      · obtain rfl : j = n := by omega
        go_wp2
        go_ret
        exact ⟨_, rfl, ho, hb⟩
end Go.Proofs.Ytgpigllimoafaaa

/- The walks of the document's Get, Put, Open. Conditions: each theorem's own. -/
namespace Go.Proofs.Ytgpigllimoafaaa
open Go.RowKit
set_option linter.unusedVariables false
set_option linter.unusedSimpArgs false

end Go.Proofs.Ytgpigllimoafaaa

/- The walks of the document's Put and Open. Conditions: each theorem's own. -/
namespace Go.Proofs.Ytgpigllimoafaaa
open Go.RowKit
set_option linter.unusedVariables false
set_option linter.unusedSimpArgs false

theorem cells32 {a : Option Addr} {c m : Nat} {zs : List Int} {B : Nat} {w : World} (h : Rd .u8 B w (.slice a m c) zs) : ∀ j, j < m → ∃ b p, a = some ⟨b, p, none⟩ ∧ b < w.heap.size ∧ w.cell? ⟨b, p + j, none⟩ = some (.int .u8 (zs.getD j 0)) := fun j hj => by
  obtain ⟨_, _, hm, b, p, e, _, hc⟩ := h.size.addr (by omega)
  exact ⟨b, p, e, World.block_lt_of_cell? _ _ (hc j hj), hc j hj⟩

end Go.Proofs.Ytgpigllimoafaaa
