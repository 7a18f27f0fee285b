/-
  The walk of a partition's Empty; the document's frames by value, in a row. Conditions: each theorem's own.
-/
import Derived.Test.YtgpigllimoafaaaPrtE
import Derived.Deep.LoopGhost
namespace Go.Proofs.Ytgpigllimoafaaa
open Go.RowKit
set_option linter.unusedVariables false
set_option linter.unusedSimpArgs false

/-- a load of a whole frame, told by a letter -/
theorem wpList_load_as {ops : Array Oper} {rest : List Oper} {op : Oper} {a : Act} {w : World} {Q : Exit → Act → World → Prop} (hgd : op.guard = none) (x : Operand) (ho : op.op = .load 52 x)
    (b o : Nat) (hx : a.eval x = .pointer (some ⟨b, o, none⟩)) (s : FS) (v : Value) (hv : v = .agg s.arr) (hF : FrX w b o s)
    (h : wpList Try.prog ops Q rest (a.put op.dst v) w) : wpList Try.prog ops Q (op :: rest) a w := by
  subst hv
  exact wpList_load_mid hgd 52 x ho b o hx s.cells _ hF.range Try.underlying52 rfl (info37 hF.len) h
set_option maxRecDepth 8000 in
set_option maxHeartbeats 2000000 in
theorem pempty_any (w : World) (P b o : Nat) (L : List FS) (h : Nat) (k : PtO w P b o L h) (hL : L.length ≤ 64) : Calls Try.prog 36 #[.pointer (some ⟨P, 0, none⟩)] w fun e w' => e = .returned (.bool (emptyL L)) ∧ w = w' := by
  obtain ⟨⟨c0, -⟩, -⟩ := k.two
  have HK : Hid (∀ j, j < L.length → FrX w b (o + j * 37) (L.getD j FS.empty)) := k.2.2.2
  clear k
  go_enter Try.func36, Try.ntmps36
  go_wp2
  go_loopg [9] L.length (fun m iv wr => ∃ j : Nat, m = L.length - j ∧ j ≤ L.length ∧ iv = .int .i64 j ∧ wr = w ∧ Hid (∀ i, i < j → (L.getD i FS.empty).emp = true))
  case atStart => exact ⟨0, rfl, by omega, rfl, rfl, fun i hi => absurd hi (Nat.not_lt_zero _)⟩
  case round =>
    obtain ⟨j, hj, hj2, rfl, hww, HJ⟩ := hrel
    subst hww
    have HG : Hid (gk = L.length - j) := hj
    clear hj
    by_cases hlt : j < L.length
    · have hle : (j : Int) < (L.length : Int) := by omega
      have hF := HK.out j hlt
      have hw0 : IntKind.i64.wrap ((j : Int) + 1) = ((j + 1 : Nat) : Int) := by rw [IntKind.wrap_i64]; omega
      have HE : Hid (∀ t, (L.getD j FS.empty).emp = t → t = false → emptyL L = false) := fun t h1 h2 => by
        rw [h2] at h1
        cases h3 : emptyL L with
        | false => rfl
        | true =>
          have := (emptyL_iff L).1 h3 j hlt
          rw [this] at h1; cases h1
      have HN : Hid ((L.getD j FS.empty).emp = true → ∀ i, i < j + 1 → (L.getD i FS.empty).emp = true) := fun h1 i hi => by
        by_cases e : i = j
        · rw [e]; exact h1
        · exact HJ.out i (by omega)
      generalize L.getD j FS.empty = s at hF HE HN
      have HF : Hid (FrX wr b (o + j * 37) s) := hF
      obtain ⟨v, hv⟩ : ∃ v, v = Value.agg s.arr := ⟨_, rfl⟩
      have hq := neq_frames wr s hF.len
      have hg := fun x y => guard_neq wr x y s
      rw [← hv, ← zeroF_lit] at hq
      simp only [← hv, ← zeroF_lit] at hg
      have HV : Hid (v = Value.agg s.arr) := hv
      clear hv
      have HI : Hid (j < L.length) := hlt
      clear hF hlt HJ
      cases hs : s.emp with
      | true =>
        rw [hs] at hq
        have HN2 : Hid (∀ i, i < j + 1 → (L.getD i FS.empty).emp = true) := HN.out hs
        clear hs HN HE
        go_wp2_with (refine wpList_load_as rfl (.tmp 17) rfl b (o + j * 37) rfl s v HV.out HF.out ?_)
        go_roundg (L.length - (j + 1))
        case measure => have := HG.out; have := HI.out; omega
        case rel => exact ⟨j + 1, rfl, by have := HI.out; omega, by go_num, rfl, HN2⟩
      | false =>
        rw [hs] at hq
        have HE2 : Hid (emptyL L = false) := HE.out _ hs rfl
        clear hs HN HE
        go_wp2_with (refine wpList_load_as rfl (.tmp 17) rfl b (o + j * 37) rfl s v HV.out HF.out ?_)
        go_ret
        exact ⟨by rw [HE2.out]; rfl, rfl⟩
    · have HE : Hid (emptyL L = true) := (emptyL_iff L).2 (fun i hi => (FS.emp_iff _).1 (HJ.out i (by omega)))
      clear HJ
      go_wp2
      go_ret
      exact ⟨by rw [HE.out]; rfl, rfl⟩

/-- a frame as the document has it, by its cells -/
def FS.rc (s : FS) : List Value := [.bool s.u, .bool s.d, .bool s.r, .int .i64 s.p, .int .i64 s.q, .string (strOfNums s.bs)]
theorem FS.rc_length (s : FS) : s.rc.length = 6 := rfl
theorem FS.rc_one (s : FS) : ∀ v ∈ s.rc, v.oneCell' = true := by
  intro v hv
  simp [FS.rc] at hv
  rcases hv with h | h | h | h | h | h <;> (subst h; rfl)
abbrev RdQ (p : Nat → Prop) (w : World) (v : Value) (L : List FS) : Prop := RdS FS.rc 6 p w v L
abbrev OwnQ (p : Nat → Prop) (w : World) (v : Value) (L : List FS) : Prop := OwnS FS.rc 6 p w v L
/-- a document's frame's cells from a place on -/
def QIn (w : World) (b o : Nat) (s : FS) : Prop := w.cell? ⟨b, o, none⟩ = some (.bool s.u) ∧ w.cell? ⟨b, o + 1, none⟩ = some (.bool s.d) ∧ w.cell? ⟨b, o + 2, none⟩ = some (.bool s.r) ∧ w.cell? ⟨b, o + 3, none⟩ = some (.int .i64 s.p) ∧ w.cell? ⟨b, o + 4, none⟩ = some (.int .i64 s.q) ∧ w.cell? ⟨b, o + 5, none⟩ = some (.string (strOfNums s.bs))
theorem rdQ_at {p : Nat → Prop} {w : World} {a : Option Addr} {n c : Nat} {L : List FS} (h : RdQ p w (.slice a n c) L) {i : Nat} (hi : i < L.length) : ∃ b o, a = some ⟨b, o, none⟩ ∧ p b ∧ b < w.heap.size ∧ QIn w b (o + i * 6) (L.getD i FS.empty) := by
  obtain ⟨b, o, e, hb, hlt, hc⟩ := RdS.at h FS.rc_length FS.empty hi
  exact ⟨b, o, e, hb, hlt, hc 0 (by omega), hc 1 (by omega), hc 2 (by omega), hc 3 (by omega), hc 4 (by omega), hc 5 (by omega)⟩
theorem rdQ_addr {p : Nat → Prop} {w : World} {a : Option Addr} {n c : Nat} {L : List FS} (h : RdQ p w (.slice a n c) L) (h0 : 0 < L.length) : ∃ b o, a = some ⟨b, o, none⟩ := by
  obtain ⟨b, o, e, _⟩ := rdQ_at h h0
  exact ⟨b, o, e⟩
theorem rdQ_in {p : Nat → Prop} {w : World} {b o n c : Nat} {L : List FS} (h : RdQ p w (.slice (some ⟨b, o, none⟩) n c) L) {i : Nat} (hi : i < L.length) : QIn w b (o + i * 6) (L.getD i FS.empty) := by
  obtain ⟨b', o', e, _, _, hf⟩ := rdQ_at h hi
  injection e with e
  injection e with e1 e2
  subst e1; subst e2
  exact hf
theorem infoQ : (Try.prog.info? 55).map (fun i => (i.zero, i.size, i.bytes)) = some (some (.agg #[.bool false, .bool false, .bool false, .int .i64 0, .int .i64 0, .string ⟨#[]⟩]), 6, 40) := by kernel_rfl
theorem fields_cons {P : Program} (w : World) (d : Nat) (A B : Array Value) (f : Field) (fs : List Field) (n0 : f.name ≠ "_") (a b : Value) (t t' : Bool)
    (p0 : (part f.type A f.offset).run P w = .ok a w) (q0 : (part f.type B f.offset).run P w = .ok b w) (e0 : (Op.equalIn d f.type a b).run P w = .ok t w) (hr : (Op.eqFields d A B fs).run P w = .ok t' w) :
    (Op.eqFields d A B (f :: fs)).run P w = .ok (t && t') w := by
  simp only [Op.eqFields, if_pos n0, Sem.run_bind, Sem.run_ite, p0, q0, e0, hr, Result.andThen_ok]
  cases t <;> simp
theorem part_one {P : Program} (w : World) (ty : TypeId) (d : TypeDesc) (xs : Array Value) (i : Nat) (v : Value) (hu : P.underlying ty = some d) (hd : d.isRow = false) (hv : xs[i]? = some v) : (part ty xs i).run P w = .ok v w := by
  have hagg : (isAgg ty).run P w = .ok false w := by
    unfold isAgg
    rw [Sem.run_bind, run_underlying hu w]
    cases d <;> simp_all
  simp [part, Sem.run_bind, hagg, hv]
theorem beq_dec (bs : List Int) : (bs == z32) = decide (bs = z32) := by
  by_cases h : bs = z32
  · rw [h]; simp
  · simp [h]
theorem equal_docs (w : World) (s : FS) (ho : Oct s.bs) (n dp : Nat) (hn : n = dp + 2) : (Op.equalIn n 55 (.agg #[.bool s.u, .bool s.d, .bool s.r, .int .i64 s.p, .int .i64 s.q, .string (strOfNums s.bs)]) (.agg #[.bool false, .bool false, .bool false, .int .i64 0, .int .i64 0, .string (strOfNums z32)])).run Try.prog w = .ok ((s.u == false) && ((s.d == false) && ((s.r == false) && ((s.p == 0) && ((s.q == 0) && (((strOfNums s.bs).toList == (strOfNums z32).toList) && true)))))) w := by
  subst hn
  have hA : Try.prog.underlying 55 = some (.struct (Try.prog.fieldsOf 55)) := by kernel_rfl
  have hS : Try.prog.stoodInHeld 55 = false := by kernel_rfl
  rw [run_equalIn_agg _ _ _ _ _ hA hS]
  simp only [Program.fieldsOf, Try.underlying55]
  refine fields_cons w _ _ _ _ _ (by decide) _ _ _ _ (part_one w 4 _ _ 0 _ Try.underlying4 rfl rfl) (part_one w 4 _ _ 0 _ Try.underlying4 rfl rfl) (run_equalIn_bool' w dp 4 _ _ Try.underlying4) ?_
  refine fields_cons w _ _ _ _ _ (by decide) _ _ _ _ (part_one w 4 _ _ 1 _ Try.underlying4 rfl rfl) (part_one w 4 _ _ 1 _ Try.underlying4 rfl rfl) (run_equalIn_bool' w dp 4 _ _ Try.underlying4) ?_
  refine fields_cons w _ _ _ _ _ (by decide) _ _ _ _ (part_one w 4 _ _ 2 _ Try.underlying4 rfl rfl) (part_one w 4 _ _ 2 _ Try.underlying4 rfl rfl) (run_equalIn_bool' w dp 4 _ _ Try.underlying4) ?_
  refine fields_cons w _ _ _ _ _ (by decide) _ _ _ _ (part_one w 3 _ _ 3 _ Try.underlying3 rfl rfl) (part_one w 3 _ _ 3 _ Try.underlying3 rfl rfl) (run_equalIn_int w dp 3 .i64 .i64 _ _ Try.underlying3) ?_
  refine fields_cons w _ _ _ _ _ (by decide) _ _ _ _ (part_one w 3 _ _ 4 _ Try.underlying3 rfl rfl) (part_one w 3 _ _ 4 _ Try.underlying3 rfl rfl) (run_equalIn_int w dp 3 .i64 .i64 _ _ Try.underlying3) ?_
  refine fields_cons w _ _ _ _ _ (by decide) _ _ _ _ (part_one w 9 _ _ 5 _ Try.underlying9 rfl rfl) (part_one w 9 _ _ 5 _ Try.underlying9 rfl rfl) (run_equalIn_string w dp 9 _ _ Try.underlying9) ?_
  simp [Op.eqFields]
theorem neq_docs (w : World) (s : FS) (ho : Oct s.bs) : (binOp .neq 55 (.agg #[.bool s.u, .bool s.d, .bool s.r, .int .i64 s.p, .int .i64 s.q, .string (strOfNums s.bs)]) (.agg #[.bool false, .bool false, .bool false, .int .i64 0, .int .i64 0, .string (strOfNums z32)])).run Try.prog w = .ok (.bool (!s.emp)) w := by
  rw [run_neq_struct, equal_docs w s ho 10000 9998 rfl, str_beq ho z32_oct, ← beq_dec]
  have hE : s.emp = ((s.u == false) && ((s.d == false) && ((s.r == false) && ((s.p == 0) && ((s.q == 0) && ((s.bs == z32) && true)))))) := by
    obtain ⟨u, d, r, p, q, bs⟩ := s
    show (!u && !d && !r && (p == 0) && (q == 0) && (bs == z32)) = ((u == false) && ((d == false) && ((r == false) && ((p == 0) && ((q == 0) && ((bs == z32) && true))))))
    cases u <;> cases d <;> cases r <;> simp [Bool.and_assoc]
  rw [hE]; rfl
theorem guard_docs (w : World) (x y : Operand) (A B : Array Value) : (eqGuard .neq 55 x y (.agg A) (.agg B)).run Try.prog w = .ok () w := run_eqGuard_agg w .neq 55 x y A B (by kernel_rfl)
end Go.Proofs.Ytgpigllimoafaaa
