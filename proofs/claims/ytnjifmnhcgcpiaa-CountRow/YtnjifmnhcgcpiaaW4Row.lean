/-
  The walk of the law CountRow. Conditions: each theorem's own.
-/
import Derived.Test.YtnjifmnhcgcpiaaW4Adds
import Derived.Test.YtnjifmnhcgcpiaaLast
namespace Go.Proofs.Ytnjifmnhcgcpiaa
open Go.RowKit
set_option linter.unusedVariables false
set_option linter.unusedSimpArgs false

/-- the kinds and numbers that are added -/
def pairs (ks ns : List Int) (N : Nat) : List (Int × Int) := (List.range N).map fun i => (around (ks.getD i 0) 6, ns.getD i 0)
theorem pairs_len (ks ns : List Int) (N : Nat) : (pairs ks ns N).length = N := by simp [pairs]
theorem pairs_at (ks ns : List Int) (N j : Nat) (h : j < N) : (pairs ks ns N)[j]? = some (around (ks.getD j 0) 6, ns.getD j 0) := by simp [pairs, h]
theorem pairs_u {ks ns : List Int} {N : Nat} (h : ∀ n ∈ ns, (Lit.int .u64 n).wf = true) : ∀ y ∈ pairs ks ns N, U y.2 := by
  intro y hy
  simp only [pairs, List.mem_map, List.mem_range] at hy
  obtain ⟨i, _, rfl⟩ := hy
  show U (ns.getD i 0)
  by_cases hi : i < ns.length
  · have : ns.getD i 0 = ns[i]'hi := by simp [List.getD, List.getElem?_eq_getElem hi]
    rw [this]; exact bounds_u64 (h _ (List.getElem_mem _))
  · have : ns.getD i 0 = 0 := by simp [List.getD, List.getElem?_eq_none (by omega : ns.length ≤ i)]
    rw [this]; exact ⟨by omega, by omega⟩
theorem addL_take {c : C6} {l : List (Int × Int)} {j : Nat} {x : Int × Int} (h : l[j]? = some x) : addL c (l.take (j + 1)) = addC (addL c (l.take j)) x.1 x.2 := by
  rw [List.take_add_one, h]; exact addL_snoc _ _ _
theorem take_u {l : List (Int × Int)} {j : Nat} (h : ∀ y ∈ l, U y.2) : ∀ y ∈ l.take j, U y.2 := fun y hy => h y (List.mem_of_mem_take hy)

theorem exec_storeC {w : World} {a : Act} {o : Oper} {x y : Operand} {b : Nat} {c d : C6} (ho : o.op = .store 24 x y) (hx : a.eval x = .pointer (some ⟨b, 0, none⟩)) (hy : a.eval y = .agg #[.int .u64 d.c0, .int .u64 d.c1, .int .u64 d.c2, .int .u64 d.c3, .int .u64 d.c4, .int .u64 d.c5]) (h : CAt w b c) :
    (execOp a.eval o).run Try.prog w = .ok .skip ((((((w.setCell ⟨b, 0, none⟩ (.int .u64 d.c0)).setCell ⟨b, 1, none⟩ (.int .u64 d.c1)).setCell ⟨b, 2, none⟩ (.int .u64 d.c2)).setCell ⟨b, 3, none⟩ (.int .u64 d.c3)).setCell ⟨b, 4, none⟩ (.int .u64 d.c4)).setCell ⟨b, 5, none⟩ (.int .u64 d.c5)) := by
  obtain ⟨⟨h0, h1, h2, h3, h4, h5⟩, f0, f1, f2, f3, f4, f5⟩ := h
  generalize a.eval = ev at hx hy ⊢
  simp only [execOp, ho, hx, hy]
  go_simp

set_option maxHeartbeats 8000000 in
theorem countRow_walk1 (c : C6) (kv nv : Value) (ks ns : List Int) (w : World) (hc : c.Ok) (hkr : Rd .i64 w.heap.size w kv ks) (hkw : ∀ n ∈ ks, (Lit.int .i64 n).wf = true) (hnr : Rd .u64 w.heap.size w nv ns) (hnw : ∀ n ∈ ns, (Lit.int .u64 n).wf = true) (h1 : (ns.length : Int) ≤ 8) (h2 : (ks.length : Int) ≤ (ns.length : Int)) :
    Calls Try.prog 5 #[.agg #[.int .u64 c.c0, .int .u64 c.c1, .int .u64 c.c2, .int .u64 c.c3, .int .u64 c.c4, .int .u64 c.c5], kv, nv] w fun e w' => e = .returned (.bool true) ∧ Below w.heap.size w w' := by
  have hNk : ks.length ≤ ks.length := by omega
  have hNn : ks.length ≤ ns.length := by omega
  have hN8 : ks.length ≤ 8 := by omega
  obtain ⟨P, hP⟩ : ∃ P, P = pairs ks ns (ks.length) := ⟨_, rfl⟩
  have hPl : P.length = ks.length := by rw [hP]; exact pairs_len _ _ _
  have HP : Hid (P = pairs ks ns (ks.length) ∧ (∀ y ∈ P, U y.2) ∧ c.Ok ∧ P.length = ks.length ∧ ks.length ≤ ks.length ∧ ks.length ≤ ns.length ∧ ks.length ≤ 8) := ⟨hP, by rw [hP]; exact pairs_u hnw, hc, hPl, hNk, hNn, hN8⟩
  have HK : Hid (Rd .i64 w.heap.size w kv ks ∧ (∀ n ∈ ks, (Lit.int .i64 n).wf = true) ∧ Rd .u64 w.heap.size w nv ns) := ⟨hkr, hkw, hnr⟩
  have hI : CAt (((w.alloc (.cells #[.int .u64 c.c0, .int .u64 c.c1, .int .u64 c.c2, .int .u64 c.c3, .int .u64 c.c4, .int .u64 c.c5] 24)).alloc (.cells #[.int .u64 c.c0, .int .u64 c.c1, .int .u64 c.c2, .int .u64 c.c3, .int .u64 c.c4, .int .u64 c.c5] 24)).alloc (.cells #[.int .u64 c.c0, .int .u64 c.c1, .int .u64 c.c2, .int .u64 c.c3, .int .u64 c.c4, .int .u64 c.c5] 24)) (w.heap.size + 1) (addL c (P.take 0)) ∧ CAt (((w.alloc (.cells #[.int .u64 c.c0, .int .u64 c.c1, .int .u64 c.c2, .int .u64 c.c3, .int .u64 c.c4, .int .u64 c.c5] 24)).alloc (.cells #[.int .u64 c.c0, .int .u64 c.c1, .int .u64 c.c2, .int .u64 c.c3, .int .u64 c.c4, .int .u64 c.c5] 24)).alloc (.cells #[.int .u64 c.c0, .int .u64 c.c1, .int .u64 c.c2, .int .u64 c.c3, .int .u64 c.c4, .int .u64 c.c5] 24)) (w.heap.size + 1 + 1) (addL c (P.reverse.take 0)) ∧ Grow w (((w.alloc (.cells #[.int .u64 c.c0, .int .u64 c.c1, .int .u64 c.c2, .int .u64 c.c3, .int .u64 c.c4, .int .u64 c.c5] 24)).alloc (.cells #[.int .u64 c.c0, .int .u64 c.c1, .int .u64 c.c2, .int .u64 c.c3, .int .u64 c.c4, .int .u64 c.c5] 24)).alloc (.cells #[.int .u64 c.c0, .int .u64 c.c1, .int .u64 c.c2, .int .u64 c.c3, .int .u64 c.c4, .int .u64 c.c5] 24)) := by
    refine ⟨?_, ?_, (((Grow.refl w).alloc _).alloc _).alloc _⟩
    · have := (CAt.new (w.alloc (.cells #[.int .u64 c.c0, .int .u64 c.c1, .int .u64 c.c2, .int .u64 c.c3, .int .u64 c.c4, .int .u64 c.c5] 24)) c 24).grow ((Grow.refl _).alloc (.cells #[.int .u64 c.c0, .int .u64 c.c1, .int .u64 c.c2, .int .u64 c.c3, .int .u64 c.c4, .int .u64 c.c5] 24))
      rw [World.size_alloc] at this
      exact this
    · have := CAt.new ((w.alloc (.cells #[.int .u64 c.c0, .int .u64 c.c1, .int .u64 c.c2, .int .u64 c.c3, .int .u64 c.c4, .int .u64 c.c5] 24)).alloc (.cells #[.int .u64 c.c0, .int .u64 c.c1, .int .u64 c.c2, .int .u64 c.c3, .int .u64 c.c4, .int .u64 c.c5] 24)) c 24
      rw [World.size_alloc, World.size_alloc] at this
      exact this
  have HI : Hid (CAt (((w.alloc (.cells #[.int .u64 c.c0, .int .u64 c.c1, .int .u64 c.c2, .int .u64 c.c3, .int .u64 c.c4, .int .u64 c.c5] 24)).alloc (.cells #[.int .u64 c.c0, .int .u64 c.c1, .int .u64 c.c2, .int .u64 c.c3, .int .u64 c.c4, .int .u64 c.c5] 24)).alloc (.cells #[.int .u64 c.c0, .int .u64 c.c1, .int .u64 c.c2, .int .u64 c.c3, .int .u64 c.c4, .int .u64 c.c5] 24)) (w.heap.size + 1) (addL c (P.take 0)) ∧ CAt (((w.alloc (.cells #[.int .u64 c.c0, .int .u64 c.c1, .int .u64 c.c2, .int .u64 c.c3, .int .u64 c.c4, .int .u64 c.c5] 24)).alloc (.cells #[.int .u64 c.c0, .int .u64 c.c1, .int .u64 c.c2, .int .u64 c.c3, .int .u64 c.c4, .int .u64 c.c5] 24)).alloc (.cells #[.int .u64 c.c0, .int .u64 c.c1, .int .u64 c.c2, .int .u64 c.c3, .int .u64 c.c4, .int .u64 c.c5] 24)) (w.heap.size + 1 + 1) (addL c (P.reverse.take 0)) ∧ Grow w (((w.alloc (.cells #[.int .u64 c.c0, .int .u64 c.c1, .int .u64 c.c2, .int .u64 c.c3, .int .u64 c.c4, .int .u64 c.c5] 24)).alloc (.cells #[.int .u64 c.c0, .int .u64 c.c1, .int .u64 c.c2, .int .u64 c.c3, .int .u64 c.c4, .int .u64 c.c5] 24)).alloc (.cells #[.int .u64 c.c0, .int .u64 c.c1, .int .u64 c.c2, .int .u64 c.c3, .int .u64 c.c4, .int .u64 c.c5] 24))) := hI
  clear hI
  obtain ⟨ak, ck, rfl, -⟩ := hkr
  obtain ⟨an, cn, rfl, -⟩ := hnr
  clear hP hPl hNk hNn hN8 hkw hnw hc
  go_enter Try.func5, Try.ntmps5
  go_wp2
  clear h1 h2
  obtain ⟨N9, h9⟩ : ∃ N9 : Int, N9 = (ks.length : Int) := ⟨_, rfl⟩
  rw [← h9]
  have H9 : Hid (N9 = ((ks.length : Nat) : Int)) := h9
  clear h9
  obtain ⟨bx, hbx⟩ : ∃ bx, bx = w.heap.size + 1 := ⟨_, rfl⟩
  obtain ⟨yb, hyb⟩ : ∃ yb, yb = bx + 1 := ⟨_, rfl⟩
  obtain ⟨b0, hb0⟩ : ∃ b0, b0 = w.heap.size := ⟨_, rfl⟩
  generalize ((w.alloc (.cells #[.int .u64 c.c0, .int .u64 c.c1, .int .u64 c.c2, .int .u64 c.c3, .int .u64 c.c4, .int .u64 c.c5] 24)).alloc (.cells #[.int .u64 c.c0, .int .u64 c.c1, .int .u64 c.c2, .int .u64 c.c3, .int .u64 c.c4, .int .u64 c.c5] 24)).alloc (.cells #[.int .u64 c.c0, .int .u64 c.c1, .int .u64 c.c2, .int .u64 c.c3, .int .u64 c.c4, .int .u64 c.c5] 24) = w1 at HI ⊢
  rw [← hbx, ← hyb] at HI ⊢
  rw [← hb0] at hbx HK ⊢
  have HB : Hid (bx = b0 + 1 ∧ yb = bx + 1 ∧ b0 = w.heap.size) := ⟨hbx, hyb, hb0⟩
  clear hbx hyb hb0
  go_loopg [10] (ks.length) (fun m i wr => ∃ j : Nat, m = ks.length - j ∧ j ≤ ks.length ∧ i = .int .i64 j ∧ Hid (CAt wr bx (addL c (P.take j)) ∧ CAt wr yb (addL c (P.reverse.take j)) ∧ Grow w wr))
  case atStart => exact ⟨0, by omega, by omega, rfl, HI⟩
  case round =>
    obtain ⟨j, hk, hj, rfl, X⟩ := hrel
    by_cases hlt : j < ks.length
    · obtain ⟨m, hm⟩ : ∃ m, m = ks.length - 1 - j := ⟨_, rfl⟩
      have hNs := HP.out.2.2.2.2
      have hle : (j : Int) < N9 := by have := H9.out; omega
      have hjk : (j : Int) < (ks.length : Int) := by omega
      have hjn : (j : Int) < (ns.length : Int) := by omega
      have hmk : (m : Int) < (ks.length : Int) := by omega
      have hmn : (m : Int) < (ns.length : Int) := by omega
      have hr1 : IntKind.i64.wrap (N9 - 1) = N9 - 1 := by have := H9.out; rw [IntKind.wrap_i64]; omega
      have hr2 : IntKind.i64.wrap (N9 - 1 - (j : Int)) = (m : Int) := by have := H9.out; rw [IntKind.wrap_i64]; omega
      have hr3 : IntKind.i64.wrap ((j : Int) + 1) = (j : Int) + 1 := by rw [IntKind.wrap_i64]; omega
      have HL : Hid (j < ks.length ∧ gk = ks.length - j) := ⟨hlt, hk⟩
      have hpj : P[j]? = some (around (ks.getD j 0) 6, ns.getD j 0) := by rw [HP.out.1]; exact pairs_at _ _ _ _ hlt
      have hpm : P.reverse[j]? = some (around (ks.getD m 0) 6, ns.getD m 0) := by
        rw [List.getElem?_reverse (by have := HP.out.2.2.2.1; omega), HP.out.2.2.2.1, ← hm, HP.out.1]; exact pairs_at _ _ _ _ (by omega)
      have hx1 := addL_take (c := c) hpj
      have hy1 := addL_take (c := c) hpm
      have hxo : (addL c (P.take j)).Ok := addL_ok HP.out.2.2.1 (take_u HP.out.2.1)
      have hyo : (addL c (P.reverse.take j)).Ok := addL_ok HP.out.2.2.1 (take_u (fun y hy => HP.out.2.1 y (List.mem_reverse.1 hy)))
      have hu1 : U (ns.getD j 0) := HP.out.2.1 _ (List.mem_of_getElem? hpj)
      have hu2 : U (ns.getD m 0) := HP.out.2.1 _ (List.mem_reverse.1 (List.mem_of_getElem? hpm))
      have hz : ∀ i, i < ks.length → (Lit.int .i64 (ks.getD i 0)).wf = true := fun i hi => by
        refine HK.out.2.1 _ ?_
        have : ks.getD i 0 = ks[i]'hi := by simp [List.getD, List.getElem?_eq_getElem hi]
        rw [this]; exact List.getElem_mem _
      have ha1 := fun w' => around_any (ks.getD j 0) 6 w' (hz j (by omega)) (by omega) (by omega)
      have ha2 := fun w' => around_any (ks.getD m 0) 6 w' (hz m (by omega)) (by omega) (by omega)
      obtain ⟨-, -, -, bk, ok, rfl, hbk, hck⟩ := HK.out.1.addr (by omega)
      obtain ⟨-, -, -, bn, on, rfl, hbn, hcn⟩ := HK.out.2.2.addr (by omega)
      have k1 := hck j (by omega)
      have k2 := hck m (by omega)
      have n1 := hcn j (by omega)
      have n2 := hcn m (by omega)
      generalize ks.getD j 0 = z1 at hx1 ha1 k1 hpj
      generalize ks.getD m 0 = z2 at hy1 ha2 k2 hpm
      generalize ns.getD j 0 = y1 at hx1 hu1 n1 hpj
      generalize ns.getD m 0 = y2 at hy1 hu2 n2 hpm
      generalize around z1 6 = e1 at hx1 ha1 hpj
      generalize around z2 6 = e2 at hy1 ha2 hpm
      clear hck hcn hpj hpm hz
      simp only at hx1 hy1
      have hA1 := fun w' => cadd_any (addL c (P.take j)) e1 y1 w' hxo hu1
      have hA2 := fun w' => cadd_any (addL c (P.reverse.take j)) e2 y2 w' hyo hu2
      have hge : ∀ i, 0 ≤ i ∧ i < 6 → getC (addL c (P.take j)) i ≤ getC (addL c (P.take (j + 1))) i := fun i hi => by rw [hx1]; exact getC_le hxo hu1 hi
      rw [← hx1] at hA1
      rw [← hy1] at hA2
      have HE : Hid (∀ i, 0 ≤ i ∧ i < 6 → getC (addL c (P.take j)) i ≤ getC (addL c (P.take (j + 1))) i) := hge
      have HC : Hid (b0 = w.heap.size ∧ bk < b0 ∧ bn < b0 ∧ w.cell? ⟨bk, ok + j, none⟩ = some (.int .i64 z1) ∧ w.cell? ⟨bk, ok + m, none⟩ = some (.int .i64 z2) ∧ w.cell? ⟨bn, on + j, none⟩ = some (.int .u64 y1) ∧ w.cell? ⟨bn, on + m, none⟩ = some (.int .u64 y2)) :=
        ⟨HB.out.2.2, hbk, hbn, k1, k2, n1, n2⟩
      clear hx1 hy1 hxo hyo hu1 hu2 hge hbk hbn k1 k2 n1 n2 hm hNs hlt hk hj
      obtain ⟨XX, hXX⟩ : ∃ XX, XX = addL c (P.take j) := ⟨_, rfl⟩
      obtain ⟨XN, hXN⟩ : ∃ XN, XN = addL c (P.take (j + 1)) := ⟨_, rfl⟩
      obtain ⟨YY, hYY⟩ : ∃ YY, YY = addL c (P.reverse.take j) := ⟨_, rfl⟩
      obtain ⟨YN, hYN⟩ : ∃ YN, YN = addL c (P.reverse.take (j + 1)) := ⟨_, rfl⟩
      rw [← hXX] at X hA1 HE
      rw [← hXN] at hA1 HE
      rw [← hYY] at X hA2
      rw [← hYN] at hA2
      have HY : Hid (XN = addL c (P.take (j + 1)) ∧ YN = addL c (P.reverse.take (j + 1))) := ⟨hXN, hYN⟩
      clear hXX hXN hYY hYN
      have X1 : Hid (CAt (wr.alloc (.cells #[.int .u64 XX.c0, .int .u64 XX.c1, .int .u64 XX.c2, .int .u64 XX.c3, .int .u64 XX.c4, .int .u64 XX.c5] 24)) bx XX ∧ CAt (wr.alloc (.cells #[.int .u64 XX.c0, .int .u64 XX.c1, .int .u64 XX.c2, .int .u64 XX.c3, .int .u64 XX.c4, .int .u64 XX.c5] 24)) yb YY ∧ CAt (wr.alloc (.cells #[.int .u64 XX.c0, .int .u64 XX.c1, .int .u64 XX.c2, .int .u64 XX.c3, .int .u64 XX.c4, .int .u64 XX.c5] 24)) wr.heap.size XX ∧ Grow w (wr.alloc (.cells #[.int .u64 XX.c0, .int .u64 XX.c1, .int .u64 XX.c2, .int .u64 XX.c3, .int .u64 XX.c4, .int .u64 XX.c5] 24)) ∧ bx < wr.heap.size ∧ yb < wr.heap.size) :=
        ⟨X.out.1.grow ((Grow.refl _).alloc _), X.out.2.1.grow ((Grow.refl _).alloc _), CAt.new wr XX _, X.out.2.2.alloc _, X.out.1.lt, X.out.2.1.lt⟩
      obtain ⟨⟨q0, q1, q2, q3, q4, q5⟩, -⟩ := X.out.1
      clear X
      go_wp2
      clear q0 q1 q2 q3 q4 q5
      generalize wr.alloc (.cells #[.int .u64 XX.c0, .int .u64 XX.c1, .int .u64 XX.c2, .int .u64 XX.c3, .int .u64 XX.c4, .int .u64 XX.c5] 24) = w2 at X1 ⊢
      generalize wr.heap.size = bw at X1 ⊢
      clear wr
      have f1 : ∀ w', Grow w2.drew w' → w'.cell? ⟨bk, ok + j, none⟩ = some (.int .i64 z1) := fun w' hG => by
        rw [Below.cell (p := ⟨bk, ok + j, none⟩) ((X1.out.2.2.2.1.drew).trans hG) (by have := HC.out; show bk < _; omega)]; exact HC.out.2.2.2.1
      have f2 : ∀ w', Grow w2.drew w' → w'.cell? ⟨bn, on + j, none⟩ = some (.int .u64 y1) := fun w' hG => by
        rw [Below.cell (p := ⟨bn, on + j, none⟩) ((X1.out.2.2.2.1.drew).trans hG) (by have := HC.out; show bn < _; omega)]; exact HC.out.2.2.2.2.2.1
      have fx : ∀ w', Grow w2.drew w' → CAt w' bx XX := fun w' hG => X1.out.1.grow ((Grow.refl w2).drew.trans hG)
      refine wp_region_last 11 (by kernel_rfl) [(0, false), (1, false), (2, false), (3, false), (4, false), (6, false), (7, false), (8, false), (9, false), (5, true), (10, true)] (by kernel_rfl) (by kernel_rfl) rfl (fun _ _ d _ _ h => by cases d <;> exact h) ?_
      simp only [inOrder, List.filterMap_cons, List.filterMap_nil, List.getElem?_toArray, List.getElem?_cons_zero, List.getElem?_cons_succ, Option.map_some]
      refine wpS_read (v := .agg #[.int .u64 XX.c0, .int .u64 XX.c1, .int .u64 XX.c2, .int .u64 XX.c3, .int .u64 XX.c4, .int .u64 XX.c5]) rfl (fun w' hG => exec_loadC rfl rfl (fx w' hG)) ?_
      simp only [Act.put, List.setIfInBounds_toArray, List.set_cons_zero, List.set_cons_succ]
      repeat (first
        | (refine wpS_move rfl ?_; simp only [Act.eval, Act.put, Array.getD_eq_getD_getElem?, List.getElem?_toArray, List.getElem?_cons_zero, List.getElem?_cons_succ, Option.getD_some, List.setIfInBounds_toArray, List.set_cons_zero, List.set_cons_succ])
        | (refine wpS_assign rfl ?_; simp only [Act.eval, Act.put, Array.getD_eq_getD_getElem?, List.getElem?_toArray, List.getElem?_cons_zero, List.getElem?_cons_succ, Option.getD_some, List.setIfInBounds_toArray, List.set_cons_zero, List.set_cons_succ])
        | (refine wpS_read (v := ?_) rfl ?_ ?_; rotate_left; (focus (intro w' hG; go_simp; try (with_reducible rfl))); simp only [Act.put, List.setIfInBounds_toArray, List.set_cons_zero, List.set_cons_succ]))
      refine wpS_call (f := ?_) (args := ?_) (by rfl) ?_ ?_
      rotate_left 2; focus (go_simp; constructor <;> with_reducible rfl)
      refine (ha1 w2.drew).mono ?_
      rintro e w0 ⟨rfl, rfl⟩
      refine ⟨_, rfl, Grow.refl _, ?_⟩
      simp only [Act.put, List.setIfInBounds_toArray, List.set_cons_zero, List.set_cons_succ]
      repeat (first
        | (refine wpS_move rfl ?_; simp only [Act.eval, Act.put, Array.getD_eq_getD_getElem?, List.getElem?_toArray, List.getElem?_cons_zero, List.getElem?_cons_succ, Option.getD_some, List.setIfInBounds_toArray, List.set_cons_zero, List.set_cons_succ])
        | (refine wpS_assign rfl ?_; simp only [Act.eval, Act.put, Array.getD_eq_getD_getElem?, List.getElem?_toArray, List.getElem?_cons_zero, List.getElem?_cons_succ, Option.getD_some, List.setIfInBounds_toArray, List.set_cons_zero, List.set_cons_succ])
        | (refine wpS_read (v := ?_) rfl ?_ ?_; rotate_left; (focus (intro w' hG; go_simp; try (with_reducible rfl))); simp only [Act.put, List.setIfInBounds_toArray, List.set_cons_zero, List.set_cons_succ]))
      refine wpS_call (f := ?_) (args := ?_) (by rfl) ?_ ?_
      rotate_left 2; focus (go_simp; constructor <;> with_reducible rfl)
      refine (hA1 w2.drew).mono ?_
      rintro e w3 ⟨rfl, g3⟩
      refine ⟨_, rfl, g3, ?_⟩
      simp only [Act.put, List.setIfInBounds_toArray, List.set_cons_zero, List.set_cons_succ]
      refine wpS_nil ?_
      refine last_store rfl rfl (exec_storeC (d := XN) rfl rfl rfl (fx w3 g3)) ?_
      simp only [Act.put, List.setIfInBounds_toArray, List.set_cons_zero, List.set_cons_succ]
      have g3' : Grow w2 w3 := (Grow.refl w2).drew.trans g3
      have X3 : Hid (CAt ((((((w3.setCell ⟨bx, 0, none⟩ (.int .u64 XN.c0)).setCell ⟨bx, 1, none⟩ (.int .u64 XN.c1)).setCell ⟨bx, 2, none⟩ (.int .u64 XN.c2)).setCell ⟨bx, 3, none⟩ (.int .u64 XN.c3)).setCell ⟨bx, 4, none⟩ (.int .u64 XN.c4)).setCell ⟨bx, 5, none⟩ (.int .u64 XN.c5)) bx XN ∧ CAt ((((((w3.setCell ⟨bx, 0, none⟩ (.int .u64 XN.c0)).setCell ⟨bx, 1, none⟩ (.int .u64 XN.c1)).setCell ⟨bx, 2, none⟩ (.int .u64 XN.c2)).setCell ⟨bx, 3, none⟩ (.int .u64 XN.c3)).setCell ⟨bx, 4, none⟩ (.int .u64 XN.c4)).setCell ⟨bx, 5, none⟩ (.int .u64 XN.c5)) yb YY ∧ CAt ((((((w3.setCell ⟨bx, 0, none⟩ (.int .u64 XN.c0)).setCell ⟨bx, 1, none⟩ (.int .u64 XN.c1)).setCell ⟨bx, 2, none⟩ (.int .u64 XN.c2)).setCell ⟨bx, 3, none⟩ (.int .u64 XN.c3)).setCell ⟨bx, 4, none⟩ (.int .u64 XN.c4)).setCell ⟨bx, 5, none⟩ (.int .u64 XN.c5)) bw XX ∧ Grow w ((((((w3.setCell ⟨bx, 0, none⟩ (.int .u64 XN.c0)).setCell ⟨bx, 1, none⟩ (.int .u64 XN.c1)).setCell ⟨bx, 2, none⟩ (.int .u64 XN.c2)).setCell ⟨bx, 3, none⟩ (.int .u64 XN.c3)).setCell ⟨bx, 4, none⟩ (.int .u64 XN.c4)).setCell ⟨bx, 5, none⟩ (.int .u64 XN.c5)) ∧ bx < bw ∧ yb < bw) := by
        have hB := HB.out
        obtain ⟨x1, x2, x3, x4, x5, x6⟩ := X1.out
        exact ⟨(x1.grow g3').set XN, (x2.grow g3').upd (upd_six w3 bx XN) (by omega), (x3.grow g3').upd (upd_six w3 bx XN) (by omega), UpdS.new (x4.trans g3') (upd_six w3 bx XN) (fun i hi => by omega), x5, x6⟩
      clear g3 g3' X1 f1 f2 fx ha1 hA1
      generalize ((((((w3.setCell ⟨bx, 0, none⟩ (.int .u64 XN.c0)).setCell ⟨bx, 1, none⟩ (.int .u64 XN.c1)).setCell ⟨bx, 2, none⟩ (.int .u64 XN.c2)).setCell ⟨bx, 3, none⟩ (.int .u64 XN.c3)).setCell ⟨bx, 4, none⟩ (.int .u64 XN.c4)).setCell ⟨bx, 5, none⟩ (.int .u64 XN.c5)) = w4 at X3 ⊢
      clear w3 w2
      go_wp2
      have f1 : ∀ w', Grow w4.drew w' → w'.cell? ⟨bk, ok + m, none⟩ = some (.int .i64 z2) := fun w' hG => by
        rw [Below.cell (p := ⟨bk, ok + m, none⟩) ((X3.out.2.2.2.1.drew).trans hG) (by have := HC.out; show bk < _; omega)]; exact HC.out.2.2.2.2.1
      have f2 : ∀ w', Grow w4.drew w' → w'.cell? ⟨bn, on + m, none⟩ = some (.int .u64 y2) := fun w' hG => by
        rw [Below.cell (p := ⟨bn, on + m, none⟩) ((X3.out.2.2.2.1.drew).trans hG) (by have := HC.out; show bn < _; omega)]; exact HC.out.2.2.2.2.2.2
      have fx : ∀ w', Grow w4.drew w' → CAt w' yb YY := fun w' hG => X3.out.2.1.grow ((Grow.refl w4).drew.trans hG)
      refine wp_region_last 17 (by kernel_rfl) [(0, false), (1, false), (2, false), (3, false), (4, false), (5, false), (6, false), (7, false), (9, false), (10, false), (11, false), (12, false), (13, false), (14, false), (15, false), (8, true), (16, true)] (by kernel_rfl) (by kernel_rfl) rfl (fun _ _ d _ _ h => by cases d <;> exact h) ?_
      simp only [inOrder, List.filterMap_cons, List.filterMap_nil, List.getElem?_toArray, List.getElem?_cons_zero, List.getElem?_cons_succ, Option.map_some]
      refine wpS_read (v := .agg #[.int .u64 YY.c0, .int .u64 YY.c1, .int .u64 YY.c2, .int .u64 YY.c3, .int .u64 YY.c4, .int .u64 YY.c5]) rfl (fun w' hG => exec_loadC rfl rfl (fx w' hG)) ?_
      simp only [Act.put, List.setIfInBounds_toArray, List.set_cons_zero, List.set_cons_succ]
      repeat (first
        | (refine wpS_move rfl ?_; simp only [Act.eval, Act.put, Array.getD_eq_getD_getElem?, List.getElem?_toArray, List.getElem?_cons_zero, List.getElem?_cons_succ, Option.getD_some, List.setIfInBounds_toArray, List.set_cons_zero, List.set_cons_succ])
        | (refine wpS_assign rfl ?_; simp only [Act.eval, Act.put, Array.getD_eq_getD_getElem?, List.getElem?_toArray, List.getElem?_cons_zero, List.getElem?_cons_succ, Option.getD_some, List.setIfInBounds_toArray, List.set_cons_zero, List.set_cons_succ])
        | (refine wpS_read (v := ?_) rfl ?_ ?_; rotate_left; (focus (intro w' hG; go_simp; try (with_reducible rfl))); simp only [Act.put, List.setIfInBounds_toArray, List.set_cons_zero, List.set_cons_succ]))
      refine wpS_call (f := ?_) (args := ?_) (by rfl) ?_ ?_
      rotate_left 2; focus (go_simp; constructor <;> with_reducible rfl)
      refine (ha2 w4.drew).mono ?_
      rintro e w0 ⟨rfl, rfl⟩
      refine ⟨_, rfl, Grow.refl _, ?_⟩
      simp only [Act.put, List.setIfInBounds_toArray, List.set_cons_zero, List.set_cons_succ]
      repeat (first
        | (refine wpS_move rfl ?_; simp only [Act.eval, Act.put, Array.getD_eq_getD_getElem?, List.getElem?_toArray, List.getElem?_cons_zero, List.getElem?_cons_succ, Option.getD_some, List.setIfInBounds_toArray, List.set_cons_zero, List.set_cons_succ])
        | (refine wpS_assign rfl ?_; simp only [Act.eval, Act.put, Array.getD_eq_getD_getElem?, List.getElem?_toArray, List.getElem?_cons_zero, List.getElem?_cons_succ, Option.getD_some, List.setIfInBounds_toArray, List.set_cons_zero, List.set_cons_succ])
        | (refine wpS_read (v := ?_) rfl ?_ ?_; rotate_left; (focus (intro w' hG; go_simp; try (with_reducible rfl))); simp only [Act.put, List.setIfInBounds_toArray, List.set_cons_zero, List.set_cons_succ]))
      refine wpS_call (f := ?_) (args := ?_) (by rfl) ?_ ?_
      rotate_left 2; focus (go_simp; constructor <;> with_reducible rfl)
      refine (hA2 w4.drew).mono ?_
      rintro e w3 ⟨rfl, g3⟩
      refine ⟨_, rfl, g3, ?_⟩
      simp only [Act.put, List.setIfInBounds_toArray, List.set_cons_zero, List.set_cons_succ]
      refine wpS_nil ?_
      refine last_store rfl rfl (exec_storeC (d := YN) rfl rfl rfl (fx w3 g3)) ?_
      simp only [Act.put, List.setIfInBounds_toArray, List.set_cons_zero, List.set_cons_succ]
      have g3' : Grow w4 w3 := (Grow.refl w4).drew.trans g3
      have X5 : Hid (CAt ((((((w3.setCell ⟨yb, 0, none⟩ (.int .u64 YN.c0)).setCell ⟨yb, 1, none⟩ (.int .u64 YN.c1)).setCell ⟨yb, 2, none⟩ (.int .u64 YN.c2)).setCell ⟨yb, 3, none⟩ (.int .u64 YN.c3)).setCell ⟨yb, 4, none⟩ (.int .u64 YN.c4)).setCell ⟨yb, 5, none⟩ (.int .u64 YN.c5)) bx XN ∧ CAt ((((((w3.setCell ⟨yb, 0, none⟩ (.int .u64 YN.c0)).setCell ⟨yb, 1, none⟩ (.int .u64 YN.c1)).setCell ⟨yb, 2, none⟩ (.int .u64 YN.c2)).setCell ⟨yb, 3, none⟩ (.int .u64 YN.c3)).setCell ⟨yb, 4, none⟩ (.int .u64 YN.c4)).setCell ⟨yb, 5, none⟩ (.int .u64 YN.c5)) yb YN ∧ CAt ((((((w3.setCell ⟨yb, 0, none⟩ (.int .u64 YN.c0)).setCell ⟨yb, 1, none⟩ (.int .u64 YN.c1)).setCell ⟨yb, 2, none⟩ (.int .u64 YN.c2)).setCell ⟨yb, 3, none⟩ (.int .u64 YN.c3)).setCell ⟨yb, 4, none⟩ (.int .u64 YN.c4)).setCell ⟨yb, 5, none⟩ (.int .u64 YN.c5)) bw XX ∧ Grow w ((((((w3.setCell ⟨yb, 0, none⟩ (.int .u64 YN.c0)).setCell ⟨yb, 1, none⟩ (.int .u64 YN.c1)).setCell ⟨yb, 2, none⟩ (.int .u64 YN.c2)).setCell ⟨yb, 3, none⟩ (.int .u64 YN.c3)).setCell ⟨yb, 4, none⟩ (.int .u64 YN.c4)).setCell ⟨yb, 5, none⟩ (.int .u64 YN.c5))) := by
        have hB := HB.out
        obtain ⟨x1, x2, x3, x4, x5, x6⟩ := X3.out
        exact ⟨(x1.grow g3').upd (upd_six w3 yb YN) (by omega), (x2.grow g3').set YN, (x3.grow g3').upd (upd_six w3 yb YN) (by omega), UpdS.new (x4.trans g3') (upd_six w3 yb YN) (fun i hi => by omega)⟩
      clear g3 g3' X3 f1 f2 fx ha2 hA2 hr1 hr2 hjk hjn hmk hmn
      generalize ((((((w3.setCell ⟨yb, 0, none⟩ (.int .u64 YN.c0)).setCell ⟨yb, 1, none⟩ (.int .u64 YN.c1)).setCell ⟨yb, 2, none⟩ (.int .u64 YN.c2)).setCell ⟨yb, 3, none⟩ (.int .u64 YN.c3)).setCell ⟨yb, 4, none⟩ (.int .u64 YN.c4)).setCell ⟨yb, 5, none⟩ (.int .u64 YN.c5)) = w6 at X5 ⊢
      clear w3 w4
      go_wp2
      go_loopg [12] 6 (fun m iv wr => ∃ i : Nat, m = 6 - i ∧ i ≤ 6 ∧ iv = .int .i64 i ∧ Hid (CAt wr bx XN ∧ CAt wr yb YN ∧ CAt wr bw XX ∧ Grow w wr))
      case atStart => exact ⟨0, rfl, by omega, rfl, X5⟩
      case round =>
        obtain ⟨i, hk, hj, rfl, Y⟩ := hrel
        by_cases hlt : i < 6
        · have hle' : (i : Int) < 6 := by omega
          have HL2 : Hid (i < 6 ∧ gk = 6 - i) := ⟨hlt, hk⟩
          have hc1 := fun w' => cget_any XX (i : Int) w'
          have hc2 := fun w' => cget_any XN (i : Int) w'
          have hle2 := HE.out (i : Int) ⟨by omega, by omega⟩
          generalize getC XX (i : Int) = A at hc1 hle2
          generalize getC XN (i : Int) = B at hc2 hle2
          generalize isK (i : Int) = I at hc1 hc2
          have hnl : ¬ B < A := by omega
          clear hlt hk hj hle2
          obtain ⟨⟨k0, k1, k2, k3, k4, k5⟩, -⟩ := Y.out.2.2.1
          go_wp2_with fail
          refine (hc1 wr).mono ?_
          rintro e w7 ⟨rfl, g7⟩
          clear k0 k1 k2 k3 k4 k5 hc1
          have Y7 : Hid (CAt w7 bx XN ∧ CAt w7 yb YN ∧ CAt w7 bw XX ∧ Grow w w7) := ⟨Y.out.1.grow g7, Y.out.2.1.grow g7, Y.out.2.2.1.grow g7, Y.out.2.2.2.trans g7⟩
          clear g7
          obtain ⟨⟨k0, k1, k2, k3, k4, k5⟩, -⟩ := Y7.out.1
          go_wp2_with fail
          refine (hc2 w7).mono ?_
          rintro e w8 ⟨rfl, g8⟩
          clear k0 k1 k2 k3 k4 k5 hc2
          have Y8 : Hid (CAt w8 bx XN ∧ CAt w8 yb YN ∧ CAt w8 bw XX ∧ Grow w w8) := ⟨Y7.out.1.grow g8, Y7.out.2.1.grow g8, Y7.out.2.2.1.grow g8, Y7.out.2.2.2.trans g8⟩
          clear g8 Y7
          go_wp2
          go_roundg (6 - (i + 1))
          case measure => have := HL2.out; omega
          case rel => exact ⟨i + 1, rfl, HL2.out.1, by go_num, Y8⟩
        · have hle' : ¬ (i : Int) < 6 := by omega
          clear hlt hk hj
          have YE : Hid (CAt wr bx (addL c (P.take (j + 1))) ∧ CAt wr yb (addL c (P.reverse.take (j + 1))) ∧ Grow w wr) := by
            obtain ⟨y1, y2, y3, y4⟩ := Y.out
            exact ⟨HY.out.1 ▸ y1, HY.out.2 ▸ y2, y4⟩
          go_wp2
          go_roundg (ks.length - (j + 1))
          case measure => have := HL.out; omega
          case rel => exact ⟨j + 1, rfl, HL.out.1, by go_num, YE⟩
    · have hle : ¬ (j : Int) < N9 := by have := H9.out; omega
      have hjN : j = P.length := by have := HP.out.2.2.2.1; omega
      have XE : Hid (CAt wr bx (addL c P) ∧ CAt wr yb (addL c P) ∧ Grow w wr) := by
        obtain ⟨x1, x2, x3⟩ := X.out
        rw [hjN, List.take_length] at x1
        rw [hjN, ← List.length_reverse, List.take_length, addL_reverse HP.out.2.1] at x2
        exact ⟨x1, x2, x3⟩
      clear X hlt hj hk hjN
      obtain ⟨⟨k0, k1, k2, k3, k4, k5⟩, -⟩ := XE.out.1
      obtain ⟨⟨n0, n1, n2, n3, n4, n5⟩, -⟩ := XE.out.2.1
      generalize addL c P = D at k0 k1 k2 k3 k4 k5 n0 n1 n2 n3 n4 n5
      go_wp2_with fail
      refine (lives_any wr).mono ?_
      rintro e w12 ⟨rfl, q12⟩
      go_wp2
      go_ret
      exact ⟨rfl, XE.out.2.2.trans q12⟩

set_option maxHeartbeats 8000000 in
theorem countRow_walk2 (c : C6) (kv nv : Value) (ks ns : List Int) (w : World) (hc : c.Ok) (hkr : Rd .i64 w.heap.size w kv ks) (hkw : ∀ n ∈ ks, (Lit.int .i64 n).wf = true) (hnr : Rd .u64 w.heap.size w nv ns) (hnw : ∀ n ∈ ns, (Lit.int .u64 n).wf = true) (h1 : (ns.length : Int) ≤ 8) (h2 : (ns.length : Int) < (ks.length : Int)) :
    Calls Try.prog 5 #[.agg #[.int .u64 c.c0, .int .u64 c.c1, .int .u64 c.c2, .int .u64 c.c3, .int .u64 c.c4, .int .u64 c.c5], kv, nv] w fun e w' => e = .returned (.bool true) ∧ Below w.heap.size w w' := by
  have hNk : ns.length ≤ ks.length := by omega
  have hNn : ns.length ≤ ns.length := by omega
  have hN8 : ns.length ≤ 8 := by omega
  obtain ⟨P, hP⟩ : ∃ P, P = pairs ks ns (ns.length) := ⟨_, rfl⟩
  have hPl : P.length = ns.length := by rw [hP]; exact pairs_len _ _ _
  have HP : Hid (P = pairs ks ns (ns.length) ∧ (∀ y ∈ P, U y.2) ∧ c.Ok ∧ P.length = ns.length ∧ ns.length ≤ ks.length ∧ ns.length ≤ ns.length ∧ ns.length ≤ 8) := ⟨hP, by rw [hP]; exact pairs_u hnw, hc, hPl, hNk, hNn, hN8⟩
  have HK : Hid (Rd .i64 w.heap.size w kv ks ∧ (∀ n ∈ ks, (Lit.int .i64 n).wf = true) ∧ Rd .u64 w.heap.size w nv ns) := ⟨hkr, hkw, hnr⟩
  have hI : CAt (((w.alloc (.cells #[.int .u64 c.c0, .int .u64 c.c1, .int .u64 c.c2, .int .u64 c.c3, .int .u64 c.c4, .int .u64 c.c5] 24)).alloc (.cells #[.int .u64 c.c0, .int .u64 c.c1, .int .u64 c.c2, .int .u64 c.c3, .int .u64 c.c4, .int .u64 c.c5] 24)).alloc (.cells #[.int .u64 c.c0, .int .u64 c.c1, .int .u64 c.c2, .int .u64 c.c3, .int .u64 c.c4, .int .u64 c.c5] 24)) (w.heap.size + 1) (addL c (P.take 0)) ∧ CAt (((w.alloc (.cells #[.int .u64 c.c0, .int .u64 c.c1, .int .u64 c.c2, .int .u64 c.c3, .int .u64 c.c4, .int .u64 c.c5] 24)).alloc (.cells #[.int .u64 c.c0, .int .u64 c.c1, .int .u64 c.c2, .int .u64 c.c3, .int .u64 c.c4, .int .u64 c.c5] 24)).alloc (.cells #[.int .u64 c.c0, .int .u64 c.c1, .int .u64 c.c2, .int .u64 c.c3, .int .u64 c.c4, .int .u64 c.c5] 24)) (w.heap.size + 1 + 1) (addL c (P.reverse.take 0)) ∧ Grow w (((w.alloc (.cells #[.int .u64 c.c0, .int .u64 c.c1, .int .u64 c.c2, .int .u64 c.c3, .int .u64 c.c4, .int .u64 c.c5] 24)).alloc (.cells #[.int .u64 c.c0, .int .u64 c.c1, .int .u64 c.c2, .int .u64 c.c3, .int .u64 c.c4, .int .u64 c.c5] 24)).alloc (.cells #[.int .u64 c.c0, .int .u64 c.c1, .int .u64 c.c2, .int .u64 c.c3, .int .u64 c.c4, .int .u64 c.c5] 24)) := by
    refine ⟨?_, ?_, (((Grow.refl w).alloc _).alloc _).alloc _⟩
    · have := (CAt.new (w.alloc (.cells #[.int .u64 c.c0, .int .u64 c.c1, .int .u64 c.c2, .int .u64 c.c3, .int .u64 c.c4, .int .u64 c.c5] 24)) c 24).grow ((Grow.refl _).alloc (.cells #[.int .u64 c.c0, .int .u64 c.c1, .int .u64 c.c2, .int .u64 c.c3, .int .u64 c.c4, .int .u64 c.c5] 24))
      rw [World.size_alloc] at this
      exact this
    · have := CAt.new ((w.alloc (.cells #[.int .u64 c.c0, .int .u64 c.c1, .int .u64 c.c2, .int .u64 c.c3, .int .u64 c.c4, .int .u64 c.c5] 24)).alloc (.cells #[.int .u64 c.c0, .int .u64 c.c1, .int .u64 c.c2, .int .u64 c.c3, .int .u64 c.c4, .int .u64 c.c5] 24)) c 24
      rw [World.size_alloc, World.size_alloc] at this
      exact this
  have HI : Hid (CAt (((w.alloc (.cells #[.int .u64 c.c0, .int .u64 c.c1, .int .u64 c.c2, .int .u64 c.c3, .int .u64 c.c4, .int .u64 c.c5] 24)).alloc (.cells #[.int .u64 c.c0, .int .u64 c.c1, .int .u64 c.c2, .int .u64 c.c3, .int .u64 c.c4, .int .u64 c.c5] 24)).alloc (.cells #[.int .u64 c.c0, .int .u64 c.c1, .int .u64 c.c2, .int .u64 c.c3, .int .u64 c.c4, .int .u64 c.c5] 24)) (w.heap.size + 1) (addL c (P.take 0)) ∧ CAt (((w.alloc (.cells #[.int .u64 c.c0, .int .u64 c.c1, .int .u64 c.c2, .int .u64 c.c3, .int .u64 c.c4, .int .u64 c.c5] 24)).alloc (.cells #[.int .u64 c.c0, .int .u64 c.c1, .int .u64 c.c2, .int .u64 c.c3, .int .u64 c.c4, .int .u64 c.c5] 24)).alloc (.cells #[.int .u64 c.c0, .int .u64 c.c1, .int .u64 c.c2, .int .u64 c.c3, .int .u64 c.c4, .int .u64 c.c5] 24)) (w.heap.size + 1 + 1) (addL c (P.reverse.take 0)) ∧ Grow w (((w.alloc (.cells #[.int .u64 c.c0, .int .u64 c.c1, .int .u64 c.c2, .int .u64 c.c3, .int .u64 c.c4, .int .u64 c.c5] 24)).alloc (.cells #[.int .u64 c.c0, .int .u64 c.c1, .int .u64 c.c2, .int .u64 c.c3, .int .u64 c.c4, .int .u64 c.c5] 24)).alloc (.cells #[.int .u64 c.c0, .int .u64 c.c1, .int .u64 c.c2, .int .u64 c.c3, .int .u64 c.c4, .int .u64 c.c5] 24))) := hI
  clear hI
  obtain ⟨ak, ck, rfl, -⟩ := hkr
  obtain ⟨an, cn, rfl, -⟩ := hnr
  clear hP hPl hNk hNn hN8 hkw hnw hc
  go_enter Try.func5, Try.ntmps5
  go_wp2
  clear h1 h2
  obtain ⟨N9, h9⟩ : ∃ N9 : Int, N9 = (ns.length : Int) := ⟨_, rfl⟩
  rw [← h9]
  have H9 : Hid (N9 = ((ns.length : Nat) : Int)) := h9
  clear h9
  obtain ⟨bx, hbx⟩ : ∃ bx, bx = w.heap.size + 1 := ⟨_, rfl⟩
  obtain ⟨yb, hyb⟩ : ∃ yb, yb = bx + 1 := ⟨_, rfl⟩
  obtain ⟨b0, hb0⟩ : ∃ b0, b0 = w.heap.size := ⟨_, rfl⟩
  generalize ((w.alloc (.cells #[.int .u64 c.c0, .int .u64 c.c1, .int .u64 c.c2, .int .u64 c.c3, .int .u64 c.c4, .int .u64 c.c5] 24)).alloc (.cells #[.int .u64 c.c0, .int .u64 c.c1, .int .u64 c.c2, .int .u64 c.c3, .int .u64 c.c4, .int .u64 c.c5] 24)).alloc (.cells #[.int .u64 c.c0, .int .u64 c.c1, .int .u64 c.c2, .int .u64 c.c3, .int .u64 c.c4, .int .u64 c.c5] 24) = w1 at HI ⊢
  rw [← hbx, ← hyb] at HI ⊢
  rw [← hb0] at hbx HK ⊢
  have HB : Hid (bx = b0 + 1 ∧ yb = bx + 1 ∧ b0 = w.heap.size) := ⟨hbx, hyb, hb0⟩
  clear hbx hyb hb0
  go_loopg [10] (ns.length) (fun m i wr => ∃ j : Nat, m = ns.length - j ∧ j ≤ ns.length ∧ i = .int .i64 j ∧ Hid (CAt wr bx (addL c (P.take j)) ∧ CAt wr yb (addL c (P.reverse.take j)) ∧ Grow w wr))
  case atStart => exact ⟨0, by omega, by omega, rfl, HI⟩
  case round =>
    obtain ⟨j, hk, hj, rfl, X⟩ := hrel
    by_cases hlt : j < ns.length
    · obtain ⟨m, hm⟩ : ∃ m, m = ns.length - 1 - j := ⟨_, rfl⟩
      have hNs := HP.out.2.2.2.2
      have hle : (j : Int) < N9 := by have := H9.out; omega
      have hjk : (j : Int) < (ks.length : Int) := by omega
      have hjn : (j : Int) < (ns.length : Int) := by omega
      have hmk : (m : Int) < (ks.length : Int) := by omega
      have hmn : (m : Int) < (ns.length : Int) := by omega
      have hr1 : IntKind.i64.wrap (N9 - 1) = N9 - 1 := by have := H9.out; rw [IntKind.wrap_i64]; omega
      have hr2 : IntKind.i64.wrap (N9 - 1 - (j : Int)) = (m : Int) := by have := H9.out; rw [IntKind.wrap_i64]; omega
      have hr3 : IntKind.i64.wrap ((j : Int) + 1) = (j : Int) + 1 := by rw [IntKind.wrap_i64]; omega
      have HL : Hid (j < ns.length ∧ gk = ns.length - j) := ⟨hlt, hk⟩
      have hpj : P[j]? = some (around (ks.getD j 0) 6, ns.getD j 0) := by rw [HP.out.1]; exact pairs_at _ _ _ _ hlt
      have hpm : P.reverse[j]? = some (around (ks.getD m 0) 6, ns.getD m 0) := by
        rw [List.getElem?_reverse (by have := HP.out.2.2.2.1; omega), HP.out.2.2.2.1, ← hm, HP.out.1]; exact pairs_at _ _ _ _ (by omega)
      have hx1 := addL_take (c := c) hpj
      have hy1 := addL_take (c := c) hpm
      have hxo : (addL c (P.take j)).Ok := addL_ok HP.out.2.2.1 (take_u HP.out.2.1)
      have hyo : (addL c (P.reverse.take j)).Ok := addL_ok HP.out.2.2.1 (take_u (fun y hy => HP.out.2.1 y (List.mem_reverse.1 hy)))
      have hu1 : U (ns.getD j 0) := HP.out.2.1 _ (List.mem_of_getElem? hpj)
      have hu2 : U (ns.getD m 0) := HP.out.2.1 _ (List.mem_reverse.1 (List.mem_of_getElem? hpm))
      have hz : ∀ i, i < ks.length → (Lit.int .i64 (ks.getD i 0)).wf = true := fun i hi => by
        refine HK.out.2.1 _ ?_
        have : ks.getD i 0 = ks[i]'hi := by simp [List.getD, List.getElem?_eq_getElem hi]
        rw [this]; exact List.getElem_mem _
      have ha1 := fun w' => around_any (ks.getD j 0) 6 w' (hz j (by omega)) (by omega) (by omega)
      have ha2 := fun w' => around_any (ks.getD m 0) 6 w' (hz m (by omega)) (by omega) (by omega)
      obtain ⟨-, -, -, bk, ok, rfl, hbk, hck⟩ := HK.out.1.addr (by omega)
      obtain ⟨-, -, -, bn, on, rfl, hbn, hcn⟩ := HK.out.2.2.addr (by omega)
      have k1 := hck j (by omega)
      have k2 := hck m (by omega)
      have n1 := hcn j (by omega)
      have n2 := hcn m (by omega)
      generalize ks.getD j 0 = z1 at hx1 ha1 k1 hpj
      generalize ks.getD m 0 = z2 at hy1 ha2 k2 hpm
      generalize ns.getD j 0 = y1 at hx1 hu1 n1 hpj
      generalize ns.getD m 0 = y2 at hy1 hu2 n2 hpm
      generalize around z1 6 = e1 at hx1 ha1 hpj
      generalize around z2 6 = e2 at hy1 ha2 hpm
      clear hck hcn hpj hpm hz
      simp only at hx1 hy1
      have hA1 := fun w' => cadd_any (addL c (P.take j)) e1 y1 w' hxo hu1
      have hA2 := fun w' => cadd_any (addL c (P.reverse.take j)) e2 y2 w' hyo hu2
      have hge : ∀ i, 0 ≤ i ∧ i < 6 → getC (addL c (P.take j)) i ≤ getC (addL c (P.take (j + 1))) i := fun i hi => by rw [hx1]; exact getC_le hxo hu1 hi
      rw [← hx1] at hA1
      rw [← hy1] at hA2
      have HE : Hid (∀ i, 0 ≤ i ∧ i < 6 → getC (addL c (P.take j)) i ≤ getC (addL c (P.take (j + 1))) i) := hge
      have HC : Hid (b0 = w.heap.size ∧ bk < b0 ∧ bn < b0 ∧ w.cell? ⟨bk, ok + j, none⟩ = some (.int .i64 z1) ∧ w.cell? ⟨bk, ok + m, none⟩ = some (.int .i64 z2) ∧ w.cell? ⟨bn, on + j, none⟩ = some (.int .u64 y1) ∧ w.cell? ⟨bn, on + m, none⟩ = some (.int .u64 y2)) :=
        ⟨HB.out.2.2, hbk, hbn, k1, k2, n1, n2⟩
      clear hx1 hy1 hxo hyo hu1 hu2 hge hbk hbn k1 k2 n1 n2 hm hNs hlt hk hj
      obtain ⟨XX, hXX⟩ : ∃ XX, XX = addL c (P.take j) := ⟨_, rfl⟩
      obtain ⟨XN, hXN⟩ : ∃ XN, XN = addL c (P.take (j + 1)) := ⟨_, rfl⟩
      obtain ⟨YY, hYY⟩ : ∃ YY, YY = addL c (P.reverse.take j) := ⟨_, rfl⟩
      obtain ⟨YN, hYN⟩ : ∃ YN, YN = addL c (P.reverse.take (j + 1)) := ⟨_, rfl⟩
      rw [← hXX] at X hA1 HE
      rw [← hXN] at hA1 HE
      rw [← hYY] at X hA2
      rw [← hYN] at hA2
      have HY : Hid (XN = addL c (P.take (j + 1)) ∧ YN = addL c (P.reverse.take (j + 1))) := ⟨hXN, hYN⟩
      clear hXX hXN hYY hYN
      have X1 : Hid (CAt (wr.alloc (.cells #[.int .u64 XX.c0, .int .u64 XX.c1, .int .u64 XX.c2, .int .u64 XX.c3, .int .u64 XX.c4, .int .u64 XX.c5] 24)) bx XX ∧ CAt (wr.alloc (.cells #[.int .u64 XX.c0, .int .u64 XX.c1, .int .u64 XX.c2, .int .u64 XX.c3, .int .u64 XX.c4, .int .u64 XX.c5] 24)) yb YY ∧ CAt (wr.alloc (.cells #[.int .u64 XX.c0, .int .u64 XX.c1, .int .u64 XX.c2, .int .u64 XX.c3, .int .u64 XX.c4, .int .u64 XX.c5] 24)) wr.heap.size XX ∧ Grow w (wr.alloc (.cells #[.int .u64 XX.c0, .int .u64 XX.c1, .int .u64 XX.c2, .int .u64 XX.c3, .int .u64 XX.c4, .int .u64 XX.c5] 24)) ∧ bx < wr.heap.size ∧ yb < wr.heap.size) :=
        ⟨X.out.1.grow ((Grow.refl _).alloc _), X.out.2.1.grow ((Grow.refl _).alloc _), CAt.new wr XX _, X.out.2.2.alloc _, X.out.1.lt, X.out.2.1.lt⟩
      obtain ⟨⟨q0, q1, q2, q3, q4, q5⟩, -⟩ := X.out.1
      clear X
      go_wp2
      clear q0 q1 q2 q3 q4 q5
      generalize wr.alloc (.cells #[.int .u64 XX.c0, .int .u64 XX.c1, .int .u64 XX.c2, .int .u64 XX.c3, .int .u64 XX.c4, .int .u64 XX.c5] 24) = w2 at X1 ⊢
      generalize wr.heap.size = bw at X1 ⊢
      clear wr
      have f1 : ∀ w', Grow w2.drew w' → w'.cell? ⟨bk, ok + j, none⟩ = some (.int .i64 z1) := fun w' hG => by
        rw [Below.cell (p := ⟨bk, ok + j, none⟩) ((X1.out.2.2.2.1.drew).trans hG) (by have := HC.out; show bk < _; omega)]; exact HC.out.2.2.2.1
      have f2 : ∀ w', Grow w2.drew w' → w'.cell? ⟨bn, on + j, none⟩ = some (.int .u64 y1) := fun w' hG => by
        rw [Below.cell (p := ⟨bn, on + j, none⟩) ((X1.out.2.2.2.1.drew).trans hG) (by have := HC.out; show bn < _; omega)]; exact HC.out.2.2.2.2.2.1
      have fx : ∀ w', Grow w2.drew w' → CAt w' bx XX := fun w' hG => X1.out.1.grow ((Grow.refl w2).drew.trans hG)
      refine wp_region_last 11 (by kernel_rfl) [(0, false), (1, false), (2, false), (3, false), (4, false), (6, false), (7, false), (8, false), (9, false), (5, true), (10, true)] (by kernel_rfl) (by kernel_rfl) rfl (fun _ _ d _ _ h => by cases d <;> exact h) ?_
      simp only [inOrder, List.filterMap_cons, List.filterMap_nil, List.getElem?_toArray, List.getElem?_cons_zero, List.getElem?_cons_succ, Option.map_some]
      refine wpS_read (v := .agg #[.int .u64 XX.c0, .int .u64 XX.c1, .int .u64 XX.c2, .int .u64 XX.c3, .int .u64 XX.c4, .int .u64 XX.c5]) rfl (fun w' hG => exec_loadC rfl rfl (fx w' hG)) ?_
      simp only [Act.put, List.setIfInBounds_toArray, List.set_cons_zero, List.set_cons_succ]
      repeat (first
        | (refine wpS_move rfl ?_; simp only [Act.eval, Act.put, Array.getD_eq_getD_getElem?, List.getElem?_toArray, List.getElem?_cons_zero, List.getElem?_cons_succ, Option.getD_some, List.setIfInBounds_toArray, List.set_cons_zero, List.set_cons_succ])
        | (refine wpS_assign rfl ?_; simp only [Act.eval, Act.put, Array.getD_eq_getD_getElem?, List.getElem?_toArray, List.getElem?_cons_zero, List.getElem?_cons_succ, Option.getD_some, List.setIfInBounds_toArray, List.set_cons_zero, List.set_cons_succ])
        | (refine wpS_read (v := ?_) rfl ?_ ?_; rotate_left; (focus (intro w' hG; go_simp; try (with_reducible rfl))); simp only [Act.put, List.setIfInBounds_toArray, List.set_cons_zero, List.set_cons_succ]))
      refine wpS_call (f := ?_) (args := ?_) (by rfl) ?_ ?_
      rotate_left 2; focus (go_simp; constructor <;> with_reducible rfl)
      refine (ha1 w2.drew).mono ?_
      rintro e w0 ⟨rfl, rfl⟩
      refine ⟨_, rfl, Grow.refl _, ?_⟩
      simp only [Act.put, List.setIfInBounds_toArray, List.set_cons_zero, List.set_cons_succ]
      repeat (first
        | (refine wpS_move rfl ?_; simp only [Act.eval, Act.put, Array.getD_eq_getD_getElem?, List.getElem?_toArray, List.getElem?_cons_zero, List.getElem?_cons_succ, Option.getD_some, List.setIfInBounds_toArray, List.set_cons_zero, List.set_cons_succ])
        | (refine wpS_assign rfl ?_; simp only [Act.eval, Act.put, Array.getD_eq_getD_getElem?, List.getElem?_toArray, List.getElem?_cons_zero, List.getElem?_cons_succ, Option.getD_some, List.setIfInBounds_toArray, List.set_cons_zero, List.set_cons_succ])
        | (refine wpS_read (v := ?_) rfl ?_ ?_; rotate_left; (focus (intro w' hG; go_simp; try (with_reducible rfl))); simp only [Act.put, List.setIfInBounds_toArray, List.set_cons_zero, List.set_cons_succ]))
      refine wpS_call (f := ?_) (args := ?_) (by rfl) ?_ ?_
      rotate_left 2; focus (go_simp; constructor <;> with_reducible rfl)
      refine (hA1 w2.drew).mono ?_
      rintro e w3 ⟨rfl, g3⟩
      refine ⟨_, rfl, g3, ?_⟩
      simp only [Act.put, List.setIfInBounds_toArray, List.set_cons_zero, List.set_cons_succ]
      refine wpS_nil ?_
      refine last_store rfl rfl (exec_storeC (d := XN) rfl rfl rfl (fx w3 g3)) ?_
      simp only [Act.put, List.setIfInBounds_toArray, List.set_cons_zero, List.set_cons_succ]
      have g3' : Grow w2 w3 := (Grow.refl w2).drew.trans g3
      have X3 : Hid (CAt ((((((w3.setCell ⟨bx, 0, none⟩ (.int .u64 XN.c0)).setCell ⟨bx, 1, none⟩ (.int .u64 XN.c1)).setCell ⟨bx, 2, none⟩ (.int .u64 XN.c2)).setCell ⟨bx, 3, none⟩ (.int .u64 XN.c3)).setCell ⟨bx, 4, none⟩ (.int .u64 XN.c4)).setCell ⟨bx, 5, none⟩ (.int .u64 XN.c5)) bx XN ∧ CAt ((((((w3.setCell ⟨bx, 0, none⟩ (.int .u64 XN.c0)).setCell ⟨bx, 1, none⟩ (.int .u64 XN.c1)).setCell ⟨bx, 2, none⟩ (.int .u64 XN.c2)).setCell ⟨bx, 3, none⟩ (.int .u64 XN.c3)).setCell ⟨bx, 4, none⟩ (.int .u64 XN.c4)).setCell ⟨bx, 5, none⟩ (.int .u64 XN.c5)) yb YY ∧ CAt ((((((w3.setCell ⟨bx, 0, none⟩ (.int .u64 XN.c0)).setCell ⟨bx, 1, none⟩ (.int .u64 XN.c1)).setCell ⟨bx, 2, none⟩ (.int .u64 XN.c2)).setCell ⟨bx, 3, none⟩ (.int .u64 XN.c3)).setCell ⟨bx, 4, none⟩ (.int .u64 XN.c4)).setCell ⟨bx, 5, none⟩ (.int .u64 XN.c5)) bw XX ∧ Grow w ((((((w3.setCell ⟨bx, 0, none⟩ (.int .u64 XN.c0)).setCell ⟨bx, 1, none⟩ (.int .u64 XN.c1)).setCell ⟨bx, 2, none⟩ (.int .u64 XN.c2)).setCell ⟨bx, 3, none⟩ (.int .u64 XN.c3)).setCell ⟨bx, 4, none⟩ (.int .u64 XN.c4)).setCell ⟨bx, 5, none⟩ (.int .u64 XN.c5)) ∧ bx < bw ∧ yb < bw) := by
        have hB := HB.out
        obtain ⟨x1, x2, x3, x4, x5, x6⟩ := X1.out
        exact ⟨(x1.grow g3').set XN, (x2.grow g3').upd (upd_six w3 bx XN) (by omega), (x3.grow g3').upd (upd_six w3 bx XN) (by omega), UpdS.new (x4.trans g3') (upd_six w3 bx XN) (fun i hi => by omega), x5, x6⟩
      clear g3 g3' X1 f1 f2 fx ha1 hA1
      generalize ((((((w3.setCell ⟨bx, 0, none⟩ (.int .u64 XN.c0)).setCell ⟨bx, 1, none⟩ (.int .u64 XN.c1)).setCell ⟨bx, 2, none⟩ (.int .u64 XN.c2)).setCell ⟨bx, 3, none⟩ (.int .u64 XN.c3)).setCell ⟨bx, 4, none⟩ (.int .u64 XN.c4)).setCell ⟨bx, 5, none⟩ (.int .u64 XN.c5)) = w4 at X3 ⊢
      clear w3 w2
      go_wp2
      have f1 : ∀ w', Grow w4.drew w' → w'.cell? ⟨bk, ok + m, none⟩ = some (.int .i64 z2) := fun w' hG => by
        rw [Below.cell (p := ⟨bk, ok + m, none⟩) ((X3.out.2.2.2.1.drew).trans hG) (by have := HC.out; show bk < _; omega)]; exact HC.out.2.2.2.2.1
      have f2 : ∀ w', Grow w4.drew w' → w'.cell? ⟨bn, on + m, none⟩ = some (.int .u64 y2) := fun w' hG => by
        rw [Below.cell (p := ⟨bn, on + m, none⟩) ((X3.out.2.2.2.1.drew).trans hG) (by have := HC.out; show bn < _; omega)]; exact HC.out.2.2.2.2.2.2
      have fx : ∀ w', Grow w4.drew w' → CAt w' yb YY := fun w' hG => X3.out.2.1.grow ((Grow.refl w4).drew.trans hG)
      refine wp_region_last 17 (by kernel_rfl) [(0, false), (1, false), (2, false), (3, false), (4, false), (5, false), (6, false), (7, false), (9, false), (10, false), (11, false), (12, false), (13, false), (14, false), (15, false), (8, true), (16, true)] (by kernel_rfl) (by kernel_rfl) rfl (fun _ _ d _ _ h => by cases d <;> exact h) ?_
      simp only [inOrder, List.filterMap_cons, List.filterMap_nil, List.getElem?_toArray, List.getElem?_cons_zero, List.getElem?_cons_succ, Option.map_some]
      refine wpS_read (v := .agg #[.int .u64 YY.c0, .int .u64 YY.c1, .int .u64 YY.c2, .int .u64 YY.c3, .int .u64 YY.c4, .int .u64 YY.c5]) rfl (fun w' hG => exec_loadC rfl rfl (fx w' hG)) ?_
      simp only [Act.put, List.setIfInBounds_toArray, List.set_cons_zero, List.set_cons_succ]
      repeat (first
        | (refine wpS_move rfl ?_; simp only [Act.eval, Act.put, Array.getD_eq_getD_getElem?, List.getElem?_toArray, List.getElem?_cons_zero, List.getElem?_cons_succ, Option.getD_some, List.setIfInBounds_toArray, List.set_cons_zero, List.set_cons_succ])
        | (refine wpS_assign rfl ?_; simp only [Act.eval, Act.put, Array.getD_eq_getD_getElem?, List.getElem?_toArray, List.getElem?_cons_zero, List.getElem?_cons_succ, Option.getD_some, List.setIfInBounds_toArray, List.set_cons_zero, List.set_cons_succ])
        | (refine wpS_read (v := ?_) rfl ?_ ?_; rotate_left; (focus (intro w' hG; go_simp; try (with_reducible rfl))); simp only [Act.put, List.setIfInBounds_toArray, List.set_cons_zero, List.set_cons_succ]))
      refine wpS_call (f := ?_) (args := ?_) (by rfl) ?_ ?_
      rotate_left 2; focus (go_simp; constructor <;> with_reducible rfl)
      refine (ha2 w4.drew).mono ?_
      rintro e w0 ⟨rfl, rfl⟩
      refine ⟨_, rfl, Grow.refl _, ?_⟩
      simp only [Act.put, List.setIfInBounds_toArray, List.set_cons_zero, List.set_cons_succ]
      repeat (first
        | (refine wpS_move rfl ?_; simp only [Act.eval, Act.put, Array.getD_eq_getD_getElem?, List.getElem?_toArray, List.getElem?_cons_zero, List.getElem?_cons_succ, Option.getD_some, List.setIfInBounds_toArray, List.set_cons_zero, List.set_cons_succ])
        | (refine wpS_assign rfl ?_; simp only [Act.eval, Act.put, Array.getD_eq_getD_getElem?, List.getElem?_toArray, List.getElem?_cons_zero, List.getElem?_cons_succ, Option.getD_some, List.setIfInBounds_toArray, List.set_cons_zero, List.set_cons_succ])
        | (refine wpS_read (v := ?_) rfl ?_ ?_; rotate_left; (focus (intro w' hG; go_simp; try (with_reducible rfl))); simp only [Act.put, List.setIfInBounds_toArray, List.set_cons_zero, List.set_cons_succ]))
      refine wpS_call (f := ?_) (args := ?_) (by rfl) ?_ ?_
      rotate_left 2; focus (go_simp; constructor <;> with_reducible rfl)
      refine (hA2 w4.drew).mono ?_
      rintro e w3 ⟨rfl, g3⟩
      refine ⟨_, rfl, g3, ?_⟩
      simp only [Act.put, List.setIfInBounds_toArray, List.set_cons_zero, List.set_cons_succ]
      refine wpS_nil ?_
      refine last_store rfl rfl (exec_storeC (d := YN) rfl rfl rfl (fx w3 g3)) ?_
      simp only [Act.put, List.setIfInBounds_toArray, List.set_cons_zero, List.set_cons_succ]
      have g3' : Grow w4 w3 := (Grow.refl w4).drew.trans g3
      have X5 : Hid (CAt ((((((w3.setCell ⟨yb, 0, none⟩ (.int .u64 YN.c0)).setCell ⟨yb, 1, none⟩ (.int .u64 YN.c1)).setCell ⟨yb, 2, none⟩ (.int .u64 YN.c2)).setCell ⟨yb, 3, none⟩ (.int .u64 YN.c3)).setCell ⟨yb, 4, none⟩ (.int .u64 YN.c4)).setCell ⟨yb, 5, none⟩ (.int .u64 YN.c5)) bx XN ∧ CAt ((((((w3.setCell ⟨yb, 0, none⟩ (.int .u64 YN.c0)).setCell ⟨yb, 1, none⟩ (.int .u64 YN.c1)).setCell ⟨yb, 2, none⟩ (.int .u64 YN.c2)).setCell ⟨yb, 3, none⟩ (.int .u64 YN.c3)).setCell ⟨yb, 4, none⟩ (.int .u64 YN.c4)).setCell ⟨yb, 5, none⟩ (.int .u64 YN.c5)) yb YN ∧ CAt ((((((w3.setCell ⟨yb, 0, none⟩ (.int .u64 YN.c0)).setCell ⟨yb, 1, none⟩ (.int .u64 YN.c1)).setCell ⟨yb, 2, none⟩ (.int .u64 YN.c2)).setCell ⟨yb, 3, none⟩ (.int .u64 YN.c3)).setCell ⟨yb, 4, none⟩ (.int .u64 YN.c4)).setCell ⟨yb, 5, none⟩ (.int .u64 YN.c5)) bw XX ∧ Grow w ((((((w3.setCell ⟨yb, 0, none⟩ (.int .u64 YN.c0)).setCell ⟨yb, 1, none⟩ (.int .u64 YN.c1)).setCell ⟨yb, 2, none⟩ (.int .u64 YN.c2)).setCell ⟨yb, 3, none⟩ (.int .u64 YN.c3)).setCell ⟨yb, 4, none⟩ (.int .u64 YN.c4)).setCell ⟨yb, 5, none⟩ (.int .u64 YN.c5))) := by
        have hB := HB.out
        obtain ⟨x1, x2, x3, x4, x5, x6⟩ := X3.out
        exact ⟨(x1.grow g3').upd (upd_six w3 yb YN) (by omega), (x2.grow g3').set YN, (x3.grow g3').upd (upd_six w3 yb YN) (by omega), UpdS.new (x4.trans g3') (upd_six w3 yb YN) (fun i hi => by omega)⟩
      clear g3 g3' X3 f1 f2 fx ha2 hA2 hr1 hr2 hjk hjn hmk hmn
      generalize ((((((w3.setCell ⟨yb, 0, none⟩ (.int .u64 YN.c0)).setCell ⟨yb, 1, none⟩ (.int .u64 YN.c1)).setCell ⟨yb, 2, none⟩ (.int .u64 YN.c2)).setCell ⟨yb, 3, none⟩ (.int .u64 YN.c3)).setCell ⟨yb, 4, none⟩ (.int .u64 YN.c4)).setCell ⟨yb, 5, none⟩ (.int .u64 YN.c5)) = w6 at X5 ⊢
      clear w3 w4
      go_wp2
      go_loopg [12] 6 (fun m iv wr => ∃ i : Nat, m = 6 - i ∧ i ≤ 6 ∧ iv = .int .i64 i ∧ Hid (CAt wr bx XN ∧ CAt wr yb YN ∧ CAt wr bw XX ∧ Grow w wr))
      case atStart => exact ⟨0, rfl, by omega, rfl, X5⟩
      case round =>
        obtain ⟨i, hk, hj, rfl, Y⟩ := hrel
        by_cases hlt : i < 6
        · have hle' : (i : Int) < 6 := by omega
          have HL2 : Hid (i < 6 ∧ gk = 6 - i) := ⟨hlt, hk⟩
          have hc1 := fun w' => cget_any XX (i : Int) w'
          have hc2 := fun w' => cget_any XN (i : Int) w'
          have hle2 := HE.out (i : Int) ⟨by omega, by omega⟩
          generalize getC XX (i : Int) = A at hc1 hle2
          generalize getC XN (i : Int) = B at hc2 hle2
          generalize isK (i : Int) = I at hc1 hc2
          have hnl : ¬ B < A := by omega
          clear hlt hk hj hle2
          obtain ⟨⟨k0, k1, k2, k3, k4, k5⟩, -⟩ := Y.out.2.2.1
          go_wp2_with fail
          refine (hc1 wr).mono ?_
          rintro e w7 ⟨rfl, g7⟩
          clear k0 k1 k2 k3 k4 k5 hc1
          have Y7 : Hid (CAt w7 bx XN ∧ CAt w7 yb YN ∧ CAt w7 bw XX ∧ Grow w w7) := ⟨Y.out.1.grow g7, Y.out.2.1.grow g7, Y.out.2.2.1.grow g7, Y.out.2.2.2.trans g7⟩
          clear g7
          obtain ⟨⟨k0, k1, k2, k3, k4, k5⟩, -⟩ := Y7.out.1
          go_wp2_with fail
          refine (hc2 w7).mono ?_
          rintro e w8 ⟨rfl, g8⟩
          clear k0 k1 k2 k3 k4 k5 hc2
          have Y8 : Hid (CAt w8 bx XN ∧ CAt w8 yb YN ∧ CAt w8 bw XX ∧ Grow w w8) := ⟨Y7.out.1.grow g8, Y7.out.2.1.grow g8, Y7.out.2.2.1.grow g8, Y7.out.2.2.2.trans g8⟩
          clear g8 Y7
          go_wp2
          go_roundg (6 - (i + 1))
          case measure => have := HL2.out; omega
          case rel => exact ⟨i + 1, rfl, HL2.out.1, by go_num, Y8⟩
        · have hle' : ¬ (i : Int) < 6 := by omega
          clear hlt hk hj
          have YE : Hid (CAt wr bx (addL c (P.take (j + 1))) ∧ CAt wr yb (addL c (P.reverse.take (j + 1))) ∧ Grow w wr) := by
            obtain ⟨y1, y2, y3, y4⟩ := Y.out
            exact ⟨HY.out.1 ▸ y1, HY.out.2 ▸ y2, y4⟩
          go_wp2
          go_roundg (ns.length - (j + 1))
          case measure => have := HL.out; omega
          case rel => exact ⟨j + 1, rfl, HL.out.1, by go_num, YE⟩
    · have hle : ¬ (j : Int) < N9 := by have := H9.out; omega
      have hjN : j = P.length := by have := HP.out.2.2.2.1; omega
      have XE : Hid (CAt wr bx (addL c P) ∧ CAt wr yb (addL c P) ∧ Grow w wr) := by
        obtain ⟨x1, x2, x3⟩ := X.out
        rw [hjN, List.take_length] at x1
        rw [hjN, ← List.length_reverse, List.take_length, addL_reverse HP.out.2.1] at x2
        exact ⟨x1, x2, x3⟩
      clear X hlt hj hk hjN
      obtain ⟨⟨k0, k1, k2, k3, k4, k5⟩, -⟩ := XE.out.1
      obtain ⟨⟨n0, n1, n2, n3, n4, n5⟩, -⟩ := XE.out.2.1
      generalize addL c P = D at k0 k1 k2 k3 k4 k5 n0 n1 n2 n3 n4 n5
      go_wp2_with fail
      refine (lives_any wr).mono ?_
      rintro e w12 ⟨rfl, q12⟩
      go_wp2
      go_ret
      exact ⟨rfl, XE.out.2.2.trans q12⟩

set_option maxHeartbeats 8000000 in
theorem countRow_walk3 (c : C6) (kv nv : Value) (ks ns : List Int) (w : World) (hc : c.Ok) (hkr : Rd .i64 w.heap.size w kv ks) (hkw : ∀ n ∈ ks, (Lit.int .i64 n).wf = true) (hnr : Rd .u64 w.heap.size w nv ns) (hnw : ∀ n ∈ ns, (Lit.int .u64 n).wf = true) (h1 : (8 : Int) < (ns.length : Int)) (h2 : (ks.length : Int) ≤ 8) :
    Calls Try.prog 5 #[.agg #[.int .u64 c.c0, .int .u64 c.c1, .int .u64 c.c2, .int .u64 c.c3, .int .u64 c.c4, .int .u64 c.c5], kv, nv] w fun e w' => e = .returned (.bool true) ∧ Below w.heap.size w w' := by
  have hNk : ks.length ≤ ks.length := by omega
  have hNn : ks.length ≤ ns.length := by omega
  have hN8 : ks.length ≤ 8 := by omega
  obtain ⟨P, hP⟩ : ∃ P, P = pairs ks ns (ks.length) := ⟨_, rfl⟩
  have hPl : P.length = ks.length := by rw [hP]; exact pairs_len _ _ _
  have HP : Hid (P = pairs ks ns (ks.length) ∧ (∀ y ∈ P, U y.2) ∧ c.Ok ∧ P.length = ks.length ∧ ks.length ≤ ks.length ∧ ks.length ≤ ns.length ∧ ks.length ≤ 8) := ⟨hP, by rw [hP]; exact pairs_u hnw, hc, hPl, hNk, hNn, hN8⟩
  have HK : Hid (Rd .i64 w.heap.size w kv ks ∧ (∀ n ∈ ks, (Lit.int .i64 n).wf = true) ∧ Rd .u64 w.heap.size w nv ns) := ⟨hkr, hkw, hnr⟩
  have hI : CAt (((w.alloc (.cells #[.int .u64 c.c0, .int .u64 c.c1, .int .u64 c.c2, .int .u64 c.c3, .int .u64 c.c4, .int .u64 c.c5] 24)).alloc (.cells #[.int .u64 c.c0, .int .u64 c.c1, .int .u64 c.c2, .int .u64 c.c3, .int .u64 c.c4, .int .u64 c.c5] 24)).alloc (.cells #[.int .u64 c.c0, .int .u64 c.c1, .int .u64 c.c2, .int .u64 c.c3, .int .u64 c.c4, .int .u64 c.c5] 24)) (w.heap.size + 1) (addL c (P.take 0)) ∧ CAt (((w.alloc (.cells #[.int .u64 c.c0, .int .u64 c.c1, .int .u64 c.c2, .int .u64 c.c3, .int .u64 c.c4, .int .u64 c.c5] 24)).alloc (.cells #[.int .u64 c.c0, .int .u64 c.c1, .int .u64 c.c2, .int .u64 c.c3, .int .u64 c.c4, .int .u64 c.c5] 24)).alloc (.cells #[.int .u64 c.c0, .int .u64 c.c1, .int .u64 c.c2, .int .u64 c.c3, .int .u64 c.c4, .int .u64 c.c5] 24)) (w.heap.size + 1 + 1) (addL c (P.reverse.take 0)) ∧ Grow w (((w.alloc (.cells #[.int .u64 c.c0, .int .u64 c.c1, .int .u64 c.c2, .int .u64 c.c3, .int .u64 c.c4, .int .u64 c.c5] 24)).alloc (.cells #[.int .u64 c.c0, .int .u64 c.c1, .int .u64 c.c2, .int .u64 c.c3, .int .u64 c.c4, .int .u64 c.c5] 24)).alloc (.cells #[.int .u64 c.c0, .int .u64 c.c1, .int .u64 c.c2, .int .u64 c.c3, .int .u64 c.c4, .int .u64 c.c5] 24)) := by
    refine ⟨?_, ?_, (((Grow.refl w).alloc _).alloc _).alloc _⟩
    · have := (CAt.new (w.alloc (.cells #[.int .u64 c.c0, .int .u64 c.c1, .int .u64 c.c2, .int .u64 c.c3, .int .u64 c.c4, .int .u64 c.c5] 24)) c 24).grow ((Grow.refl _).alloc (.cells #[.int .u64 c.c0, .int .u64 c.c1, .int .u64 c.c2, .int .u64 c.c3, .int .u64 c.c4, .int .u64 c.c5] 24))
      rw [World.size_alloc] at this
      exact this
    · have := CAt.new ((w.alloc (.cells #[.int .u64 c.c0, .int .u64 c.c1, .int .u64 c.c2, .int .u64 c.c3, .int .u64 c.c4, .int .u64 c.c5] 24)).alloc (.cells #[.int .u64 c.c0, .int .u64 c.c1, .int .u64 c.c2, .int .u64 c.c3, .int .u64 c.c4, .int .u64 c.c5] 24)) c 24
      rw [World.size_alloc, World.size_alloc] at this
      exact this
  have HI : Hid (CAt (((w.alloc (.cells #[.int .u64 c.c0, .int .u64 c.c1, .int .u64 c.c2, .int .u64 c.c3, .int .u64 c.c4, .int .u64 c.c5] 24)).alloc (.cells #[.int .u64 c.c0, .int .u64 c.c1, .int .u64 c.c2, .int .u64 c.c3, .int .u64 c.c4, .int .u64 c.c5] 24)).alloc (.cells #[.int .u64 c.c0, .int .u64 c.c1, .int .u64 c.c2, .int .u64 c.c3, .int .u64 c.c4, .int .u64 c.c5] 24)) (w.heap.size + 1) (addL c (P.take 0)) ∧ CAt (((w.alloc (.cells #[.int .u64 c.c0, .int .u64 c.c1, .int .u64 c.c2, .int .u64 c.c3, .int .u64 c.c4, .int .u64 c.c5] 24)).alloc (.cells #[.int .u64 c.c0, .int .u64 c.c1, .int .u64 c.c2, .int .u64 c.c3, .int .u64 c.c4, .int .u64 c.c5] 24)).alloc (.cells #[.int .u64 c.c0, .int .u64 c.c1, .int .u64 c.c2, .int .u64 c.c3, .int .u64 c.c4, .int .u64 c.c5] 24)) (w.heap.size + 1 + 1) (addL c (P.reverse.take 0)) ∧ Grow w (((w.alloc (.cells #[.int .u64 c.c0, .int .u64 c.c1, .int .u64 c.c2, .int .u64 c.c3, .int .u64 c.c4, .int .u64 c.c5] 24)).alloc (.cells #[.int .u64 c.c0, .int .u64 c.c1, .int .u64 c.c2, .int .u64 c.c3, .int .u64 c.c4, .int .u64 c.c5] 24)).alloc (.cells #[.int .u64 c.c0, .int .u64 c.c1, .int .u64 c.c2, .int .u64 c.c3, .int .u64 c.c4, .int .u64 c.c5] 24))) := hI
  clear hI
  obtain ⟨ak, ck, rfl, -⟩ := hkr
  obtain ⟨an, cn, rfl, -⟩ := hnr
  clear hP hPl hNk hNn hN8 hkw hnw hc
  go_enter Try.func5, Try.ntmps5
  go_wp2
  clear h1 h2
  obtain ⟨N9, h9⟩ : ∃ N9 : Int, N9 = (ks.length : Int) := ⟨_, rfl⟩
  rw [← h9]
  have H9 : Hid (N9 = ((ks.length : Nat) : Int)) := h9
  clear h9
  obtain ⟨bx, hbx⟩ : ∃ bx, bx = w.heap.size + 1 := ⟨_, rfl⟩
  obtain ⟨yb, hyb⟩ : ∃ yb, yb = bx + 1 := ⟨_, rfl⟩
  obtain ⟨b0, hb0⟩ : ∃ b0, b0 = w.heap.size := ⟨_, rfl⟩
  generalize ((w.alloc (.cells #[.int .u64 c.c0, .int .u64 c.c1, .int .u64 c.c2, .int .u64 c.c3, .int .u64 c.c4, .int .u64 c.c5] 24)).alloc (.cells #[.int .u64 c.c0, .int .u64 c.c1, .int .u64 c.c2, .int .u64 c.c3, .int .u64 c.c4, .int .u64 c.c5] 24)).alloc (.cells #[.int .u64 c.c0, .int .u64 c.c1, .int .u64 c.c2, .int .u64 c.c3, .int .u64 c.c4, .int .u64 c.c5] 24) = w1 at HI ⊢
  rw [← hbx, ← hyb] at HI ⊢
  rw [← hb0] at hbx HK ⊢
  have HB : Hid (bx = b0 + 1 ∧ yb = bx + 1 ∧ b0 = w.heap.size) := ⟨hbx, hyb, hb0⟩
  clear hbx hyb hb0
  go_loopg [10] (ks.length) (fun m i wr => ∃ j : Nat, m = ks.length - j ∧ j ≤ ks.length ∧ i = .int .i64 j ∧ Hid (CAt wr bx (addL c (P.take j)) ∧ CAt wr yb (addL c (P.reverse.take j)) ∧ Grow w wr))
  case atStart => exact ⟨0, by omega, by omega, rfl, HI⟩
  case round =>
    obtain ⟨j, hk, hj, rfl, X⟩ := hrel
    by_cases hlt : j < ks.length
    · obtain ⟨m, hm⟩ : ∃ m, m = ks.length - 1 - j := ⟨_, rfl⟩
      have hNs := HP.out.2.2.2.2
      have hle : (j : Int) < N9 := by have := H9.out; omega
      have hjk : (j : Int) < (ks.length : Int) := by omega
      have hjn : (j : Int) < (ns.length : Int) := by omega
      have hmk : (m : Int) < (ks.length : Int) := by omega
      have hmn : (m : Int) < (ns.length : Int) := by omega
      have hr1 : IntKind.i64.wrap (N9 - 1) = N9 - 1 := by have := H9.out; rw [IntKind.wrap_i64]; omega
      have hr2 : IntKind.i64.wrap (N9 - 1 - (j : Int)) = (m : Int) := by have := H9.out; rw [IntKind.wrap_i64]; omega
      have hr3 : IntKind.i64.wrap ((j : Int) + 1) = (j : Int) + 1 := by rw [IntKind.wrap_i64]; omega
      have HL : Hid (j < ks.length ∧ gk = ks.length - j) := ⟨hlt, hk⟩
      have hpj : P[j]? = some (around (ks.getD j 0) 6, ns.getD j 0) := by rw [HP.out.1]; exact pairs_at _ _ _ _ hlt
      have hpm : P.reverse[j]? = some (around (ks.getD m 0) 6, ns.getD m 0) := by
        rw [List.getElem?_reverse (by have := HP.out.2.2.2.1; omega), HP.out.2.2.2.1, ← hm, HP.out.1]; exact pairs_at _ _ _ _ (by omega)
      have hx1 := addL_take (c := c) hpj
      have hy1 := addL_take (c := c) hpm
      have hxo : (addL c (P.take j)).Ok := addL_ok HP.out.2.2.1 (take_u HP.out.2.1)
      have hyo : (addL c (P.reverse.take j)).Ok := addL_ok HP.out.2.2.1 (take_u (fun y hy => HP.out.2.1 y (List.mem_reverse.1 hy)))
      have hu1 : U (ns.getD j 0) := HP.out.2.1 _ (List.mem_of_getElem? hpj)
      have hu2 : U (ns.getD m 0) := HP.out.2.1 _ (List.mem_reverse.1 (List.mem_of_getElem? hpm))
      have hz : ∀ i, i < ks.length → (Lit.int .i64 (ks.getD i 0)).wf = true := fun i hi => by
        refine HK.out.2.1 _ ?_
        have : ks.getD i 0 = ks[i]'hi := by simp [List.getD, List.getElem?_eq_getElem hi]
        rw [this]; exact List.getElem_mem _
      have ha1 := fun w' => around_any (ks.getD j 0) 6 w' (hz j (by omega)) (by omega) (by omega)
      have ha2 := fun w' => around_any (ks.getD m 0) 6 w' (hz m (by omega)) (by omega) (by omega)
      obtain ⟨-, -, -, bk, ok, rfl, hbk, hck⟩ := HK.out.1.addr (by omega)
      obtain ⟨-, -, -, bn, on, rfl, hbn, hcn⟩ := HK.out.2.2.addr (by omega)
      have k1 := hck j (by omega)
      have k2 := hck m (by omega)
      have n1 := hcn j (by omega)
      have n2 := hcn m (by omega)
      generalize ks.getD j 0 = z1 at hx1 ha1 k1 hpj
      generalize ks.getD m 0 = z2 at hy1 ha2 k2 hpm
      generalize ns.getD j 0 = y1 at hx1 hu1 n1 hpj
      generalize ns.getD m 0 = y2 at hy1 hu2 n2 hpm
      generalize around z1 6 = e1 at hx1 ha1 hpj
      generalize around z2 6 = e2 at hy1 ha2 hpm
      clear hck hcn hpj hpm hz
      simp only at hx1 hy1
      have hA1 := fun w' => cadd_any (addL c (P.take j)) e1 y1 w' hxo hu1
      have hA2 := fun w' => cadd_any (addL c (P.reverse.take j)) e2 y2 w' hyo hu2
      have hge : ∀ i, 0 ≤ i ∧ i < 6 → getC (addL c (P.take j)) i ≤ getC (addL c (P.take (j + 1))) i := fun i hi => by rw [hx1]; exact getC_le hxo hu1 hi
      rw [← hx1] at hA1
      rw [← hy1] at hA2
      have HE : Hid (∀ i, 0 ≤ i ∧ i < 6 → getC (addL c (P.take j)) i ≤ getC (addL c (P.take (j + 1))) i) := hge
      have HC : Hid (b0 = w.heap.size ∧ bk < b0 ∧ bn < b0 ∧ w.cell? ⟨bk, ok + j, none⟩ = some (.int .i64 z1) ∧ w.cell? ⟨bk, ok + m, none⟩ = some (.int .i64 z2) ∧ w.cell? ⟨bn, on + j, none⟩ = some (.int .u64 y1) ∧ w.cell? ⟨bn, on + m, none⟩ = some (.int .u64 y2)) :=
        ⟨HB.out.2.2, hbk, hbn, k1, k2, n1, n2⟩
      clear hx1 hy1 hxo hyo hu1 hu2 hge hbk hbn k1 k2 n1 n2 hm hNs hlt hk hj
      obtain ⟨XX, hXX⟩ : ∃ XX, XX = addL c (P.take j) := ⟨_, rfl⟩
      obtain ⟨XN, hXN⟩ : ∃ XN, XN = addL c (P.take (j + 1)) := ⟨_, rfl⟩
      obtain ⟨YY, hYY⟩ : ∃ YY, YY = addL c (P.reverse.take j) := ⟨_, rfl⟩
      obtain ⟨YN, hYN⟩ : ∃ YN, YN = addL c (P.reverse.take (j + 1)) := ⟨_, rfl⟩
      rw [← hXX] at X hA1 HE
      rw [← hXN] at hA1 HE
      rw [← hYY] at X hA2
      rw [← hYN] at hA2
      have HY : Hid (XN = addL c (P.take (j + 1)) ∧ YN = addL c (P.reverse.take (j + 1))) := ⟨hXN, hYN⟩
      clear hXX hXN hYY hYN
      have X1 : Hid (CAt (wr.alloc (.cells #[.int .u64 XX.c0, .int .u64 XX.c1, .int .u64 XX.c2, .int .u64 XX.c3, .int .u64 XX.c4, .int .u64 XX.c5] 24)) bx XX ∧ CAt (wr.alloc (.cells #[.int .u64 XX.c0, .int .u64 XX.c1, .int .u64 XX.c2, .int .u64 XX.c3, .int .u64 XX.c4, .int .u64 XX.c5] 24)) yb YY ∧ CAt (wr.alloc (.cells #[.int .u64 XX.c0, .int .u64 XX.c1, .int .u64 XX.c2, .int .u64 XX.c3, .int .u64 XX.c4, .int .u64 XX.c5] 24)) wr.heap.size XX ∧ Grow w (wr.alloc (.cells #[.int .u64 XX.c0, .int .u64 XX.c1, .int .u64 XX.c2, .int .u64 XX.c3, .int .u64 XX.c4, .int .u64 XX.c5] 24)) ∧ bx < wr.heap.size ∧ yb < wr.heap.size) :=
        ⟨X.out.1.grow ((Grow.refl _).alloc _), X.out.2.1.grow ((Grow.refl _).alloc _), CAt.new wr XX _, X.out.2.2.alloc _, X.out.1.lt, X.out.2.1.lt⟩
      obtain ⟨⟨q0, q1, q2, q3, q4, q5⟩, -⟩ := X.out.1
      clear X
      go_wp2
      clear q0 q1 q2 q3 q4 q5
      generalize wr.alloc (.cells #[.int .u64 XX.c0, .int .u64 XX.c1, .int .u64 XX.c2, .int .u64 XX.c3, .int .u64 XX.c4, .int .u64 XX.c5] 24) = w2 at X1 ⊢
      generalize wr.heap.size = bw at X1 ⊢
      clear wr
      have f1 : ∀ w', Grow w2.drew w' → w'.cell? ⟨bk, ok + j, none⟩ = some (.int .i64 z1) := fun w' hG => by
        rw [Below.cell (p := ⟨bk, ok + j, none⟩) ((X1.out.2.2.2.1.drew).trans hG) (by have := HC.out; show bk < _; omega)]; exact HC.out.2.2.2.1
      have f2 : ∀ w', Grow w2.drew w' → w'.cell? ⟨bn, on + j, none⟩ = some (.int .u64 y1) := fun w' hG => by
        rw [Below.cell (p := ⟨bn, on + j, none⟩) ((X1.out.2.2.2.1.drew).trans hG) (by have := HC.out; show bn < _; omega)]; exact HC.out.2.2.2.2.2.1
      have fx : ∀ w', Grow w2.drew w' → CAt w' bx XX := fun w' hG => X1.out.1.grow ((Grow.refl w2).drew.trans hG)
      refine wp_region_last 11 (by kernel_rfl) [(0, false), (1, false), (2, false), (3, false), (4, false), (6, false), (7, false), (8, false), (9, false), (5, true), (10, true)] (by kernel_rfl) (by kernel_rfl) rfl (fun _ _ d _ _ h => by cases d <;> exact h) ?_
      simp only [inOrder, List.filterMap_cons, List.filterMap_nil, List.getElem?_toArray, List.getElem?_cons_zero, List.getElem?_cons_succ, Option.map_some]
      refine wpS_read (v := .agg #[.int .u64 XX.c0, .int .u64 XX.c1, .int .u64 XX.c2, .int .u64 XX.c3, .int .u64 XX.c4, .int .u64 XX.c5]) rfl (fun w' hG => exec_loadC rfl rfl (fx w' hG)) ?_
      simp only [Act.put, List.setIfInBounds_toArray, List.set_cons_zero, List.set_cons_succ]
      repeat (first
        | (refine wpS_move rfl ?_; simp only [Act.eval, Act.put, Array.getD_eq_getD_getElem?, List.getElem?_toArray, List.getElem?_cons_zero, List.getElem?_cons_succ, Option.getD_some, List.setIfInBounds_toArray, List.set_cons_zero, List.set_cons_succ])
        | (refine wpS_assign rfl ?_; simp only [Act.eval, Act.put, Array.getD_eq_getD_getElem?, List.getElem?_toArray, List.getElem?_cons_zero, List.getElem?_cons_succ, Option.getD_some, List.setIfInBounds_toArray, List.set_cons_zero, List.set_cons_succ])
        | (refine wpS_read (v := ?_) rfl ?_ ?_; rotate_left; (focus (intro w' hG; go_simp; try (with_reducible rfl))); simp only [Act.put, List.setIfInBounds_toArray, List.set_cons_zero, List.set_cons_succ]))
      refine wpS_call (f := ?_) (args := ?_) (by rfl) ?_ ?_
      rotate_left 2; focus (go_simp; constructor <;> with_reducible rfl)
      refine (ha1 w2.drew).mono ?_
      rintro e w0 ⟨rfl, rfl⟩
      refine ⟨_, rfl, Grow.refl _, ?_⟩
      simp only [Act.put, List.setIfInBounds_toArray, List.set_cons_zero, List.set_cons_succ]
      repeat (first
        | (refine wpS_move rfl ?_; simp only [Act.eval, Act.put, Array.getD_eq_getD_getElem?, List.getElem?_toArray, List.getElem?_cons_zero, List.getElem?_cons_succ, Option.getD_some, List.setIfInBounds_toArray, List.set_cons_zero, List.set_cons_succ])
        | (refine wpS_assign rfl ?_; simp only [Act.eval, Act.put, Array.getD_eq_getD_getElem?, List.getElem?_toArray, List.getElem?_cons_zero, List.getElem?_cons_succ, Option.getD_some, List.setIfInBounds_toArray, List.set_cons_zero, List.set_cons_succ])
        | (refine wpS_read (v := ?_) rfl ?_ ?_; rotate_left; (focus (intro w' hG; go_simp; try (with_reducible rfl))); simp only [Act.put, List.setIfInBounds_toArray, List.set_cons_zero, List.set_cons_succ]))
      refine wpS_call (f := ?_) (args := ?_) (by rfl) ?_ ?_
      rotate_left 2; focus (go_simp; constructor <;> with_reducible rfl)
      refine (hA1 w2.drew).mono ?_
      rintro e w3 ⟨rfl, g3⟩
      refine ⟨_, rfl, g3, ?_⟩
      simp only [Act.put, List.setIfInBounds_toArray, List.set_cons_zero, List.set_cons_succ]
      refine wpS_nil ?_
      refine last_store rfl rfl (exec_storeC (d := XN) rfl rfl rfl (fx w3 g3)) ?_
      simp only [Act.put, List.setIfInBounds_toArray, List.set_cons_zero, List.set_cons_succ]
      have g3' : Grow w2 w3 := (Grow.refl w2).drew.trans g3
      have X3 : Hid (CAt ((((((w3.setCell ⟨bx, 0, none⟩ (.int .u64 XN.c0)).setCell ⟨bx, 1, none⟩ (.int .u64 XN.c1)).setCell ⟨bx, 2, none⟩ (.int .u64 XN.c2)).setCell ⟨bx, 3, none⟩ (.int .u64 XN.c3)).setCell ⟨bx, 4, none⟩ (.int .u64 XN.c4)).setCell ⟨bx, 5, none⟩ (.int .u64 XN.c5)) bx XN ∧ CAt ((((((w3.setCell ⟨bx, 0, none⟩ (.int .u64 XN.c0)).setCell ⟨bx, 1, none⟩ (.int .u64 XN.c1)).setCell ⟨bx, 2, none⟩ (.int .u64 XN.c2)).setCell ⟨bx, 3, none⟩ (.int .u64 XN.c3)).setCell ⟨bx, 4, none⟩ (.int .u64 XN.c4)).setCell ⟨bx, 5, none⟩ (.int .u64 XN.c5)) yb YY ∧ CAt ((((((w3.setCell ⟨bx, 0, none⟩ (.int .u64 XN.c0)).setCell ⟨bx, 1, none⟩ (.int .u64 XN.c1)).setCell ⟨bx, 2, none⟩ (.int .u64 XN.c2)).setCell ⟨bx, 3, none⟩ (.int .u64 XN.c3)).setCell ⟨bx, 4, none⟩ (.int .u64 XN.c4)).setCell ⟨bx, 5, none⟩ (.int .u64 XN.c5)) bw XX ∧ Grow w ((((((w3.setCell ⟨bx, 0, none⟩ (.int .u64 XN.c0)).setCell ⟨bx, 1, none⟩ (.int .u64 XN.c1)).setCell ⟨bx, 2, none⟩ (.int .u64 XN.c2)).setCell ⟨bx, 3, none⟩ (.int .u64 XN.c3)).setCell ⟨bx, 4, none⟩ (.int .u64 XN.c4)).setCell ⟨bx, 5, none⟩ (.int .u64 XN.c5)) ∧ bx < bw ∧ yb < bw) := by
        have hB := HB.out
        obtain ⟨x1, x2, x3, x4, x5, x6⟩ := X1.out
        exact ⟨(x1.grow g3').set XN, (x2.grow g3').upd (upd_six w3 bx XN) (by omega), (x3.grow g3').upd (upd_six w3 bx XN) (by omega), UpdS.new (x4.trans g3') (upd_six w3 bx XN) (fun i hi => by omega), x5, x6⟩
      clear g3 g3' X1 f1 f2 fx ha1 hA1
      generalize ((((((w3.setCell ⟨bx, 0, none⟩ (.int .u64 XN.c0)).setCell ⟨bx, 1, none⟩ (.int .u64 XN.c1)).setCell ⟨bx, 2, none⟩ (.int .u64 XN.c2)).setCell ⟨bx, 3, none⟩ (.int .u64 XN.c3)).setCell ⟨bx, 4, none⟩ (.int .u64 XN.c4)).setCell ⟨bx, 5, none⟩ (.int .u64 XN.c5)) = w4 at X3 ⊢
      clear w3 w2
      go_wp2
      have f1 : ∀ w', Grow w4.drew w' → w'.cell? ⟨bk, ok + m, none⟩ = some (.int .i64 z2) := fun w' hG => by
        rw [Below.cell (p := ⟨bk, ok + m, none⟩) ((X3.out.2.2.2.1.drew).trans hG) (by have := HC.out; show bk < _; omega)]; exact HC.out.2.2.2.2.1
      have f2 : ∀ w', Grow w4.drew w' → w'.cell? ⟨bn, on + m, none⟩ = some (.int .u64 y2) := fun w' hG => by
        rw [Below.cell (p := ⟨bn, on + m, none⟩) ((X3.out.2.2.2.1.drew).trans hG) (by have := HC.out; show bn < _; omega)]; exact HC.out.2.2.2.2.2.2
      have fx : ∀ w', Grow w4.drew w' → CAt w' yb YY := fun w' hG => X3.out.2.1.grow ((Grow.refl w4).drew.trans hG)
      refine wp_region_last 17 (by kernel_rfl) [(0, false), (1, false), (2, false), (3, false), (4, false), (5, false), (6, false), (7, false), (9, false), (10, false), (11, false), (12, false), (13, false), (14, false), (15, false), (8, true), (16, true)] (by kernel_rfl) (by kernel_rfl) rfl (fun _ _ d _ _ h => by cases d <;> exact h) ?_
      simp only [inOrder, List.filterMap_cons, List.filterMap_nil, List.getElem?_toArray, List.getElem?_cons_zero, List.getElem?_cons_succ, Option.map_some]
      refine wpS_read (v := .agg #[.int .u64 YY.c0, .int .u64 YY.c1, .int .u64 YY.c2, .int .u64 YY.c3, .int .u64 YY.c4, .int .u64 YY.c5]) rfl (fun w' hG => exec_loadC rfl rfl (fx w' hG)) ?_
      simp only [Act.put, List.setIfInBounds_toArray, List.set_cons_zero, List.set_cons_succ]
      repeat (first
        | (refine wpS_move rfl ?_; simp only [Act.eval, Act.put, Array.getD_eq_getD_getElem?, List.getElem?_toArray, List.getElem?_cons_zero, List.getElem?_cons_succ, Option.getD_some, List.setIfInBounds_toArray, List.set_cons_zero, List.set_cons_succ])
        | (refine wpS_assign rfl ?_; simp only [Act.eval, Act.put, Array.getD_eq_getD_getElem?, List.getElem?_toArray, List.getElem?_cons_zero, List.getElem?_cons_succ, Option.getD_some, List.setIfInBounds_toArray, List.set_cons_zero, List.set_cons_succ])
        | (refine wpS_read (v := ?_) rfl ?_ ?_; rotate_left; (focus (intro w' hG; go_simp; try (with_reducible rfl))); simp only [Act.put, List.setIfInBounds_toArray, List.set_cons_zero, List.set_cons_succ]))
      refine wpS_call (f := ?_) (args := ?_) (by rfl) ?_ ?_
      rotate_left 2; focus (go_simp; constructor <;> with_reducible rfl)
      refine (ha2 w4.drew).mono ?_
      rintro e w0 ⟨rfl, rfl⟩
      refine ⟨_, rfl, Grow.refl _, ?_⟩
      simp only [Act.put, List.setIfInBounds_toArray, List.set_cons_zero, List.set_cons_succ]
      repeat (first
        | (refine wpS_move rfl ?_; simp only [Act.eval, Act.put, Array.getD_eq_getD_getElem?, List.getElem?_toArray, List.getElem?_cons_zero, List.getElem?_cons_succ, Option.getD_some, List.setIfInBounds_toArray, List.set_cons_zero, List.set_cons_succ])
        | (refine wpS_assign rfl ?_; simp only [Act.eval, Act.put, Array.getD_eq_getD_getElem?, List.getElem?_toArray, List.getElem?_cons_zero, List.getElem?_cons_succ, Option.getD_some, List.setIfInBounds_toArray, List.set_cons_zero, List.set_cons_succ])
        | (refine wpS_read (v := ?_) rfl ?_ ?_; rotate_left; (focus (intro w' hG; go_simp; try (with_reducible rfl))); simp only [Act.put, List.setIfInBounds_toArray, List.set_cons_zero, List.set_cons_succ]))
      refine wpS_call (f := ?_) (args := ?_) (by rfl) ?_ ?_
      rotate_left 2; focus (go_simp; constructor <;> with_reducible rfl)
      refine (hA2 w4.drew).mono ?_
      rintro e w3 ⟨rfl, g3⟩
      refine ⟨_, rfl, g3, ?_⟩
      simp only [Act.put, List.setIfInBounds_toArray, List.set_cons_zero, List.set_cons_succ]
      refine wpS_nil ?_
      refine last_store rfl rfl (exec_storeC (d := YN) rfl rfl rfl (fx w3 g3)) ?_
      simp only [Act.put, List.setIfInBounds_toArray, List.set_cons_zero, List.set_cons_succ]
      have g3' : Grow w4 w3 := (Grow.refl w4).drew.trans g3
      have X5 : Hid (CAt ((((((w3.setCell ⟨yb, 0, none⟩ (.int .u64 YN.c0)).setCell ⟨yb, 1, none⟩ (.int .u64 YN.c1)).setCell ⟨yb, 2, none⟩ (.int .u64 YN.c2)).setCell ⟨yb, 3, none⟩ (.int .u64 YN.c3)).setCell ⟨yb, 4, none⟩ (.int .u64 YN.c4)).setCell ⟨yb, 5, none⟩ (.int .u64 YN.c5)) bx XN ∧ CAt ((((((w3.setCell ⟨yb, 0, none⟩ (.int .u64 YN.c0)).setCell ⟨yb, 1, none⟩ (.int .u64 YN.c1)).setCell ⟨yb, 2, none⟩ (.int .u64 YN.c2)).setCell ⟨yb, 3, none⟩ (.int .u64 YN.c3)).setCell ⟨yb, 4, none⟩ (.int .u64 YN.c4)).setCell ⟨yb, 5, none⟩ (.int .u64 YN.c5)) yb YN ∧ CAt ((((((w3.setCell ⟨yb, 0, none⟩ (.int .u64 YN.c0)).setCell ⟨yb, 1, none⟩ (.int .u64 YN.c1)).setCell ⟨yb, 2, none⟩ (.int .u64 YN.c2)).setCell ⟨yb, 3, none⟩ (.int .u64 YN.c3)).setCell ⟨yb, 4, none⟩ (.int .u64 YN.c4)).setCell ⟨yb, 5, none⟩ (.int .u64 YN.c5)) bw XX ∧ Grow w ((((((w3.setCell ⟨yb, 0, none⟩ (.int .u64 YN.c0)).setCell ⟨yb, 1, none⟩ (.int .u64 YN.c1)).setCell ⟨yb, 2, none⟩ (.int .u64 YN.c2)).setCell ⟨yb, 3, none⟩ (.int .u64 YN.c3)).setCell ⟨yb, 4, none⟩ (.int .u64 YN.c4)).setCell ⟨yb, 5, none⟩ (.int .u64 YN.c5))) := by
        have hB := HB.out
        obtain ⟨x1, x2, x3, x4, x5, x6⟩ := X3.out
        exact ⟨(x1.grow g3').upd (upd_six w3 yb YN) (by omega), (x2.grow g3').set YN, (x3.grow g3').upd (upd_six w3 yb YN) (by omega), UpdS.new (x4.trans g3') (upd_six w3 yb YN) (fun i hi => by omega)⟩
      clear g3 g3' X3 f1 f2 fx ha2 hA2 hr1 hr2 hjk hjn hmk hmn
      generalize ((((((w3.setCell ⟨yb, 0, none⟩ (.int .u64 YN.c0)).setCell ⟨yb, 1, none⟩ (.int .u64 YN.c1)).setCell ⟨yb, 2, none⟩ (.int .u64 YN.c2)).setCell ⟨yb, 3, none⟩ (.int .u64 YN.c3)).setCell ⟨yb, 4, none⟩ (.int .u64 YN.c4)).setCell ⟨yb, 5, none⟩ (.int .u64 YN.c5)) = w6 at X5 ⊢
      clear w3 w4
      go_wp2
      go_loopg [12] 6 (fun m iv wr => ∃ i : Nat, m = 6 - i ∧ i ≤ 6 ∧ iv = .int .i64 i ∧ Hid (CAt wr bx XN ∧ CAt wr yb YN ∧ CAt wr bw XX ∧ Grow w wr))
      case atStart => exact ⟨0, rfl, by omega, rfl, X5⟩
      case round =>
        obtain ⟨i, hk, hj, rfl, Y⟩ := hrel
        by_cases hlt : i < 6
        · have hle' : (i : Int) < 6 := by omega
          have HL2 : Hid (i < 6 ∧ gk = 6 - i) := ⟨hlt, hk⟩
          have hc1 := fun w' => cget_any XX (i : Int) w'
          have hc2 := fun w' => cget_any XN (i : Int) w'
          have hle2 := HE.out (i : Int) ⟨by omega, by omega⟩
          generalize getC XX (i : Int) = A at hc1 hle2
          generalize getC XN (i : Int) = B at hc2 hle2
          generalize isK (i : Int) = I at hc1 hc2
          have hnl : ¬ B < A := by omega
          clear hlt hk hj hle2
          obtain ⟨⟨k0, k1, k2, k3, k4, k5⟩, -⟩ := Y.out.2.2.1
          go_wp2_with fail
          refine (hc1 wr).mono ?_
          rintro e w7 ⟨rfl, g7⟩
          clear k0 k1 k2 k3 k4 k5 hc1
          have Y7 : Hid (CAt w7 bx XN ∧ CAt w7 yb YN ∧ CAt w7 bw XX ∧ Grow w w7) := ⟨Y.out.1.grow g7, Y.out.2.1.grow g7, Y.out.2.2.1.grow g7, Y.out.2.2.2.trans g7⟩
          clear g7
          obtain ⟨⟨k0, k1, k2, k3, k4, k5⟩, -⟩ := Y7.out.1
          go_wp2_with fail
          refine (hc2 w7).mono ?_
          rintro e w8 ⟨rfl, g8⟩
          clear k0 k1 k2 k3 k4 k5 hc2
          have Y8 : Hid (CAt w8 bx XN ∧ CAt w8 yb YN ∧ CAt w8 bw XX ∧ Grow w w8) := ⟨Y7.out.1.grow g8, Y7.out.2.1.grow g8, Y7.out.2.2.1.grow g8, Y7.out.2.2.2.trans g8⟩
          clear g8 Y7
          go_wp2
          go_roundg (6 - (i + 1))
          case measure => have := HL2.out; omega
          case rel => exact ⟨i + 1, rfl, HL2.out.1, by go_num, Y8⟩
        · have hle' : ¬ (i : Int) < 6 := by omega
          clear hlt hk hj
          have YE : Hid (CAt wr bx (addL c (P.take (j + 1))) ∧ CAt wr yb (addL c (P.reverse.take (j + 1))) ∧ Grow w wr) := by
            obtain ⟨y1, y2, y3, y4⟩ := Y.out
            exact ⟨HY.out.1 ▸ y1, HY.out.2 ▸ y2, y4⟩
          go_wp2
          go_roundg (ks.length - (j + 1))
          case measure => have := HL.out; omega
          case rel => exact ⟨j + 1, rfl, HL.out.1, by go_num, YE⟩
    · have hle : ¬ (j : Int) < N9 := by have := H9.out; omega
      have hjN : j = P.length := by have := HP.out.2.2.2.1; omega
      have XE : Hid (CAt wr bx (addL c P) ∧ CAt wr yb (addL c P) ∧ Grow w wr) := by
        obtain ⟨x1, x2, x3⟩ := X.out
        rw [hjN, List.take_length] at x1
        rw [hjN, ← List.length_reverse, List.take_length, addL_reverse HP.out.2.1] at x2
        exact ⟨x1, x2, x3⟩
      clear X hlt hj hk hjN
      obtain ⟨⟨k0, k1, k2, k3, k4, k5⟩, -⟩ := XE.out.1
      obtain ⟨⟨n0, n1, n2, n3, n4, n5⟩, -⟩ := XE.out.2.1
      generalize addL c P = D at k0 k1 k2 k3 k4 k5 n0 n1 n2 n3 n4 n5
      go_wp2_with fail
      refine (lives_any wr).mono ?_
      rintro e w12 ⟨rfl, q12⟩
      go_wp2
      go_ret
      exact ⟨rfl, XE.out.2.2.trans q12⟩

set_option maxHeartbeats 8000000 in
theorem countRow_walk4 (c : C6) (kv nv : Value) (ks ns : List Int) (w : World) (hc : c.Ok) (hkr : Rd .i64 w.heap.size w kv ks) (hkw : ∀ n ∈ ks, (Lit.int .i64 n).wf = true) (hnr : Rd .u64 w.heap.size w nv ns) (hnw : ∀ n ∈ ns, (Lit.int .u64 n).wf = true) (h1 : (8 : Int) < (ns.length : Int)) (h2 : (8 : Int) < (ks.length : Int)) :
    Calls Try.prog 5 #[.agg #[.int .u64 c.c0, .int .u64 c.c1, .int .u64 c.c2, .int .u64 c.c3, .int .u64 c.c4, .int .u64 c.c5], kv, nv] w fun e w' => e = .returned (.bool true) ∧ Below w.heap.size w w' := by
  have hNk : 8 ≤ ks.length := by omega
  have hNn : 8 ≤ ns.length := by omega
  have hN8 : 8 ≤ 8 := by omega
  obtain ⟨P, hP⟩ : ∃ P, P = pairs ks ns (8) := ⟨_, rfl⟩
  have hPl : P.length = 8 := by rw [hP]; exact pairs_len _ _ _
  have HP : Hid (P = pairs ks ns (8) ∧ (∀ y ∈ P, U y.2) ∧ c.Ok ∧ P.length = 8 ∧ 8 ≤ ks.length ∧ 8 ≤ ns.length ∧ 8 ≤ 8) := ⟨hP, by rw [hP]; exact pairs_u hnw, hc, hPl, hNk, hNn, hN8⟩
  have HK : Hid (Rd .i64 w.heap.size w kv ks ∧ (∀ n ∈ ks, (Lit.int .i64 n).wf = true) ∧ Rd .u64 w.heap.size w nv ns) := ⟨hkr, hkw, hnr⟩
  have hI : CAt (((w.alloc (.cells #[.int .u64 c.c0, .int .u64 c.c1, .int .u64 c.c2, .int .u64 c.c3, .int .u64 c.c4, .int .u64 c.c5] 24)).alloc (.cells #[.int .u64 c.c0, .int .u64 c.c1, .int .u64 c.c2, .int .u64 c.c3, .int .u64 c.c4, .int .u64 c.c5] 24)).alloc (.cells #[.int .u64 c.c0, .int .u64 c.c1, .int .u64 c.c2, .int .u64 c.c3, .int .u64 c.c4, .int .u64 c.c5] 24)) (w.heap.size + 1) (addL c (P.take 0)) ∧ CAt (((w.alloc (.cells #[.int .u64 c.c0, .int .u64 c.c1, .int .u64 c.c2, .int .u64 c.c3, .int .u64 c.c4, .int .u64 c.c5] 24)).alloc (.cells #[.int .u64 c.c0, .int .u64 c.c1, .int .u64 c.c2, .int .u64 c.c3, .int .u64 c.c4, .int .u64 c.c5] 24)).alloc (.cells #[.int .u64 c.c0, .int .u64 c.c1, .int .u64 c.c2, .int .u64 c.c3, .int .u64 c.c4, .int .u64 c.c5] 24)) (w.heap.size + 1 + 1) (addL c (P.reverse.take 0)) ∧ Grow w (((w.alloc (.cells #[.int .u64 c.c0, .int .u64 c.c1, .int .u64 c.c2, .int .u64 c.c3, .int .u64 c.c4, .int .u64 c.c5] 24)).alloc (.cells #[.int .u64 c.c0, .int .u64 c.c1, .int .u64 c.c2, .int .u64 c.c3, .int .u64 c.c4, .int .u64 c.c5] 24)).alloc (.cells #[.int .u64 c.c0, .int .u64 c.c1, .int .u64 c.c2, .int .u64 c.c3, .int .u64 c.c4, .int .u64 c.c5] 24)) := by
    refine ⟨?_, ?_, (((Grow.refl w).alloc _).alloc _).alloc _⟩
    · have := (CAt.new (w.alloc (.cells #[.int .u64 c.c0, .int .u64 c.c1, .int .u64 c.c2, .int .u64 c.c3, .int .u64 c.c4, .int .u64 c.c5] 24)) c 24).grow ((Grow.refl _).alloc (.cells #[.int .u64 c.c0, .int .u64 c.c1, .int .u64 c.c2, .int .u64 c.c3, .int .u64 c.c4, .int .u64 c.c5] 24))
      rw [World.size_alloc] at this
      exact this
    · have := CAt.new ((w.alloc (.cells #[.int .u64 c.c0, .int .u64 c.c1, .int .u64 c.c2, .int .u64 c.c3, .int .u64 c.c4, .int .u64 c.c5] 24)).alloc (.cells #[.int .u64 c.c0, .int .u64 c.c1, .int .u64 c.c2, .int .u64 c.c3, .int .u64 c.c4, .int .u64 c.c5] 24)) c 24
      rw [World.size_alloc, World.size_alloc] at this
      exact this
  have HI : Hid (CAt (((w.alloc (.cells #[.int .u64 c.c0, .int .u64 c.c1, .int .u64 c.c2, .int .u64 c.c3, .int .u64 c.c4, .int .u64 c.c5] 24)).alloc (.cells #[.int .u64 c.c0, .int .u64 c.c1, .int .u64 c.c2, .int .u64 c.c3, .int .u64 c.c4, .int .u64 c.c5] 24)).alloc (.cells #[.int .u64 c.c0, .int .u64 c.c1, .int .u64 c.c2, .int .u64 c.c3, .int .u64 c.c4, .int .u64 c.c5] 24)) (w.heap.size + 1) (addL c (P.take 0)) ∧ CAt (((w.alloc (.cells #[.int .u64 c.c0, .int .u64 c.c1, .int .u64 c.c2, .int .u64 c.c3, .int .u64 c.c4, .int .u64 c.c5] 24)).alloc (.cells #[.int .u64 c.c0, .int .u64 c.c1, .int .u64 c.c2, .int .u64 c.c3, .int .u64 c.c4, .int .u64 c.c5] 24)).alloc (.cells #[.int .u64 c.c0, .int .u64 c.c1, .int .u64 c.c2, .int .u64 c.c3, .int .u64 c.c4, .int .u64 c.c5] 24)) (w.heap.size + 1 + 1) (addL c (P.reverse.take 0)) ∧ Grow w (((w.alloc (.cells #[.int .u64 c.c0, .int .u64 c.c1, .int .u64 c.c2, .int .u64 c.c3, .int .u64 c.c4, .int .u64 c.c5] 24)).alloc (.cells #[.int .u64 c.c0, .int .u64 c.c1, .int .u64 c.c2, .int .u64 c.c3, .int .u64 c.c4, .int .u64 c.c5] 24)).alloc (.cells #[.int .u64 c.c0, .int .u64 c.c1, .int .u64 c.c2, .int .u64 c.c3, .int .u64 c.c4, .int .u64 c.c5] 24))) := hI
  clear hI
  obtain ⟨ak, ck, rfl, -⟩ := hkr
  obtain ⟨an, cn, rfl, -⟩ := hnr
  clear hP hPl hNk hNn hN8 hkw hnw hc
  go_enter Try.func5, Try.ntmps5
  go_wp2
  clear h1 h2
  obtain ⟨N9, h9⟩ : ∃ N9 : Int, N9 = 8 := ⟨_, rfl⟩
  rw [← h9]
  have H9 : Hid (N9 = ((8 : Nat) : Int)) := h9
  clear h9
  obtain ⟨bx, hbx⟩ : ∃ bx, bx = w.heap.size + 1 := ⟨_, rfl⟩
  obtain ⟨yb, hyb⟩ : ∃ yb, yb = bx + 1 := ⟨_, rfl⟩
  obtain ⟨b0, hb0⟩ : ∃ b0, b0 = w.heap.size := ⟨_, rfl⟩
  generalize ((w.alloc (.cells #[.int .u64 c.c0, .int .u64 c.c1, .int .u64 c.c2, .int .u64 c.c3, .int .u64 c.c4, .int .u64 c.c5] 24)).alloc (.cells #[.int .u64 c.c0, .int .u64 c.c1, .int .u64 c.c2, .int .u64 c.c3, .int .u64 c.c4, .int .u64 c.c5] 24)).alloc (.cells #[.int .u64 c.c0, .int .u64 c.c1, .int .u64 c.c2, .int .u64 c.c3, .int .u64 c.c4, .int .u64 c.c5] 24) = w1 at HI ⊢
  rw [← hbx, ← hyb] at HI ⊢
  rw [← hb0] at hbx HK ⊢
  have HB : Hid (bx = b0 + 1 ∧ yb = bx + 1 ∧ b0 = w.heap.size) := ⟨hbx, hyb, hb0⟩
  clear hbx hyb hb0
  go_loopg [10] (8) (fun m i wr => ∃ j : Nat, m = 8 - j ∧ j ≤ 8 ∧ i = .int .i64 j ∧ Hid (CAt wr bx (addL c (P.take j)) ∧ CAt wr yb (addL c (P.reverse.take j)) ∧ Grow w wr))
  case atStart => exact ⟨0, by omega, by omega, rfl, HI⟩
  case round =>
    obtain ⟨j, hk, hj, rfl, X⟩ := hrel
    by_cases hlt : j < 8
    · obtain ⟨m, hm⟩ : ∃ m, m = 8 - 1 - j := ⟨_, rfl⟩
      have hNs := HP.out.2.2.2.2
      have hle : (j : Int) < N9 := by have := H9.out; omega
      have hjk : (j : Int) < (ks.length : Int) := by omega
      have hjn : (j : Int) < (ns.length : Int) := by omega
      have hmk : (m : Int) < (ks.length : Int) := by omega
      have hmn : (m : Int) < (ns.length : Int) := by omega
      have hr1 : IntKind.i64.wrap (N9 - 1) = N9 - 1 := by have := H9.out; rw [IntKind.wrap_i64]; omega
      have hr2 : IntKind.i64.wrap (N9 - 1 - (j : Int)) = (m : Int) := by have := H9.out; rw [IntKind.wrap_i64]; omega
      have hr3 : IntKind.i64.wrap ((j : Int) + 1) = (j : Int) + 1 := by rw [IntKind.wrap_i64]; omega
      have HL : Hid (j < 8 ∧ gk = 8 - j) := ⟨hlt, hk⟩
      have hpj : P[j]? = some (around (ks.getD j 0) 6, ns.getD j 0) := by rw [HP.out.1]; exact pairs_at _ _ _ _ hlt
      have hpm : P.reverse[j]? = some (around (ks.getD m 0) 6, ns.getD m 0) := by
        rw [List.getElem?_reverse (by have := HP.out.2.2.2.1; omega), HP.out.2.2.2.1, ← hm, HP.out.1]; exact pairs_at _ _ _ _ (by omega)
      have hx1 := addL_take (c := c) hpj
      have hy1 := addL_take (c := c) hpm
      have hxo : (addL c (P.take j)).Ok := addL_ok HP.out.2.2.1 (take_u HP.out.2.1)
      have hyo : (addL c (P.reverse.take j)).Ok := addL_ok HP.out.2.2.1 (take_u (fun y hy => HP.out.2.1 y (List.mem_reverse.1 hy)))
      have hu1 : U (ns.getD j 0) := HP.out.2.1 _ (List.mem_of_getElem? hpj)
      have hu2 : U (ns.getD m 0) := HP.out.2.1 _ (List.mem_reverse.1 (List.mem_of_getElem? hpm))
      have hz : ∀ i, i < ks.length → (Lit.int .i64 (ks.getD i 0)).wf = true := fun i hi => by
        refine HK.out.2.1 _ ?_
        have : ks.getD i 0 = ks[i]'hi := by simp [List.getD, List.getElem?_eq_getElem hi]
        rw [this]; exact List.getElem_mem _
      have ha1 := fun w' => around_any (ks.getD j 0) 6 w' (hz j (by omega)) (by omega) (by omega)
      have ha2 := fun w' => around_any (ks.getD m 0) 6 w' (hz m (by omega)) (by omega) (by omega)
      obtain ⟨-, -, -, bk, ok, rfl, hbk, hck⟩ := HK.out.1.addr (by omega)
      obtain ⟨-, -, -, bn, on, rfl, hbn, hcn⟩ := HK.out.2.2.addr (by omega)
      have k1 := hck j (by omega)
      have k2 := hck m (by omega)
      have n1 := hcn j (by omega)
      have n2 := hcn m (by omega)
      generalize ks.getD j 0 = z1 at hx1 ha1 k1 hpj
      generalize ks.getD m 0 = z2 at hy1 ha2 k2 hpm
      generalize ns.getD j 0 = y1 at hx1 hu1 n1 hpj
      generalize ns.getD m 0 = y2 at hy1 hu2 n2 hpm
      generalize around z1 6 = e1 at hx1 ha1 hpj
      generalize around z2 6 = e2 at hy1 ha2 hpm
      clear hck hcn hpj hpm hz
      simp only at hx1 hy1
      have hA1 := fun w' => cadd_any (addL c (P.take j)) e1 y1 w' hxo hu1
      have hA2 := fun w' => cadd_any (addL c (P.reverse.take j)) e2 y2 w' hyo hu2
      have hge : ∀ i, 0 ≤ i ∧ i < 6 → getC (addL c (P.take j)) i ≤ getC (addL c (P.take (j + 1))) i := fun i hi => by rw [hx1]; exact getC_le hxo hu1 hi
      rw [← hx1] at hA1
      rw [← hy1] at hA2
      have HE : Hid (∀ i, 0 ≤ i ∧ i < 6 → getC (addL c (P.take j)) i ≤ getC (addL c (P.take (j + 1))) i) := hge
      have HC : Hid (b0 = w.heap.size ∧ bk < b0 ∧ bn < b0 ∧ w.cell? ⟨bk, ok + j, none⟩ = some (.int .i64 z1) ∧ w.cell? ⟨bk, ok + m, none⟩ = some (.int .i64 z2) ∧ w.cell? ⟨bn, on + j, none⟩ = some (.int .u64 y1) ∧ w.cell? ⟨bn, on + m, none⟩ = some (.int .u64 y2)) :=
        ⟨HB.out.2.2, hbk, hbn, k1, k2, n1, n2⟩
      clear hx1 hy1 hxo hyo hu1 hu2 hge hbk hbn k1 k2 n1 n2 hm hNs hlt hk hj
      obtain ⟨XX, hXX⟩ : ∃ XX, XX = addL c (P.take j) := ⟨_, rfl⟩
      obtain ⟨XN, hXN⟩ : ∃ XN, XN = addL c (P.take (j + 1)) := ⟨_, rfl⟩
      obtain ⟨YY, hYY⟩ : ∃ YY, YY = addL c (P.reverse.take j) := ⟨_, rfl⟩
      obtain ⟨YN, hYN⟩ : ∃ YN, YN = addL c (P.reverse.take (j + 1)) := ⟨_, rfl⟩
      rw [← hXX] at X hA1 HE
      rw [← hXN] at hA1 HE
      rw [← hYY] at X hA2
      rw [← hYN] at hA2
      have HY : Hid (XN = addL c (P.take (j + 1)) ∧ YN = addL c (P.reverse.take (j + 1))) := ⟨hXN, hYN⟩
      clear hXX hXN hYY hYN
      have X1 : Hid (CAt (wr.alloc (.cells #[.int .u64 XX.c0, .int .u64 XX.c1, .int .u64 XX.c2, .int .u64 XX.c3, .int .u64 XX.c4, .int .u64 XX.c5] 24)) bx XX ∧ CAt (wr.alloc (.cells #[.int .u64 XX.c0, .int .u64 XX.c1, .int .u64 XX.c2, .int .u64 XX.c3, .int .u64 XX.c4, .int .u64 XX.c5] 24)) yb YY ∧ CAt (wr.alloc (.cells #[.int .u64 XX.c0, .int .u64 XX.c1, .int .u64 XX.c2, .int .u64 XX.c3, .int .u64 XX.c4, .int .u64 XX.c5] 24)) wr.heap.size XX ∧ Grow w (wr.alloc (.cells #[.int .u64 XX.c0, .int .u64 XX.c1, .int .u64 XX.c2, .int .u64 XX.c3, .int .u64 XX.c4, .int .u64 XX.c5] 24)) ∧ bx < wr.heap.size ∧ yb < wr.heap.size) :=
        ⟨X.out.1.grow ((Grow.refl _).alloc _), X.out.2.1.grow ((Grow.refl _).alloc _), CAt.new wr XX _, X.out.2.2.alloc _, X.out.1.lt, X.out.2.1.lt⟩
      obtain ⟨⟨q0, q1, q2, q3, q4, q5⟩, -⟩ := X.out.1
      clear X
      go_wp2
      clear q0 q1 q2 q3 q4 q5
      generalize wr.alloc (.cells #[.int .u64 XX.c0, .int .u64 XX.c1, .int .u64 XX.c2, .int .u64 XX.c3, .int .u64 XX.c4, .int .u64 XX.c5] 24) = w2 at X1 ⊢
      generalize wr.heap.size = bw at X1 ⊢
      clear wr
      have f1 : ∀ w', Grow w2.drew w' → w'.cell? ⟨bk, ok + j, none⟩ = some (.int .i64 z1) := fun w' hG => by
        rw [Below.cell (p := ⟨bk, ok + j, none⟩) ((X1.out.2.2.2.1.drew).trans hG) (by have := HC.out; show bk < _; omega)]; exact HC.out.2.2.2.1
      have f2 : ∀ w', Grow w2.drew w' → w'.cell? ⟨bn, on + j, none⟩ = some (.int .u64 y1) := fun w' hG => by
        rw [Below.cell (p := ⟨bn, on + j, none⟩) ((X1.out.2.2.2.1.drew).trans hG) (by have := HC.out; show bn < _; omega)]; exact HC.out.2.2.2.2.2.1
      have fx : ∀ w', Grow w2.drew w' → CAt w' bx XX := fun w' hG => X1.out.1.grow ((Grow.refl w2).drew.trans hG)
      refine wp_region_last 11 (by kernel_rfl) [(0, false), (1, false), (2, false), (3, false), (4, false), (6, false), (7, false), (8, false), (9, false), (5, true), (10, true)] (by kernel_rfl) (by kernel_rfl) rfl (fun _ _ d _ _ h => by cases d <;> exact h) ?_
      simp only [inOrder, List.filterMap_cons, List.filterMap_nil, List.getElem?_toArray, List.getElem?_cons_zero, List.getElem?_cons_succ, Option.map_some]
      refine wpS_read (v := .agg #[.int .u64 XX.c0, .int .u64 XX.c1, .int .u64 XX.c2, .int .u64 XX.c3, .int .u64 XX.c4, .int .u64 XX.c5]) rfl (fun w' hG => exec_loadC rfl rfl (fx w' hG)) ?_
      simp only [Act.put, List.setIfInBounds_toArray, List.set_cons_zero, List.set_cons_succ]
      repeat (first
        | (refine wpS_move rfl ?_; simp only [Act.eval, Act.put, Array.getD_eq_getD_getElem?, List.getElem?_toArray, List.getElem?_cons_zero, List.getElem?_cons_succ, Option.getD_some, List.setIfInBounds_toArray, List.set_cons_zero, List.set_cons_succ])
        | (refine wpS_assign rfl ?_; simp only [Act.eval, Act.put, Array.getD_eq_getD_getElem?, List.getElem?_toArray, List.getElem?_cons_zero, List.getElem?_cons_succ, Option.getD_some, List.setIfInBounds_toArray, List.set_cons_zero, List.set_cons_succ])
        | (refine wpS_read (v := ?_) rfl ?_ ?_; rotate_left; (focus (intro w' hG; go_simp; try (with_reducible rfl))); simp only [Act.put, List.setIfInBounds_toArray, List.set_cons_zero, List.set_cons_succ]))
      refine wpS_call (f := ?_) (args := ?_) (by rfl) ?_ ?_
      rotate_left 2; focus (go_simp; constructor <;> with_reducible rfl)
      refine (ha1 w2.drew).mono ?_
      rintro e w0 ⟨rfl, rfl⟩
      refine ⟨_, rfl, Grow.refl _, ?_⟩
      simp only [Act.put, List.setIfInBounds_toArray, List.set_cons_zero, List.set_cons_succ]
      repeat (first
        | (refine wpS_move rfl ?_; simp only [Act.eval, Act.put, Array.getD_eq_getD_getElem?, List.getElem?_toArray, List.getElem?_cons_zero, List.getElem?_cons_succ, Option.getD_some, List.setIfInBounds_toArray, List.set_cons_zero, List.set_cons_succ])
        | (refine wpS_assign rfl ?_; simp only [Act.eval, Act.put, Array.getD_eq_getD_getElem?, List.getElem?_toArray, List.getElem?_cons_zero, List.getElem?_cons_succ, Option.getD_some, List.setIfInBounds_toArray, List.set_cons_zero, List.set_cons_succ])
        | (refine wpS_read (v := ?_) rfl ?_ ?_; rotate_left; (focus (intro w' hG; go_simp; try (with_reducible rfl))); simp only [Act.put, List.setIfInBounds_toArray, List.set_cons_zero, List.set_cons_succ]))
      refine wpS_call (f := ?_) (args := ?_) (by rfl) ?_ ?_
      rotate_left 2; focus (go_simp; constructor <;> with_reducible rfl)
      refine (hA1 w2.drew).mono ?_
      rintro e w3 ⟨rfl, g3⟩
      refine ⟨_, rfl, g3, ?_⟩
      simp only [Act.put, List.setIfInBounds_toArray, List.set_cons_zero, List.set_cons_succ]
      refine wpS_nil ?_
      refine last_store rfl rfl (exec_storeC (d := XN) rfl rfl rfl (fx w3 g3)) ?_
      simp only [Act.put, List.setIfInBounds_toArray, List.set_cons_zero, List.set_cons_succ]
      have g3' : Grow w2 w3 := (Grow.refl w2).drew.trans g3
      have X3 : Hid (CAt ((((((w3.setCell ⟨bx, 0, none⟩ (.int .u64 XN.c0)).setCell ⟨bx, 1, none⟩ (.int .u64 XN.c1)).setCell ⟨bx, 2, none⟩ (.int .u64 XN.c2)).setCell ⟨bx, 3, none⟩ (.int .u64 XN.c3)).setCell ⟨bx, 4, none⟩ (.int .u64 XN.c4)).setCell ⟨bx, 5, none⟩ (.int .u64 XN.c5)) bx XN ∧ CAt ((((((w3.setCell ⟨bx, 0, none⟩ (.int .u64 XN.c0)).setCell ⟨bx, 1, none⟩ (.int .u64 XN.c1)).setCell ⟨bx, 2, none⟩ (.int .u64 XN.c2)).setCell ⟨bx, 3, none⟩ (.int .u64 XN.c3)).setCell ⟨bx, 4, none⟩ (.int .u64 XN.c4)).setCell ⟨bx, 5, none⟩ (.int .u64 XN.c5)) yb YY ∧ CAt ((((((w3.setCell ⟨bx, 0, none⟩ (.int .u64 XN.c0)).setCell ⟨bx, 1, none⟩ (.int .u64 XN.c1)).setCell ⟨bx, 2, none⟩ (.int .u64 XN.c2)).setCell ⟨bx, 3, none⟩ (.int .u64 XN.c3)).setCell ⟨bx, 4, none⟩ (.int .u64 XN.c4)).setCell ⟨bx, 5, none⟩ (.int .u64 XN.c5)) bw XX ∧ Grow w ((((((w3.setCell ⟨bx, 0, none⟩ (.int .u64 XN.c0)).setCell ⟨bx, 1, none⟩ (.int .u64 XN.c1)).setCell ⟨bx, 2, none⟩ (.int .u64 XN.c2)).setCell ⟨bx, 3, none⟩ (.int .u64 XN.c3)).setCell ⟨bx, 4, none⟩ (.int .u64 XN.c4)).setCell ⟨bx, 5, none⟩ (.int .u64 XN.c5)) ∧ bx < bw ∧ yb < bw) := by
        have hB := HB.out
        obtain ⟨x1, x2, x3, x4, x5, x6⟩ := X1.out
        exact ⟨(x1.grow g3').set XN, (x2.grow g3').upd (upd_six w3 bx XN) (by omega), (x3.grow g3').upd (upd_six w3 bx XN) (by omega), UpdS.new (x4.trans g3') (upd_six w3 bx XN) (fun i hi => by omega), x5, x6⟩
      clear g3 g3' X1 f1 f2 fx ha1 hA1
      generalize ((((((w3.setCell ⟨bx, 0, none⟩ (.int .u64 XN.c0)).setCell ⟨bx, 1, none⟩ (.int .u64 XN.c1)).setCell ⟨bx, 2, none⟩ (.int .u64 XN.c2)).setCell ⟨bx, 3, none⟩ (.int .u64 XN.c3)).setCell ⟨bx, 4, none⟩ (.int .u64 XN.c4)).setCell ⟨bx, 5, none⟩ (.int .u64 XN.c5)) = w4 at X3 ⊢
      clear w3 w2
      go_wp2
      have f1 : ∀ w', Grow w4.drew w' → w'.cell? ⟨bk, ok + m, none⟩ = some (.int .i64 z2) := fun w' hG => by
        rw [Below.cell (p := ⟨bk, ok + m, none⟩) ((X3.out.2.2.2.1.drew).trans hG) (by have := HC.out; show bk < _; omega)]; exact HC.out.2.2.2.2.1
      have f2 : ∀ w', Grow w4.drew w' → w'.cell? ⟨bn, on + m, none⟩ = some (.int .u64 y2) := fun w' hG => by
        rw [Below.cell (p := ⟨bn, on + m, none⟩) ((X3.out.2.2.2.1.drew).trans hG) (by have := HC.out; show bn < _; omega)]; exact HC.out.2.2.2.2.2.2
      have fx : ∀ w', Grow w4.drew w' → CAt w' yb YY := fun w' hG => X3.out.2.1.grow ((Grow.refl w4).drew.trans hG)
      refine wp_region_last 17 (by kernel_rfl) [(0, false), (1, false), (2, false), (3, false), (4, false), (5, false), (6, false), (7, false), (9, false), (10, false), (11, false), (12, false), (13, false), (14, false), (15, false), (8, true), (16, true)] (by kernel_rfl) (by kernel_rfl) rfl (fun _ _ d _ _ h => by cases d <;> exact h) ?_
      simp only [inOrder, List.filterMap_cons, List.filterMap_nil, List.getElem?_toArray, List.getElem?_cons_zero, List.getElem?_cons_succ, Option.map_some]
      refine wpS_read (v := .agg #[.int .u64 YY.c0, .int .u64 YY.c1, .int .u64 YY.c2, .int .u64 YY.c3, .int .u64 YY.c4, .int .u64 YY.c5]) rfl (fun w' hG => exec_loadC rfl rfl (fx w' hG)) ?_
      simp only [Act.put, List.setIfInBounds_toArray, List.set_cons_zero, List.set_cons_succ]
      repeat (first
        | (refine wpS_move rfl ?_; simp only [Act.eval, Act.put, Array.getD_eq_getD_getElem?, List.getElem?_toArray, List.getElem?_cons_zero, List.getElem?_cons_succ, Option.getD_some, List.setIfInBounds_toArray, List.set_cons_zero, List.set_cons_succ])
        | (refine wpS_assign rfl ?_; simp only [Act.eval, Act.put, Array.getD_eq_getD_getElem?, List.getElem?_toArray, List.getElem?_cons_zero, List.getElem?_cons_succ, Option.getD_some, List.setIfInBounds_toArray, List.set_cons_zero, List.set_cons_succ])
        | (refine wpS_read (v := ?_) rfl ?_ ?_; rotate_left; (focus (intro w' hG; go_simp; try (with_reducible rfl))); simp only [Act.put, List.setIfInBounds_toArray, List.set_cons_zero, List.set_cons_succ]))
      refine wpS_call (f := ?_) (args := ?_) (by rfl) ?_ ?_
      rotate_left 2; focus (go_simp; constructor <;> with_reducible rfl)
      refine (ha2 w4.drew).mono ?_
      rintro e w0 ⟨rfl, rfl⟩
      refine ⟨_, rfl, Grow.refl _, ?_⟩
      simp only [Act.put, List.setIfInBounds_toArray, List.set_cons_zero, List.set_cons_succ]
      repeat (first
        | (refine wpS_move rfl ?_; simp only [Act.eval, Act.put, Array.getD_eq_getD_getElem?, List.getElem?_toArray, List.getElem?_cons_zero, List.getElem?_cons_succ, Option.getD_some, List.setIfInBounds_toArray, List.set_cons_zero, List.set_cons_succ])
        | (refine wpS_assign rfl ?_; simp only [Act.eval, Act.put, Array.getD_eq_getD_getElem?, List.getElem?_toArray, List.getElem?_cons_zero, List.getElem?_cons_succ, Option.getD_some, List.setIfInBounds_toArray, List.set_cons_zero, List.set_cons_succ])
        | (refine wpS_read (v := ?_) rfl ?_ ?_; rotate_left; (focus (intro w' hG; go_simp; try (with_reducible rfl))); simp only [Act.put, List.setIfInBounds_toArray, List.set_cons_zero, List.set_cons_succ]))
      refine wpS_call (f := ?_) (args := ?_) (by rfl) ?_ ?_
      rotate_left 2; focus (go_simp; constructor <;> with_reducible rfl)
      refine (hA2 w4.drew).mono ?_
      rintro e w3 ⟨rfl, g3⟩
      refine ⟨_, rfl, g3, ?_⟩
      simp only [Act.put, List.setIfInBounds_toArray, List.set_cons_zero, List.set_cons_succ]
      refine wpS_nil ?_
      refine last_store rfl rfl (exec_storeC (d := YN) rfl rfl rfl (fx w3 g3)) ?_
      simp only [Act.put, List.setIfInBounds_toArray, List.set_cons_zero, List.set_cons_succ]
      have g3' : Grow w4 w3 := (Grow.refl w4).drew.trans g3
      have X5 : Hid (CAt ((((((w3.setCell ⟨yb, 0, none⟩ (.int .u64 YN.c0)).setCell ⟨yb, 1, none⟩ (.int .u64 YN.c1)).setCell ⟨yb, 2, none⟩ (.int .u64 YN.c2)).setCell ⟨yb, 3, none⟩ (.int .u64 YN.c3)).setCell ⟨yb, 4, none⟩ (.int .u64 YN.c4)).setCell ⟨yb, 5, none⟩ (.int .u64 YN.c5)) bx XN ∧ CAt ((((((w3.setCell ⟨yb, 0, none⟩ (.int .u64 YN.c0)).setCell ⟨yb, 1, none⟩ (.int .u64 YN.c1)).setCell ⟨yb, 2, none⟩ (.int .u64 YN.c2)).setCell ⟨yb, 3, none⟩ (.int .u64 YN.c3)).setCell ⟨yb, 4, none⟩ (.int .u64 YN.c4)).setCell ⟨yb, 5, none⟩ (.int .u64 YN.c5)) yb YN ∧ CAt ((((((w3.setCell ⟨yb, 0, none⟩ (.int .u64 YN.c0)).setCell ⟨yb, 1, none⟩ (.int .u64 YN.c1)).setCell ⟨yb, 2, none⟩ (.int .u64 YN.c2)).setCell ⟨yb, 3, none⟩ (.int .u64 YN.c3)).setCell ⟨yb, 4, none⟩ (.int .u64 YN.c4)).setCell ⟨yb, 5, none⟩ (.int .u64 YN.c5)) bw XX ∧ Grow w ((((((w3.setCell ⟨yb, 0, none⟩ (.int .u64 YN.c0)).setCell ⟨yb, 1, none⟩ (.int .u64 YN.c1)).setCell ⟨yb, 2, none⟩ (.int .u64 YN.c2)).setCell ⟨yb, 3, none⟩ (.int .u64 YN.c3)).setCell ⟨yb, 4, none⟩ (.int .u64 YN.c4)).setCell ⟨yb, 5, none⟩ (.int .u64 YN.c5))) := by
        have hB := HB.out
        obtain ⟨x1, x2, x3, x4, x5, x6⟩ := X3.out
        exact ⟨(x1.grow g3').upd (upd_six w3 yb YN) (by omega), (x2.grow g3').set YN, (x3.grow g3').upd (upd_six w3 yb YN) (by omega), UpdS.new (x4.trans g3') (upd_six w3 yb YN) (fun i hi => by omega)⟩
      clear g3 g3' X3 f1 f2 fx ha2 hA2 hr1 hr2 hjk hjn hmk hmn
      generalize ((((((w3.setCell ⟨yb, 0, none⟩ (.int .u64 YN.c0)).setCell ⟨yb, 1, none⟩ (.int .u64 YN.c1)).setCell ⟨yb, 2, none⟩ (.int .u64 YN.c2)).setCell ⟨yb, 3, none⟩ (.int .u64 YN.c3)).setCell ⟨yb, 4, none⟩ (.int .u64 YN.c4)).setCell ⟨yb, 5, none⟩ (.int .u64 YN.c5)) = w6 at X5 ⊢
      clear w3 w4
      go_wp2
      go_loopg [12] 6 (fun m iv wr => ∃ i : Nat, m = 6 - i ∧ i ≤ 6 ∧ iv = .int .i64 i ∧ Hid (CAt wr bx XN ∧ CAt wr yb YN ∧ CAt wr bw XX ∧ Grow w wr))
      case atStart => exact ⟨0, rfl, by omega, rfl, X5⟩
      case round =>
        obtain ⟨i, hk, hj, rfl, Y⟩ := hrel
        by_cases hlt : i < 6
        · have hle' : (i : Int) < 6 := by omega
          have HL2 : Hid (i < 6 ∧ gk = 6 - i) := ⟨hlt, hk⟩
          have hc1 := fun w' => cget_any XX (i : Int) w'
          have hc2 := fun w' => cget_any XN (i : Int) w'
          have hle2 := HE.out (i : Int) ⟨by omega, by omega⟩
          generalize getC XX (i : Int) = A at hc1 hle2
          generalize getC XN (i : Int) = B at hc2 hle2
          generalize isK (i : Int) = I at hc1 hc2
          have hnl : ¬ B < A := by omega
          clear hlt hk hj hle2
          obtain ⟨⟨k0, k1, k2, k3, k4, k5⟩, -⟩ := Y.out.2.2.1
          go_wp2_with fail
          refine (hc1 wr).mono ?_
          rintro e w7 ⟨rfl, g7⟩
          clear k0 k1 k2 k3 k4 k5 hc1
          have Y7 : Hid (CAt w7 bx XN ∧ CAt w7 yb YN ∧ CAt w7 bw XX ∧ Grow w w7) := ⟨Y.out.1.grow g7, Y.out.2.1.grow g7, Y.out.2.2.1.grow g7, Y.out.2.2.2.trans g7⟩
          clear g7
          obtain ⟨⟨k0, k1, k2, k3, k4, k5⟩, -⟩ := Y7.out.1
          go_wp2_with fail
          refine (hc2 w7).mono ?_
          rintro e w8 ⟨rfl, g8⟩
          clear k0 k1 k2 k3 k4 k5 hc2
          have Y8 : Hid (CAt w8 bx XN ∧ CAt w8 yb YN ∧ CAt w8 bw XX ∧ Grow w w8) := ⟨Y7.out.1.grow g8, Y7.out.2.1.grow g8, Y7.out.2.2.1.grow g8, Y7.out.2.2.2.trans g8⟩
          clear g8 Y7
          go_wp2
          go_roundg (6 - (i + 1))
          case measure => have := HL2.out; omega
          case rel => exact ⟨i + 1, rfl, HL2.out.1, by go_num, Y8⟩
        · have hle' : ¬ (i : Int) < 6 := by omega
          clear hlt hk hj
          have YE : Hid (CAt wr bx (addL c (P.take (j + 1))) ∧ CAt wr yb (addL c (P.reverse.take (j + 1))) ∧ Grow w wr) := by
            obtain ⟨y1, y2, y3, y4⟩ := Y.out
            exact ⟨HY.out.1 ▸ y1, HY.out.2 ▸ y2, y4⟩
          go_wp2
          go_roundg (8 - (j + 1))
          case measure => have := HL.out; omega
          case rel => exact ⟨j + 1, rfl, HL.out.1, by go_num, YE⟩
    · have hle : ¬ (j : Int) < N9 := by have := H9.out; omega
      have hjN : j = P.length := by have := HP.out.2.2.2.1; omega
      have XE : Hid (CAt wr bx (addL c P) ∧ CAt wr yb (addL c P) ∧ Grow w wr) := by
        obtain ⟨x1, x2, x3⟩ := X.out
        rw [hjN, List.take_length] at x1
        rw [hjN, ← List.length_reverse, List.take_length, addL_reverse HP.out.2.1] at x2
        exact ⟨x1, x2, x3⟩
      clear X hlt hj hk hjN
      obtain ⟨⟨k0, k1, k2, k3, k4, k5⟩, -⟩ := XE.out.1
      obtain ⟨⟨n0, n1, n2, n3, n4, n5⟩, -⟩ := XE.out.2.1
      generalize addL c P = D at k0 k1 k2 k3 k4 k5 n0 n1 n2 n3 n4 n5
      go_wp2_with fail
      refine (lives_any wr).mono ?_
      rintro e w12 ⟨rfl, q12⟩
      go_wp2
      go_ret
      exact ⟨rfl, XE.out.2.2.trans q12⟩

theorem countRow_walk (c : C6) (kv nv : Value) (ks ns : List Int) (w : World) (hc : c.Ok) (hkr : Rd .i64 w.heap.size w kv ks) (hkw : ∀ n ∈ ks, (Lit.int .i64 n).wf = true) (hnr : Rd .u64 w.heap.size w nv ns) (hnw : ∀ n ∈ ns, (Lit.int .u64 n).wf = true) :
    Calls Try.prog 5 #[.agg #[.int .u64 c.c0, .int .u64 c.c1, .int .u64 c.c2, .int .u64 c.c3, .int .u64 c.c4, .int .u64 c.c5], kv, nv] w fun e w' => e = .returned (.bool true) ∧ Below w.heap.size w w' := by
  by_cases h1 : (ns.length : Int) ≤ 8
  · by_cases h2 : (ks.length : Int) ≤ (ns.length : Int)
    · exact countRow_walk1 c kv nv ks ns w hc hkr hkw hnr hnw h1 h2
    · exact countRow_walk2 c kv nv ks ns w hc hkr hkw hnr hnw h1 (by omega)
  · by_cases h2 : (ks.length : Int) ≤ 8
    · exact countRow_walk3 c kv nv ks ns w hc hkr hkw hnr hnw (by omega) h2
    · exact countRow_walk4 c kv nv ks ns w hc hkr hkw hnr hnw (by omega) (by omega)
end Go.Proofs.Ytnjifmnhcgcpiaa
