/-
  The walk of CapsForged. Conditions: the theorem's own.
-/
import Derived.Test.YtoobohbghobfhaaCapQ
namespace Go.Proofs.Ytoobohbghobfhaa
open Go.RowKit
set_option linter.unusedVariables false
set_option linter.unusedSimpArgs false

/-- is one among them? -/
def anyB (d : Cp) (l : List Cp) : Bool := l.any fun c => c.is d
theorem anyB_take {d : Cp} {l : List Cp} {j : Nat} (h : j < l.length) {x : Cp} (hx : l.getD j Cp.zero = x) : anyB d (l.take (j + 1)) = (anyB d (l.take j) || x.is d) := by
  have e : l.getD j Cp.zero = l[j] := by simp [List.getD, List.getElem?_eq_getElem h]
  rw [List.take_succ_eq_append_getElem h, ← e, hx, anyB, List.any_append]
  simp [anyB]
theorem anyB_mem {d : Cp} {l : List Cp} : anyB d l = true ↔ d ∈ l := by
  unfold anyB
  rw [List.any_eq_true]
  constructor
  · rintro ⟨x, hx, he⟩
    rw [← Cp.is_eq he]; exact hx
  · intro h
    exact ⟨d, h, Cp.is_self d⟩
theorem LwP.any {S : List Sl} {k n : Int} {L : List Cp} (h : LwP S k n L) (d : Cp) : anyB d (rootC k :: L) = goodB S d := by
  have e : anyB d (rootC k :: L) = true ↔ goodB S d = true := by
    rw [anyB_mem, h.2.2.2.1 d, List.mem_cons]
  cases h1 : anyB d (rootC k :: L) <;> cases h2 : goodB S d <;> simp_all
theorem lit_C2 (w : World) (x y z u : Int) : RdS Cp.cs 2 (fun i => i = w.heap.size) (w.alloc (.cells #[.int .i64 x, .int .i64 y, .int .i64 z, .int .i64 u] 33)) (.slice (some ⟨w.heap.size, 0, none⟩) 2 2) [⟨x, y⟩, ⟨z, u⟩] :=
  rdS_new (f := Cp.cs) (k := 2) w 33 [⟨x, y⟩, ⟨z, u⟩] cpk (by simp [maxLen])
theorem own_C1 (w : World) (x y : Int) : OwnS Cp.cs 2 (fun i => i = w.heap.size) (w.alloc (.cells #[.int .i64 x, .int .i64 y] 33)) (.slice (some ⟨w.heap.size, 0, none⟩) 1 1) [⟨x, y⟩] := by
  have hv := VarAt.new w [.int .i64 x, .int .i64 y] 33
  refine .inr ⟨w.heap.size, 0, 1, rfl, rfl, by simp, by omega, Nat.le_refl _, by simp [maxLen], fun j hj => ?_, fun j hj => ?_⟩
  · rw [Nat.zero_add]; exact (hv.2 j (by simpa using hj)).1
  · rw [Nat.zero_add]
    obtain ⟨h1, h2⟩ := hv.2 j (by simpa using hj)
    rw [h1]
    refine ⟨?_, h2⟩
    rw [List.getElem?_eq_getElem (by simpa using hj)]; rfl
theorem field_g (w : World) (a c : Int) : (Instr.field 33 (.agg #[.int .i64 a, .int .i64 c]) 1).run Try.prog w = .ok (.int .i64 c) w := by kernel_rfl

set_option maxRecDepth 16000 in
set_option maxHeartbeats 8000000 in
theorem capsForged_walk (e0 s0 g0 : Int) (v0 : Value) (ls : List Int) (w : World) (pp : Nat → Prop) (he : (Lit.int .i64 e0).wf = true) (hsl : (Lit.int .i64 s0).wf = true) (hge : (Lit.int .i64 g0).wf = true) (hl : RdV (Value.int .i64) 0 pp w v0 ls) (hls : ∀ z ∈ ls, (Lit.int .i64 z).wf = true) :
    Calls Try.prog 6 #[.int .i64 e0, .int .i64 s0, .int .i64 g0, v0] w fun e w' => e = .returned (.bool true) ∧ Grow w w' := by
  obtain ⟨i0, hi, hz0, hz1, hz2⟩ := info_parts infoC
  have hll := hl.len
  unfold maxLen at hll
  have HR : Hid (RdV (Value.int .i64) 0 pp w v0 ls ∧ ∀ z ∈ ls, (Lit.int .i64 z).wf = true) := ⟨hl, hls⟩
  obtain ⟨a0, c0, rfl⟩ := hl.shape
  clear hl hls
  have hae := fun u => around_any e0 1073741824 u he (by omega) (by omega)
  have hbe := around_bd e0 1073741824 (by omega)
  generalize around e0 1073741824 = r0 at hae hbe
  obtain ⟨E, hE⟩ : ∃ E, E = 1 + r0 := ⟨_, rfl⟩
  have hwE : IntKind.i64.wrap (1 + r0) = E := by rw [IntKind.wrap_i64]; omega
  have hE1 : 1 ≤ E := by omega
  have hE2 : E ≤ 1073741824 := by omega
  have HE : Hid (1 ≤ E ∧ E ≤ 1073741824) := ⟨hE1, hE2⟩
  clear hbe hE
  have h1 := new_in E w hE1 hE2
  obtain ⟨b, hb⟩ : ∃ b, b = w.heap.size := ⟨_, rfl⟩
  have HB : Hid (b = w.heap.size) := hb
  rw [← hb] at h1
  clear hb
  have HP0 := hid (LwP.new hE1 hE2)
  have HA9 := hid (fun u => around_any s0 9 u hsl (by omega) (by omega))
  have HB9 := hid (fun u => around_any g0 9 u hge (by omega) (by omega))
  have hb9 := around_bd g0 9 (by omega)
  generalize around s0 9 = s9 at HA9
  generalize around g0 9 = g9 at HB9 hb9
  have HG9 : Hid (0 ≤ g9 ∧ g9 < 9) := hb9
  have HKR0 := hid (fun u (hu : TbAt u b (newS E) E 1) => rootR_any b (newS E) E 1 u hu HP0.out.1.1)
  clear hb9 he hsl hge hE1 hE2
  go_enter Try.func6, Try.ntmps6
  go_wp2_with fail
  refine (hae w).mono ?_
  rintro e w1 ⟨rfl, rfl⟩
  clear hae
  go_wp2_with fail
  refine h1.mono ?_
  rintro e w1 ⟨rfl, t1, g1⟩
  have T1 := hid t1
  have G1 := hid g1
  have k1 := HKR0.out w1 t1
  clear h1 t1 g1 HKR0
  go_wp2_with fail
  refine k1.mono ?_
  rintro e w2 ⟨rfl, g2⟩
  obtain ⟨W3, hW3⟩ : ∃ W3, W3 = w2.alloc (.cells #[.int .i64 0, .int .i64 (E * 1048576)] 33) := ⟨_, rfl⟩
  obtain ⟨bl, hbl⟩ : ∃ bl, bl = w2.heap.size := ⟨_, rfl⟩
  have HM : Hid (LwM w W3 b (newS E) E 1 (.slice (some ⟨bl, 0, none⟩) 1 1) [rootC E]) := by
    have g3 : Grow w2 W3 := by rw [hW3]; exact (Grow.refl w2).alloc _
    have ho : OwnS Cp.cs 2 (fun i => i = bl) W3 (.slice (some ⟨bl, 0, none⟩) 1 1) [rootC E] := by rw [hW3, hbl]; exact own_C1 w2 0 (E * 1048576)
    have hb2 := (T1.out.grow g2).lt
    have hb3 := (G1.out.trans g2).size
    exact ⟨(T1.out.grow g2).grow g3, ho.mono (fun i _ hi => ⟨by omega, by omega⟩), (G1.out.trans g2).trans g3, by have := HB.out; omega⟩
  clear k1 T1 G1 g2
  go_upto_region 6 with fail
  rw [← hW3, ← hbl]
  clear hW3 hbl
  go_wp2
  go_loopg [12, 13] ls.length (fun m v i wr => ∃ (j : Nat) (S : List Sl) (L : List Cp), m = ls.length - j ∧ j ≤ ls.length ∧ j ≤ 5 ∧ i = .int .i64 j ∧ Hid (L.length = j ∧ LwP S E ((L.length : Int) + 1) L ∧ LwM w wr b S E ((L.length : Int) + 1) v (rootC E :: L)))
  case atStart => exact ⟨0, newS E, [], rfl, Nat.zero_le _, Nat.zero_le _, rfl, rfl, HP0.out, HM.out⟩
  case round =>
    clear HM HP0
    obtain ⟨j, S, L, hk, hj, hj7, rfl, HX⟩ := hrel
    by_cases hgo : j < ls.length ∧ j < 5
    · obtain ⟨hlt, h7⟩ := hgo
      have hlt' : (j : Int) < (ls.length : Int) := by omega
      have h7' : (j : Int) < 5 := by omega
      have HJ : Hid (j < ls.length ∧ j < 5 ∧ gk = ls.length - j) := ⟨hlt, h7, hk⟩
      obtain ⟨av, cv, hsh⟩ := HX.out.2.2.2.1.shape
      subst hsh
      obtain ⟨bb, oo, e1, -, hc⟩ := HR.out.1.addr (by omega)
      subst e1
      have f1 := hc j hlt
      have hwf : (Lit.int .i64 (ls.getD j 0)).wf = true := HR.out.2 _ (by
        have : ls.getD j 0 = ls[j] := by simp [List.getD, List.getElem?_eq_getElem hlt]
        rw [this]; exact List.getElem_mem hlt)
      generalize ls.getD j 0 = z at f1 hwf
      have har := fun u => around_any z 16 u hwf (by omega) (by omega)
      have hbd := around_bd z 16 (by omega)
      generalize around z 16 = s0 at har hbd
      obtain ⟨s, rfl⟩ := Int.eq_ofNat_of_zero_le hbd.1
      have hs : s < 16 := by omega
      have HLj : Hid (L.length = j) := HX.out.1
      have fx : ∀ w', UpdS (fun i => i = b ∨ wr.heap.size ≤ i) wr.drew w' → w'.cell? ⟨bb, oo + j, none⟩ = some (.int .i64 z) := fun w' hu =>
        arg_cell (grow_cell (HX.out.2.2.2.2.1.drew) f1) (World.block_lt_of_cell? _ _ f1) HX.out.2.2.2.2.2 HX.out.2.2.2.2.1.size hu
      have hlt8 := HX.out.2.1.lt (by rw [HX.out.1]; omega)
      have KR := hid (fun u hu => rootR_any b S E _ u hu HX.out.2.1.1.1)
      have KM := hid (fun u hu => mintR_any b S E _ s u hu HX.out.2.1.1 hlt8.1 hlt8.2 hs)
      have HN2 := hid (HX.out.2.1.mint (by rw [HX.out.1]; omega) hs)
      obtain ⟨G, hG⟩ : ∃ G, G = rootC E :: L := ⟨_, rfl⟩
      have HX0 : Hid (LwM w wr b S E ((L.length : Int) + 1) (.slice av (rootC E :: L).length cv) (rootC E :: L)) := HX.out.2.2
      rw [← hG] at HX0
      have HGG : Hid (G = rootC E :: L) := hG
      have HGl : Hid (G.length = j + 1) := by show G.length = j + 1; rw [hG, List.length_cons, HX.out.1]
      generalize hnn : ((L.length : Int) + 1) = nn at KR KM HN2 HX0
      generalize hn' : nn + 1 = n' at KM HN2
      have HNN : Hid (n' = (L.length : Int) + 1 + 1) := by show n' = _; rw [← hn', ← hnn]
      generalize hgg : (E * 1048576) + nn = gg at KM HN2
      generalize hmm : roomN S = m at KM HN2
      generalize minted S E nn s = S' at KM HN2
      have hGe : (rootC E :: L).length = G.length := by rw [hG]
      rw [hGe]
      clear hG hGe hnn hn' hgg hmm hlt8 hk hj hlt h7 hbd hs hwf hc f1 hj7 HX
      go_upto_region 9 with fail
      go_cut [14, 15] from 40 to 67 (fun pv ev wx => ∃ b11 : Nat, pv = .pointer (some ⟨b11, 0, none⟩) ∧ ev = .int .i64 0 ∧ Hid (VarAt wx b11 [.int .i64 m, .int .i64 gg] ∧ LwM w wx b S' E n' (.slice av G.length cv) G))
      case first =>
        obtain ⟨N, hN⟩ : ∃ N, N = wr.heap.size := ⟨_, rfl⟩
        have HQ := hid (HX0.out.q)
        rw [← hN] at HQ
        have fx2 := fun w' (hu : UpdS (fun i => i = b ∨ N ≤ i) wr.drew w') => fx w' (by rw [hN] at hu; exact hu)
        clear hN
        refine wp_region_treeG (UpdS (fun i => i = b ∨ N ≤ i)) (UpdS.refl _) (fun _ _ _ => UpdS.trans) (by kernel_rfl) (.read 0 (.read 1 (.read 3 (.read 4 (.read 5 (.read 6 (.fork 2 (.fork 7 (.fork 8 (.read 9 (.read 10 (.read 11 (.act 12 (.act 13 (.read 14 .done)))))) 12 (.act 8 (.read 9 (.read 10 (.read 11 (.act 13 (.read 14 .done))))))) 12 (.act 7 (.act 8 (.read 9 (.read 10 (.read 11 (.act 13 (.read 14 .done)))))))) 12 (.act 2 (.act 7 (.act 8 (.read 9 (.read 10 (.read 11 (.act 13 (.read 14 .done))))))))))))))) (by kernel_rfl) (by kernel_rfl) rfl (fun _ _ d _ _ h => by cases d <;> exact h) ?_
        simp only [Tr.over, List.getElem?_toArray, List.getElem?_cons_zero, List.getElem?_cons_succ]
        repeat (first
          | (refine wpT_move rfl ?_; simp only [Act.eval, Act.put, Array.getD_eq_getD_getElem?, List.getElem?_toArray, List.getElem?_cons_zero, List.getElem?_cons_succ, Option.getD_some, List.setIfInBounds_toArray, List.set_cons_zero, List.set_cons_succ])
          | (refine wpT_assign rfl ?_; simp only [Act.eval, Act.put, Array.getD_eq_getD_getElem?, List.getElem?_toArray, List.getElem?_cons_zero, List.getElem?_cons_succ, Option.getD_some, List.setIfInBounds_toArray, List.set_cons_zero, List.set_cons_succ])
          | (refine wpT_read (v := ?_) rfl ?_ ?_; rotate_left; (focus (intro w' hG; have fz := fx2 w' hG; go_simp; try (with_reducible rfl))); simp only [Act.put, List.setIfInBounds_toArray, List.set_cons_zero, List.set_cons_succ])
          | (refine wpT_skip rfl ?_; simp only [Act.put, List.setIfInBounds_toArray, List.set_cons_zero, List.set_cons_succ]))
        generalize wr.drew = u0 at HQ ⊢
        clear fx2
        refine wpT_fork ?_ ?_
        · skip
          refine wpT_call (f := ?_) (args := ?_) (by rfl) ?_ ?_
          rotate_left 2; focus (go_simp; constructor <;> with_reducible rfl)
          refine ((KR.out _ HQ.out.1)).mono ?_
          rintro e x1 ⟨rfl, gz⟩
          refine ⟨_, rfl, gz.s, ?_⟩
          simp only [Act.put, List.setIfInBounds_toArray, List.set_cons_zero, List.set_cons_succ]
          replace HQ := hid (HQ.out.grow gz)
          clear gz
          repeat (first
            | (refine wpT_move rfl ?_; simp only [Act.eval, Act.put, Array.getD_eq_getD_getElem?, List.getElem?_toArray, List.getElem?_cons_zero, List.getElem?_cons_succ, Option.getD_some, List.setIfInBounds_toArray, List.set_cons_zero, List.set_cons_succ])
            | (refine wpT_assign rfl ?_; simp only [Act.eval, Act.put, Array.getD_eq_getD_getElem?, List.getElem?_toArray, List.getElem?_cons_zero, List.getElem?_cons_succ, Option.getD_some, List.setIfInBounds_toArray, List.set_cons_zero, List.set_cons_succ])
            | (refine wpT_read (v := ?_) rfl ?_ ?_; rotate_left; (focus (intro w' hG; skip; go_simp; try (with_reducible rfl))); simp only [Act.put, List.setIfInBounds_toArray, List.set_cons_zero, List.set_cons_succ])
            | (refine wpT_skip rfl ?_; simp only [Act.put, List.setIfInBounds_toArray, List.set_cons_zero, List.set_cons_succ]))
          refine wpT_fork ?_ ?_
          · skip
            refine wpT_call (f := ?_) (args := ?_) (by rfl) ?_ ?_
            rotate_left 2; focus (go_simp; constructor <;> with_reducible rfl)
            refine ((har _)).mono ?_
            rintro e x2 ⟨rfl, rfl⟩
            refine ⟨_, rfl, UpdS.refl _ _, ?_⟩
            simp only [Act.put, List.setIfInBounds_toArray, List.set_cons_zero, List.set_cons_succ]
            repeat (first
              | (refine wpT_move rfl ?_; simp only [Act.eval, Act.put, Array.getD_eq_getD_getElem?, List.getElem?_toArray, List.getElem?_cons_zero, List.getElem?_cons_succ, Option.getD_some, List.setIfInBounds_toArray, List.set_cons_zero, List.set_cons_succ])
              | (refine wpT_assign rfl ?_; simp only [Act.eval, Act.put, Array.getD_eq_getD_getElem?, List.getElem?_toArray, List.getElem?_cons_zero, List.getElem?_cons_succ, Option.getD_some, List.setIfInBounds_toArray, List.set_cons_zero, List.set_cons_succ])
              | (refine wpT_read (v := ?_) rfl ?_ ?_; rotate_left; (focus (intro w' hG; skip; go_simp; try (with_reducible rfl))); simp only [Act.put, List.setIfInBounds_toArray, List.set_cons_zero, List.set_cons_succ])
              | (refine wpT_skip rfl ?_; simp only [Act.put, List.setIfInBounds_toArray, List.set_cons_zero, List.set_cons_succ]))
            refine wpT_fork ?_ ?_
            · skip
              refine wpT_call (f := ?_) (args := ?_) (by rfl) ?_ ?_
              rotate_left 2; focus (go_simp; constructor <;> with_reducible rfl)
              refine ((KM.out _ HQ.out.1)).mono ?_
              rintro e x3 ⟨rfl, tz, uz⟩
              refine ⟨_, rfl, uz.mono (fun i hi => .inl hi), ?_⟩
              simp only [Act.put, List.setIfInBounds_toArray, List.set_cons_zero, List.set_cons_succ]
              replace HQ := hid (HQ.out.turn tz uz)
              clear tz uz
              repeat (first
                | (refine wpT_move rfl ?_; simp only [Act.eval, Act.put, Array.getD_eq_getD_getElem?, List.getElem?_toArray, List.getElem?_cons_zero, List.getElem?_cons_succ, Option.getD_some, List.setIfInBounds_toArray, List.set_cons_zero, List.set_cons_succ])
                | (refine wpT_assign rfl ?_; simp only [Act.eval, Act.put, Array.getD_eq_getD_getElem?, List.getElem?_toArray, List.getElem?_cons_zero, List.getElem?_cons_succ, Option.getD_some, List.setIfInBounds_toArray, List.set_cons_zero, List.set_cons_succ])
                | (refine wpT_read (v := ?_) rfl ?_ ?_; rotate_left; (focus (intro w' hG; skip; go_simp; try (with_reducible rfl))); simp only [Act.put, List.setIfInBounds_toArray, List.set_cons_zero, List.set_cons_succ])
                | (refine wpT_skip rfl ?_; simp only [Act.put, List.setIfInBounds_toArray, List.set_cons_zero, List.set_cons_succ]))
              refine wpT_act (by rfl) (exec_allocC #[.int .i64 0, .int .i64 0] zeroC) (Grow.s ((Grow.refl _).alloc _)) ?_
              simp only [Act.put, List.setIfInBounds_toArray, List.set_cons_zero, List.set_cons_succ]
              have HV : Hid (VarAt (x3.alloc (.cells #[.int .i64 0, .int .i64 0] 33)) x3.heap.size [.int .i64 0, .int .i64 0] ∧ N ≤ x3.heap.size) := ⟨VarAt.new x3 [.int .i64 0, .int .i64 0] 33, HQ.out.2.2.2.2.2⟩
              replace HQ := hid (HQ.out.grow ((Grow.refl x3).alloc (.cells #[.int .i64 0, .int .i64 0] 33)))
              generalize x3.alloc (.cells #[.int .i64 0, .int .i64 0] 33) = x4 at HV HQ ⊢
              generalize x3.heap.size = b11 at HV ⊢
              repeat (first
                | (refine wpT_move rfl ?_; simp only [Act.eval, Act.put, Array.getD_eq_getD_getElem?, List.getElem?_toArray, List.getElem?_cons_zero, List.getElem?_cons_succ, Option.getD_some, List.setIfInBounds_toArray, List.set_cons_zero, List.set_cons_succ])
                | (refine wpT_assign rfl ?_; simp only [Act.eval, Act.put, Array.getD_eq_getD_getElem?, List.getElem?_toArray, List.getElem?_cons_zero, List.getElem?_cons_succ, Option.getD_some, List.setIfInBounds_toArray, List.set_cons_zero, List.set_cons_succ])
                | (refine wpT_read (v := ?_) rfl ?_ ?_; rotate_left; (focus (intro w' hG; skip; go_simp; try (with_reducible rfl))); simp only [Act.put, List.setIfInBounds_toArray, List.set_cons_zero, List.set_cons_succ])
                | (refine wpT_skip rfl ?_; simp only [Act.put, List.setIfInBounds_toArray, List.set_cons_zero, List.set_cons_succ]))
              obtain ⟨⟨v0, v1⟩, v3, v4⟩ := HV.out.1.two
              have hU := upd_pair x4 b11 (.int .i64 m) (.int .i64 gg)
              have HF : Hid (VarAt ((x4.setCell ⟨b11, 0, none⟩ (.int .i64 m)).setCell ⟨b11, 1, none⟩ (.int .i64 gg)) b11 [.int .i64 m, .int .i64 gg] ∧ LwM w ((x4.setCell ⟨b11, 0, none⟩ (.int .i64 m)).setCell ⟨b11, 1, none⟩ (.int .i64 gg)) b S' E n' (.slice av G.length cv) G) := ⟨HV.out.1.set2 _ _, (HQ.out.put HV.out.2 hU).m⟩
              refine wpT_store (w' := (x4.setCell ⟨b11, 0, none⟩ (.int .i64 m)).setCell ⟨b11, 1, none⟩ (.int .i64 gg)) (by rfl) ?_ ?_ ?_
              · go_simp
              · exact hU.mono (fun i hi => .inr (by have := HV.out.2; omega))
              simp only [Act.put, List.setIfInBounds_toArray, List.set_cons_zero, List.set_cons_succ]
              clear hU v0 v1 v3 v4 HQ HV
              generalize (x4.setCell ⟨b11, 0, none⟩ (.int .i64 m)).setCell ⟨b11, 1, none⟩ (.int .i64 gg) = wz at HF ⊢
              repeat (first
                | (refine wpT_move rfl ?_; simp only [Act.eval, Act.put, Array.getD_eq_getD_getElem?, List.getElem?_toArray, List.getElem?_cons_zero, List.getElem?_cons_succ, Option.getD_some, List.setIfInBounds_toArray, List.set_cons_zero, List.set_cons_succ])
                | (refine wpT_assign rfl ?_; simp only [Act.eval, Act.put, Array.getD_eq_getD_getElem?, List.getElem?_toArray, List.getElem?_cons_zero, List.getElem?_cons_succ, Option.getD_some, List.setIfInBounds_toArray, List.set_cons_zero, List.set_cons_succ])
                | (refine wpT_read (v := ?_) rfl ?_ ?_; rotate_left; (focus (intro w' hG; skip; go_simp; try (with_reducible rfl))); simp only [Act.put, List.setIfInBounds_toArray, List.set_cons_zero, List.set_cons_succ])
                | (refine wpT_skip rfl ?_; simp only [Act.put, List.setIfInBounds_toArray, List.set_cons_zero, List.set_cons_succ]))
              refine wpT_done ?_
              go_wp2_with fail
              go_meet
              exact ⟨b11, rfl, rfl, HF⟩
            · skip
              refine wpT_act (by rfl) (exec_allocC #[.int .i64 0, .int .i64 0] zeroC) (Grow.s ((Grow.refl _).alloc _)) ?_
              simp only [Act.put, List.setIfInBounds_toArray, List.set_cons_zero, List.set_cons_succ]
              have HV : Hid (VarAt (x1.alloc (.cells #[.int .i64 0, .int .i64 0] 33)) x1.heap.size [.int .i64 0, .int .i64 0] ∧ N ≤ x1.heap.size) := ⟨VarAt.new x1 [.int .i64 0, .int .i64 0] 33, HQ.out.2.2.2.2.2⟩
              replace HQ := hid (HQ.out.grow ((Grow.refl x1).alloc (.cells #[.int .i64 0, .int .i64 0] 33)))
              generalize x1.alloc (.cells #[.int .i64 0, .int .i64 0] 33) = x5 at HV HQ ⊢
              generalize x1.heap.size = b11 at HV ⊢
              repeat (first
                | (refine wpT_move rfl ?_; simp only [Act.eval, Act.put, Array.getD_eq_getD_getElem?, List.getElem?_toArray, List.getElem?_cons_zero, List.getElem?_cons_succ, Option.getD_some, List.setIfInBounds_toArray, List.set_cons_zero, List.set_cons_succ])
                | (refine wpT_assign rfl ?_; simp only [Act.eval, Act.put, Array.getD_eq_getD_getElem?, List.getElem?_toArray, List.getElem?_cons_zero, List.getElem?_cons_succ, Option.getD_some, List.setIfInBounds_toArray, List.set_cons_zero, List.set_cons_succ])
                | (refine wpT_read (v := ?_) rfl ?_ ?_; rotate_left; (focus (intro w' hG; skip; go_simp; try (with_reducible rfl))); simp only [Act.put, List.setIfInBounds_toArray, List.set_cons_zero, List.set_cons_succ])
                | (refine wpT_skip rfl ?_; simp only [Act.put, List.setIfInBounds_toArray, List.set_cons_zero, List.set_cons_succ]))
              refine wpT_call (f := ?_) (args := ?_) (by rfl) ?_ ?_
              rotate_left 2; focus (go_simp; constructor <;> with_reducible rfl)
              refine ((KM.out _ HQ.out.1)).mono ?_
              rintro e x6 ⟨rfl, tz, uz⟩
              refine ⟨_, rfl, uz.mono (fun i hi => .inl hi), ?_⟩
              simp only [Act.put, List.setIfInBounds_toArray, List.set_cons_zero, List.set_cons_succ]
              replace HV := hid (And.intro (HV.out.1.upd uz (by have := HQ.out.2.2.2.2.1; have := HV.out.2; omega)) HV.out.2)
              replace HQ := hid (HQ.out.turn tz uz)
              clear tz uz
              repeat (first
                | (refine wpT_move rfl ?_; simp only [Act.eval, Act.put, Array.getD_eq_getD_getElem?, List.getElem?_toArray, List.getElem?_cons_zero, List.getElem?_cons_succ, Option.getD_some, List.setIfInBounds_toArray, List.set_cons_zero, List.set_cons_succ])
                | (refine wpT_assign rfl ?_; simp only [Act.eval, Act.put, Array.getD_eq_getD_getElem?, List.getElem?_toArray, List.getElem?_cons_zero, List.getElem?_cons_succ, Option.getD_some, List.setIfInBounds_toArray, List.set_cons_zero, List.set_cons_succ])
                | (refine wpT_read (v := ?_) rfl ?_ ?_; rotate_left; (focus (intro w' hG; skip; go_simp; try (with_reducible rfl))); simp only [Act.put, List.setIfInBounds_toArray, List.set_cons_zero, List.set_cons_succ])
                | (refine wpT_skip rfl ?_; simp only [Act.put, List.setIfInBounds_toArray, List.set_cons_zero, List.set_cons_succ]))
              obtain ⟨⟨v0, v1⟩, v3, v4⟩ := HV.out.1.two
              have hU := upd_pair x6 b11 (.int .i64 m) (.int .i64 gg)
              have HF : Hid (VarAt ((x6.setCell ⟨b11, 0, none⟩ (.int .i64 m)).setCell ⟨b11, 1, none⟩ (.int .i64 gg)) b11 [.int .i64 m, .int .i64 gg] ∧ LwM w ((x6.setCell ⟨b11, 0, none⟩ (.int .i64 m)).setCell ⟨b11, 1, none⟩ (.int .i64 gg)) b S' E n' (.slice av G.length cv) G) := ⟨HV.out.1.set2 _ _, (HQ.out.put HV.out.2 hU).m⟩
              refine wpT_store (w' := (x6.setCell ⟨b11, 0, none⟩ (.int .i64 m)).setCell ⟨b11, 1, none⟩ (.int .i64 gg)) (by rfl) ?_ ?_ ?_
              · go_simp
              · exact hU.mono (fun i hi => .inr (by have := HV.out.2; omega))
              simp only [Act.put, List.setIfInBounds_toArray, List.set_cons_zero, List.set_cons_succ]
              clear hU v0 v1 v3 v4 HQ HV
              generalize (x6.setCell ⟨b11, 0, none⟩ (.int .i64 m)).setCell ⟨b11, 1, none⟩ (.int .i64 gg) = wz at HF ⊢
              repeat (first
                | (refine wpT_move rfl ?_; simp only [Act.eval, Act.put, Array.getD_eq_getD_getElem?, List.getElem?_toArray, List.getElem?_cons_zero, List.getElem?_cons_succ, Option.getD_some, List.setIfInBounds_toArray, List.set_cons_zero, List.set_cons_succ])
                | (refine wpT_assign rfl ?_; simp only [Act.eval, Act.put, Array.getD_eq_getD_getElem?, List.getElem?_toArray, List.getElem?_cons_zero, List.getElem?_cons_succ, Option.getD_some, List.setIfInBounds_toArray, List.set_cons_zero, List.set_cons_succ])
                | (refine wpT_read (v := ?_) rfl ?_ ?_; rotate_left; (focus (intro w' hG; skip; go_simp; try (with_reducible rfl))); simp only [Act.put, List.setIfInBounds_toArray, List.set_cons_zero, List.set_cons_succ])
                | (refine wpT_skip rfl ?_; simp only [Act.put, List.setIfInBounds_toArray, List.set_cons_zero, List.set_cons_succ]))
              refine wpT_done ?_
              go_wp2_with fail
              go_meet
              exact ⟨b11, rfl, rfl, HF⟩
          · skip
            refine wpT_act (by rfl) (exec_allocC #[.int .i64 0, .int .i64 0] zeroC) (Grow.s ((Grow.refl _).alloc _)) ?_
            simp only [Act.put, List.setIfInBounds_toArray, List.set_cons_zero, List.set_cons_succ]
            have HV : Hid (VarAt (x1.alloc (.cells #[.int .i64 0, .int .i64 0] 33)) x1.heap.size [.int .i64 0, .int .i64 0] ∧ N ≤ x1.heap.size) := ⟨VarAt.new x1 [.int .i64 0, .int .i64 0] 33, HQ.out.2.2.2.2.2⟩
            replace HQ := hid (HQ.out.grow ((Grow.refl x1).alloc (.cells #[.int .i64 0, .int .i64 0] 33)))
            generalize x1.alloc (.cells #[.int .i64 0, .int .i64 0] 33) = x7 at HV HQ ⊢
            generalize x1.heap.size = b11 at HV ⊢
            repeat (first
              | (refine wpT_move rfl ?_; simp only [Act.eval, Act.put, Array.getD_eq_getD_getElem?, List.getElem?_toArray, List.getElem?_cons_zero, List.getElem?_cons_succ, Option.getD_some, List.setIfInBounds_toArray, List.set_cons_zero, List.set_cons_succ])
              | (refine wpT_assign rfl ?_; simp only [Act.eval, Act.put, Array.getD_eq_getD_getElem?, List.getElem?_toArray, List.getElem?_cons_zero, List.getElem?_cons_succ, Option.getD_some, List.setIfInBounds_toArray, List.set_cons_zero, List.set_cons_succ])
              | (refine wpT_read (v := ?_) rfl ?_ ?_; rotate_left; (focus (intro w' hG; skip; go_simp; try (with_reducible rfl))); simp only [Act.put, List.setIfInBounds_toArray, List.set_cons_zero, List.set_cons_succ])
              | (refine wpT_skip rfl ?_; simp only [Act.put, List.setIfInBounds_toArray, List.set_cons_zero, List.set_cons_succ]))
            refine wpT_call (f := ?_) (args := ?_) (by rfl) ?_ ?_
            rotate_left 2; focus (go_simp; constructor <;> with_reducible rfl)
            refine ((har _)).mono ?_
            rintro e x8 ⟨rfl, rfl⟩
            refine ⟨_, rfl, UpdS.refl _ _, ?_⟩
            simp only [Act.put, List.setIfInBounds_toArray, List.set_cons_zero, List.set_cons_succ]
            repeat (first
              | (refine wpT_move rfl ?_; simp only [Act.eval, Act.put, Array.getD_eq_getD_getElem?, List.getElem?_toArray, List.getElem?_cons_zero, List.getElem?_cons_succ, Option.getD_some, List.setIfInBounds_toArray, List.set_cons_zero, List.set_cons_succ])
              | (refine wpT_assign rfl ?_; simp only [Act.eval, Act.put, Array.getD_eq_getD_getElem?, List.getElem?_toArray, List.getElem?_cons_zero, List.getElem?_cons_succ, Option.getD_some, List.setIfInBounds_toArray, List.set_cons_zero, List.set_cons_succ])
              | (refine wpT_read (v := ?_) rfl ?_ ?_; rotate_left; (focus (intro w' hG; skip; go_simp; try (with_reducible rfl))); simp only [Act.put, List.setIfInBounds_toArray, List.set_cons_zero, List.set_cons_succ])
              | (refine wpT_skip rfl ?_; simp only [Act.put, List.setIfInBounds_toArray, List.set_cons_zero, List.set_cons_succ]))
            refine wpT_call (f := ?_) (args := ?_) (by rfl) ?_ ?_
            rotate_left 2; focus (go_simp; constructor <;> with_reducible rfl)
            refine ((KM.out _ HQ.out.1)).mono ?_
            rintro e x9 ⟨rfl, tz, uz⟩
            refine ⟨_, rfl, uz.mono (fun i hi => .inl hi), ?_⟩
            simp only [Act.put, List.setIfInBounds_toArray, List.set_cons_zero, List.set_cons_succ]
            replace HV := hid (And.intro (HV.out.1.upd uz (by have := HQ.out.2.2.2.2.1; have := HV.out.2; omega)) HV.out.2)
            replace HQ := hid (HQ.out.turn tz uz)
            clear tz uz
            repeat (first
              | (refine wpT_move rfl ?_; simp only [Act.eval, Act.put, Array.getD_eq_getD_getElem?, List.getElem?_toArray, List.getElem?_cons_zero, List.getElem?_cons_succ, Option.getD_some, List.setIfInBounds_toArray, List.set_cons_zero, List.set_cons_succ])
              | (refine wpT_assign rfl ?_; simp only [Act.eval, Act.put, Array.getD_eq_getD_getElem?, List.getElem?_toArray, List.getElem?_cons_zero, List.getElem?_cons_succ, Option.getD_some, List.setIfInBounds_toArray, List.set_cons_zero, List.set_cons_succ])
              | (refine wpT_read (v := ?_) rfl ?_ ?_; rotate_left; (focus (intro w' hG; skip; go_simp; try (with_reducible rfl))); simp only [Act.put, List.setIfInBounds_toArray, List.set_cons_zero, List.set_cons_succ])
              | (refine wpT_skip rfl ?_; simp only [Act.put, List.setIfInBounds_toArray, List.set_cons_zero, List.set_cons_succ]))
            obtain ⟨⟨v0, v1⟩, v3, v4⟩ := HV.out.1.two
            have hU := upd_pair x9 b11 (.int .i64 m) (.int .i64 gg)
            have HF : Hid (VarAt ((x9.setCell ⟨b11, 0, none⟩ (.int .i64 m)).setCell ⟨b11, 1, none⟩ (.int .i64 gg)) b11 [.int .i64 m, .int .i64 gg] ∧ LwM w ((x9.setCell ⟨b11, 0, none⟩ (.int .i64 m)).setCell ⟨b11, 1, none⟩ (.int .i64 gg)) b S' E n' (.slice av G.length cv) G) := ⟨HV.out.1.set2 _ _, (HQ.out.put HV.out.2 hU).m⟩
            refine wpT_store (w' := (x9.setCell ⟨b11, 0, none⟩ (.int .i64 m)).setCell ⟨b11, 1, none⟩ (.int .i64 gg)) (by rfl) ?_ ?_ ?_
            · go_simp
            · exact hU.mono (fun i hi => .inr (by have := HV.out.2; omega))
            simp only [Act.put, List.setIfInBounds_toArray, List.set_cons_zero, List.set_cons_succ]
            clear hU v0 v1 v3 v4 HQ HV
            generalize (x9.setCell ⟨b11, 0, none⟩ (.int .i64 m)).setCell ⟨b11, 1, none⟩ (.int .i64 gg) = wz at HF ⊢
            repeat (first
              | (refine wpT_move rfl ?_; simp only [Act.eval, Act.put, Array.getD_eq_getD_getElem?, List.getElem?_toArray, List.getElem?_cons_zero, List.getElem?_cons_succ, Option.getD_some, List.setIfInBounds_toArray, List.set_cons_zero, List.set_cons_succ])
              | (refine wpT_assign rfl ?_; simp only [Act.eval, Act.put, Array.getD_eq_getD_getElem?, List.getElem?_toArray, List.getElem?_cons_zero, List.getElem?_cons_succ, Option.getD_some, List.setIfInBounds_toArray, List.set_cons_zero, List.set_cons_succ])
              | (refine wpT_read (v := ?_) rfl ?_ ?_; rotate_left; (focus (intro w' hG; skip; go_simp; try (with_reducible rfl))); simp only [Act.put, List.setIfInBounds_toArray, List.set_cons_zero, List.set_cons_succ])
              | (refine wpT_skip rfl ?_; simp only [Act.put, List.setIfInBounds_toArray, List.set_cons_zero, List.set_cons_succ]))
            refine wpT_done ?_
            go_wp2_with fail
            go_meet
            exact ⟨b11, rfl, rfl, HF⟩
        · skip
          refine wpT_act (by rfl) (exec_allocC #[.int .i64 0, .int .i64 0] zeroC) (Grow.s ((Grow.refl _).alloc _)) ?_
          simp only [Act.put, List.setIfInBounds_toArray, List.set_cons_zero, List.set_cons_succ]
          have HV : Hid (VarAt (u0.alloc (.cells #[.int .i64 0, .int .i64 0] 33)) u0.heap.size [.int .i64 0, .int .i64 0] ∧ N ≤ u0.heap.size) := ⟨VarAt.new u0 [.int .i64 0, .int .i64 0] 33, HQ.out.2.2.2.2.2⟩
          replace HQ := hid (HQ.out.grow ((Grow.refl u0).alloc (.cells #[.int .i64 0, .int .i64 0] 33)))
          generalize u0.alloc (.cells #[.int .i64 0, .int .i64 0] 33) = x10 at HV HQ ⊢
          generalize u0.heap.size = b11 at HV ⊢
          repeat (first
            | (refine wpT_move rfl ?_; simp only [Act.eval, Act.put, Array.getD_eq_getD_getElem?, List.getElem?_toArray, List.getElem?_cons_zero, List.getElem?_cons_succ, Option.getD_some, List.setIfInBounds_toArray, List.set_cons_zero, List.set_cons_succ])
            | (refine wpT_assign rfl ?_; simp only [Act.eval, Act.put, Array.getD_eq_getD_getElem?, List.getElem?_toArray, List.getElem?_cons_zero, List.getElem?_cons_succ, Option.getD_some, List.setIfInBounds_toArray, List.set_cons_zero, List.set_cons_succ])
            | (refine wpT_read (v := ?_) rfl ?_ ?_; rotate_left; (focus (intro w' hG; skip; go_simp; try (with_reducible rfl))); simp only [Act.put, List.setIfInBounds_toArray, List.set_cons_zero, List.set_cons_succ])
            | (refine wpT_skip rfl ?_; simp only [Act.put, List.setIfInBounds_toArray, List.set_cons_zero, List.set_cons_succ]))
          refine wpT_call (f := ?_) (args := ?_) (by rfl) ?_ ?_
          rotate_left 2; focus (go_simp; constructor <;> with_reducible rfl)
          refine ((KR.out _ HQ.out.1)).mono ?_
          rintro e x11 ⟨rfl, gz⟩
          refine ⟨_, rfl, gz.s, ?_⟩
          simp only [Act.put, List.setIfInBounds_toArray, List.set_cons_zero, List.set_cons_succ]
          replace HQ := hid (HQ.out.grow gz)
          replace HV := hid (And.intro (HV.out.1.grow gz) HV.out.2)
          clear gz
          repeat (first
            | (refine wpT_move rfl ?_; simp only [Act.eval, Act.put, Array.getD_eq_getD_getElem?, List.getElem?_toArray, List.getElem?_cons_zero, List.getElem?_cons_succ, Option.getD_some, List.setIfInBounds_toArray, List.set_cons_zero, List.set_cons_succ])
            | (refine wpT_assign rfl ?_; simp only [Act.eval, Act.put, Array.getD_eq_getD_getElem?, List.getElem?_toArray, List.getElem?_cons_zero, List.getElem?_cons_succ, Option.getD_some, List.setIfInBounds_toArray, List.set_cons_zero, List.set_cons_succ])
            | (refine wpT_read (v := ?_) rfl ?_ ?_; rotate_left; (focus (intro w' hG; skip; go_simp; try (with_reducible rfl))); simp only [Act.put, List.setIfInBounds_toArray, List.set_cons_zero, List.set_cons_succ])
            | (refine wpT_skip rfl ?_; simp only [Act.put, List.setIfInBounds_toArray, List.set_cons_zero, List.set_cons_succ]))
          refine wpT_call (f := ?_) (args := ?_) (by rfl) ?_ ?_
          rotate_left 2; focus (go_simp; constructor <;> with_reducible rfl)
          refine ((har _)).mono ?_
          rintro e x12 ⟨rfl, rfl⟩
          refine ⟨_, rfl, UpdS.refl _ _, ?_⟩
          simp only [Act.put, List.setIfInBounds_toArray, List.set_cons_zero, List.set_cons_succ]
          repeat (first
            | (refine wpT_move rfl ?_; simp only [Act.eval, Act.put, Array.getD_eq_getD_getElem?, List.getElem?_toArray, List.getElem?_cons_zero, List.getElem?_cons_succ, Option.getD_some, List.setIfInBounds_toArray, List.set_cons_zero, List.set_cons_succ])
            | (refine wpT_assign rfl ?_; simp only [Act.eval, Act.put, Array.getD_eq_getD_getElem?, List.getElem?_toArray, List.getElem?_cons_zero, List.getElem?_cons_succ, Option.getD_some, List.setIfInBounds_toArray, List.set_cons_zero, List.set_cons_succ])
            | (refine wpT_read (v := ?_) rfl ?_ ?_; rotate_left; (focus (intro w' hG; skip; go_simp; try (with_reducible rfl))); simp only [Act.put, List.setIfInBounds_toArray, List.set_cons_zero, List.set_cons_succ])
            | (refine wpT_skip rfl ?_; simp only [Act.put, List.setIfInBounds_toArray, List.set_cons_zero, List.set_cons_succ]))
          refine wpT_call (f := ?_) (args := ?_) (by rfl) ?_ ?_
          rotate_left 2; focus (go_simp; constructor <;> with_reducible rfl)
          refine ((KM.out _ HQ.out.1)).mono ?_
          rintro e x13 ⟨rfl, tz, uz⟩
          refine ⟨_, rfl, uz.mono (fun i hi => .inl hi), ?_⟩
          simp only [Act.put, List.setIfInBounds_toArray, List.set_cons_zero, List.set_cons_succ]
          replace HV := hid (And.intro (HV.out.1.upd uz (by have := HQ.out.2.2.2.2.1; have := HV.out.2; omega)) HV.out.2)
          replace HQ := hid (HQ.out.turn tz uz)
          clear tz uz
          repeat (first
            | (refine wpT_move rfl ?_; simp only [Act.eval, Act.put, Array.getD_eq_getD_getElem?, List.getElem?_toArray, List.getElem?_cons_zero, List.getElem?_cons_succ, Option.getD_some, List.setIfInBounds_toArray, List.set_cons_zero, List.set_cons_succ])
            | (refine wpT_assign rfl ?_; simp only [Act.eval, Act.put, Array.getD_eq_getD_getElem?, List.getElem?_toArray, List.getElem?_cons_zero, List.getElem?_cons_succ, Option.getD_some, List.setIfInBounds_toArray, List.set_cons_zero, List.set_cons_succ])
            | (refine wpT_read (v := ?_) rfl ?_ ?_; rotate_left; (focus (intro w' hG; skip; go_simp; try (with_reducible rfl))); simp only [Act.put, List.setIfInBounds_toArray, List.set_cons_zero, List.set_cons_succ])
            | (refine wpT_skip rfl ?_; simp only [Act.put, List.setIfInBounds_toArray, List.set_cons_zero, List.set_cons_succ]))
          obtain ⟨⟨v0, v1⟩, v3, v4⟩ := HV.out.1.two
          have hU := upd_pair x13 b11 (.int .i64 m) (.int .i64 gg)
          have HF : Hid (VarAt ((x13.setCell ⟨b11, 0, none⟩ (.int .i64 m)).setCell ⟨b11, 1, none⟩ (.int .i64 gg)) b11 [.int .i64 m, .int .i64 gg] ∧ LwM w ((x13.setCell ⟨b11, 0, none⟩ (.int .i64 m)).setCell ⟨b11, 1, none⟩ (.int .i64 gg)) b S' E n' (.slice av G.length cv) G) := ⟨HV.out.1.set2 _ _, (HQ.out.put HV.out.2 hU).m⟩
          refine wpT_store (w' := (x13.setCell ⟨b11, 0, none⟩ (.int .i64 m)).setCell ⟨b11, 1, none⟩ (.int .i64 gg)) (by rfl) ?_ ?_ ?_
          · go_simp
          · exact hU.mono (fun i hi => .inr (by have := HV.out.2; omega))
          simp only [Act.put, List.setIfInBounds_toArray, List.set_cons_zero, List.set_cons_succ]
          clear hU v0 v1 v3 v4 HQ HV
          generalize (x13.setCell ⟨b11, 0, none⟩ (.int .i64 m)).setCell ⟨b11, 1, none⟩ (.int .i64 gg) = wz at HF ⊢
          repeat (first
            | (refine wpT_move rfl ?_; simp only [Act.eval, Act.put, Array.getD_eq_getD_getElem?, List.getElem?_toArray, List.getElem?_cons_zero, List.getElem?_cons_succ, Option.getD_some, List.setIfInBounds_toArray, List.set_cons_zero, List.set_cons_succ])
            | (refine wpT_assign rfl ?_; simp only [Act.eval, Act.put, Array.getD_eq_getD_getElem?, List.getElem?_toArray, List.getElem?_cons_zero, List.getElem?_cons_succ, Option.getD_some, List.setIfInBounds_toArray, List.set_cons_zero, List.set_cons_succ])
            | (refine wpT_read (v := ?_) rfl ?_ ?_; rotate_left; (focus (intro w' hG; skip; go_simp; try (with_reducible rfl))); simp only [Act.put, List.setIfInBounds_toArray, List.set_cons_zero, List.set_cons_succ])
            | (refine wpT_skip rfl ?_; simp only [Act.put, List.setIfInBounds_toArray, List.set_cons_zero, List.set_cons_succ]))
          refine wpT_done ?_
          go_wp2_with fail
          go_meet
          exact ⟨b11, rfl, rfl, HF⟩
      case rest =>
        obtain ⟨b11, rfl, rfl, H4⟩ := hcut
        obtain ⟨W3, rfl⟩ : ∃ W3, W3 = wc := ⟨_, rfl⟩
        clear fx har KR KM HX0
        have ho := H4.out.2.2.1.grow ((Grow.refl W3).alloc (.cells #[.int .i64 m, .int .i64 gg] 33))
        obtain ⟨⟨n0, n1⟩, -⟩ := H4.out.1.two
        go_wp2_with (at_builtin; refine wpList_appS (f := Cp.cs) (k := 2) rfl (.tmp 64) (.tmp 66) 35 35 rfl cpk (by omega) i0 (.agg #[.int .i64 0, .int .i64 0]) 16 Try.underlying35 hi hz0 hz1 hz2 rfl rfl rfl ho (src_oneC W3 m gg) (by simp only [maxLen, List.length_singleton]; have := HJ.out.2.1; have := HGl.out; omega) (by simp only [List.length_singleton]; have := HJ.out.2.1; have := HGl.out; omega) ?_)
        intro v' w' ho' hu'
        have HF : Hid ((L ++ [(⟨m, gg⟩ : Cp)]).length = j + 1 ∧ LwP S' E (((L ++ [(⟨m, gg⟩ : Cp)]).length : Int) + 1) (L ++ [(⟨m, gg⟩ : Cp)]) ∧ LwM w w' b S' E (((L ++ [(⟨m, gg⟩ : Cp)]).length : Int) + 1) v' (rootC E :: (L ++ [(⟨m, gg⟩ : Cp)]))) := by
          have el : (L ++ [(⟨m, gg⟩ : Cp)]).length = L.length + 1 := by rw [List.length_append]; rfl
          have ei : (((L ++ [(⟨m, gg⟩ : Cp)]).length : Nat) : Int) + 1 = n' := by rw [el, HNN.out]; omega
          have hap := H4.out.2.app ho' hu'
          rw [HGG.out] at hap
          refine ⟨by rw [el]; have := HLj.out; omega, by rw [ei]; exact HN2.out, by rw [ei]; exact hap⟩
        clear ho' hu' ho n0 n1 H4
        go_wp2
        go_roundg (ls.length - (j + 1))
        case measure => have := HJ.out; omega
        case rel => exact ⟨j + 1, S', L ++ [(⟨m, gg⟩ : Cp)], rfl, HJ.out.1, HJ.out.2.1, by first | rfl | go_num, HF⟩
    · by_cases hlt : j < ls.length
      · have hlt' : (j : Int) < (ls.length : Int) := by omega
        have h7' : ¬ (j : Int) < 5 := by omega
        clear hgo hlt
        have HP := hid HX.out.2.1
        have HM := hid HX.out.2.2
        have HL5 : Hid (L.length ≤ 5) := by show L.length ≤ 5; rw [HX.out.1]; exact hj7
        obtain ⟨G, hG⟩ : ∃ G, G = rootC E :: L := ⟨_, rfl⟩
        rw [← hG] at HM
        have HAn := hid (fun d => HP.out.any d)
        rw [← hG] at HAn
        have HGl : Hid (G.length ≤ 6) := by show G.length ≤ 6; rw [hG, List.length_cons]; have := HL5.out; omega
        obtain ⟨av, cv, hsh⟩ := HM.out.2.1.shape
        subst hsh
        generalize hnn : ((L.length : Int) + 1) = nn at HP HM
        have KR := hid (fun u hu => rootR_any b S E nn u hu HP.out.1.1)
        have hk1 := HE.out
        have hb9 := HG9.out
        obtain ⟨kk, hkk⟩ : ∃ kk, kk = E * 1048576 := ⟨_, rfl⟩
        have hw9 : IntKind.i64.wrap (E * 1048576 + g9) = E * 1048576 + g9 := by rw [IntKind.wrap_i64]; omega
        have HC := hid (fun u d (hu : TbAt u b S E nn) (hd : goodB S d = false) => checkR_no b S E nn d u hu HP.out.1.1 hd)
        have HCy := hid (fun u d (hu : TbAt u b S E nn) (hd : goodB S d = true) => checkR_yes b S E nn d u hu HP.out.1.1 hd)
        have HMi : Hid (∀ u (d : Cp), TbAt u b S E nn → goodB S d = false → Calls Try.prog 21 #[.pointer (some ⟨b, 0, none⟩), .agg #[.int .i64 d.s, .int .i64 d.g], .int .i64 0] u fun e w' => e = .returned (.tuple #[.agg #[.int .i64 0, .int .i64 0], .int .i64 10]) ∧ Grow u w') := fun u d hu hd => mint_1 b S E nn d 0 u hu HP.out.1.1 10 (chkS_bad 8 hd) (by omega)
        have HRe : Hid (∀ u (d : Cp), TbAt u b S E nn → goodB S d = false → Calls Try.prog 15 #[.pointer (some ⟨b, 0, none⟩), .agg #[.int .i64 d.s, .int .i64 d.g], .agg #[.int .i64 0, .int .i64 (E * 1048576)]] u fun e w' => e = .returned (.int .i64 10) ∧ Grow u w') := fun u d hu hd => revoke_1 b S E nn d (rootC E) u hu HP.out.1.1 10 (chkS_bad 8 hd) (by omega)
        rw [← hkk] at KR hw9 HRe
        clear hk1 hb9 hkk hnn hG HX hk hj hj7 HP
        -- the two odd ones
        go_wp2_with fail
        refine (HA9.out wr).mono ?_
        rintro e w2 ⟨rfl, rfl⟩
        have k1 := KR.out wr HM.out.1
        go_wp2_with fail
        refine k1.mono ?_
        rintro e w3 ⟨rfl, g3⟩
        have HM3 := hid (HM.out.grow g3)
        have q9 := fun w' => field_g w' 0 kk
        clear k1 g3 HM
        go_wp2_with fail
        refine (HB9.out w3).mono ?_
        rintro e w4 ⟨rfl, rfl⟩
        obtain ⟨W4, hW4⟩ : ∃ W4, W4 = w3.alloc (.cells #[.int .i64 s0, .int .i64 g0, .int .i64 s9, .int .i64 (kk + g9)] 33) := ⟨_, rfl⟩
        obtain ⟨bo, hbo⟩ : ∃ bo, bo = w3.heap.size := ⟨_, rfl⟩
        have HM4 : Hid (LwM w W4 b S E nn (.slice av G.length cv) G ∧ RdS Cp.cs 2 (fun i => i = bo) W4 (.slice (some ⟨bo, 0, none⟩) 2 2) [⟨s0, g0⟩, ⟨s9, kk + g9⟩]) := by
          rw [hW4, hbo]; exact ⟨HM3.out.grow ((Grow.refl w3).alloc _), lit_C2 w3 _ _ _ _⟩
        clear HM3
        go_upto_region 14 with fail
        rw [← hW4, ← hbo]
        clear hW4 hbo hw9 q9
        go_wp2
        go_loopg [17] 2 (fun k i wx => ∃ j1 : Nat, k = 2 - j1 ∧ j1 ≤ 2 ∧ i = .int .i64 j1 ∧ Hid (Grow W4 wx))
        case atStart => exact ⟨0, rfl, Nat.zero_le _, rfl, Grow.refl _⟩
        case round =>
          obtain ⟨j1, hk1, hj1, rfl, HW⟩ := hrel
          obtain ⟨wa, rfl⟩ : ∃ wa, wa = wr := ⟨_, rfl⟩
          by_cases hlt1 : j1 < 2
          · have hlt1' : (j1 : Int) < 2 := by omega
            have HJ1 : Hid (j1 < 2 ∧ gk = 2 - j1) := ⟨hlt1, hk1⟩
            have HD : Hid (∀ u, Grow W4 u → u.cell? ⟨bo, j1 * 2, none⟩ = some (.int .i64 (([⟨s0, g0⟩, ⟨s9, kk + g9⟩] : List Cp).getD j1 Cp.zero).s) ∧ u.cell? ⟨bo, j1 * 2 + 1, none⟩ = some (.int .i64 (([⟨s0, g0⟩, ⟨s9, kk + g9⟩] : List Cp).getD j1 Cp.zero).g)) := fun u hu => by
              obtain ⟨b2, o2, e2, h1, h2⟩ := rdC_at (RdS.grow HM4.out.2 hu) (show j1 < ([⟨s0, g0⟩, ⟨s9, kk + g9⟩] : List Cp).length from hlt1)
              injection e2 with e2
              injection e2 with e2 e3
              subst e2 e3
              rw [Nat.zero_add] at h1 h2
              exact ⟨h1, h2⟩
            generalize ([⟨s0, g0⟩, ⟨s9, kk + g9⟩] : List Cp).getD j1 Cp.zero = d at HD
            obtain ⟨ds, dg⟩ := d
            clear hlt1 hk1 hj1
            go_wp2
            go_loopg [18, 19] G.length (fun k iv mv wx => ∃ j3 : Nat, k = G.length - j3 ∧ j3 ≤ G.length ∧ mv = .int .i64 j3 ∧ iv = .bool (anyB ⟨ds, dg⟩ (G.take j3)) ∧ Hid (Grow W4 wx))
            case atStart => exact ⟨0, rfl, Nat.zero_le _, rfl, rfl, HW.out⟩
            case round =>
              clear HW
              obtain ⟨j3, hk3, hj3, rfl, rfl, HW⟩ := hrel
              obtain ⟨wb, rfl⟩ : ∃ wb, wb = wr := ⟨_, rfl⟩
              have hg6 := HGl.out
              by_cases hlt3 : j3 < G.length
              · have hlt3' : (j3 : Int) < (G.length : Int) := by omega
                have HJ3 : Hid (j3 < G.length ∧ gk = G.length - j3) := ⟨hlt3, hk3⟩
                obtain ⟨b2, o2, e2, -⟩ := rdC_at HM4.out.1.2.1.rd hlt3
                have HCe : Hid (∀ u, Grow W4 u → u.cell? ⟨b2, o2 + j3 * 2, none⟩ = some (.int .i64 (G.getD j3 Cp.zero).s) ∧ u.cell? ⟨b2, o2 + j3 * 2 + 1, none⟩ = some (.int .i64 (G.getD j3 Cp.zero).g)) := fun u hu => by
                  obtain ⟨b3, o3, e3, h1, h2⟩ := rdC_at (RdS.grow HM4.out.1.2.1.rd hu) hlt3
                  rw [e2] at e3
                  injection e3 with e3
                  injection e3 with e3 e4
                  subst e3 e4
                  exact ⟨h1, h2⟩
                have HT : Hid (∀ x, G.getD j3 Cp.zero = x → anyB ⟨ds, dg⟩ (G.take (j3 + 1)) = (anyB ⟨ds, dg⟩ (G.take j3) || x.is ⟨ds, dg⟩)) := fun x hx => anyB_take hlt3 hx
                generalize hy : G.getD j3 Cp.zero = x at HCe
                have HT2 := hid (HT.out x hy)
                obtain ⟨xs, xg⟩ := x
                subst e2
                have hw3 : IntKind.i64.wrap ((j3 : Int) + 1) = ((j3 + 1 : Nat) : Int) := by rw [IntKind.wrap_i64]; omega
                clear hy HT hlt3 hk3 hj3 hg6
                generalize anyB ⟨ds, dg⟩ (G.take j3) = is at HT2
                have fz : ∀ w', Grow wb.drew w' → (w'.cell? ⟨bo, j1 * 2, none⟩ = some (.int .i64 ds) ∧ w'.cell? ⟨bo, j1 * 2 + 1, none⟩ = some (.int .i64 dg)) ∧ (w'.cell? ⟨b2, o2 + j3 * 2, none⟩ = some (.int .i64 xs) ∧ w'.cell? ⟨b2, o2 + j3 * 2 + 1, none⟩ = some (.int .i64 xg)) := fun w' hu => ⟨HD.out w' (HW.out.drew.trans hu), HCe.out w' (HW.out.drew.trans hu)⟩
                cases is
                · by_cases x1 : xs = ds
                  · have q1 := eqs x1
                    by_cases x2 : xg = dg
                    · have q2 := eqs x2
                      have HT3 : Hid (anyB ⟨ds, dg⟩ (G.take (j3 + 1)) = true) := by
                        show anyB _ _ = true
                        rw [HT2.out]; simp [Cp.is, x1, x2]
                      clear x1 x2 HT2 HCe
                      go_wp2
                      refine wp_region_sched (by kernel_rfl) [(0, false), (1, false), (2, false), (3, false), (4, false), (5, false), (6, false), (7, false), (8, false), (9, false), (10, false), (11, false), (12, false)] (by kernel_rfl) (by kernel_rfl) rfl (fun _ _ d _ _ h => by cases d <;> exact h) ?_
                      simp only [inOrder, List.filterMap_cons, List.filterMap_nil, List.getElem?_toArray, List.getElem?_cons_zero, List.getElem?_cons_succ, Option.map_some]
                      repeat (first
                        | (refine wpS_move rfl ?_; simp only [Act.eval, Act.put, Array.getD_eq_getD_getElem?, List.getElem?_toArray, List.getElem?_cons_zero, List.getElem?_cons_succ, Option.getD_some, List.setIfInBounds_toArray, List.set_cons_zero, List.set_cons_succ])
                        | (refine wpS_assign rfl ?_; simp only [Act.eval, Act.put, Array.getD_eq_getD_getElem?, List.getElem?_toArray, List.getElem?_cons_zero, List.getElem?_cons_succ, Option.getD_some, List.setIfInBounds_toArray, List.set_cons_zero, List.set_cons_succ])
                        | (refine wpS_read (v := ?_) rfl ?_ ?_; rotate_left; (focus (intro w' hG; obtain ⟨⟨y0, y1⟩, y2, y3⟩ := fz w' hG; go_simp; try (with_reducible rfl))); simp only [Act.put, List.setIfInBounds_toArray, List.set_cons_zero, List.set_cons_succ])
                        | (refine wpS_skip rfl ?_; simp only [Act.put, List.setIfInBounds_toArray, List.set_cons_zero, List.set_cons_succ]))
                      refine wpS_nil ?_
                      have HW2 := hid (HW.out.drew)
                      clear fz
                      go_wp2
                      go_roundg (G.length - (j3 + 1))
                      case measure => have := HJ3.out; omega
                      case rel => exact ⟨j3 + 1, rfl, HJ3.out.1, by first | rfl | go_num, by rw [HT3.out], HW2.out⟩
                    · have q2 := neqs x2
                      have HT3 : Hid (anyB ⟨ds, dg⟩ (G.take (j3 + 1)) = false) := by
                        show anyB _ _ = false
                        rw [HT2.out]; simp [Cp.is, x2]
                      clear x1 x2 HT2 HCe
                      go_wp2
                      refine wp_region_sched (by kernel_rfl) [(0, false), (1, false), (2, false), (3, false), (4, false), (5, false), (6, false), (7, false), (8, false), (9, false), (10, false), (11, false), (12, false)] (by kernel_rfl) (by kernel_rfl) rfl (fun _ _ d _ _ h => by cases d <;> exact h) ?_
                      simp only [inOrder, List.filterMap_cons, List.filterMap_nil, List.getElem?_toArray, List.getElem?_cons_zero, List.getElem?_cons_succ, Option.map_some]
                      repeat (first
                        | (refine wpS_move rfl ?_; simp only [Act.eval, Act.put, Array.getD_eq_getD_getElem?, List.getElem?_toArray, List.getElem?_cons_zero, List.getElem?_cons_succ, Option.getD_some, List.setIfInBounds_toArray, List.set_cons_zero, List.set_cons_succ])
                        | (refine wpS_assign rfl ?_; simp only [Act.eval, Act.put, Array.getD_eq_getD_getElem?, List.getElem?_toArray, List.getElem?_cons_zero, List.getElem?_cons_succ, Option.getD_some, List.setIfInBounds_toArray, List.set_cons_zero, List.set_cons_succ])
                        | (refine wpS_read (v := ?_) rfl ?_ ?_; rotate_left; (focus (intro w' hG; obtain ⟨⟨y0, y1⟩, y2, y3⟩ := fz w' hG; go_simp; try (with_reducible rfl))); simp only [Act.put, List.setIfInBounds_toArray, List.set_cons_zero, List.set_cons_succ])
                        | (refine wpS_skip rfl ?_; simp only [Act.put, List.setIfInBounds_toArray, List.set_cons_zero, List.set_cons_succ]))
                      refine wpS_nil ?_
                      have HW2 := hid (HW.out.drew)
                      clear fz
                      go_wp2
                      go_roundg (G.length - (j3 + 1))
                      case measure => have := HJ3.out; omega
                      case rel => exact ⟨j3 + 1, rfl, HJ3.out.1, by first | rfl | go_num, by rw [HT3.out], HW2.out⟩
                  · have q1 := neqs x1
                    have x2 : True := trivial
                    have HT3 : Hid (anyB ⟨ds, dg⟩ (G.take (j3 + 1)) = false) := by
                      show anyB _ _ = false
                      rw [HT2.out]; simp [Cp.is, x1]
                    clear x1 x2 HT2 HCe
                    go_wp2
                    refine wp_region_sched (by kernel_rfl) [(0, false), (1, false), (2, false), (3, false), (4, false), (5, false), (6, false), (7, false), (8, false), (9, false), (10, false), (11, false), (12, false)] (by kernel_rfl) (by kernel_rfl) rfl (fun _ _ d _ _ h => by cases d <;> exact h) ?_
                    simp only [inOrder, List.filterMap_cons, List.filterMap_nil, List.getElem?_toArray, List.getElem?_cons_zero, List.getElem?_cons_succ, Option.map_some]
                    repeat (first
                      | (refine wpS_move rfl ?_; simp only [Act.eval, Act.put, Array.getD_eq_getD_getElem?, List.getElem?_toArray, List.getElem?_cons_zero, List.getElem?_cons_succ, Option.getD_some, List.setIfInBounds_toArray, List.set_cons_zero, List.set_cons_succ])
                      | (refine wpS_assign rfl ?_; simp only [Act.eval, Act.put, Array.getD_eq_getD_getElem?, List.getElem?_toArray, List.getElem?_cons_zero, List.getElem?_cons_succ, Option.getD_some, List.setIfInBounds_toArray, List.set_cons_zero, List.set_cons_succ])
                      | (refine wpS_read (v := ?_) rfl ?_ ?_; rotate_left; (focus (intro w' hG; obtain ⟨⟨y0, y1⟩, y2, y3⟩ := fz w' hG; go_simp; try (with_reducible rfl))); simp only [Act.put, List.setIfInBounds_toArray, List.set_cons_zero, List.set_cons_succ])
                      | (refine wpS_skip rfl ?_; simp only [Act.put, List.setIfInBounds_toArray, List.set_cons_zero, List.set_cons_succ]))
                    refine wpS_nil ?_
                    have HW2 := hid (HW.out.drew)
                    clear fz
                    go_wp2
                    go_roundg (G.length - (j3 + 1))
                    case measure => have := HJ3.out; omega
                    case rel => exact ⟨j3 + 1, rfl, HJ3.out.1, by first | rfl | go_num, by rw [HT3.out], HW2.out⟩
                · have x1 : True := trivial
                  have x2 : True := trivial
                  have HT3 : Hid (anyB ⟨ds, dg⟩ (G.take (j3 + 1)) = true) := by
                    show anyB _ _ = true
                    rw [HT2.out]; simp
                  clear x1 x2 HT2 HCe
                  go_wp2
                  refine wp_region_sched (by kernel_rfl) [(0, false), (1, false), (2, false), (3, false), (4, false), (5, false), (6, false), (7, false), (8, false), (9, false), (10, false), (11, false), (12, false)] (by kernel_rfl) (by kernel_rfl) rfl (fun _ _ d _ _ h => by cases d <;> exact h) ?_
                  simp only [inOrder, List.filterMap_cons, List.filterMap_nil, List.getElem?_toArray, List.getElem?_cons_zero, List.getElem?_cons_succ, Option.map_some]
                  repeat (first
                    | (refine wpS_move rfl ?_; simp only [Act.eval, Act.put, Array.getD_eq_getD_getElem?, List.getElem?_toArray, List.getElem?_cons_zero, List.getElem?_cons_succ, Option.getD_some, List.setIfInBounds_toArray, List.set_cons_zero, List.set_cons_succ])
                    | (refine wpS_assign rfl ?_; simp only [Act.eval, Act.put, Array.getD_eq_getD_getElem?, List.getElem?_toArray, List.getElem?_cons_zero, List.getElem?_cons_succ, Option.getD_some, List.setIfInBounds_toArray, List.set_cons_zero, List.set_cons_succ])
                    | (refine wpS_read (v := ?_) rfl ?_ ?_; rotate_left; (focus (intro w' hG; obtain ⟨⟨y0, y1⟩, y2, y3⟩ := fz w' hG; go_simp; try (with_reducible rfl))); simp only [Act.put, List.setIfInBounds_toArray, List.set_cons_zero, List.set_cons_succ])
                    | (refine wpS_skip rfl ?_; simp only [Act.put, List.setIfInBounds_toArray, List.set_cons_zero, List.set_cons_succ]))
                  refine wpS_nil ?_
                  have HW2 := hid (HW.out.drew)
                  clear fz
                  go_wp2
                  go_roundg (G.length - (j3 + 1))
                  case measure => have := HJ3.out; omega
                  case rel => exact ⟨j3 + 1, rfl, HJ3.out.1, by first | rfl | go_num, by rw [HT3.out], HW2.out⟩
              · have hlt3' : ¬ (j3 : Int) < (G.length : Int) := by omega
                have ht : G.take j3 = G := List.take_of_length_le (by omega)
                rw [ht, HAn.out]
                clear ht hlt3 hk3 hj3 hg6
                have c12 := HD.out wb HW.out
                obtain ⟨d0, d1⟩ := c12
                cases hgd : goodB S ⟨ds, dg⟩
                · have kc := HC.out wb ⟨ds, dg⟩ (HM4.out.1.1.grow HW.out) hgd
                  have KM := hid (fun u (hu : Grow W4 u) => HMi.out u ⟨ds, dg⟩ (HM4.out.1.1.grow hu) hgd)
                  have KV := hid (fun u (hu : Grow W4 u) => HRe.out u ⟨ds, dg⟩ (HM4.out.1.1.grow hu) hgd)
                  clear hgd
                  go_wp2_with fail
                  refine kc.mono ?_
                  rintro e wd ⟨rfl, gd⟩
                  have HW2 := hid (HW.out.trans gd)
                  obtain ⟨d2, d3⟩ := HD.out wd HW2.out
                  have km := KM.out wd HW2.out
                  clear kc gd d0 d1
                  go_wp2_with fail
                  refine km.mono ?_
                  rintro e we ⟨rfl, ge⟩
                  obtain ⟨Wf, hWf⟩ : ∃ Wf, Wf = we.alloc (.cells #[.int .i64 0, .int .i64 0] 33) := ⟨_, rfl⟩
                  have HW3 : Hid (Grow W4 Wf.drew) := by rw [hWf]; exact ((HW2.out.trans ge).alloc _).drew
                  clear km ge d2 d3 HW2
                  have fz : ∀ w', Grow Wf.drew w' → (w'.cell? ⟨bo, j1 * 2, none⟩ = some (.int .i64 ds) ∧ w'.cell? ⟨bo, j1 * 2 + 1, none⟩ = some (.int .i64 dg)) := fun w' hu => HD.out w' (HW3.out.trans hu)
                  go_upto_region 29 with fail
                  rw [← hWf]
                  clear hWf
                  refine wp_region_sched (by kernel_rfl) [(0, false), (1, false), (2, false), (3, false), (4, false), (5, false), (6, false), (7, false), (8, false), (9, true), (10, true), (11, false), (12, false)] (by kernel_rfl) (by kernel_rfl) rfl (fun _ _ d _ _ h => by cases d <;> exact h) ?_
                  simp only [inOrder, List.filterMap_cons, List.filterMap_nil, List.getElem?_toArray, List.getElem?_cons_zero, List.getElem?_cons_succ, Option.map_some]
                  repeat (first
                    | (refine wpS_move rfl ?_; simp only [Act.eval, Act.put, Array.getD_eq_getD_getElem?, List.getElem?_toArray, List.getElem?_cons_zero, List.getElem?_cons_succ, Option.getD_some, List.setIfInBounds_toArray, List.set_cons_zero, List.set_cons_succ])
                    | (refine wpS_assign rfl ?_; simp only [Act.eval, Act.put, Array.getD_eq_getD_getElem?, List.getElem?_toArray, List.getElem?_cons_zero, List.getElem?_cons_succ, Option.getD_some, List.setIfInBounds_toArray, List.set_cons_zero, List.set_cons_succ])
                    | (refine wpS_read (v := ?_) rfl ?_ ?_; rotate_left; (focus (intro w' hG; obtain ⟨y0, y1⟩ := fz w' hG; go_simp; try (with_reducible rfl))); simp only [Act.put, List.setIfInBounds_toArray, List.set_cons_zero, List.set_cons_succ])
                    | (refine wpS_skip rfl ?_; simp only [Act.put, List.setIfInBounds_toArray, List.set_cons_zero, List.set_cons_succ]))
                  refine wpS_call (f := ?_) (args := ?_) (by rfl) ?_ ?_
                  rotate_left 2; focus (go_simp; constructor <;> with_reducible rfl)
                  refine ((KR.out _ (HM4.out.1.1.grow HW3.out))).mono ?_
                  rintro e wg ⟨rfl, gg1⟩
                  refine ⟨_, rfl, gg1, ?_⟩
                  simp only [Act.put, List.setIfInBounds_toArray, List.set_cons_zero, List.set_cons_succ]
                  have HW4 := hid (HW3.out.trans gg1)
                  repeat (first
                    | (refine wpS_move rfl ?_; simp only [Act.eval, Act.put, Array.getD_eq_getD_getElem?, List.getElem?_toArray, List.getElem?_cons_zero, List.getElem?_cons_succ, Option.getD_some, List.setIfInBounds_toArray, List.set_cons_zero, List.set_cons_succ])
                    | (refine wpS_assign rfl ?_; simp only [Act.eval, Act.put, Array.getD_eq_getD_getElem?, List.getElem?_toArray, List.getElem?_cons_zero, List.getElem?_cons_succ, Option.getD_some, List.setIfInBounds_toArray, List.set_cons_zero, List.set_cons_succ])
                    | (refine wpS_read (v := ?_) rfl ?_ ?_; rotate_left; (focus (intro w' hG; go_simp; try (with_reducible rfl))); simp only [Act.put, List.setIfInBounds_toArray, List.set_cons_zero, List.set_cons_succ])
                    | (refine wpS_skip rfl ?_; simp only [Act.put, List.setIfInBounds_toArray, List.set_cons_zero, List.set_cons_succ]))
                  refine wpS_call (f := ?_) (args := ?_) (by rfl) ?_ ?_
                  rotate_left 2; focus (go_simp; constructor <;> with_reducible rfl)
                  refine ((KV.out wg HW4.out)).mono ?_
                  rintro e wh ⟨rfl, gh⟩
                  refine ⟨_, rfl, gh, ?_⟩
                  simp only [Act.put, List.setIfInBounds_toArray, List.set_cons_zero, List.set_cons_succ]
                  have HW5 := hid (HW4.out.trans gh)
                  clear fz gg1 gh HW3 HW4 KM KV
                  repeat (first
                    | (refine wpS_move rfl ?_; simp only [Act.eval, Act.put, Array.getD_eq_getD_getElem?, List.getElem?_toArray, List.getElem?_cons_zero, List.getElem?_cons_succ, Option.getD_some, List.setIfInBounds_toArray, List.set_cons_zero, List.set_cons_succ])
                    | (refine wpS_assign rfl ?_; simp only [Act.eval, Act.put, Array.getD_eq_getD_getElem?, List.getElem?_toArray, List.getElem?_cons_zero, List.getElem?_cons_succ, Option.getD_some, List.setIfInBounds_toArray, List.set_cons_zero, List.set_cons_succ])
                    | (refine wpS_read (v := ?_) rfl ?_ ?_; rotate_left; (focus (intro w' hG; go_simp; try (with_reducible rfl))); simp only [Act.put, List.setIfInBounds_toArray, List.set_cons_zero, List.set_cons_succ])
                    | (refine wpS_skip rfl ?_; simp only [Act.put, List.setIfInBounds_toArray, List.set_cons_zero, List.set_cons_succ]))
                  refine wpS_nil ?_
                  go_wp2
                  go_roundg (2 - (j1 + 1))
                  case measure => have := HJ1.out; omega
                  case rel => exact ⟨j1 + 1, rfl, HJ1.out.1, by first | rfl | go_num, HW5.out⟩
                · have kc := HCy.out wb ⟨ds, dg⟩ (HM4.out.1.1.grow HW.out) hgd
                  clear hgd
                  go_wp2_with fail
                  refine kc.mono ?_
                  rintro e wd ⟨rfl, gd⟩
                  have HW2 := hid (HW.out.trans gd)
                  clear kc gd d0 d1
                  go_wp2
                  go_roundg (2 - (j1 + 1))
                  case measure => have := HJ1.out; omega
                  case rel => exact ⟨j1 + 1, rfl, HJ1.out.1, by first | rfl | go_num, HW2.out⟩
          · have hlt1' : ¬ (j1 : Int) < 2 := by omega
            have HG1 := hid (HM4.out.1.2.2.1.trans HW.out)
            clear hlt1 hk1 hj1
            go_wp2_with fail
            refine (lives_any wa).mono ?_
            rintro e wd ⟨rfl, gd⟩
            go_wp2
            go_ret
            exact ⟨rfl, HG1.out.trans gd⟩
      · have hlt' : ¬ (j : Int) < (ls.length : Int) := by omega
        clear hgo hlt
        have HP := hid HX.out.2.1
        have HM := hid HX.out.2.2
        have HL5 : Hid (L.length ≤ 5) := by show L.length ≤ 5; rw [HX.out.1]; exact hj7
        obtain ⟨G, hG⟩ : ∃ G, G = rootC E :: L := ⟨_, rfl⟩
        rw [← hG] at HM
        have HAn := hid (fun d => HP.out.any d)
        rw [← hG] at HAn
        have HGl : Hid (G.length ≤ 6) := by show G.length ≤ 6; rw [hG, List.length_cons]; have := HL5.out; omega
        obtain ⟨av, cv, hsh⟩ := HM.out.2.1.shape
        subst hsh
        generalize hnn : ((L.length : Int) + 1) = nn at HP HM
        have KR := hid (fun u hu => rootR_any b S E nn u hu HP.out.1.1)
        have hk1 := HE.out
        have hb9 := HG9.out
        obtain ⟨kk, hkk⟩ : ∃ kk, kk = E * 1048576 := ⟨_, rfl⟩
        have hw9 : IntKind.i64.wrap (E * 1048576 + g9) = E * 1048576 + g9 := by rw [IntKind.wrap_i64]; omega
        have HC := hid (fun u d (hu : TbAt u b S E nn) (hd : goodB S d = false) => checkR_no b S E nn d u hu HP.out.1.1 hd)
        have HCy := hid (fun u d (hu : TbAt u b S E nn) (hd : goodB S d = true) => checkR_yes b S E nn d u hu HP.out.1.1 hd)
        have HMi : Hid (∀ u (d : Cp), TbAt u b S E nn → goodB S d = false → Calls Try.prog 21 #[.pointer (some ⟨b, 0, none⟩), .agg #[.int .i64 d.s, .int .i64 d.g], .int .i64 0] u fun e w' => e = .returned (.tuple #[.agg #[.int .i64 0, .int .i64 0], .int .i64 10]) ∧ Grow u w') := fun u d hu hd => mint_1 b S E nn d 0 u hu HP.out.1.1 10 (chkS_bad 8 hd) (by omega)
        have HRe : Hid (∀ u (d : Cp), TbAt u b S E nn → goodB S d = false → Calls Try.prog 15 #[.pointer (some ⟨b, 0, none⟩), .agg #[.int .i64 d.s, .int .i64 d.g], .agg #[.int .i64 0, .int .i64 (E * 1048576)]] u fun e w' => e = .returned (.int .i64 10) ∧ Grow u w') := fun u d hu hd => revoke_1 b S E nn d (rootC E) u hu HP.out.1.1 10 (chkS_bad 8 hd) (by omega)
        rw [← hkk] at KR hw9 HRe
        clear hk1 hb9 hkk hnn hG HX hk hj hj7 HP
        -- the two odd ones
        go_wp2_with fail
        refine (HA9.out wr).mono ?_
        rintro e w2 ⟨rfl, rfl⟩
        have k1 := KR.out wr HM.out.1
        go_wp2_with fail
        refine k1.mono ?_
        rintro e w3 ⟨rfl, g3⟩
        have HM3 := hid (HM.out.grow g3)
        have q9 := fun w' => field_g w' 0 kk
        clear k1 g3 HM
        go_wp2_with fail
        refine (HB9.out w3).mono ?_
        rintro e w4 ⟨rfl, rfl⟩
        obtain ⟨W4, hW4⟩ : ∃ W4, W4 = w3.alloc (.cells #[.int .i64 s0, .int .i64 g0, .int .i64 s9, .int .i64 (kk + g9)] 33) := ⟨_, rfl⟩
        obtain ⟨bo, hbo⟩ : ∃ bo, bo = w3.heap.size := ⟨_, rfl⟩
        have HM4 : Hid (LwM w W4 b S E nn (.slice av G.length cv) G ∧ RdS Cp.cs 2 (fun i => i = bo) W4 (.slice (some ⟨bo, 0, none⟩) 2 2) [⟨s0, g0⟩, ⟨s9, kk + g9⟩]) := by
          rw [hW4, hbo]; exact ⟨HM3.out.grow ((Grow.refl w3).alloc _), lit_C2 w3 _ _ _ _⟩
        clear HM3
        go_upto_region 14 with fail
        rw [← hW4, ← hbo]
        clear hW4 hbo hw9 q9
        go_wp2
        go_loopg [17] 2 (fun k i wx => ∃ j1 : Nat, k = 2 - j1 ∧ j1 ≤ 2 ∧ i = .int .i64 j1 ∧ Hid (Grow W4 wx))
        case atStart => exact ⟨0, rfl, Nat.zero_le _, rfl, Grow.refl _⟩
        case round =>
          obtain ⟨j1, hk1, hj1, rfl, HW⟩ := hrel
          obtain ⟨wa, rfl⟩ : ∃ wa, wa = wr := ⟨_, rfl⟩
          by_cases hlt1 : j1 < 2
          · have hlt1' : (j1 : Int) < 2 := by omega
            have HJ1 : Hid (j1 < 2 ∧ gk = 2 - j1) := ⟨hlt1, hk1⟩
            have HD : Hid (∀ u, Grow W4 u → u.cell? ⟨bo, j1 * 2, none⟩ = some (.int .i64 (([⟨s0, g0⟩, ⟨s9, kk + g9⟩] : List Cp).getD j1 Cp.zero).s) ∧ u.cell? ⟨bo, j1 * 2 + 1, none⟩ = some (.int .i64 (([⟨s0, g0⟩, ⟨s9, kk + g9⟩] : List Cp).getD j1 Cp.zero).g)) := fun u hu => by
              obtain ⟨b2, o2, e2, h1, h2⟩ := rdC_at (RdS.grow HM4.out.2 hu) (show j1 < ([⟨s0, g0⟩, ⟨s9, kk + g9⟩] : List Cp).length from hlt1)
              injection e2 with e2
              injection e2 with e2 e3
              subst e2 e3
              rw [Nat.zero_add] at h1 h2
              exact ⟨h1, h2⟩
            generalize ([⟨s0, g0⟩, ⟨s9, kk + g9⟩] : List Cp).getD j1 Cp.zero = d at HD
            obtain ⟨ds, dg⟩ := d
            clear hlt1 hk1 hj1
            go_wp2
            go_loopg [18, 19] G.length (fun k iv mv wx => ∃ j3 : Nat, k = G.length - j3 ∧ j3 ≤ G.length ∧ mv = .int .i64 j3 ∧ iv = .bool (anyB ⟨ds, dg⟩ (G.take j3)) ∧ Hid (Grow W4 wx))
            case atStart => exact ⟨0, rfl, Nat.zero_le _, rfl, rfl, HW.out⟩
            case round =>
              clear HW
              obtain ⟨j3, hk3, hj3, rfl, rfl, HW⟩ := hrel
              obtain ⟨wb, rfl⟩ : ∃ wb, wb = wr := ⟨_, rfl⟩
              have hg6 := HGl.out
              by_cases hlt3 : j3 < G.length
              · have hlt3' : (j3 : Int) < (G.length : Int) := by omega
                have HJ3 : Hid (j3 < G.length ∧ gk = G.length - j3) := ⟨hlt3, hk3⟩
                obtain ⟨b2, o2, e2, -⟩ := rdC_at HM4.out.1.2.1.rd hlt3
                have HCe : Hid (∀ u, Grow W4 u → u.cell? ⟨b2, o2 + j3 * 2, none⟩ = some (.int .i64 (G.getD j3 Cp.zero).s) ∧ u.cell? ⟨b2, o2 + j3 * 2 + 1, none⟩ = some (.int .i64 (G.getD j3 Cp.zero).g)) := fun u hu => by
                  obtain ⟨b3, o3, e3, h1, h2⟩ := rdC_at (RdS.grow HM4.out.1.2.1.rd hu) hlt3
                  rw [e2] at e3
                  injection e3 with e3
                  injection e3 with e3 e4
                  subst e3 e4
                  exact ⟨h1, h2⟩
                have HT : Hid (∀ x, G.getD j3 Cp.zero = x → anyB ⟨ds, dg⟩ (G.take (j3 + 1)) = (anyB ⟨ds, dg⟩ (G.take j3) || x.is ⟨ds, dg⟩)) := fun x hx => anyB_take hlt3 hx
                generalize hy : G.getD j3 Cp.zero = x at HCe
                have HT2 := hid (HT.out x hy)
                obtain ⟨xs, xg⟩ := x
                subst e2
                have hw3 : IntKind.i64.wrap ((j3 : Int) + 1) = ((j3 + 1 : Nat) : Int) := by rw [IntKind.wrap_i64]; omega
                clear hy HT hlt3 hk3 hj3 hg6
                generalize anyB ⟨ds, dg⟩ (G.take j3) = is at HT2
                have fz : ∀ w', Grow wb.drew w' → (w'.cell? ⟨bo, j1 * 2, none⟩ = some (.int .i64 ds) ∧ w'.cell? ⟨bo, j1 * 2 + 1, none⟩ = some (.int .i64 dg)) ∧ (w'.cell? ⟨b2, o2 + j3 * 2, none⟩ = some (.int .i64 xs) ∧ w'.cell? ⟨b2, o2 + j3 * 2 + 1, none⟩ = some (.int .i64 xg)) := fun w' hu => ⟨HD.out w' (HW.out.drew.trans hu), HCe.out w' (HW.out.drew.trans hu)⟩
                cases is
                · by_cases x1 : xs = ds
                  · have q1 := eqs x1
                    by_cases x2 : xg = dg
                    · have q2 := eqs x2
                      have HT3 : Hid (anyB ⟨ds, dg⟩ (G.take (j3 + 1)) = true) := by
                        show anyB _ _ = true
                        rw [HT2.out]; simp [Cp.is, x1, x2]
                      clear x1 x2 HT2 HCe
                      go_wp2
                      refine wp_region_sched (by kernel_rfl) [(0, false), (1, false), (2, false), (3, false), (4, false), (5, false), (6, false), (7, false), (8, false), (9, false), (10, false), (11, false), (12, false)] (by kernel_rfl) (by kernel_rfl) rfl (fun _ _ d _ _ h => by cases d <;> exact h) ?_
                      simp only [inOrder, List.filterMap_cons, List.filterMap_nil, List.getElem?_toArray, List.getElem?_cons_zero, List.getElem?_cons_succ, Option.map_some]
                      repeat (first
                        | (refine wpS_move rfl ?_; simp only [Act.eval, Act.put, Array.getD_eq_getD_getElem?, List.getElem?_toArray, List.getElem?_cons_zero, List.getElem?_cons_succ, Option.getD_some, List.setIfInBounds_toArray, List.set_cons_zero, List.set_cons_succ])
                        | (refine wpS_assign rfl ?_; simp only [Act.eval, Act.put, Array.getD_eq_getD_getElem?, List.getElem?_toArray, List.getElem?_cons_zero, List.getElem?_cons_succ, Option.getD_some, List.setIfInBounds_toArray, List.set_cons_zero, List.set_cons_succ])
                        | (refine wpS_read (v := ?_) rfl ?_ ?_; rotate_left; (focus (intro w' hG; obtain ⟨⟨y0, y1⟩, y2, y3⟩ := fz w' hG; go_simp; try (with_reducible rfl))); simp only [Act.put, List.setIfInBounds_toArray, List.set_cons_zero, List.set_cons_succ])
                        | (refine wpS_skip rfl ?_; simp only [Act.put, List.setIfInBounds_toArray, List.set_cons_zero, List.set_cons_succ]))
                      refine wpS_nil ?_
                      have HW2 := hid (HW.out.drew)
                      clear fz
                      go_wp2
                      go_roundg (G.length - (j3 + 1))
                      case measure => have := HJ3.out; omega
                      case rel => exact ⟨j3 + 1, rfl, HJ3.out.1, by first | rfl | go_num, by rw [HT3.out], HW2.out⟩
                    · have q2 := neqs x2
                      have HT3 : Hid (anyB ⟨ds, dg⟩ (G.take (j3 + 1)) = false) := by
                        show anyB _ _ = false
                        rw [HT2.out]; simp [Cp.is, x2]
                      clear x1 x2 HT2 HCe
                      go_wp2
                      refine wp_region_sched (by kernel_rfl) [(0, false), (1, false), (2, false), (3, false), (4, false), (5, false), (6, false), (7, false), (8, false), (9, false), (10, false), (11, false), (12, false)] (by kernel_rfl) (by kernel_rfl) rfl (fun _ _ d _ _ h => by cases d <;> exact h) ?_
                      simp only [inOrder, List.filterMap_cons, List.filterMap_nil, List.getElem?_toArray, List.getElem?_cons_zero, List.getElem?_cons_succ, Option.map_some]
                      repeat (first
                        | (refine wpS_move rfl ?_; simp only [Act.eval, Act.put, Array.getD_eq_getD_getElem?, List.getElem?_toArray, List.getElem?_cons_zero, List.getElem?_cons_succ, Option.getD_some, List.setIfInBounds_toArray, List.set_cons_zero, List.set_cons_succ])
                        | (refine wpS_assign rfl ?_; simp only [Act.eval, Act.put, Array.getD_eq_getD_getElem?, List.getElem?_toArray, List.getElem?_cons_zero, List.getElem?_cons_succ, Option.getD_some, List.setIfInBounds_toArray, List.set_cons_zero, List.set_cons_succ])
                        | (refine wpS_read (v := ?_) rfl ?_ ?_; rotate_left; (focus (intro w' hG; obtain ⟨⟨y0, y1⟩, y2, y3⟩ := fz w' hG; go_simp; try (with_reducible rfl))); simp only [Act.put, List.setIfInBounds_toArray, List.set_cons_zero, List.set_cons_succ])
                        | (refine wpS_skip rfl ?_; simp only [Act.put, List.setIfInBounds_toArray, List.set_cons_zero, List.set_cons_succ]))
                      refine wpS_nil ?_
                      have HW2 := hid (HW.out.drew)
                      clear fz
                      go_wp2
                      go_roundg (G.length - (j3 + 1))
                      case measure => have := HJ3.out; omega
                      case rel => exact ⟨j3 + 1, rfl, HJ3.out.1, by first | rfl | go_num, by rw [HT3.out], HW2.out⟩
                  · have q1 := neqs x1
                    have x2 : True := trivial
                    have HT3 : Hid (anyB ⟨ds, dg⟩ (G.take (j3 + 1)) = false) := by
                      show anyB _ _ = false
                      rw [HT2.out]; simp [Cp.is, x1]
                    clear x1 x2 HT2 HCe
                    go_wp2
                    refine wp_region_sched (by kernel_rfl) [(0, false), (1, false), (2, false), (3, false), (4, false), (5, false), (6, false), (7, false), (8, false), (9, false), (10, false), (11, false), (12, false)] (by kernel_rfl) (by kernel_rfl) rfl (fun _ _ d _ _ h => by cases d <;> exact h) ?_
                    simp only [inOrder, List.filterMap_cons, List.filterMap_nil, List.getElem?_toArray, List.getElem?_cons_zero, List.getElem?_cons_succ, Option.map_some]
                    repeat (first
                      | (refine wpS_move rfl ?_; simp only [Act.eval, Act.put, Array.getD_eq_getD_getElem?, List.getElem?_toArray, List.getElem?_cons_zero, List.getElem?_cons_succ, Option.getD_some, List.setIfInBounds_toArray, List.set_cons_zero, List.set_cons_succ])
                      | (refine wpS_assign rfl ?_; simp only [Act.eval, Act.put, Array.getD_eq_getD_getElem?, List.getElem?_toArray, List.getElem?_cons_zero, List.getElem?_cons_succ, Option.getD_some, List.setIfInBounds_toArray, List.set_cons_zero, List.set_cons_succ])
                      | (refine wpS_read (v := ?_) rfl ?_ ?_; rotate_left; (focus (intro w' hG; obtain ⟨⟨y0, y1⟩, y2, y3⟩ := fz w' hG; go_simp; try (with_reducible rfl))); simp only [Act.put, List.setIfInBounds_toArray, List.set_cons_zero, List.set_cons_succ])
                      | (refine wpS_skip rfl ?_; simp only [Act.put, List.setIfInBounds_toArray, List.set_cons_zero, List.set_cons_succ]))
                    refine wpS_nil ?_
                    have HW2 := hid (HW.out.drew)
                    clear fz
                    go_wp2
                    go_roundg (G.length - (j3 + 1))
                    case measure => have := HJ3.out; omega
                    case rel => exact ⟨j3 + 1, rfl, HJ3.out.1, by first | rfl | go_num, by rw [HT3.out], HW2.out⟩
                · have x1 : True := trivial
                  have x2 : True := trivial
                  have HT3 : Hid (anyB ⟨ds, dg⟩ (G.take (j3 + 1)) = true) := by
                    show anyB _ _ = true
                    rw [HT2.out]; simp
                  clear x1 x2 HT2 HCe
                  go_wp2
                  refine wp_region_sched (by kernel_rfl) [(0, false), (1, false), (2, false), (3, false), (4, false), (5, false), (6, false), (7, false), (8, false), (9, false), (10, false), (11, false), (12, false)] (by kernel_rfl) (by kernel_rfl) rfl (fun _ _ d _ _ h => by cases d <;> exact h) ?_
                  simp only [inOrder, List.filterMap_cons, List.filterMap_nil, List.getElem?_toArray, List.getElem?_cons_zero, List.getElem?_cons_succ, Option.map_some]
                  repeat (first
                    | (refine wpS_move rfl ?_; simp only [Act.eval, Act.put, Array.getD_eq_getD_getElem?, List.getElem?_toArray, List.getElem?_cons_zero, List.getElem?_cons_succ, Option.getD_some, List.setIfInBounds_toArray, List.set_cons_zero, List.set_cons_succ])
                    | (refine wpS_assign rfl ?_; simp only [Act.eval, Act.put, Array.getD_eq_getD_getElem?, List.getElem?_toArray, List.getElem?_cons_zero, List.getElem?_cons_succ, Option.getD_some, List.setIfInBounds_toArray, List.set_cons_zero, List.set_cons_succ])
                    | (refine wpS_read (v := ?_) rfl ?_ ?_; rotate_left; (focus (intro w' hG; obtain ⟨⟨y0, y1⟩, y2, y3⟩ := fz w' hG; go_simp; try (with_reducible rfl))); simp only [Act.put, List.setIfInBounds_toArray, List.set_cons_zero, List.set_cons_succ])
                    | (refine wpS_skip rfl ?_; simp only [Act.put, List.setIfInBounds_toArray, List.set_cons_zero, List.set_cons_succ]))
                  refine wpS_nil ?_
                  have HW2 := hid (HW.out.drew)
                  clear fz
                  go_wp2
                  go_roundg (G.length - (j3 + 1))
                  case measure => have := HJ3.out; omega
                  case rel => exact ⟨j3 + 1, rfl, HJ3.out.1, by first | rfl | go_num, by rw [HT3.out], HW2.out⟩
              · have hlt3' : ¬ (j3 : Int) < (G.length : Int) := by omega
                have ht : G.take j3 = G := List.take_of_length_le (by omega)
                rw [ht, HAn.out]
                clear ht hlt3 hk3 hj3 hg6
                have c12 := HD.out wb HW.out
                obtain ⟨d0, d1⟩ := c12
                cases hgd : goodB S ⟨ds, dg⟩
                · have kc := HC.out wb ⟨ds, dg⟩ (HM4.out.1.1.grow HW.out) hgd
                  have KM := hid (fun u (hu : Grow W4 u) => HMi.out u ⟨ds, dg⟩ (HM4.out.1.1.grow hu) hgd)
                  have KV := hid (fun u (hu : Grow W4 u) => HRe.out u ⟨ds, dg⟩ (HM4.out.1.1.grow hu) hgd)
                  clear hgd
                  go_wp2_with fail
                  refine kc.mono ?_
                  rintro e wd ⟨rfl, gd⟩
                  have HW2 := hid (HW.out.trans gd)
                  obtain ⟨d2, d3⟩ := HD.out wd HW2.out
                  have km := KM.out wd HW2.out
                  clear kc gd d0 d1
                  go_wp2_with fail
                  refine km.mono ?_
                  rintro e we ⟨rfl, ge⟩
                  obtain ⟨Wf, hWf⟩ : ∃ Wf, Wf = we.alloc (.cells #[.int .i64 0, .int .i64 0] 33) := ⟨_, rfl⟩
                  have HW3 : Hid (Grow W4 Wf.drew) := by rw [hWf]; exact ((HW2.out.trans ge).alloc _).drew
                  clear km ge d2 d3 HW2
                  have fz : ∀ w', Grow Wf.drew w' → (w'.cell? ⟨bo, j1 * 2, none⟩ = some (.int .i64 ds) ∧ w'.cell? ⟨bo, j1 * 2 + 1, none⟩ = some (.int .i64 dg)) := fun w' hu => HD.out w' (HW3.out.trans hu)
                  go_upto_region 29 with fail
                  rw [← hWf]
                  clear hWf
                  refine wp_region_sched (by kernel_rfl) [(0, false), (1, false), (2, false), (3, false), (4, false), (5, false), (6, false), (7, false), (8, false), (9, true), (10, true), (11, false), (12, false)] (by kernel_rfl) (by kernel_rfl) rfl (fun _ _ d _ _ h => by cases d <;> exact h) ?_
                  simp only [inOrder, List.filterMap_cons, List.filterMap_nil, List.getElem?_toArray, List.getElem?_cons_zero, List.getElem?_cons_succ, Option.map_some]
                  repeat (first
                    | (refine wpS_move rfl ?_; simp only [Act.eval, Act.put, Array.getD_eq_getD_getElem?, List.getElem?_toArray, List.getElem?_cons_zero, List.getElem?_cons_succ, Option.getD_some, List.setIfInBounds_toArray, List.set_cons_zero, List.set_cons_succ])
                    | (refine wpS_assign rfl ?_; simp only [Act.eval, Act.put, Array.getD_eq_getD_getElem?, List.getElem?_toArray, List.getElem?_cons_zero, List.getElem?_cons_succ, Option.getD_some, List.setIfInBounds_toArray, List.set_cons_zero, List.set_cons_succ])
                    | (refine wpS_read (v := ?_) rfl ?_ ?_; rotate_left; (focus (intro w' hG; obtain ⟨y0, y1⟩ := fz w' hG; go_simp; try (with_reducible rfl))); simp only [Act.put, List.setIfInBounds_toArray, List.set_cons_zero, List.set_cons_succ])
                    | (refine wpS_skip rfl ?_; simp only [Act.put, List.setIfInBounds_toArray, List.set_cons_zero, List.set_cons_succ]))
                  refine wpS_call (f := ?_) (args := ?_) (by rfl) ?_ ?_
                  rotate_left 2; focus (go_simp; constructor <;> with_reducible rfl)
                  refine ((KR.out _ (HM4.out.1.1.grow HW3.out))).mono ?_
                  rintro e wg ⟨rfl, gg1⟩
                  refine ⟨_, rfl, gg1, ?_⟩
                  simp only [Act.put, List.setIfInBounds_toArray, List.set_cons_zero, List.set_cons_succ]
                  have HW4 := hid (HW3.out.trans gg1)
                  repeat (first
                    | (refine wpS_move rfl ?_; simp only [Act.eval, Act.put, Array.getD_eq_getD_getElem?, List.getElem?_toArray, List.getElem?_cons_zero, List.getElem?_cons_succ, Option.getD_some, List.setIfInBounds_toArray, List.set_cons_zero, List.set_cons_succ])
                    | (refine wpS_assign rfl ?_; simp only [Act.eval, Act.put, Array.getD_eq_getD_getElem?, List.getElem?_toArray, List.getElem?_cons_zero, List.getElem?_cons_succ, Option.getD_some, List.setIfInBounds_toArray, List.set_cons_zero, List.set_cons_succ])
                    | (refine wpS_read (v := ?_) rfl ?_ ?_; rotate_left; (focus (intro w' hG; go_simp; try (with_reducible rfl))); simp only [Act.put, List.setIfInBounds_toArray, List.set_cons_zero, List.set_cons_succ])
                    | (refine wpS_skip rfl ?_; simp only [Act.put, List.setIfInBounds_toArray, List.set_cons_zero, List.set_cons_succ]))
                  refine wpS_call (f := ?_) (args := ?_) (by rfl) ?_ ?_
                  rotate_left 2; focus (go_simp; constructor <;> with_reducible rfl)
                  refine ((KV.out wg HW4.out)).mono ?_
                  rintro e wh ⟨rfl, gh⟩
                  refine ⟨_, rfl, gh, ?_⟩
                  simp only [Act.put, List.setIfInBounds_toArray, List.set_cons_zero, List.set_cons_succ]
                  have HW5 := hid (HW4.out.trans gh)
                  clear fz gg1 gh HW3 HW4 KM KV
                  repeat (first
                    | (refine wpS_move rfl ?_; simp only [Act.eval, Act.put, Array.getD_eq_getD_getElem?, List.getElem?_toArray, List.getElem?_cons_zero, List.getElem?_cons_succ, Option.getD_some, List.setIfInBounds_toArray, List.set_cons_zero, List.set_cons_succ])
                    | (refine wpS_assign rfl ?_; simp only [Act.eval, Act.put, Array.getD_eq_getD_getElem?, List.getElem?_toArray, List.getElem?_cons_zero, List.getElem?_cons_succ, Option.getD_some, List.setIfInBounds_toArray, List.set_cons_zero, List.set_cons_succ])
                    | (refine wpS_read (v := ?_) rfl ?_ ?_; rotate_left; (focus (intro w' hG; go_simp; try (with_reducible rfl))); simp only [Act.put, List.setIfInBounds_toArray, List.set_cons_zero, List.set_cons_succ])
                    | (refine wpS_skip rfl ?_; simp only [Act.put, List.setIfInBounds_toArray, List.set_cons_zero, List.set_cons_succ]))
                  refine wpS_nil ?_
                  go_wp2
                  go_roundg (2 - (j1 + 1))
                  case measure => have := HJ1.out; omega
                  case rel => exact ⟨j1 + 1, rfl, HJ1.out.1, by first | rfl | go_num, HW5.out⟩
                · have kc := HCy.out wb ⟨ds, dg⟩ (HM4.out.1.1.grow HW.out) hgd
                  clear hgd
                  go_wp2_with fail
                  refine kc.mono ?_
                  rintro e wd ⟨rfl, gd⟩
                  have HW2 := hid (HW.out.trans gd)
                  clear kc gd d0 d1
                  go_wp2
                  go_roundg (2 - (j1 + 1))
                  case measure => have := HJ1.out; omega
                  case rel => exact ⟨j1 + 1, rfl, HJ1.out.1, by first | rfl | go_num, HW2.out⟩
          · have hlt1' : ¬ (j1 : Int) < 2 := by omega
            have HG1 := hid (HM4.out.1.2.2.1.trans HW.out)
            clear hlt1 hk1 hj1
            go_wp2_with fail
            refine (lives_any wa).mono ?_
            rintro e wd ⟨rfl, gd⟩
            go_wp2
            go_ret
            exact ⟨rfl, HG1.out.trans gd⟩
end Go.Proofs.Ytoobohbghobfhaa
