/-
  The walk of allotmentlaw01.LayRound: it returns true, and nothing that was there is written. Conditions: none but the reading of its arguments.
-/
import Derived.Test.YtcilbokogejicaaWalkCuts
import Derived.Test.YtcilbokogejicaaOpen
namespace Go.Proofs.Ytcilbokogejicaa
open Go.RowKit
set_option linter.unusedVariables false
set_option linter.unusedSimpArgs false

/-- What is laid: of each number and text their bytes, and n's. -/
def enc (n : Int) (L : List (Int × List Int)) : List Int := (L.map fun y => leI y.1 ++ (le 8 y.2.length ++ (y.2 ++ le 8 n))).flatten
theorem enc_append (n : Int) (a b : List (Int × List Int)) : enc n (a ++ b) = enc n a ++ enc n b := by simp [enc]
theorem enc_one (n : Int) (y : Int × List Int) : enc n [y] = leI y.1 ++ (le 8 y.2.length ++ (y.2 ++ le 8 n)) := by simp [enc]
theorem enc_length (n : Int) (L : List (Int × List Int)) (h : ∀ y ∈ L, y.2.length ≤ 20) : (enc n L).length ≤ 44 * L.length := by
  induction L with
  | nil => simp [enc]
  | cons y L ih =>
    have h1 := ih (fun z hz => h z (by simp [hz]))
    have h2 := h y (by simp)
    have : enc n (y :: L) = enc n [y] ++ enc n L := by rw [← enc_append]; rfl
    rw [this, List.length_append, enc_one, List.length_append, List.length_append, List.length_append, leI_length, le_length, le_length]
    simp only [List.length_cons]
    omega

theorem byte_enc (n : Int) (L : List (Int × List Int)) (h : ∀ y ∈ L, Byte y.2) : Byte (enc n L) := by
  induction L with
  | nil => exact byte_nil
  | cons y L ih =>
    have : enc n (y :: L) = enc n [y] ++ enc n L := by rw [← enc_append]; rfl
    rw [this, enc_one]
    exact (((byte_le 8 _).append ((byte_le 8 _).append ((h y (by simp)).append (byte_le 8 _)))).append (ih (fun z hz => h z (by simp [hz]))))

theorem head_long (m : Int) (r : List Int) : ¬ (le 8 m ++ r).length < 8 := by rw [List.length_append, le_length]; omega
theorem uval_le (m : Int) (r : List Int) (h0 : 0 ≤ m) (h1 : m < 18446744073709551616) : uval (le 8 m ++ r) = m := by
  unfold uval
  rw [if_neg (head_long m r), List.take_append_of_le_length (by rw [le_length]; omega), List.take_of_length_le (by rw [le_length]; omega), val_le 8 m h0 (by rw [show (256 : Int) ^ 8 = 18446744073709551616 by decide]; exact h1)]
theorem urest_le (m : Int) (r : List Int) : urest (le 8 m ++ r) = r := by
  unfold urest
  rw [if_neg (head_long m r), List.drop_append_of_le_length (by rw [le_length]; omega), List.drop_of_length_le (by rw [le_length]; omega), List.nil_append]
theorem uerr_le (m e : Int) (r : List Int) : uerr (le 8 m ++ r) e = e := by
  unfold uerr; rw [if_neg (head_long m r)]

theorem wrap64_mod (x : Int) (h : (Lit.int .i64 x).wf = true) : wrap64 (x % 18446744073709551616) = x := by
  have := bounds_i64 h
  unfold wrap64
  omega

/-- Of what is laid the number, the text, the number are read. -/
theorem read_int (b : Nat) (p : Nat → Prop) (x : Int) (r : List Int) (w : World) (h : RdrAt w b p (leI x ++ r) 0) (hx : (Lit.int .i64 x).wf = true) (hr : Byte r) :
    Calls Try.prog 21 #[.pointer (some ⟨b, 0, none⟩)] w fun e w' => e = .returned (.int .i64 x) ∧ RdrAt w' b p r 0 ∧ Upd b w w' := by
  have hb : Byte (leI x ++ r) := (byte_le 8 _).append hr
  have := intR_any b _ 0 w h hb
  unfold leI at this
  rw [uval_le _ _ (by omega) (by omega), urest_le, uerr_le, wrap64_mod x hx] at this
  exact this
theorem read_uint (b : Nat) (p : Nat → Prop) (n : Int) (r : List Int) (w : World) (h : RdrAt w b p (le 8 n ++ r) 0) (h0 : 0 ≤ n) (h1 : n < 18446744073709551616) (hr : Byte r) :
    Calls Try.prog 19 #[.pointer (some ⟨b, 0, none⟩)] w fun e w' => e = .returned (.int .u64 n) ∧ RdrAt w' b p r 0 ∧ Upd b w w' := by
  have hb : Byte (le 8 n ++ r) := (byte_le 8 _).append hr
  have := uintR_any b _ 0 w h hb
  rw [uval_le _ _ h0 h1, urest_le, uerr_le] at this
  exact this
theorem read_text (b : Nat) (p : Nat → Prop) (s r : List Int) (w : World) (h : RdrAt w b p (le 8 s.length ++ (s ++ r)) 0) (hs : s.length ≤ 20) (hb : Byte s) (hr : Byte r) (hl : r.length ≤ 900000) :
    Calls Try.prog 22 #[.pointer (some ⟨b, 0, none⟩), .int .i64 20] w fun e w' => ∃ v, e = .returned v ∧ Own .u8 w.heap.size w' v s ∧ RdrAt w' b p r 0 ∧ Upd b w w' := by
  have hall : Byte (le 8 s.length ++ (s ++ r)) := (byte_le 8 _).append (hb.append hr)
  have hd : (le 8 s.length ++ (s ++ r)).drop 8 = s ++ r := by rw [List.drop_append_of_le_length (by rw [le_length]; omega), List.drop_of_length_le (by rw [le_length]; omega), List.nil_append]
  have := bytesR_ok b _ 20 s.length w h hall (head_long _ _) (by decide) (by rw [List.take_append_of_le_length (by rw [le_length]; omega), List.take_of_length_le (by rw [le_length]; omega), val_le 8 _ (by omega) (by omega)]) (by omega) (by rw [hd, List.length_append]; omega) (by rw [List.length_append, List.length_append, le_length]; omega)
  rw [hd, List.take_append_of_le_length (Nat.le_refl _), List.take_of_length_le (Nat.le_refl _), List.drop_append_of_le_length (Nat.le_refl _), List.drop_of_length_le (Nat.le_refl _), List.nil_append] at this
  exact this

set_option maxHeartbeats 4000000 in
theorem layRound_walk (a0 a1 : Option Addr) (cap0 cap1 : Nat) (l : List Int) (ss : List (List Int)) (n : Int) (w : World) (hl : Rd .i64 w.heap.size w (.slice a0 l.length cap0) l) (hlw : ∀ x ∈ l, (Lit.int .i64 x).wf = true) (hs : Rds .u8 w a1 ss.length cap1 ss) (hn0 : 0 ≤ n) (hn1 : n < 18446744073709551616) :
    Calls Try.prog 5 #[.slice a0 l.length cap0, .slice a1 ss.length cap1, .int .u64 n] w fun e w' => e = .returned (.bool true) ∧ Below w.heap.size w w' := by
  obtain ⟨-, hlc, hcm⟩ := hl.caps
  unfold maxLen at hcm
  obtain ⟨-, hsc, hscm, hse⟩ := hs
  unfold maxLen at hscm
  obtain ⟨K, hK⟩ : ∃ K, K = min l.length (min ss.length 5) := ⟨_, rfl⟩
  obtain ⟨L, hL⟩ : ∃ L : List (Int × List Int), L = (List.range K).map fun i => (l.getD i 0, (ss.getD i []).take 20) := ⟨_, rfl⟩
  have hLl : L.length = K := by rw [hL]; simp
  have hLg : ∀ j, j < K → L.getD j (0, []) = (l.getD j 0, (ss.getD j []).take 20) := fun j hj => by rw [hL]; simp [List.getD, hj]
  have hL20 : ∀ y ∈ L, y.2.length ≤ 20 := fun y hy => by
    rw [hL] at hy
    obtain ⟨i, _, rfl⟩ := List.mem_map.1 hy
    simp only [List.length_take]; omega
  have HI : Hid (∀ j, j < K → ∃ bl ol bs os u, a0 = some ⟨bl, ol, none⟩ ∧ a1 = some ⟨bs, os, none⟩ ∧ w.cell? ⟨bl, ol + j, none⟩ = some (.int .i64 (L.getD j (0, [])).1) ∧ w.cell? ⟨bs, os + j, none⟩ = some u ∧ Rd .u8 w.heap.size w u (ss.getD j []) ∧
      enc n (L.take (j + 1)) = enc n (L.take j) ++ (leI (L.getD j (0, [])).1 ++ (le 8 (L.getD j (0, [])).2.length ++ ((L.getD j (0, [])).2 ++ le 8 n))) ∧ (enc n (L.take j)).length ≤ 220 ∧ (Lit.int .i64 (L.getD j (0, [])).1).wf = true ∧ ((ss.getD j []).take 20 = (L.getD j (0, [])).2 ∧ (L.getD j (0, [])).2.length ≤ 20)) := fun j hj => by
    obtain ⟨-, -, -, bl, ol, ha0, hbl, hcl⟩ := hl.addr (by omega)
    obtain ⟨bs, os, u, ha1, hbs, hcs, hru, hwu⟩ := hse j (by omega)
    refine ⟨bl, ol, bs, os, u, ha0, ha1, ?_, hcs, hru, ?_, ?_, ?_, ?_⟩
    · rw [hLg j hj]; exact hcl j (by omega)
    · rw [List.take_succ_eq_append_getElem (by omega), enc_append, enc_one]
      simp [List.getD, List.getElem?_eq_getElem (show j < L.length by omega)]
    · refine Nat.le_trans (enc_length n _ (fun y hy => hL20 y (List.mem_of_mem_take hy))) ?_
      rw [List.length_take]; omega
    · rw [hLg j hj]
      refine hlw _ ?_
      simp [List.getD, List.getElem?_eq_getElem (show j < l.length by omega)]
    · rw [hLg j hj]; exact ⟨rfl, by simp only [List.length_take]; omega⟩
  have hLb : ∀ y ∈ L, Byte y.2 := fun y hy => by
    rw [hL] at hy
    obtain ⟨i, hi, rfl⟩ := List.mem_map.1 hy
    obtain ⟨_, _, _, _, _, _, _, hwu⟩ := hse i (by have := List.mem_range.1 hi; omega)
    intro z hz
    have := bounds_u8 (hwu z (List.mem_of_mem_take hz))
    omega
  have HD : Hid (∀ j, j < K → enc n (L.drop j) = leI (L.getD j (0, [])).1 ++ (le 8 (L.getD j (0, [])).2.length ++ ((L.getD j (0, [])).2 ++ (le 8 n ++ enc n (L.drop (j + 1))))) ∧ Byte (L.getD j (0, [])).2 ∧ Byte (enc n (L.drop (j + 1))) ∧ (enc n (L.drop (j + 1))).length ≤ 220) := fun j hj => by
    have hjL : j < L.length := by omega
    have e1 : L.getD j (0, []) = L[j] := by simp [List.getD, List.getElem?_eq_getElem hjL]
    have e2 : L.drop j = [L[j]] ++ L.drop (j + 1) := by rw [List.drop_eq_getElem_cons hjL]; rfl
    refine ⟨?_, ?_, byte_enc n _ (fun y hy => hLb y (List.mem_of_mem_drop hy)), ?_⟩
    · rw [e1, e2, enc_append, enc_one]; simp [List.append_assoc]
    · rw [e1]; exact hLb _ (List.getElem_mem hjL)
    · refine Nat.le_trans (enc_length n _ (fun y hy => hL20 y (List.mem_of_mem_drop hy))) ?_
      rw [List.length_drop]; omega
  have HLl : Hid ((enc n L).length ≤ 220) := Nat.le_trans (enc_length n L hL20) (by omega)
  have HCl : Hid (∀ (b o : Nat) (v : Value), w.cell? ⟨b, o, none⟩ = some v → ∀ w', Grow w w' → w'.cell? ⟨b, o, none⟩ = some v) := fun b o v hc w' hg => by
    rw [hg.cell (p := ⟨b, o, none⟩) (World.block_lt_of_cell? _ _ hc)]; exact hc
  have hLl1 : L.length ≤ K := Nat.le_of_eq hLl
  have hLl2 : K ≤ L.length := Nat.le_of_eq hLl.symm
  have hK1 : K ≤ l.length := by omega
  have hK2 : K ≤ ss.length := by omega
  have hK3 : K ≤ 5 := by omega
  clear hL hse hLg hLl
  by_cases hc1 : ss.length ≤ 5
  · have hc1' : (ss.length : Int) ≤ 5 := by omega
    by_cases hc2 : l.length ≤ ss.length
    · have hc2' : (l.length : Int) ≤ (ss.length : Int) := by omega
      obtain rfl : K = l.length := by omega
      clear hK
      go_enter Try.func5, Try.ntmps5
      go_wp2
      go_loopg [7, 9] l.length (fun k d ix wr => ∃ j : Nat, k = l.length - j ∧ j ≤ l.length ∧ ix = .int .i64 j ∧ Own .u8 w.heap.size wr d (enc n (L.take j)) ∧ Grow w wr)
      case atStart => exact ⟨0, rfl, Nat.zero_le _, rfl, Own.nil _ _ _ _, Grow.refl w⟩
      case round =>
        obtain ⟨j, hk, hj, rfl, ho, hg⟩ := hrel
        by_cases hlt : j < l.length
        · obtain ⟨bl, ol, bs, os, u, hal, has, hcl, hcs, hru, hit, hbd, hxl, hsl⟩ := HI.out j hlt
          generalize ss.getD j [] = sj at hru hsl
          subst hal; subst has
          have hlt' : (j : Int) < (l.length : Int) := by omega
          have hjl : (j : Int) < (l.length : Int) := by omega
          have hjs : (j : Int) < (ss.length : Int) := by omega
          have kl := HCl.out _ _ _ hcl wr hg
          have hll : (enc n (L.take j)).length ≤ 500 := by have := hbd; omega
          have HIT : Hid (enc n (L.take (j + 1)) = enc n (L.take j) ++ (leI (L.getD j (0, [])).1 ++ (le 8 (L.getD j (0, [])).2.length ++ ((L.getD j (0, [])).2 ++ le 8 n)))) := hit
          clear hit
          obtain ⟨⟨x, s⟩, hxs⟩ : ∃ y, y = L.getD j (0, []) := ⟨_, rfl⟩
          rw [← hxs] at HIT hcl kl hsl hxl
          simp only at HIT hcl kl hsl hxl
          clear hxs
          go_wp2_with fail
          refine (ints_any _ _ (enc n (L.take j)) [x] wr.heap.size _ _ (ho.rd.below ((Below.refl _ wr).alloc (Nat.le_refl _) _)) (rd_new .i64 x 3 wr) (by omega) (by simp)).mono ?_
          rintro e w1 ⟨v1, rfl, ho1, hg1⟩
          rw [show leAll [x] = leI x by simp [leAll]] at ho1
          have g1 : Grow w w1 := Grow.trans (Grow.alloc hg _) hg1
          have kc := HCl.out _ _ _ hcs w1 g1
          obtain ⟨au, cu, hu⟩ : ∃ a c, u = .slice a _ c := ⟨_, _, hru.choose_spec.choose_spec.1⟩
          have hru1 := hru.below g1
          have Hru1 : Hid (Rd .u8 w.heap.size w1 u sj) := hru1
          clear hru1 hru
          subst hu
          go_wp2_with fail
          refine (few_any _ _ 20 20 _ _ rfl Hru1.out (by omega)).mono ?_
          rintro e w2 ⟨v2, rfl, ho2, hg2⟩
          rw [hsl.1] at ho2
          have g2 : Grow w w2 := Grow.trans g1 hg2
          have hlx : (enc n (L.take j) ++ leI x).length ≤ 600 := by rw [List.length_append, leI_length]; omega
          go_wp2_with fail
          refine (bytes_any _ _ _ s _ _ _ (ho1.rd.below hg2) ho2.rd (by omega) (by have := hsl.2; omega)).mono ?_
          rintro e w3 ⟨v3, rfl, ho3, hg3⟩
          have g3 : Grow w w3 := Grow.trans g2 hg3
          have hly : (enc n (L.take j) ++ leI x ++ le 8 s.length ++ s).length ≤ 700 := by rw [List.length_append, List.length_append, le_length]; have := hsl.2; omega
          go_wp2_with fail
          refine (uint_any _ _ n _ _ ho3.rd (by omega) hn0 hn1).mono ?_
          rintro e w4 ⟨v4, rfl, ho4, hg4⟩
          have g4 : Grow w w4 := Grow.trans g3 hg4
          go_wp2
          go_roundg (l.length - (j + 1))
          case measure => omega
          case rel =>
            refine ⟨j + 1, rfl, by omega, by go_num, ?_, g4⟩
            rw [HIT.out]
            have := ho4.base g3.size
            simpa [List.append_assoc] using this
        · obtain rfl : j = l.length := by omega
          rw [List.take_of_length_le (by omega)] at ho
          go_wp2_with fail
          refine (read_any _ (enc n L) _ _ ho.rd (by have := HLl.out; omega)).mono ?_
          rintro e w1 ⟨b, rfl, hr1, hg1, hb1⟩
          have g1 : Grow w w1 := Grow.trans hg hg1
          have hwb : w.heap.size ≤ b := Nat.le_trans hg.size hb1
          generalize (fun k => wr.heap.size ≤ k ∧ k < b) = p at hr1
          clear ho hg1
          go_wp2
          go_loopg [11] l.length (fun k ix wr => ∃ j : Nat, k = l.length - j ∧ j ≤ l.length ∧ ix = .int .i64 j ∧ RdrAt wr b p (enc n (L.drop j)) 0 ∧ Grow w wr)
          case atStart => exact ⟨0, rfl, Nat.zero_le _, rfl, hr1, g1⟩
          case round =>
            clear hr1 g1 hg hb1
            obtain ⟨j, hk, hj, rfl, hr, hg⟩ := hrel
            by_cases hlt : j < l.length
            · obtain ⟨bl, ol, bs, os, u, hal, has, hcl, hcs, hru, -, -, hxl, hsl⟩ := HI.out j hlt
              generalize ss.getD j [] = sj at hru hsl
              obtain ⟨hd, hsb, hrb, hrl⟩ := HD.out j hlt
              subst hal; subst has
              have hlt' : (j : Int) < (l.length : Int) := by omega
              have hjl : (j : Int) < (l.length : Int) := by omega
              have hjs : (j : Int) < (ss.length : Int) := by omega
              rw [hd] at hr
              clear hd
              obtain ⟨⟨x, s⟩, hxs⟩ : ∃ y, y = L.getD j (0, []) := ⟨_, rfl⟩
              rw [← hxs] at hcl hsl hxl hsb hr
              simp only at hcl hsl hxl hsb hr
              clear hxs
              obtain ⟨au, cu, hu⟩ : ∃ a c, u = .slice a _ c := ⟨_, _, hru.choose_spec.choose_spec.1⟩
              have Hru : Hid (Rd .u8 w.heap.size w u sj) := hru
              clear hru
              have Hus : Hid (∀ w', Upd b wr.drew w' → Grow w w') := fun w' h => UpdS.new (Grow.drew hg) h (fun i hi => by omega)
              have kl : ∀ w', Upd b wr.drew w' → w'.cell? ⟨bl, ol + j, none⟩ = some (.int .i64 x) := fun w' h => HCl.out _ _ _ hcl w' (Hus.out w' h)
              have hrd := hr.grow (Grow.refl wr).drew
              subst hu
              go_wp2
              refine wp_region_schedG (Upd b) (Upd.refl b) (fun _ _ _ => Upd.trans) (by kernel_rfl) [(0, false), (2, false), (3, false), (4, false), (5, false), (1, true), (6, false), (7, false), (8, false), (11, false), (12, false), (13, false), (14, false), (9, true), (10, false), (15, true), (16, false), (17, false), (18, false), (19, false), (20, false), (22, false), (21, true), (23, false), (24, false)] (by kernel_rfl) (by kernel_rfl) rfl (fun _ _ d _ _ h => by cases d <;> exact h) ?_
              simp only [inOrder, List.filterMap_cons, List.filterMap_nil, List.getElem?_toArray, List.getElem?_cons_zero, List.getElem?_cons_succ, Option.map_some]
              repeat (first
                | (refine wpS_move rfl ?_; simp only [Act.eval, Act.put, Array.getD_eq_getD_getElem?, List.getElem?_toArray, List.getElem?_cons_zero, List.getElem?_cons_succ, Option.getD_some, List.setIfInBounds_toArray, List.set_cons_zero, List.set_cons_succ])
                | (refine wpS_assign rfl ?_; simp only [Act.eval, Act.put, Array.getD_eq_getD_getElem?, List.getElem?_toArray, List.getElem?_cons_zero, List.getElem?_cons_succ, Option.getD_some, List.setIfInBounds_toArray, List.set_cons_zero, List.set_cons_succ])
                | (refine wpS_read (v := ?_) rfl ?_ ?_; rotate_left; (focus (intro w' hG; go_simp; try (with_reducible rfl))); simp only [Act.put, List.setIfInBounds_toArray, List.set_cons_zero, List.set_cons_succ])
                | (refine wpS_skip rfl ?_; simp only [Act.put, List.setIfInBounds_toArray, List.set_cons_zero, List.set_cons_succ]))
              refine wpS_call (f := ?_) (args := ?_) (by rfl) ?_ ?_
              rotate_left 2; focus (go_simp; constructor <;> with_reducible rfl)
              refine (read_int b p x _ _ hrd hxl ((byte_le 8 _).append (hsb.append ((byte_le 8 _).append hrb)))).mono ?_
              rintro e w2 ⟨rfl, hr2, hu2⟩
              refine ⟨_, rfl, hu2, ?_⟩
              have ks : ∀ w', Upd b w2 w' → w'.cell? ⟨bs, os + j, none⟩ = some (.slice au sj.length cu) := fun w' h => HCl.out _ _ _ hcs w' (Hus.out w' (hu2.trans h))
              clear kl
              simp only [Act.put, List.setIfInBounds_toArray, List.set_cons_zero, List.set_cons_succ]
              repeat (first
                | (refine wpS_move rfl ?_; simp only [Act.eval, Act.put, Array.getD_eq_getD_getElem?, List.getElem?_toArray, List.getElem?_cons_zero, List.getElem?_cons_succ, Option.getD_some, List.setIfInBounds_toArray, List.set_cons_zero, List.set_cons_succ])
                | (refine wpS_assign rfl ?_; simp only [Act.eval, Act.put, Array.getD_eq_getD_getElem?, List.getElem?_toArray, List.getElem?_cons_zero, List.getElem?_cons_succ, Option.getD_some, List.setIfInBounds_toArray, List.set_cons_zero, List.set_cons_succ])
                | (refine wpS_read (v := ?_) rfl ?_ ?_; rotate_left; (focus (intro w' hG; go_simp; try (with_reducible rfl))); simp only [Act.put, List.setIfInBounds_toArray, List.set_cons_zero, List.set_cons_succ])
                | (refine wpS_skip rfl ?_; simp only [Act.put, List.setIfInBounds_toArray, List.set_cons_zero, List.set_cons_succ]))
              refine wpS_call (f := ?_) (args := ?_) (by rfl) ?_ ?_
              rotate_left 2; focus (go_simp; constructor <;> with_reducible rfl)
              refine (read_text b p s _ _ hr2 hsl.2 hsb ((byte_le 8 _).append hrb) (by rw [List.length_append, le_length]; omega)).mono ?_
              rintro e w3 ⟨v3, rfl, ho3, hr3, hu3⟩
              refine ⟨_, rfl, hu3, ?_⟩
              have s3 : ∀ w', Upd b w3 w' → (convert 22 9 v3).run Try.prog w' = .ok (.string (strOfNums s)) w' := fun w' h => (ho3.upd h (fun i hi => by have := hr2.lt; omega)).rd.string 22 9 5 Try.underlying22 Try.underlying5 Try.underlying9
              clear ks
              simp only [Act.put, List.setIfInBounds_toArray, List.set_cons_zero, List.set_cons_succ]
              repeat (first
                | (refine wpS_move rfl ?_; simp only [Act.eval, Act.put, Array.getD_eq_getD_getElem?, List.getElem?_toArray, List.getElem?_cons_zero, List.getElem?_cons_succ, Option.getD_some, List.setIfInBounds_toArray, List.set_cons_zero, List.set_cons_succ])
                | (refine wpS_assign rfl ?_; simp only [Act.eval, Act.put, Array.getD_eq_getD_getElem?, List.getElem?_toArray, List.getElem?_cons_zero, List.getElem?_cons_succ, Option.getD_some, List.setIfInBounds_toArray, List.set_cons_zero, List.set_cons_succ])
                | (refine wpS_read (v := ?_) rfl ?_ ?_; rotate_left; (focus (intro w' hG; go_simp; try (with_reducible rfl))); simp only [Act.put, List.setIfInBounds_toArray, List.set_cons_zero, List.set_cons_succ])
                | (refine wpS_skip rfl ?_; simp only [Act.put, List.setIfInBounds_toArray, List.set_cons_zero, List.set_cons_succ]))
              refine wpS_call (f := ?_) (args := ?_) (by rfl) ?_ ?_
              rotate_left 2; focus (go_simp; constructor <;> with_reducible rfl)
              refine (few_any _ _ 20 20 _ _ rfl (Hru.out.below (Hus.out _ (hu2.trans hu3))) (by omega)).mono ?_
              rintro e w4 ⟨v4, rfl, ho4, hg4⟩
              rw [hsl.1] at ho4
              refine ⟨_, rfl, Grow.upd hg4, ?_⟩
              have s4 : ∀ w', Upd b w4 w' → (convert 22 9 v4).run Try.prog w' = .ok (.string (strOfNums s)) w' := fun w' h => (ho4.upd h (fun i hi => by have := hr3.lt; omega)).rd.string 22 9 5 Try.underlying22 Try.underlying5 Try.underlying9
              clear s3
              simp only [Act.put, List.setIfInBounds_toArray, List.set_cons_zero, List.set_cons_succ]
              repeat (first
                | (refine wpS_move rfl ?_; simp only [Act.eval, Act.put, Array.getD_eq_getD_getElem?, List.getElem?_toArray, List.getElem?_cons_zero, List.getElem?_cons_succ, Option.getD_some, List.setIfInBounds_toArray, List.set_cons_zero, List.set_cons_succ])
                | (refine wpS_assign rfl ?_; simp only [Act.eval, Act.put, Array.getD_eq_getD_getElem?, List.getElem?_toArray, List.getElem?_cons_zero, List.getElem?_cons_succ, Option.getD_some, List.setIfInBounds_toArray, List.set_cons_zero, List.set_cons_succ])
                | (refine wpS_read (v := ?_) rfl ?_ ?_; rotate_left; (focus (intro w' hG; go_simp; try (with_reducible rfl))); simp only [Act.put, List.setIfInBounds_toArray, List.set_cons_zero, List.set_cons_succ])
                | (refine wpS_skip rfl ?_; simp only [Act.put, List.setIfInBounds_toArray, List.set_cons_zero, List.set_cons_succ]))
              refine wpS_call (f := ?_) (args := ?_) (by rfl) ?_ ?_
              rotate_left 2; focus (go_simp; constructor <;> with_reducible rfl)
              refine (read_uint b p n _ _ (hr3.grow hg4) hn0 hn1 hrb).mono ?_
              rintro e w5 ⟨rfl, hr5, hu5⟩
              refine ⟨_, rfl, hu5, ?_⟩
              clear s4
              simp only [Act.put, List.setIfInBounds_toArray, List.set_cons_zero, List.set_cons_succ]
              repeat (first
                | (refine wpS_move rfl ?_; simp only [Act.eval, Act.put, Array.getD_eq_getD_getElem?, List.getElem?_toArray, List.getElem?_cons_zero, List.getElem?_cons_succ, Option.getD_some, List.setIfInBounds_toArray, List.set_cons_zero, List.set_cons_succ])
                | (refine wpS_assign rfl ?_; simp only [Act.eval, Act.put, Array.getD_eq_getD_getElem?, List.getElem?_toArray, List.getElem?_cons_zero, List.getElem?_cons_succ, Option.getD_some, List.setIfInBounds_toArray, List.set_cons_zero, List.set_cons_succ])
                | (refine wpS_read (v := ?_) rfl ?_ ?_; rotate_left; (focus (intro w' hG; go_simp; try (with_reducible rfl))); simp only [Act.put, List.setIfInBounds_toArray, List.set_cons_zero, List.set_cons_succ])
                | (refine wpS_skip rfl ?_; simp only [Act.put, List.setIfInBounds_toArray, List.set_cons_zero, List.set_cons_succ]))
              refine wpS_nil ?_
              have g5 := Hus.out _ ((hu2.trans hu3).trans ((Grow.upd hg4).trans hu5))
              go_wp2
              go_roundg (l.length - (j + 1))
              case measure => omega
              case rel => exact ⟨j + 1, rfl, by omega, by go_num, hr5, g5⟩
            · obtain rfl : j = l.length := by omega
              rw [List.drop_of_length_le (by omega), show enc n [] = [] from rfl] at hr
              go_wp2_with fail
              refine (endR_any b _ _ _ hr).mono ?_
              rintro e w2 ⟨rfl, rfl⟩
              rw [show (if ([] : List Int).length = 0 then (0 : Int) else 2) = 0 from rfl]
              go_wp2_with fail
              refine (leftR_any b _ _ _ hr).mono ?_
              rintro e w2 ⟨rfl, rfl⟩
              go_wp2_with fail
              refine (lives_any _).mono ?_
              rintro e w2 ⟨rfl, hg2⟩
              go_wp2
              go_ret
              exact ⟨rfl, Grow.trans hg hg2⟩
    · have hc2' : ¬ (l.length : Int) ≤ (ss.length : Int) := by omega
      have hc2'' : (ss.length : Int) < (l.length : Int) := by omega
      obtain rfl : K = ss.length := by omega
      clear hK
      go_enter Try.func5, Try.ntmps5
      go_wp2
      go_loopg [7, 9] ss.length (fun k d ix wr => ∃ j : Nat, k = ss.length - j ∧ j ≤ ss.length ∧ ix = .int .i64 j ∧ Own .u8 w.heap.size wr d (enc n (L.take j)) ∧ Grow w wr)
      case atStart => exact ⟨0, rfl, Nat.zero_le _, rfl, Own.nil _ _ _ _, Grow.refl w⟩
      case round =>
        obtain ⟨j, hk, hj, rfl, ho, hg⟩ := hrel
        by_cases hlt : j < ss.length
        · obtain ⟨bl, ol, bs, os, u, hal, has, hcl, hcs, hru, hit, hbd, hxl, hsl⟩ := HI.out j hlt
          generalize ss.getD j [] = sj at hru hsl
          subst hal; subst has
          have hlt' : (j : Int) < (ss.length : Int) := by omega
          have hjl : (j : Int) < (l.length : Int) := by omega
          have hjs : (j : Int) < (ss.length : Int) := by omega
          have kl := HCl.out _ _ _ hcl wr hg
          have hll : (enc n (L.take j)).length ≤ 500 := by have := hbd; omega
          have HIT : Hid (enc n (L.take (j + 1)) = enc n (L.take j) ++ (leI (L.getD j (0, [])).1 ++ (le 8 (L.getD j (0, [])).2.length ++ ((L.getD j (0, [])).2 ++ le 8 n)))) := hit
          clear hit
          obtain ⟨⟨x, s⟩, hxs⟩ : ∃ y, y = L.getD j (0, []) := ⟨_, rfl⟩
          rw [← hxs] at HIT hcl kl hsl hxl
          simp only at HIT hcl kl hsl hxl
          clear hxs
          go_wp2_with fail
          refine (ints_any _ _ (enc n (L.take j)) [x] wr.heap.size _ _ (ho.rd.below ((Below.refl _ wr).alloc (Nat.le_refl _) _)) (rd_new .i64 x 3 wr) (by omega) (by simp)).mono ?_
          rintro e w1 ⟨v1, rfl, ho1, hg1⟩
          rw [show leAll [x] = leI x by simp [leAll]] at ho1
          have g1 : Grow w w1 := Grow.trans (Grow.alloc hg _) hg1
          have kc := HCl.out _ _ _ hcs w1 g1
          obtain ⟨au, cu, hu⟩ : ∃ a c, u = .slice a _ c := ⟨_, _, hru.choose_spec.choose_spec.1⟩
          have hru1 := hru.below g1
          have Hru1 : Hid (Rd .u8 w.heap.size w1 u sj) := hru1
          clear hru1 hru
          subst hu
          go_wp2_with fail
          refine (few_any _ _ 20 20 _ _ rfl Hru1.out (by omega)).mono ?_
          rintro e w2 ⟨v2, rfl, ho2, hg2⟩
          rw [hsl.1] at ho2
          have g2 : Grow w w2 := Grow.trans g1 hg2
          have hlx : (enc n (L.take j) ++ leI x).length ≤ 600 := by rw [List.length_append, leI_length]; omega
          go_wp2_with fail
          refine (bytes_any _ _ _ s _ _ _ (ho1.rd.below hg2) ho2.rd (by omega) (by have := hsl.2; omega)).mono ?_
          rintro e w3 ⟨v3, rfl, ho3, hg3⟩
          have g3 : Grow w w3 := Grow.trans g2 hg3
          have hly : (enc n (L.take j) ++ leI x ++ le 8 s.length ++ s).length ≤ 700 := by rw [List.length_append, List.length_append, le_length]; have := hsl.2; omega
          go_wp2_with fail
          refine (uint_any _ _ n _ _ ho3.rd (by omega) hn0 hn1).mono ?_
          rintro e w4 ⟨v4, rfl, ho4, hg4⟩
          have g4 : Grow w w4 := Grow.trans g3 hg4
          go_wp2
          go_roundg (ss.length - (j + 1))
          case measure => omega
          case rel =>
            refine ⟨j + 1, rfl, by omega, by go_num, ?_, g4⟩
            rw [HIT.out]
            have := ho4.base g3.size
            simpa [List.append_assoc] using this
        · obtain rfl : j = ss.length := by omega
          rw [List.take_of_length_le (by omega)] at ho
          go_wp2_with fail
          refine (read_any _ (enc n L) _ _ ho.rd (by have := HLl.out; omega)).mono ?_
          rintro e w1 ⟨b, rfl, hr1, hg1, hb1⟩
          have g1 : Grow w w1 := Grow.trans hg hg1
          have hwb : w.heap.size ≤ b := Nat.le_trans hg.size hb1
          generalize (fun k => wr.heap.size ≤ k ∧ k < b) = p at hr1
          clear ho hg1
          go_wp2
          go_loopg [11] ss.length (fun k ix wr => ∃ j : Nat, k = ss.length - j ∧ j ≤ ss.length ∧ ix = .int .i64 j ∧ RdrAt wr b p (enc n (L.drop j)) 0 ∧ Grow w wr)
          case atStart => exact ⟨0, rfl, Nat.zero_le _, rfl, hr1, g1⟩
          case round =>
            clear hr1 g1 hg hb1
            obtain ⟨j, hk, hj, rfl, hr, hg⟩ := hrel
            by_cases hlt : j < ss.length
            · obtain ⟨bl, ol, bs, os, u, hal, has, hcl, hcs, hru, -, -, hxl, hsl⟩ := HI.out j hlt
              generalize ss.getD j [] = sj at hru hsl
              obtain ⟨hd, hsb, hrb, hrl⟩ := HD.out j hlt
              subst hal; subst has
              have hlt' : (j : Int) < (ss.length : Int) := by omega
              have hjl : (j : Int) < (l.length : Int) := by omega
              have hjs : (j : Int) < (ss.length : Int) := by omega
              rw [hd] at hr
              clear hd
              obtain ⟨⟨x, s⟩, hxs⟩ : ∃ y, y = L.getD j (0, []) := ⟨_, rfl⟩
              rw [← hxs] at hcl hsl hxl hsb hr
              simp only at hcl hsl hxl hsb hr
              clear hxs
              obtain ⟨au, cu, hu⟩ : ∃ a c, u = .slice a _ c := ⟨_, _, hru.choose_spec.choose_spec.1⟩
              have Hru : Hid (Rd .u8 w.heap.size w u sj) := hru
              clear hru
              have Hus : Hid (∀ w', Upd b wr.drew w' → Grow w w') := fun w' h => UpdS.new (Grow.drew hg) h (fun i hi => by omega)
              have kl : ∀ w', Upd b wr.drew w' → w'.cell? ⟨bl, ol + j, none⟩ = some (.int .i64 x) := fun w' h => HCl.out _ _ _ hcl w' (Hus.out w' h)
              have hrd := hr.grow (Grow.refl wr).drew
              subst hu
              go_wp2
              refine wp_region_schedG (Upd b) (Upd.refl b) (fun _ _ _ => Upd.trans) (by kernel_rfl) [(0, false), (2, false), (3, false), (4, false), (5, false), (1, true), (6, false), (7, false), (8, false), (11, false), (12, false), (13, false), (14, false), (9, true), (10, false), (15, true), (16, false), (17, false), (18, false), (19, false), (20, false), (22, false), (21, true), (23, false), (24, false)] (by kernel_rfl) (by kernel_rfl) rfl (fun _ _ d _ _ h => by cases d <;> exact h) ?_
              simp only [inOrder, List.filterMap_cons, List.filterMap_nil, List.getElem?_toArray, List.getElem?_cons_zero, List.getElem?_cons_succ, Option.map_some]
              repeat (first
                | (refine wpS_move rfl ?_; simp only [Act.eval, Act.put, Array.getD_eq_getD_getElem?, List.getElem?_toArray, List.getElem?_cons_zero, List.getElem?_cons_succ, Option.getD_some, List.setIfInBounds_toArray, List.set_cons_zero, List.set_cons_succ])
                | (refine wpS_assign rfl ?_; simp only [Act.eval, Act.put, Array.getD_eq_getD_getElem?, List.getElem?_toArray, List.getElem?_cons_zero, List.getElem?_cons_succ, Option.getD_some, List.setIfInBounds_toArray, List.set_cons_zero, List.set_cons_succ])
                | (refine wpS_read (v := ?_) rfl ?_ ?_; rotate_left; (focus (intro w' hG; go_simp; try (with_reducible rfl))); simp only [Act.put, List.setIfInBounds_toArray, List.set_cons_zero, List.set_cons_succ])
                | (refine wpS_skip rfl ?_; simp only [Act.put, List.setIfInBounds_toArray, List.set_cons_zero, List.set_cons_succ]))
              refine wpS_call (f := ?_) (args := ?_) (by rfl) ?_ ?_
              rotate_left 2; focus (go_simp; constructor <;> with_reducible rfl)
              refine (read_int b p x _ _ hrd hxl ((byte_le 8 _).append (hsb.append ((byte_le 8 _).append hrb)))).mono ?_
              rintro e w2 ⟨rfl, hr2, hu2⟩
              refine ⟨_, rfl, hu2, ?_⟩
              have ks : ∀ w', Upd b w2 w' → w'.cell? ⟨bs, os + j, none⟩ = some (.slice au sj.length cu) := fun w' h => HCl.out _ _ _ hcs w' (Hus.out w' (hu2.trans h))
              clear kl
              simp only [Act.put, List.setIfInBounds_toArray, List.set_cons_zero, List.set_cons_succ]
              repeat (first
                | (refine wpS_move rfl ?_; simp only [Act.eval, Act.put, Array.getD_eq_getD_getElem?, List.getElem?_toArray, List.getElem?_cons_zero, List.getElem?_cons_succ, Option.getD_some, List.setIfInBounds_toArray, List.set_cons_zero, List.set_cons_succ])
                | (refine wpS_assign rfl ?_; simp only [Act.eval, Act.put, Array.getD_eq_getD_getElem?, List.getElem?_toArray, List.getElem?_cons_zero, List.getElem?_cons_succ, Option.getD_some, List.setIfInBounds_toArray, List.set_cons_zero, List.set_cons_succ])
                | (refine wpS_read (v := ?_) rfl ?_ ?_; rotate_left; (focus (intro w' hG; go_simp; try (with_reducible rfl))); simp only [Act.put, List.setIfInBounds_toArray, List.set_cons_zero, List.set_cons_succ])
                | (refine wpS_skip rfl ?_; simp only [Act.put, List.setIfInBounds_toArray, List.set_cons_zero, List.set_cons_succ]))
              refine wpS_call (f := ?_) (args := ?_) (by rfl) ?_ ?_
              rotate_left 2; focus (go_simp; constructor <;> with_reducible rfl)
              refine (read_text b p s _ _ hr2 hsl.2 hsb ((byte_le 8 _).append hrb) (by rw [List.length_append, le_length]; omega)).mono ?_
              rintro e w3 ⟨v3, rfl, ho3, hr3, hu3⟩
              refine ⟨_, rfl, hu3, ?_⟩
              have s3 : ∀ w', Upd b w3 w' → (convert 22 9 v3).run Try.prog w' = .ok (.string (strOfNums s)) w' := fun w' h => (ho3.upd h (fun i hi => by have := hr2.lt; omega)).rd.string 22 9 5 Try.underlying22 Try.underlying5 Try.underlying9
              clear ks
              simp only [Act.put, List.setIfInBounds_toArray, List.set_cons_zero, List.set_cons_succ]
              repeat (first
                | (refine wpS_move rfl ?_; simp only [Act.eval, Act.put, Array.getD_eq_getD_getElem?, List.getElem?_toArray, List.getElem?_cons_zero, List.getElem?_cons_succ, Option.getD_some, List.setIfInBounds_toArray, List.set_cons_zero, List.set_cons_succ])
                | (refine wpS_assign rfl ?_; simp only [Act.eval, Act.put, Array.getD_eq_getD_getElem?, List.getElem?_toArray, List.getElem?_cons_zero, List.getElem?_cons_succ, Option.getD_some, List.setIfInBounds_toArray, List.set_cons_zero, List.set_cons_succ])
                | (refine wpS_read (v := ?_) rfl ?_ ?_; rotate_left; (focus (intro w' hG; go_simp; try (with_reducible rfl))); simp only [Act.put, List.setIfInBounds_toArray, List.set_cons_zero, List.set_cons_succ])
                | (refine wpS_skip rfl ?_; simp only [Act.put, List.setIfInBounds_toArray, List.set_cons_zero, List.set_cons_succ]))
              refine wpS_call (f := ?_) (args := ?_) (by rfl) ?_ ?_
              rotate_left 2; focus (go_simp; constructor <;> with_reducible rfl)
              refine (few_any _ _ 20 20 _ _ rfl (Hru.out.below (Hus.out _ (hu2.trans hu3))) (by omega)).mono ?_
              rintro e w4 ⟨v4, rfl, ho4, hg4⟩
              rw [hsl.1] at ho4
              refine ⟨_, rfl, Grow.upd hg4, ?_⟩
              have s4 : ∀ w', Upd b w4 w' → (convert 22 9 v4).run Try.prog w' = .ok (.string (strOfNums s)) w' := fun w' h => (ho4.upd h (fun i hi => by have := hr3.lt; omega)).rd.string 22 9 5 Try.underlying22 Try.underlying5 Try.underlying9
              clear s3
              simp only [Act.put, List.setIfInBounds_toArray, List.set_cons_zero, List.set_cons_succ]
              repeat (first
                | (refine wpS_move rfl ?_; simp only [Act.eval, Act.put, Array.getD_eq_getD_getElem?, List.getElem?_toArray, List.getElem?_cons_zero, List.getElem?_cons_succ, Option.getD_some, List.setIfInBounds_toArray, List.set_cons_zero, List.set_cons_succ])
                | (refine wpS_assign rfl ?_; simp only [Act.eval, Act.put, Array.getD_eq_getD_getElem?, List.getElem?_toArray, List.getElem?_cons_zero, List.getElem?_cons_succ, Option.getD_some, List.setIfInBounds_toArray, List.set_cons_zero, List.set_cons_succ])
                | (refine wpS_read (v := ?_) rfl ?_ ?_; rotate_left; (focus (intro w' hG; go_simp; try (with_reducible rfl))); simp only [Act.put, List.setIfInBounds_toArray, List.set_cons_zero, List.set_cons_succ])
                | (refine wpS_skip rfl ?_; simp only [Act.put, List.setIfInBounds_toArray, List.set_cons_zero, List.set_cons_succ]))
              refine wpS_call (f := ?_) (args := ?_) (by rfl) ?_ ?_
              rotate_left 2; focus (go_simp; constructor <;> with_reducible rfl)
              refine (read_uint b p n _ _ (hr3.grow hg4) hn0 hn1 hrb).mono ?_
              rintro e w5 ⟨rfl, hr5, hu5⟩
              refine ⟨_, rfl, hu5, ?_⟩
              clear s4
              simp only [Act.put, List.setIfInBounds_toArray, List.set_cons_zero, List.set_cons_succ]
              repeat (first
                | (refine wpS_move rfl ?_; simp only [Act.eval, Act.put, Array.getD_eq_getD_getElem?, List.getElem?_toArray, List.getElem?_cons_zero, List.getElem?_cons_succ, Option.getD_some, List.setIfInBounds_toArray, List.set_cons_zero, List.set_cons_succ])
                | (refine wpS_assign rfl ?_; simp only [Act.eval, Act.put, Array.getD_eq_getD_getElem?, List.getElem?_toArray, List.getElem?_cons_zero, List.getElem?_cons_succ, Option.getD_some, List.setIfInBounds_toArray, List.set_cons_zero, List.set_cons_succ])
                | (refine wpS_read (v := ?_) rfl ?_ ?_; rotate_left; (focus (intro w' hG; go_simp; try (with_reducible rfl))); simp only [Act.put, List.setIfInBounds_toArray, List.set_cons_zero, List.set_cons_succ])
                | (refine wpS_skip rfl ?_; simp only [Act.put, List.setIfInBounds_toArray, List.set_cons_zero, List.set_cons_succ]))
              refine wpS_nil ?_
              have g5 := Hus.out _ ((hu2.trans hu3).trans ((Grow.upd hg4).trans hu5))
              go_wp2
              go_roundg (ss.length - (j + 1))
              case measure => omega
              case rel => exact ⟨j + 1, rfl, by omega, by go_num, hr5, g5⟩
            · obtain rfl : j = ss.length := by omega
              rw [List.drop_of_length_le (by omega), show enc n [] = [] from rfl] at hr
              go_wp2_with fail
              refine (endR_any b _ _ _ hr).mono ?_
              rintro e w2 ⟨rfl, rfl⟩
              rw [show (if ([] : List Int).length = 0 then (0 : Int) else 2) = 0 from rfl]
              go_wp2_with fail
              refine (leftR_any b _ _ _ hr).mono ?_
              rintro e w2 ⟨rfl, rfl⟩
              go_wp2_with fail
              refine (lives_any _).mono ?_
              rintro e w2 ⟨rfl, hg2⟩
              go_wp2
              go_ret
              exact ⟨rfl, Grow.trans hg hg2⟩
  · have hc1' : ¬ (ss.length : Int) ≤ 5 := by omega
    have hc1'' : (5 : Int) < (ss.length : Int) := by omega
    by_cases hc2 : l.length ≤ 5
    · have hc2' : (l.length : Int) ≤ 5 := by omega
      obtain rfl : K = l.length := by omega
      clear hK
      go_enter Try.func5, Try.ntmps5
      go_wp2
      go_loopg [7, 9] l.length (fun k d ix wr => ∃ j : Nat, k = l.length - j ∧ j ≤ l.length ∧ ix = .int .i64 j ∧ Own .u8 w.heap.size wr d (enc n (L.take j)) ∧ Grow w wr)
      case atStart => exact ⟨0, rfl, Nat.zero_le _, rfl, Own.nil _ _ _ _, Grow.refl w⟩
      case round =>
        obtain ⟨j, hk, hj, rfl, ho, hg⟩ := hrel
        by_cases hlt : j < l.length
        · obtain ⟨bl, ol, bs, os, u, hal, has, hcl, hcs, hru, hit, hbd, hxl, hsl⟩ := HI.out j hlt
          generalize ss.getD j [] = sj at hru hsl
          subst hal; subst has
          have hlt' : (j : Int) < (l.length : Int) := by omega
          have hjl : (j : Int) < (l.length : Int) := by omega
          have hjs : (j : Int) < (ss.length : Int) := by omega
          have kl := HCl.out _ _ _ hcl wr hg
          have hll : (enc n (L.take j)).length ≤ 500 := by have := hbd; omega
          have HIT : Hid (enc n (L.take (j + 1)) = enc n (L.take j) ++ (leI (L.getD j (0, [])).1 ++ (le 8 (L.getD j (0, [])).2.length ++ ((L.getD j (0, [])).2 ++ le 8 n)))) := hit
          clear hit
          obtain ⟨⟨x, s⟩, hxs⟩ : ∃ y, y = L.getD j (0, []) := ⟨_, rfl⟩
          rw [← hxs] at HIT hcl kl hsl hxl
          simp only at HIT hcl kl hsl hxl
          clear hxs
          go_wp2_with fail
          refine (ints_any _ _ (enc n (L.take j)) [x] wr.heap.size _ _ (ho.rd.below ((Below.refl _ wr).alloc (Nat.le_refl _) _)) (rd_new .i64 x 3 wr) (by omega) (by simp)).mono ?_
          rintro e w1 ⟨v1, rfl, ho1, hg1⟩
          rw [show leAll [x] = leI x by simp [leAll]] at ho1
          have g1 : Grow w w1 := Grow.trans (Grow.alloc hg _) hg1
          have kc := HCl.out _ _ _ hcs w1 g1
          obtain ⟨au, cu, hu⟩ : ∃ a c, u = .slice a _ c := ⟨_, _, hru.choose_spec.choose_spec.1⟩
          have hru1 := hru.below g1
          have Hru1 : Hid (Rd .u8 w.heap.size w1 u sj) := hru1
          clear hru1 hru
          subst hu
          go_wp2_with fail
          refine (few_any _ _ 20 20 _ _ rfl Hru1.out (by omega)).mono ?_
          rintro e w2 ⟨v2, rfl, ho2, hg2⟩
          rw [hsl.1] at ho2
          have g2 : Grow w w2 := Grow.trans g1 hg2
          have hlx : (enc n (L.take j) ++ leI x).length ≤ 600 := by rw [List.length_append, leI_length]; omega
          go_wp2_with fail
          refine (bytes_any _ _ _ s _ _ _ (ho1.rd.below hg2) ho2.rd (by omega) (by have := hsl.2; omega)).mono ?_
          rintro e w3 ⟨v3, rfl, ho3, hg3⟩
          have g3 : Grow w w3 := Grow.trans g2 hg3
          have hly : (enc n (L.take j) ++ leI x ++ le 8 s.length ++ s).length ≤ 700 := by rw [List.length_append, List.length_append, le_length]; have := hsl.2; omega
          go_wp2_with fail
          refine (uint_any _ _ n _ _ ho3.rd (by omega) hn0 hn1).mono ?_
          rintro e w4 ⟨v4, rfl, ho4, hg4⟩
          have g4 : Grow w w4 := Grow.trans g3 hg4
          go_wp2
          go_roundg (l.length - (j + 1))
          case measure => omega
          case rel =>
            refine ⟨j + 1, rfl, by omega, by go_num, ?_, g4⟩
            rw [HIT.out]
            have := ho4.base g3.size
            simpa [List.append_assoc] using this
        · obtain rfl : j = l.length := by omega
          rw [List.take_of_length_le (by omega)] at ho
          go_wp2_with fail
          refine (read_any _ (enc n L) _ _ ho.rd (by have := HLl.out; omega)).mono ?_
          rintro e w1 ⟨b, rfl, hr1, hg1, hb1⟩
          have g1 : Grow w w1 := Grow.trans hg hg1
          have hwb : w.heap.size ≤ b := Nat.le_trans hg.size hb1
          generalize (fun k => wr.heap.size ≤ k ∧ k < b) = p at hr1
          clear ho hg1
          go_wp2
          go_loopg [11] l.length (fun k ix wr => ∃ j : Nat, k = l.length - j ∧ j ≤ l.length ∧ ix = .int .i64 j ∧ RdrAt wr b p (enc n (L.drop j)) 0 ∧ Grow w wr)
          case atStart => exact ⟨0, rfl, Nat.zero_le _, rfl, hr1, g1⟩
          case round =>
            clear hr1 g1 hg hb1
            obtain ⟨j, hk, hj, rfl, hr, hg⟩ := hrel
            by_cases hlt : j < l.length
            · obtain ⟨bl, ol, bs, os, u, hal, has, hcl, hcs, hru, -, -, hxl, hsl⟩ := HI.out j hlt
              generalize ss.getD j [] = sj at hru hsl
              obtain ⟨hd, hsb, hrb, hrl⟩ := HD.out j hlt
              subst hal; subst has
              have hlt' : (j : Int) < (l.length : Int) := by omega
              have hjl : (j : Int) < (l.length : Int) := by omega
              have hjs : (j : Int) < (ss.length : Int) := by omega
              rw [hd] at hr
              clear hd
              obtain ⟨⟨x, s⟩, hxs⟩ : ∃ y, y = L.getD j (0, []) := ⟨_, rfl⟩
              rw [← hxs] at hcl hsl hxl hsb hr
              simp only at hcl hsl hxl hsb hr
              clear hxs
              obtain ⟨au, cu, hu⟩ : ∃ a c, u = .slice a _ c := ⟨_, _, hru.choose_spec.choose_spec.1⟩
              have Hru : Hid (Rd .u8 w.heap.size w u sj) := hru
              clear hru
              have Hus : Hid (∀ w', Upd b wr.drew w' → Grow w w') := fun w' h => UpdS.new (Grow.drew hg) h (fun i hi => by omega)
              have kl : ∀ w', Upd b wr.drew w' → w'.cell? ⟨bl, ol + j, none⟩ = some (.int .i64 x) := fun w' h => HCl.out _ _ _ hcl w' (Hus.out w' h)
              have hrd := hr.grow (Grow.refl wr).drew
              subst hu
              go_wp2
              refine wp_region_schedG (Upd b) (Upd.refl b) (fun _ _ _ => Upd.trans) (by kernel_rfl) [(0, false), (2, false), (3, false), (4, false), (5, false), (1, true), (6, false), (7, false), (8, false), (11, false), (12, false), (13, false), (14, false), (9, true), (10, false), (15, true), (16, false), (17, false), (18, false), (19, false), (20, false), (22, false), (21, true), (23, false), (24, false)] (by kernel_rfl) (by kernel_rfl) rfl (fun _ _ d _ _ h => by cases d <;> exact h) ?_
              simp only [inOrder, List.filterMap_cons, List.filterMap_nil, List.getElem?_toArray, List.getElem?_cons_zero, List.getElem?_cons_succ, Option.map_some]
              repeat (first
                | (refine wpS_move rfl ?_; simp only [Act.eval, Act.put, Array.getD_eq_getD_getElem?, List.getElem?_toArray, List.getElem?_cons_zero, List.getElem?_cons_succ, Option.getD_some, List.setIfInBounds_toArray, List.set_cons_zero, List.set_cons_succ])
                | (refine wpS_assign rfl ?_; simp only [Act.eval, Act.put, Array.getD_eq_getD_getElem?, List.getElem?_toArray, List.getElem?_cons_zero, List.getElem?_cons_succ, Option.getD_some, List.setIfInBounds_toArray, List.set_cons_zero, List.set_cons_succ])
                | (refine wpS_read (v := ?_) rfl ?_ ?_; rotate_left; (focus (intro w' hG; go_simp; try (with_reducible rfl))); simp only [Act.put, List.setIfInBounds_toArray, List.set_cons_zero, List.set_cons_succ])
                | (refine wpS_skip rfl ?_; simp only [Act.put, List.setIfInBounds_toArray, List.set_cons_zero, List.set_cons_succ]))
              refine wpS_call (f := ?_) (args := ?_) (by rfl) ?_ ?_
              rotate_left 2; focus (go_simp; constructor <;> with_reducible rfl)
              refine (read_int b p x _ _ hrd hxl ((byte_le 8 _).append (hsb.append ((byte_le 8 _).append hrb)))).mono ?_
              rintro e w2 ⟨rfl, hr2, hu2⟩
              refine ⟨_, rfl, hu2, ?_⟩
              have ks : ∀ w', Upd b w2 w' → w'.cell? ⟨bs, os + j, none⟩ = some (.slice au sj.length cu) := fun w' h => HCl.out _ _ _ hcs w' (Hus.out w' (hu2.trans h))
              clear kl
              simp only [Act.put, List.setIfInBounds_toArray, List.set_cons_zero, List.set_cons_succ]
              repeat (first
                | (refine wpS_move rfl ?_; simp only [Act.eval, Act.put, Array.getD_eq_getD_getElem?, List.getElem?_toArray, List.getElem?_cons_zero, List.getElem?_cons_succ, Option.getD_some, List.setIfInBounds_toArray, List.set_cons_zero, List.set_cons_succ])
                | (refine wpS_assign rfl ?_; simp only [Act.eval, Act.put, Array.getD_eq_getD_getElem?, List.getElem?_toArray, List.getElem?_cons_zero, List.getElem?_cons_succ, Option.getD_some, List.setIfInBounds_toArray, List.set_cons_zero, List.set_cons_succ])
                | (refine wpS_read (v := ?_) rfl ?_ ?_; rotate_left; (focus (intro w' hG; go_simp; try (with_reducible rfl))); simp only [Act.put, List.setIfInBounds_toArray, List.set_cons_zero, List.set_cons_succ])
                | (refine wpS_skip rfl ?_; simp only [Act.put, List.setIfInBounds_toArray, List.set_cons_zero, List.set_cons_succ]))
              refine wpS_call (f := ?_) (args := ?_) (by rfl) ?_ ?_
              rotate_left 2; focus (go_simp; constructor <;> with_reducible rfl)
              refine (read_text b p s _ _ hr2 hsl.2 hsb ((byte_le 8 _).append hrb) (by rw [List.length_append, le_length]; omega)).mono ?_
              rintro e w3 ⟨v3, rfl, ho3, hr3, hu3⟩
              refine ⟨_, rfl, hu3, ?_⟩
              have s3 : ∀ w', Upd b w3 w' → (convert 22 9 v3).run Try.prog w' = .ok (.string (strOfNums s)) w' := fun w' h => (ho3.upd h (fun i hi => by have := hr2.lt; omega)).rd.string 22 9 5 Try.underlying22 Try.underlying5 Try.underlying9
              clear ks
              simp only [Act.put, List.setIfInBounds_toArray, List.set_cons_zero, List.set_cons_succ]
              repeat (first
                | (refine wpS_move rfl ?_; simp only [Act.eval, Act.put, Array.getD_eq_getD_getElem?, List.getElem?_toArray, List.getElem?_cons_zero, List.getElem?_cons_succ, Option.getD_some, List.setIfInBounds_toArray, List.set_cons_zero, List.set_cons_succ])
                | (refine wpS_assign rfl ?_; simp only [Act.eval, Act.put, Array.getD_eq_getD_getElem?, List.getElem?_toArray, List.getElem?_cons_zero, List.getElem?_cons_succ, Option.getD_some, List.setIfInBounds_toArray, List.set_cons_zero, List.set_cons_succ])
                | (refine wpS_read (v := ?_) rfl ?_ ?_; rotate_left; (focus (intro w' hG; go_simp; try (with_reducible rfl))); simp only [Act.put, List.setIfInBounds_toArray, List.set_cons_zero, List.set_cons_succ])
                | (refine wpS_skip rfl ?_; simp only [Act.put, List.setIfInBounds_toArray, List.set_cons_zero, List.set_cons_succ]))
              refine wpS_call (f := ?_) (args := ?_) (by rfl) ?_ ?_
              rotate_left 2; focus (go_simp; constructor <;> with_reducible rfl)
              refine (few_any _ _ 20 20 _ _ rfl (Hru.out.below (Hus.out _ (hu2.trans hu3))) (by omega)).mono ?_
              rintro e w4 ⟨v4, rfl, ho4, hg4⟩
              rw [hsl.1] at ho4
              refine ⟨_, rfl, Grow.upd hg4, ?_⟩
              have s4 : ∀ w', Upd b w4 w' → (convert 22 9 v4).run Try.prog w' = .ok (.string (strOfNums s)) w' := fun w' h => (ho4.upd h (fun i hi => by have := hr3.lt; omega)).rd.string 22 9 5 Try.underlying22 Try.underlying5 Try.underlying9
              clear s3
              simp only [Act.put, List.setIfInBounds_toArray, List.set_cons_zero, List.set_cons_succ]
              repeat (first
                | (refine wpS_move rfl ?_; simp only [Act.eval, Act.put, Array.getD_eq_getD_getElem?, List.getElem?_toArray, List.getElem?_cons_zero, List.getElem?_cons_succ, Option.getD_some, List.setIfInBounds_toArray, List.set_cons_zero, List.set_cons_succ])
                | (refine wpS_assign rfl ?_; simp only [Act.eval, Act.put, Array.getD_eq_getD_getElem?, List.getElem?_toArray, List.getElem?_cons_zero, List.getElem?_cons_succ, Option.getD_some, List.setIfInBounds_toArray, List.set_cons_zero, List.set_cons_succ])
                | (refine wpS_read (v := ?_) rfl ?_ ?_; rotate_left; (focus (intro w' hG; go_simp; try (with_reducible rfl))); simp only [Act.put, List.setIfInBounds_toArray, List.set_cons_zero, List.set_cons_succ])
                | (refine wpS_skip rfl ?_; simp only [Act.put, List.setIfInBounds_toArray, List.set_cons_zero, List.set_cons_succ]))
              refine wpS_call (f := ?_) (args := ?_) (by rfl) ?_ ?_
              rotate_left 2; focus (go_simp; constructor <;> with_reducible rfl)
              refine (read_uint b p n _ _ (hr3.grow hg4) hn0 hn1 hrb).mono ?_
              rintro e w5 ⟨rfl, hr5, hu5⟩
              refine ⟨_, rfl, hu5, ?_⟩
              clear s4
              simp only [Act.put, List.setIfInBounds_toArray, List.set_cons_zero, List.set_cons_succ]
              repeat (first
                | (refine wpS_move rfl ?_; simp only [Act.eval, Act.put, Array.getD_eq_getD_getElem?, List.getElem?_toArray, List.getElem?_cons_zero, List.getElem?_cons_succ, Option.getD_some, List.setIfInBounds_toArray, List.set_cons_zero, List.set_cons_succ])
                | (refine wpS_assign rfl ?_; simp only [Act.eval, Act.put, Array.getD_eq_getD_getElem?, List.getElem?_toArray, List.getElem?_cons_zero, List.getElem?_cons_succ, Option.getD_some, List.setIfInBounds_toArray, List.set_cons_zero, List.set_cons_succ])
                | (refine wpS_read (v := ?_) rfl ?_ ?_; rotate_left; (focus (intro w' hG; go_simp; try (with_reducible rfl))); simp only [Act.put, List.setIfInBounds_toArray, List.set_cons_zero, List.set_cons_succ])
                | (refine wpS_skip rfl ?_; simp only [Act.put, List.setIfInBounds_toArray, List.set_cons_zero, List.set_cons_succ]))
              refine wpS_nil ?_
              have g5 := Hus.out _ ((hu2.trans hu3).trans ((Grow.upd hg4).trans hu5))
              go_wp2
              go_roundg (l.length - (j + 1))
              case measure => omega
              case rel => exact ⟨j + 1, rfl, by omega, by go_num, hr5, g5⟩
            · obtain rfl : j = l.length := by omega
              rw [List.drop_of_length_le (by omega), show enc n [] = [] from rfl] at hr
              go_wp2_with fail
              refine (endR_any b _ _ _ hr).mono ?_
              rintro e w2 ⟨rfl, rfl⟩
              rw [show (if ([] : List Int).length = 0 then (0 : Int) else 2) = 0 from rfl]
              go_wp2_with fail
              refine (leftR_any b _ _ _ hr).mono ?_
              rintro e w2 ⟨rfl, rfl⟩
              go_wp2_with fail
              refine (lives_any _).mono ?_
              rintro e w2 ⟨rfl, hg2⟩
              go_wp2
              go_ret
              exact ⟨rfl, Grow.trans hg hg2⟩
    · have hc2' : ¬ (l.length : Int) ≤ 5 := by omega
      have hc2'' : (5 : Int) < (l.length : Int) := by omega
      obtain rfl : K = 5 := by omega
      clear hK
      go_enter Try.func5, Try.ntmps5
      go_wp2
      go_loopg [7, 9] 5 (fun k d ix wr => ∃ j : Nat, k = 5 - j ∧ j ≤ 5 ∧ ix = .int .i64 j ∧ Own .u8 w.heap.size wr d (enc n (L.take j)) ∧ Grow w wr)
      case atStart => exact ⟨0, rfl, Nat.zero_le _, rfl, Own.nil _ _ _ _, Grow.refl w⟩
      case round =>
        obtain ⟨j, hk, hj, rfl, ho, hg⟩ := hrel
        by_cases hlt : j < 5
        · obtain ⟨bl, ol, bs, os, u, hal, has, hcl, hcs, hru, hit, hbd, hxl, hsl⟩ := HI.out j hlt
          generalize ss.getD j [] = sj at hru hsl
          subst hal; subst has
          have hlt' : (j : Int) < (5 : Int) := by omega
          have hjl : (j : Int) < (l.length : Int) := by omega
          have hjs : (j : Int) < (ss.length : Int) := by omega
          have kl := HCl.out _ _ _ hcl wr hg
          have hll : (enc n (L.take j)).length ≤ 500 := by have := hbd; omega
          have HIT : Hid (enc n (L.take (j + 1)) = enc n (L.take j) ++ (leI (L.getD j (0, [])).1 ++ (le 8 (L.getD j (0, [])).2.length ++ ((L.getD j (0, [])).2 ++ le 8 n)))) := hit
          clear hit
          obtain ⟨⟨x, s⟩, hxs⟩ : ∃ y, y = L.getD j (0, []) := ⟨_, rfl⟩
          rw [← hxs] at HIT hcl kl hsl hxl
          simp only at HIT hcl kl hsl hxl
          clear hxs
          go_wp2_with fail
          refine (ints_any _ _ (enc n (L.take j)) [x] wr.heap.size _ _ (ho.rd.below ((Below.refl _ wr).alloc (Nat.le_refl _) _)) (rd_new .i64 x 3 wr) (by omega) (by simp)).mono ?_
          rintro e w1 ⟨v1, rfl, ho1, hg1⟩
          rw [show leAll [x] = leI x by simp [leAll]] at ho1
          have g1 : Grow w w1 := Grow.trans (Grow.alloc hg _) hg1
          have kc := HCl.out _ _ _ hcs w1 g1
          obtain ⟨au, cu, hu⟩ : ∃ a c, u = .slice a _ c := ⟨_, _, hru.choose_spec.choose_spec.1⟩
          have hru1 := hru.below g1
          have Hru1 : Hid (Rd .u8 w.heap.size w1 u sj) := hru1
          clear hru1 hru
          subst hu
          go_wp2_with fail
          refine (few_any _ _ 20 20 _ _ rfl Hru1.out (by omega)).mono ?_
          rintro e w2 ⟨v2, rfl, ho2, hg2⟩
          rw [hsl.1] at ho2
          have g2 : Grow w w2 := Grow.trans g1 hg2
          have hlx : (enc n (L.take j) ++ leI x).length ≤ 600 := by rw [List.length_append, leI_length]; omega
          go_wp2_with fail
          refine (bytes_any _ _ _ s _ _ _ (ho1.rd.below hg2) ho2.rd (by omega) (by have := hsl.2; omega)).mono ?_
          rintro e w3 ⟨v3, rfl, ho3, hg3⟩
          have g3 : Grow w w3 := Grow.trans g2 hg3
          have hly : (enc n (L.take j) ++ leI x ++ le 8 s.length ++ s).length ≤ 700 := by rw [List.length_append, List.length_append, le_length]; have := hsl.2; omega
          go_wp2_with fail
          refine (uint_any _ _ n _ _ ho3.rd (by omega) hn0 hn1).mono ?_
          rintro e w4 ⟨v4, rfl, ho4, hg4⟩
          have g4 : Grow w w4 := Grow.trans g3 hg4
          go_wp2
          go_roundg (5 - (j + 1))
          case measure => omega
          case rel =>
            refine ⟨j + 1, rfl, by omega, by go_num, ?_, g4⟩
            rw [HIT.out]
            have := ho4.base g3.size
            simpa [List.append_assoc] using this
        · obtain rfl : j = 5 := by omega
          rw [List.take_of_length_le (by omega)] at ho
          go_wp2_with fail
          refine (read_any _ (enc n L) _ _ ho.rd (by have := HLl.out; omega)).mono ?_
          rintro e w1 ⟨b, rfl, hr1, hg1, hb1⟩
          have g1 : Grow w w1 := Grow.trans hg hg1
          have hwb : w.heap.size ≤ b := Nat.le_trans hg.size hb1
          generalize (fun k => wr.heap.size ≤ k ∧ k < b) = p at hr1
          clear ho hg1
          go_wp2
          go_loopg [11] 5 (fun k ix wr => ∃ j : Nat, k = 5 - j ∧ j ≤ 5 ∧ ix = .int .i64 j ∧ RdrAt wr b p (enc n (L.drop j)) 0 ∧ Grow w wr)
          case atStart => exact ⟨0, rfl, Nat.zero_le _, rfl, hr1, g1⟩
          case round =>
            clear hr1 g1 hg hb1
            obtain ⟨j, hk, hj, rfl, hr, hg⟩ := hrel
            by_cases hlt : j < 5
            · obtain ⟨bl, ol, bs, os, u, hal, has, hcl, hcs, hru, -, -, hxl, hsl⟩ := HI.out j hlt
              generalize ss.getD j [] = sj at hru hsl
              obtain ⟨hd, hsb, hrb, hrl⟩ := HD.out j hlt
              subst hal; subst has
              have hlt' : (j : Int) < (5 : Int) := by omega
              have hjl : (j : Int) < (l.length : Int) := by omega
              have hjs : (j : Int) < (ss.length : Int) := by omega
              rw [hd] at hr
              clear hd
              obtain ⟨⟨x, s⟩, hxs⟩ : ∃ y, y = L.getD j (0, []) := ⟨_, rfl⟩
              rw [← hxs] at hcl hsl hxl hsb hr
              simp only at hcl hsl hxl hsb hr
              clear hxs
              obtain ⟨au, cu, hu⟩ : ∃ a c, u = .slice a _ c := ⟨_, _, hru.choose_spec.choose_spec.1⟩
              have Hru : Hid (Rd .u8 w.heap.size w u sj) := hru
              clear hru
              have Hus : Hid (∀ w', Upd b wr.drew w' → Grow w w') := fun w' h => UpdS.new (Grow.drew hg) h (fun i hi => by omega)
              have kl : ∀ w', Upd b wr.drew w' → w'.cell? ⟨bl, ol + j, none⟩ = some (.int .i64 x) := fun w' h => HCl.out _ _ _ hcl w' (Hus.out w' h)
              have hrd := hr.grow (Grow.refl wr).drew
              subst hu
              go_wp2
              refine wp_region_schedG (Upd b) (Upd.refl b) (fun _ _ _ => Upd.trans) (by kernel_rfl) [(0, false), (2, false), (3, false), (4, false), (5, false), (1, true), (6, false), (7, false), (8, false), (11, false), (12, false), (13, false), (14, false), (9, true), (10, false), (15, true), (16, false), (17, false), (18, false), (19, false), (20, false), (22, false), (21, true), (23, false), (24, false)] (by kernel_rfl) (by kernel_rfl) rfl (fun _ _ d _ _ h => by cases d <;> exact h) ?_
              simp only [inOrder, List.filterMap_cons, List.filterMap_nil, List.getElem?_toArray, List.getElem?_cons_zero, List.getElem?_cons_succ, Option.map_some]
              repeat (first
                | (refine wpS_move rfl ?_; simp only [Act.eval, Act.put, Array.getD_eq_getD_getElem?, List.getElem?_toArray, List.getElem?_cons_zero, List.getElem?_cons_succ, Option.getD_some, List.setIfInBounds_toArray, List.set_cons_zero, List.set_cons_succ])
                | (refine wpS_assign rfl ?_; simp only [Act.eval, Act.put, Array.getD_eq_getD_getElem?, List.getElem?_toArray, List.getElem?_cons_zero, List.getElem?_cons_succ, Option.getD_some, List.setIfInBounds_toArray, List.set_cons_zero, List.set_cons_succ])
                | (refine wpS_read (v := ?_) rfl ?_ ?_; rotate_left; (focus (intro w' hG; go_simp; try (with_reducible rfl))); simp only [Act.put, List.setIfInBounds_toArray, List.set_cons_zero, List.set_cons_succ])
                | (refine wpS_skip rfl ?_; simp only [Act.put, List.setIfInBounds_toArray, List.set_cons_zero, List.set_cons_succ]))
              refine wpS_call (f := ?_) (args := ?_) (by rfl) ?_ ?_
              rotate_left 2; focus (go_simp; constructor <;> with_reducible rfl)
              refine (read_int b p x _ _ hrd hxl ((byte_le 8 _).append (hsb.append ((byte_le 8 _).append hrb)))).mono ?_
              rintro e w2 ⟨rfl, hr2, hu2⟩
              refine ⟨_, rfl, hu2, ?_⟩
              have ks : ∀ w', Upd b w2 w' → w'.cell? ⟨bs, os + j, none⟩ = some (.slice au sj.length cu) := fun w' h => HCl.out _ _ _ hcs w' (Hus.out w' (hu2.trans h))
              clear kl
              simp only [Act.put, List.setIfInBounds_toArray, List.set_cons_zero, List.set_cons_succ]
              repeat (first
                | (refine wpS_move rfl ?_; simp only [Act.eval, Act.put, Array.getD_eq_getD_getElem?, List.getElem?_toArray, List.getElem?_cons_zero, List.getElem?_cons_succ, Option.getD_some, List.setIfInBounds_toArray, List.set_cons_zero, List.set_cons_succ])
                | (refine wpS_assign rfl ?_; simp only [Act.eval, Act.put, Array.getD_eq_getD_getElem?, List.getElem?_toArray, List.getElem?_cons_zero, List.getElem?_cons_succ, Option.getD_some, List.setIfInBounds_toArray, List.set_cons_zero, List.set_cons_succ])
                | (refine wpS_read (v := ?_) rfl ?_ ?_; rotate_left; (focus (intro w' hG; go_simp; try (with_reducible rfl))); simp only [Act.put, List.setIfInBounds_toArray, List.set_cons_zero, List.set_cons_succ])
                | (refine wpS_skip rfl ?_; simp only [Act.put, List.setIfInBounds_toArray, List.set_cons_zero, List.set_cons_succ]))
              refine wpS_call (f := ?_) (args := ?_) (by rfl) ?_ ?_
              rotate_left 2; focus (go_simp; constructor <;> with_reducible rfl)
              refine (read_text b p s _ _ hr2 hsl.2 hsb ((byte_le 8 _).append hrb) (by rw [List.length_append, le_length]; omega)).mono ?_
              rintro e w3 ⟨v3, rfl, ho3, hr3, hu3⟩
              refine ⟨_, rfl, hu3, ?_⟩
              have s3 : ∀ w', Upd b w3 w' → (convert 22 9 v3).run Try.prog w' = .ok (.string (strOfNums s)) w' := fun w' h => (ho3.upd h (fun i hi => by have := hr2.lt; omega)).rd.string 22 9 5 Try.underlying22 Try.underlying5 Try.underlying9
              clear ks
              simp only [Act.put, List.setIfInBounds_toArray, List.set_cons_zero, List.set_cons_succ]
              repeat (first
                | (refine wpS_move rfl ?_; simp only [Act.eval, Act.put, Array.getD_eq_getD_getElem?, List.getElem?_toArray, List.getElem?_cons_zero, List.getElem?_cons_succ, Option.getD_some, List.setIfInBounds_toArray, List.set_cons_zero, List.set_cons_succ])
                | (refine wpS_assign rfl ?_; simp only [Act.eval, Act.put, Array.getD_eq_getD_getElem?, List.getElem?_toArray, List.getElem?_cons_zero, List.getElem?_cons_succ, Option.getD_some, List.setIfInBounds_toArray, List.set_cons_zero, List.set_cons_succ])
                | (refine wpS_read (v := ?_) rfl ?_ ?_; rotate_left; (focus (intro w' hG; go_simp; try (with_reducible rfl))); simp only [Act.put, List.setIfInBounds_toArray, List.set_cons_zero, List.set_cons_succ])
                | (refine wpS_skip rfl ?_; simp only [Act.put, List.setIfInBounds_toArray, List.set_cons_zero, List.set_cons_succ]))
              refine wpS_call (f := ?_) (args := ?_) (by rfl) ?_ ?_
              rotate_left 2; focus (go_simp; constructor <;> with_reducible rfl)
              refine (few_any _ _ 20 20 _ _ rfl (Hru.out.below (Hus.out _ (hu2.trans hu3))) (by omega)).mono ?_
              rintro e w4 ⟨v4, rfl, ho4, hg4⟩
              rw [hsl.1] at ho4
              refine ⟨_, rfl, Grow.upd hg4, ?_⟩
              have s4 : ∀ w', Upd b w4 w' → (convert 22 9 v4).run Try.prog w' = .ok (.string (strOfNums s)) w' := fun w' h => (ho4.upd h (fun i hi => by have := hr3.lt; omega)).rd.string 22 9 5 Try.underlying22 Try.underlying5 Try.underlying9
              clear s3
              simp only [Act.put, List.setIfInBounds_toArray, List.set_cons_zero, List.set_cons_succ]
              repeat (first
                | (refine wpS_move rfl ?_; simp only [Act.eval, Act.put, Array.getD_eq_getD_getElem?, List.getElem?_toArray, List.getElem?_cons_zero, List.getElem?_cons_succ, Option.getD_some, List.setIfInBounds_toArray, List.set_cons_zero, List.set_cons_succ])
                | (refine wpS_assign rfl ?_; simp only [Act.eval, Act.put, Array.getD_eq_getD_getElem?, List.getElem?_toArray, List.getElem?_cons_zero, List.getElem?_cons_succ, Option.getD_some, List.setIfInBounds_toArray, List.set_cons_zero, List.set_cons_succ])
                | (refine wpS_read (v := ?_) rfl ?_ ?_; rotate_left; (focus (intro w' hG; go_simp; try (with_reducible rfl))); simp only [Act.put, List.setIfInBounds_toArray, List.set_cons_zero, List.set_cons_succ])
                | (refine wpS_skip rfl ?_; simp only [Act.put, List.setIfInBounds_toArray, List.set_cons_zero, List.set_cons_succ]))
              refine wpS_call (f := ?_) (args := ?_) (by rfl) ?_ ?_
              rotate_left 2; focus (go_simp; constructor <;> with_reducible rfl)
              refine (read_uint b p n _ _ (hr3.grow hg4) hn0 hn1 hrb).mono ?_
              rintro e w5 ⟨rfl, hr5, hu5⟩
              refine ⟨_, rfl, hu5, ?_⟩
              clear s4
              simp only [Act.put, List.setIfInBounds_toArray, List.set_cons_zero, List.set_cons_succ]
              repeat (first
                | (refine wpS_move rfl ?_; simp only [Act.eval, Act.put, Array.getD_eq_getD_getElem?, List.getElem?_toArray, List.getElem?_cons_zero, List.getElem?_cons_succ, Option.getD_some, List.setIfInBounds_toArray, List.set_cons_zero, List.set_cons_succ])
                | (refine wpS_assign rfl ?_; simp only [Act.eval, Act.put, Array.getD_eq_getD_getElem?, List.getElem?_toArray, List.getElem?_cons_zero, List.getElem?_cons_succ, Option.getD_some, List.setIfInBounds_toArray, List.set_cons_zero, List.set_cons_succ])
                | (refine wpS_read (v := ?_) rfl ?_ ?_; rotate_left; (focus (intro w' hG; go_simp; try (with_reducible rfl))); simp only [Act.put, List.setIfInBounds_toArray, List.set_cons_zero, List.set_cons_succ])
                | (refine wpS_skip rfl ?_; simp only [Act.put, List.setIfInBounds_toArray, List.set_cons_zero, List.set_cons_succ]))
              refine wpS_nil ?_
              have g5 := Hus.out _ ((hu2.trans hu3).trans ((Grow.upd hg4).trans hu5))
              go_wp2
              go_roundg (5 - (j + 1))
              case measure => omega
              case rel => exact ⟨j + 1, rfl, by omega, by go_num, hr5, g5⟩
            · obtain rfl : j = 5 := by omega
              rw [List.drop_of_length_le (by omega), show enc n [] = [] from rfl] at hr
              go_wp2_with fail
              refine (endR_any b _ _ _ hr).mono ?_
              rintro e w2 ⟨rfl, rfl⟩
              rw [show (if ([] : List Int).length = 0 then (0 : Int) else 2) = 0 from rfl]
              go_wp2_with fail
              refine (leftR_any b _ _ _ hr).mono ?_
              rintro e w2 ⟨rfl, rfl⟩
              go_wp2_with fail
              refine (lives_any _).mono ?_
              rintro e w2 ⟨rfl, hg2⟩
              go_wp2
              go_ret
              exact ⟨rfl, Grow.trans hg hg2⟩
end Go.Proofs.Ytcilbokogejicaa
