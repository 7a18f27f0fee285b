/-
  The walks of lay's reader (Read, Uint, Int, Bytes, Left, Errno, End). Conditions: each theorem's own.
-/
import Derived.Test.YtdafamocnjfmjaaDoorLay
import Derived.Test.YtdafamocnjfmjaaDoorRLay
import Derived.Test.YtdafamocnjfmjaaDoorSched
import Derived.Lib.EndianBits
import Derived.Outline
namespace Go.Proofs.YtdafamocnjfmjaaDoor
open Go.RowKit
set_option linter.unusedVariables false

/-- A reader at block b: the bytes that are left (in blocks of p, of which b is none), the error. -/
def RdrAt (w : World) (b : Nat) (p : Nat → Prop) (zs : List Int) (e : Int) : Prop :=
  ∃ a c, w.cell? ⟨b, 0, none⟩ = some (.slice a zs.length c) ∧ w.cell? ⟨b, 1, none⟩ = some (.int .i64 e) ∧ w.frozen? ⟨b, 0, none⟩ = false ∧ w.frozen? ⟨b, 1, none⟩ = false ∧ RdIn .u8 p w (.slice a zs.length c) zs ∧ ∀ k, p k → k ≠ b ∧ k < w.heap.size

/-- What may have turned: block b, and new ones. -/
def Upd (b : Nat) (w w' : World) : Prop := UpdS (fun k => k = b) w w'
theorem Upd.refl (b : Nat) (w : World) : Upd b w w := UpdS.refl _ _
theorem Upd.trans {b : Nat} {x y z : World} (h : Upd b x y) (k : Upd b y z) : Upd b x z := UpdS.trans h k
theorem Upd.setCell (b o : Nat) (v : Value) (w : World) : Upd b w (w.setCell ⟨b, o, none⟩ v) := UpdS.setCell _ _ _ _ rfl
theorem Upd.drew {b : Nat} {x y : World} (h : Upd b x y) : Upd b x y.drew := UpdS.drew h
theorem Upd.below {b : Nat} {x y : World} (h : Upd b x y) (hb : b ≤ x.heap.size) : Below b x y := UpdS.below h hb (fun k e => by omega)
theorem Upd.s {S : Nat → Prop} {b : Nat} {x y : World} (h : Upd b x y) (hS : S b) : UpdS S x y := UpdS.mono h (fun k e => by rw [e]; exact hS)
theorem Upd.grow {b : Nat} {x y z : World} (h : Upd b x y) (k : Grow y z) : Upd b x z := UpdS.trans h k.s
theorem Grow.upd {b : Nat} {x y : World} (k : Grow x y) : Upd b x y := k.s

theorem Own.upd {S : Nat → Prop} {k : IntKind} {B : Nat} {w w' : World} {v : Value} {zs : List Int} (h : Own k B w v zs) (hu : UpdS S w w') (hS : ∀ i, S i → i < B) : Own k B w' v zs := by
  rcases h with h | ⟨g, o, c, rfl, hbg, hnc, hcm, hc, ht⟩
  · exact .inl h
  · have hlt : ∀ j, j < c → g < w.heap.size := fun j hj => by
      obtain ⟨u, hu⟩ := Option.isSome_iff_exists.1 (ht j hj).1
      exact World.block_lt_of_cell? _ _ hu
    have hn : ¬ S g := fun hs => by have := hS g hs; omega
    refine .inr ⟨g, o, c, rfl, hbg, hnc, hcm, fun j hj => ?_, fun j hj => ?_⟩
    · rw [hu.cell (p := ⟨g, o + j, none⟩) (hlt j (by omega)) hn]; exact hc j hj
    · rw [hu.cell (p := ⟨g, o + j, none⟩) (hlt j hj) hn, hu.frozen (p := ⟨g, o + j, none⟩) (hlt j hj) hn]; exact ht j hj

theorem RdIn.upd {S : Nat → Prop} {k : IntKind} {p : Nat → Prop} {w w' : World} {v : Value} {zs : List Int} (h : RdIn k p w v zs) (hu : UpdS S w w') (hS : ∀ i, p i → ¬ S i) : RdIn k p w' v zs := by
  obtain ⟨a, c, hv, h1, h2, h3⟩ := h
  exact ⟨a, c, hv, h1, h2, fun i hi => by
    obtain ⟨b, o, e, hlt, hc⟩ := h3 i hi
    exact ⟨b, o, e, hlt, by rw [hu.cell (p := ⟨b, o + i, none⟩) (World.block_lt_of_cell? _ _ hc) (hS b hlt)]; exact hc⟩⟩

section
variable {p : Nat → Prop}

theorem RdrAt.lt {w : World} {b : Nat} {zs : List Int} {e : Int} (h : RdrAt w b p zs e) : b < w.heap.size := by
  obtain ⟨a, c, h0, _⟩ := h
  exact World.block_lt_of_cell? _ _ h0

theorem RdrAt.set {w : World} {b : Nat} {zs zs' : List Int} {e : Int} {v : Value} (h : RdrAt w b p zs e) (hr : RdIn .u8 p w v zs') : RdrAt (w.setCell ⟨b, 0, none⟩ v) b p zs' e := by
  obtain ⟨a, c, h0, h1, f0, f1, _, hp⟩ := h
  have hr' := hr.upd (Upd.setCell b 0 v w) (fun i hi => (hp i hi).1)
  obtain ⟨a', c', hv, _⟩ := hr
  refine ⟨a', c', ?_, ?_, ?_, ?_, by rw [← hv]; exact hr', fun k hk => ⟨(hp k hk).1, by simpa using (hp k hk).2⟩⟩
  · rw [World.cell?_setCell_same' w _ _ (by rw [h0]; rfl), hv]
  · rw [World.cell?_setCell_other w _ _ _ (by simp)]; exact h1
  · rw [World.frozen?_setCell]; exact f0
  · rw [World.frozen?_setCell]; exact f1

theorem RdrAt.err {w : World} {b : Nat} {zs : List Int} {e e' : Int} (h : RdrAt w b p zs e) : RdrAt (w.setCell ⟨b, 1, none⟩ (.int .i64 e')) b p zs e' := by
  obtain ⟨a, c, h0, h1, f0, f1, hr, hp⟩ := h
  refine ⟨a, c, ?_, ?_, ?_, ?_, hr.upd (Upd.setCell b 1 _ w) (fun i hi => (hp i hi).1), fun k hk => ⟨(hp k hk).1, by simpa using (hp k hk).2⟩⟩
  · rw [World.cell?_setCell_other w _ _ _ (by simp)]; exact h0
  · rw [World.cell?_setCell_same' w _ _ (by rw [h1]; rfl)]
  · rw [World.frozen?_setCell]; exact f0
  · rw [World.frozen?_setCell]; exact f1

theorem RdrAt.upd {S : Nat → Prop} {w w' : World} {b : Nat} {zs : List Int} {e : Int} (h : RdrAt w b p zs e) (k : UpdS S w w') (hb : ¬ S b) (hS : ∀ i, p i → ¬ S i) : RdrAt w' b p zs e := by
  have hlt := h.lt
  obtain ⟨a, c, h0, h1, f0, f1, hr, hp⟩ := h
  refine ⟨a, c, ?_, ?_, ?_, ?_, hr.upd k hS, fun i hi => ⟨(hp i hi).1, Nat.lt_of_lt_of_le (hp i hi).2 k.size⟩⟩
  · rw [k.cell (p := ⟨b, 0, none⟩) hlt hb]; exact h0
  · rw [k.cell (p := ⟨b, 1, none⟩) hlt hb]; exact h1
  · rw [k.frozen (p := ⟨b, 0, none⟩) hlt hb]; exact f0
  · rw [k.frozen (p := ⟨b, 1, none⟩) hlt hb]; exact f1
theorem RdrAt.grow {w w' : World} {b : Nat} {zs : List Int} {e : Int} (h : RdrAt w b p zs e) (k : Grow w w') : RdrAt w' b p zs e := h.upd (S := fun _ => False) k.s (fun f => f) (fun _ _ f => f)

set_option maxHeartbeats 400000 in
theorem fail_any (b : Nat) (zs : List Int) (er : Int) (w : World) (h : RdrAt w b p zs er) :
    Calls Tryd.prog 48 #[.pointer (some ⟨b, 0, none⟩)] w fun e w' => e = .returned (.tuple #[]) ∧ RdrAt w' b p [] 2 ∧ Upd b w w' := by
  have hres : RdrAt ((w.setCell ⟨b, 0, none⟩ (.slice none 0 0)).setCell ⟨b, 1, none⟩ (.int .i64 2)) b p [] 2 := (h.set (RdIn.nil _ _ _ none 0 (Nat.zero_le _))).err
  obtain ⟨a, c, h0, h1, f0, f1, hr, hp⟩ := h
  clear hp
  go_enter Tryd.func48, Tryd.ntmps48
  go_wp2
  go_end0
  exact ⟨rfl, hres, (Upd.setCell b 0 _ w).trans (Upd.setCell b 1 _ _)⟩

set_option maxHeartbeats 400000 in
theorem takeR_any (b : Nat) (zs : List Int) (er : Int) (n : Nat) (ni : Int) (w : World) (h : RdrAt w b p zs er) (hni : ni = n) (hn : n ≤ zs.length) :
    Calls Tryd.prog 49 #[.pointer (some ⟨b, 0, none⟩), .int .i64 ni] w fun e w' => ∃ v, e = .returned v ∧ RdIn .u8 p w' v (zs.take n) ∧ RdrAt w' b p (zs.drop n) er ∧ Upd b w w' := by
  subst hni
  have h' := h
  obtain ⟨a, c, h0, h1, f0, f1, hr, hp⟩ := h'
  obtain ⟨-, hl, hc⟩ := hr.rd.caps
  unfold maxLen at hc
  have hu := Upd.setCell b 0 (.slice (if c = n then a else a.map (·.add n)) (zs.length - n) (c - n)) w
  have hres := h.set (hr.drop n hn)
  have hv := (hr.take n hn).upd hu (fun i hi => (hp i hi).1)
  have h1' : (n : Int) ≤ (zs.length : Int) := by omega
  have h2' : (n : Int) ≤ (c : Int) := by omega
  have H : Hid (RdrAt (w.setCell ⟨b, 0, none⟩ (.slice (if c = n then a else a.map (·.add n)) (zs.length - n) (c - n))) b p (zs.drop n) er ∧ RdIn .u8 p (w.setCell ⟨b, 0, none⟩ (.slice (if c = n then a else a.map (·.add n)) (zs.length - n) (c - n))) (.slice a n c) (zs.take n) ∧ Upd b w (w.setCell ⟨b, 0, none⟩ (.slice (if c = n then a else a.map (·.add n)) (zs.length - n) (c - n)))) := ⟨hres, hv, hu⟩
  clear hres hv hu h hr hp
  by_cases hcn : c = n
  · have H' := H.out
    clear H
    rw [if_pos hcn] at H'
    subst hcn
    rw [Nat.sub_self, show zs.length - c = 0 by omega] at H'
    obtain ⟨r1, r2, r3⟩ := H'
    go_enter Tryd.func49, Tryd.ntmps49
    go_wp2
    go_ret
    exact ⟨_, rfl, r2, r1, r3⟩
  · have H' := H.out
    clear H
    rw [if_neg hcn] at H'
    obtain ⟨r1, r2, r3⟩ := H'
    go_enter Tryd.func49, Tryd.ntmps49
    go_wp2
    go_ret
    exact ⟨_, rfl, r2, r1, r3⟩
end

section
variable {p : Nat → Prop}

/-- a number of bytes, the lowest one first -/
def val : List Int → Int
  | [] => 0
  | x :: xs => x + 256 * val xs
def Byte (zs : List Int) : Prop := ∀ x ∈ zs, 0 ≤ x ∧ x < 256
theorem Byte.take {zs : List Int} (h : Byte zs) (n : Nat) : Byte (zs.take n) := fun x hx => h x (List.mem_of_mem_take hx)
theorem Byte.drop {zs : List Int} (h : Byte zs) (n : Nat) : Byte (zs.drop n) := fun x hx => h x (List.mem_of_mem_drop hx)
theorem Byte.get {zs : List Int} (h : Byte zs) (j : Nat) (hj : j < zs.length) : 0 ≤ zs.getD j 0 ∧ zs.getD j 0 < 256 := by
  have : zs.getD j 0 = zs[j] := by simp [List.getD, List.getElem?_eq_getElem hj]
  rw [this]; exact h _ (List.getElem_mem hj)

theorem val_snoc (a : List Int) (x : Int) : val (a ++ [x]) = val a + x * 256 ^ a.length := by
  induction a with
  | nil => simp [val]
  | cons y a ih =>
    simp only [List.cons_append, val, ih, List.length_cons, Int.pow_succ]
    rw [Int.mul_add, Int.mul_comm (256 ^ a.length) 256, ← Int.mul_assoc, ← Int.mul_assoc, Int.mul_comm 256 x, ← Int.add_assoc]

theorem val_bd (a : List Int) (h : Byte a) : 0 ≤ val a ∧ val a < 256 ^ a.length := by
  induction a with
  | nil => simp [val]
  | cons y a ih =>
    have h1 := h y (by simp)
    have h2 := ih (fun x hx => h x (by simp [hx]))
    simp only [val, List.length_cons, Int.pow_succ]
    omega

theorem take_snocR (zs : List Int) (j : Nat) (h : j < zs.length) : zs.take (j + 1) = zs.take j ++ [zs.getD j 0] := by
  rw [List.take_succ_eq_append_getElem h]
  simp [List.getD, List.getElem?_eq_getElem h]

theorem pow_2_8 (j : Nat) : (2 : Int) ^ (8 * j) = 256 ^ j := by
  rw [Int.pow_mul]; rfl

theorem pow_le (i j : Nat) (h : i ≤ j) : (256 : Int) ^ i ≤ 256 ^ j := by
  obtain ⟨d, rfl⟩ := Nat.exists_eq_add_of_le h
  induction d with
  | zero => exact Int.le_refl _
  | succ d ih =>
    have := ih (by omega)
    have hp : (0 : Int) ≤ 256 ^ (i + d) := Int.pow_nonneg (by decide)
    rw [show i + (d + 1) = i + d + 1 from rfl, Int.pow_succ]
    omega

theorem or_step (q x : Int) (j : Nat) (hq0 : 0 ≤ q) (hq : q < 256 ^ j) (hx0 : 0 ≤ x) (hx : x < 256) (hj : j < 8) :
    bits .or .u64 q (IntKind.u64.wrap (x * 2 ^ (8 * j))) = q + x * 256 ^ j ∧ q + x * 256 ^ j < 18446744073709551616 := by
  have hb : x * 256 ^ j ≤ 255 * 256 ^ j := Int.mul_le_mul_of_nonneg_right (by omega) (Int.pow_nonneg (by decide))
  have hp := pow_le (j + 1) 8 (by omega)
  rw [Int.pow_succ] at hp
  have h8 : (256 : Int) ^ 8 = 18446744073709551616 := by decide
  rw [h8] at hp
  have hm0 : 0 ≤ x * 256 ^ j := Int.mul_nonneg hx0 (Int.pow_nonneg (by decide))
  have hw : IntKind.u64.wrap (x * 2 ^ (8 * j)) = x * 256 ^ j := by
    rw [pow_2_8, IntKind.wrap_u64, Int.emod_eq_of_lt hm0 (by omega)]
  rw [hw]
  refine ⟨?_, by omega⟩
  have e64 : (2 : Int) ^ 64 = 18446744073709551616 := by decide
  exact bits_join_low .u64 64 (by decide) (fun n h0 h1 => wraps_u64 n h0 h1) (8 * j) q (x * 256 ^ j) hq0 (by rw [pow_2_8]; exact hq) (by rw [e64]; omega) hm0 (by rw [pow_2_8]; exact Int.mul_emod_left _ _) (by rw [e64]; omega)

/-- what Uint tells, what is left, the error behind it -/
def uval (zs : List Int) : Int := if zs.length < 8 then 0 else val (zs.take 8)
def urest (zs : List Int) : List Int := if zs.length < 8 then [] else zs.drop 8
def uerr (zs : List Int) (er : Int) : Int := if zs.length < 8 then 2 else er
theorem uval_bd (zs : List Int) (h : Byte zs) : 0 ≤ uval zs ∧ uval zs < 18446744073709551616 := by
  unfold uval
  split
  · omega
  · have := val_bd (zs.take 8) (h.take 8)
    rw [List.length_take, show min 8 zs.length = 8 by omega, show (256 : Int) ^ 8 = 18446744073709551616 by decide] at this
    exact this
theorem Byte.urest {zs : List Int} (h : Byte zs) : Byte (urest zs) := by
  unfold YtdafamocnjfmjaaDoor.urest
  split
  · intro x hx; cases hx
  · exact h.drop 8

set_option maxHeartbeats 1000000 in
theorem uintR_any (b : Nat) (zs : List Int) (er : Int) (w : World) (h : RdrAt w b p zs er) (hby : Byte zs) :
    Calls Tryd.prog 47 #[.pointer (some ⟨b, 0, none⟩)] w fun e w' => e = .returned (.int .u64 (uval zs)) ∧ RdrAt w' b p (urest zs) (uerr zs er) ∧ Upd b w w' := by
  unfold uval urest uerr
  have h' := h
  obtain ⟨a, c, h0, h1, f0, f1, hr, hp⟩ := h'
  clear hp
  by_cases h8 : zs.length < 8
  · have h8' : (zs.length : Int) < 8 := by omega
    rw [if_pos h8, if_pos h8, if_pos h8]
    go_enter Tryd.func47, Tryd.ntmps47
    go_wp2_with (go_at_call 48; refine (fail_any b zs er _ h).mono ?_; rintro e w1 ⟨rfl, hr1, hu1⟩)
    go_ret
    exact ⟨rfl, hr1, hu1⟩
  · have h8' : ¬ (zs.length : Int) < 8 := by omega
    rw [if_neg h8, if_neg h8, if_neg h8]
    go_enter Tryd.func47, Tryd.ntmps47
    go_wp2_with fail
    refine (takeR_any b zs er 8 8 _ h rfl (by omega)).mono ?_
    rintro e w1 ⟨v1, rfl, hr1, hd1, hu1⟩
    have hb8 : Byte (zs.take 8) := hby.take 8
    have hl8 : (zs.take 8).length = 8 := by rw [List.length_take]; omega
    generalize hys : zs.take 8 = ys at hr1 hb8 hl8
    have HY : Hid (zs.take 8 = ys) := hys
    clear hys
    obtain ⟨a1, c1, hv1, h11, h12, h13⟩ := hr1
    rw [hl8] at hv1 h11 h13
    subst hv1
    obtain ⟨b1, o1, ha1, hlt1, -⟩ := h13 0 (by omega)
    subst ha1
    have hcells : ∀ j, j < 8 → w1.cell? ⟨b1, o1 + j, none⟩ = some (.int .u8 (ys.getD j 0)) := fun j hj => by
      obtain ⟨b', o', e', _, hc⟩ := h13 j hj
      injection e' with e'
      injection e' with eb eo
      subst eb; subst eo
      exact hc
    clear h13
    go_wp2
    go_loopg [3, 4, 5, 17] 8 (fun k d x y c wr => ∃ j : Nat, ∃ q : Int, k = 8 - j ∧ j ≤ 8 ∧ c = .int .i64 j ∧ d = .int .u64 q ∧ 0 ≤ q ∧ q < 18446744073709551616 ∧ Hid (q = val (ys.take j)) ∧ wr = w1)
    case atStart => exact ⟨0, 0, rfl, Nat.zero_le _, rfl, rfl, by omega, by omega, by simp [Hid, val], rfl⟩
    case round =>
      obtain ⟨j, q, hk, hj, rfl, rfl, hq0, hq1, HQ, rfl⟩ := hrel
      by_cases hlt : j < 8
      · have hlt' : (j : Int) < 8 := by omega
        have hcj := hcells j hlt
        have hx := hb8.get j (by omega)
        have HT : Hid (ys.take (j + 1) = ys.take j ++ [ys.getD j 0]) := take_snocR ys j (by omega)
        clear hcells
        generalize ys.getD j 0 = x at hcj hx HT
        obtain ⟨hx0, hx1⟩ := hx
        have hq2 : q < 256 ^ j := by
          have := (val_bd (ys.take j) (hb8.take j)).2
          rw [List.length_take, hl8, show min j 8 = j by omega] at this
          rw [HQ.out]; exact this
        have HO := or_step q x j hq0 hq2 hx0 hx1 hlt
        have HO1 : Hid (bits .or .u64 q (IntKind.u64.wrap (x * 2 ^ (8 * j))) = q + x * 256 ^ j) := HO.1
        have hO2 := HO.2
        have hO3 : 0 ≤ q + x * 256 ^ j := by have := Int.mul_nonneg hx0 (Int.pow_nonneg (show (0 : Int) ≤ 256 by decide) : 0 ≤ (256 : Int) ^ j); omega
        have HV : Hid (q + x * 256 ^ j = val (ys.take (j + 1))) := by
          show _ = _
          rw [HT.out, val_snoc, ← HQ.out, List.length_take, hl8, show min j 8 = j by omega]
        clear HO hq2 hb8
        generalize q + x * 256 ^ j = q' at HO1 hO2 hO3 HV
        go_wp2
        rw [HO1.out]
        go_roundg (8 - (j + 1))
        case measure => omega
        case rel => exact ⟨j + 1, q', rfl, by omega, by go_num, rfl, hO3, hO2, HV, rfl⟩
      · obtain rfl : j = 8 := by omega
        go_wp2
        go_ret
        exact ⟨ret_int (by rw [HQ.out, HY.out, List.take_of_length_le (by omega)]), hd1, hu1⟩

set_option maxHeartbeats 1000000 in
theorem intR_any (b : Nat) (zs : List Int) (er : Int) (w : World) (h : RdrAt w b p zs er) (hby : Byte zs) :
    Calls Tryd.prog 33 #[.pointer (some ⟨b, 0, none⟩)] w fun e w' => e = .returned (.int .i64 (wrap64 (uval zs))) ∧ RdrAt w' b p (urest zs) (uerr zs er) ∧ Upd b w w' := by
  go_enter Tryd.func33, Tryd.ntmps33
  go_wp2_with fail
  refine (uintR_any b zs er _ h hby).mono ?_
  rintro e w1 ⟨rfl, hr1, hu1⟩
  go_wp2
  go_ret
  exact ⟨rfl, hr1, hu1⟩

set_option maxHeartbeats 1000000 in
theorem endR_any (b : Nat) (zs : List Int) (er : Int) (w : World) (h : RdrAt w b p zs er) :
    Calls Tryd.prog 35 #[.pointer (some ⟨b, 0, none⟩)] w fun e w' => e = .returned (.int .i64 (if zs.length = 0 then er else 2)) ∧ w = w' := by
  obtain ⟨a, c, h0, h1, f0, f1, hr, hp⟩ := h
  clear hp
  by_cases hz : zs.length = 0
  · have hz' : ¬ (0 : Int) < (zs.length : Int) := by omega
    rw [if_pos hz]
    go_enter Tryd.func35, Tryd.ntmps35
    go_wp2
    go_ret
    exact ⟨rfl, rfl⟩
  · have hz' : (0 : Int) < (zs.length : Int) := by omega
    rw [if_neg hz]
    go_enter Tryd.func35, Tryd.ntmps35
    go_wp2
    go_ret
    exact ⟨rfl, rfl⟩

set_option maxHeartbeats 1000000 in
theorem read_any (v : Value) (zs : List Int) (B : Nat) (w : World) (h : Rd .u8 B w v zs) (hl : zs.length ≤ 1000000) :
    Calls Tryd.prog 32 #[v] w fun e w' => ∃ b, e = .returned (.pointer (some ⟨b, 0, none⟩)) ∧ RdrAt w' b (fun k => w.heap.size ≤ k ∧ k < b) zs 0 ∧ Grow w w' ∧ w.heap.size ≤ b := by
  go_enter Tryd.func32, Tryd.ntmps32
  go_wp2_with fail
  refine (fresh_any _ zs B _ h hl).mono ?_
  rintro e w1 ⟨v1, rfl, ho1, hb1⟩
  have hr1 := ho1.rdIn
  obtain ⟨a, c, hv⟩ := ho1.shape
  subst hv
  go_wp2
  go_ret
  refine ⟨w1.heap.size, rfl, ⟨a, c, ?_, ?_, ?_, ?_, hr1.below ((Below.refl _ w1).alloc (Nat.le_refl _) _) (fun i hi => hi.2), fun k hk => ⟨by have := hk.2; omega, by have := hk.2; simp; omega⟩⟩, Grow.alloc hb1 _, hb1.size⟩
  · exact (World.cell?_alloc_new w1 _ _ 0).trans rfl
  · exact (World.cell?_alloc_new w1 _ _ 1).trans rfl
  · exact World.frozen?_alloc_new w1 _ _ 0
  · exact World.frozen?_alloc_new w1 _ _ 1

set_option maxHeartbeats 1000000 in
theorem bytesR_short (b : Nat) (zs : List Int) (er most : Int) (w : World) (h : RdrAt w b p zs er) (hby : Byte zs) (h8 : zs.length < 8) :
    Calls Tryd.prog 34 #[.pointer (some ⟨b, 0, none⟩), .int .i64 most] w fun e w' => e = .returned (.slice none 0 0) ∧ RdrAt w' b p [] 2 ∧ Upd b w w' := by
  go_enter Tryd.func34, Tryd.ntmps34
  go_wp2_with fail
  refine (uintR_any b zs er _ h hby).mono ?_
  rintro e w1 ⟨rfl, hr1, hu1⟩
  unfold urest uerr at hr1
  rw [if_pos h8, if_pos h8] at hr1
  have hr1' := hr1
  obtain ⟨a, c, h0, h1, f0, f1, hr, hp⟩ := hr1'
  clear hp
  go_wp2
  go_ret
  exact ⟨rfl, hr1, hu1⟩

set_option maxHeartbeats 1000000 in
theorem bytesR_bad (b : Nat) (zs : List Int) (most n : Int) (w : World) (h : RdrAt w b p zs 0) (hby : Byte zs) (h8 : ¬ zs.length < 8) (hm : (Lit.int .i64 most).wf = true) (hn : val (zs.take 8) = n) (hb : most < 0 ∨ most < n ∨ ((zs.drop 8).length : Int) < n) :
    Calls Tryd.prog 34 #[.pointer (some ⟨b, 0, none⟩), .int .i64 most] w fun e w' => e = .returned (.slice none 0 0) ∧ RdrAt w' b p [] 2 ∧ Upd b w w' := by
  have hmb := bounds_i64 hm
  have hn0 := val_bd (zs.take 8) (hby.take 8)
  rw [hn] at hn0
  have hu := uintR_any b zs 0 w h hby
  unfold uval urest uerr at hu
  rw [if_neg h8, if_neg h8, if_neg h8, hn] at hu
  have HU : Hid (Calls Tryd.prog 47 #[.pointer (some ⟨b, 0, none⟩)] w fun e w' => e = .returned (.int .u64 n) ∧ RdrAt w' b p (zs.drop 8) 0 ∧ Upd b w w') := hu
  clear hu hn
  have hl : ((zs.drop 8).length : Int) < 18446744073709551616 := by
    obtain ⟨a, c, h0, h1, f0, f1, hr, hp⟩ := h
    have := hr.rd.len
    unfold maxLen at this
    rw [List.length_drop]
    omega
  generalize zs.drop 8 = r at *
  by_cases hm0 : most < 0
  · go_enter Tryd.func34, Tryd.ntmps34
    go_wp2_with fail
    refine HU.out.mono ?_
    rintro e w1 ⟨rfl, hr1, hu1⟩
    have hr1' := hr1
    obtain ⟨a, c, h0, h1, f0, f1, hr, hp⟩ := hr1'
    clear hp
    go_wp2_with (go_at_call 48; refine (fail_any b _ _ _ hr1).mono ?_; rintro e w2 ⟨rfl, hr2, hu2⟩)
    go_ret
    exact ⟨rfl, hr2, hu1.trans hu2⟩
  · have hm1 : IntKind.u64.wrap most = most := by rw [IntKind.wrap_u64]; omega
    have hl1 : IntKind.u64.wrap (r.length : Int) = (r.length : Int) := by rw [IntKind.wrap_u64]; omega
    by_cases hnm : most < n
    · go_enter Tryd.func34, Tryd.ntmps34
      go_wp2_with fail
      refine HU.out.mono ?_
      rintro e w1 ⟨rfl, hr1, hu1⟩
      have hr1' := hr1
      obtain ⟨a, c, h0, h1, f0, f1, hr, hp⟩ := hr1'
      clear hp
      go_wp2_with (go_at_call 48; refine (fail_any b _ _ _ hr1).mono ?_; rintro e w2 ⟨rfl, hr2, hu2⟩)
      go_ret
      exact ⟨rfl, hr2, hu1.trans hu2⟩
    · have hlt : (r.length : Int) < n := by omega
      go_enter Tryd.func34, Tryd.ntmps34
      go_wp2_with fail
      refine HU.out.mono ?_
      rintro e w1 ⟨rfl, hr1, hu1⟩
      have hr1' := hr1
      obtain ⟨a, c, h0, h1, f0, f1, hr, hp⟩ := hr1'
      clear hp
      go_wp2_with (go_at_call 48; refine (fail_any b _ _ _ hr1).mono ?_; rintro e w2 ⟨rfl, hr2, hu2⟩)
      go_ret
      exact ⟨rfl, hr2, hu1.trans hu2⟩

set_option maxHeartbeats 1000000 in
theorem bytesR_ok (b : Nat) (zs : List Int) (most : Int) (n : Nat) (w : World) (h : RdrAt w b p zs 0) (hby : Byte zs) (h8 : ¬ zs.length < 8) (hm : (Lit.int .i64 most).wf = true) (hn : val (zs.take 8) = n) (hmn : (n : Int) ≤ most) (hrn : n ≤ (zs.drop 8).length) (hz : zs.length ≤ 1000000) :
    Calls Tryd.prog 34 #[.pointer (some ⟨b, 0, none⟩), .int .i64 most] w fun e w' => ∃ v, e = .returned v ∧ Own .u8 w.heap.size w' v ((zs.drop 8).take n) ∧ RdrAt w' b p ((zs.drop 8).drop n) 0 ∧ Upd b w w' := by
  have hmb := bounds_i64 hm
  have hu := uintR_any b zs 0 w h hby
  unfold uval urest uerr at hu
  rw [if_neg h8, if_neg h8, if_neg h8, hn] at hu
  have HU : Hid (Calls Tryd.prog 47 #[.pointer (some ⟨b, 0, none⟩)] w fun e w' => e = .returned (.int .u64 n) ∧ RdrAt w' b p (zs.drop 8) 0 ∧ Upd b w w') := hu
  clear hu hn
  have hl : (zs.drop 8).length ≤ 1000000 := by rw [List.length_drop]; omega
  generalize zs.drop 8 = r at *
  have hm0 : ¬ most < 0 := by omega
  have hm1 : IntKind.u64.wrap most = most := by rw [IntKind.wrap_u64]; omega
  have hl1 : IntKind.u64.wrap (r.length : Int) = (r.length : Int) := by rw [IntKind.wrap_u64]; omega
  have hnm : ¬ most < (n : Int) := by omega
  have hlt : ¬ (r.length : Int) < (n : Int) := by omega
  have hn6 : (n : Int) ≤ 1000000 := by omega
  have htl : (r.take n).length ≤ 1000000 := by rw [List.length_take]; omega
  go_enter Tryd.func34, Tryd.ntmps34
  go_wp2_with fail
  refine HU.out.mono ?_
  rintro e w1 ⟨rfl, hr1, hu1⟩
  have hr1' := hr1
  obtain ⟨a, c, h0, h1, f0, f1, hr, hp⟩ := hr1'
  clear hp
  go_wp2_with fail
  refine (takeR_any b r 0 n _ _ hr1 rfl hrn).mono ?_
  rintro e w2 ⟨v2, rfl, hr2, hd2, hu2⟩
  go_wp2_with fail
  refine (fresh_any _ (r.take n) _ _ hr2.rd htl).mono ?_
  rintro e w3 ⟨v3, rfl, ho3, hb3⟩
  go_wp2
  go_ret
  have hs := Nat.le_trans hu1.size hu2.size
  exact ⟨_, rfl, ho3.base hs, hd2.grow hb3, (hu1.trans hu2).grow hb3⟩

end

/-! ### The document's own reader -/

/-- The document's reader at block c: its bytes (in blocks below B), its place, whether there was an error. -/
def RAt (w : World) (c B : Nat) (zs : List Int) (i : Nat) (bad : Bool) : Prop :=
  ∃ a cp, w.cell? ⟨c, 0, none⟩ = some (.slice a zs.length cp) ∧ w.cell? ⟨c, 1, none⟩ = some (.int .i64 i) ∧ w.cell? ⟨c, 2, none⟩ = some (.bool bad) ∧
    w.frozen? ⟨c, 0, none⟩ = false ∧ w.frozen? ⟨c, 1, none⟩ = false ∧ w.frozen? ⟨c, 2, none⟩ = false ∧ Rd .u8 B w (.slice a zs.length cp) zs ∧ B ≤ c

theorem RAt.lt {w : World} {c B : Nat} {zs : List Int} {i : Nat} {bad : Bool} (h : RAt w c B zs i bad) : c < w.heap.size := by
  obtain ⟨a, cp, h0, _⟩ := h
  exact World.block_lt_of_cell? _ _ h0

theorem RAt.upd {S : Nat → Prop} {w w' : World} {c B : Nat} {zs : List Int} {i : Nat} {bad : Bool} (h : RAt w c B zs i bad) (k : UpdS S w w') (hS : ∀ j, S j → B ≤ j) (hc : ¬ S c) : RAt w' c B zs i bad := by
  have hlt := h.lt
  obtain ⟨a, cp, h0, h1, h2, f0, f1, f2, hr, hB⟩ := h
  refine ⟨a, cp, ?_, ?_, ?_, ?_, ?_, ?_, hr.below (k.below (by omega) hS), hB⟩
  · rw [k.cell (p := ⟨c, 0, none⟩) hlt hc]; exact h0
  · rw [k.cell (p := ⟨c, 1, none⟩) hlt hc]; exact h1
  · rw [k.cell (p := ⟨c, 2, none⟩) hlt hc]; exact h2
  · rw [k.frozen (p := ⟨c, 0, none⟩) hlt hc]; exact f0
  · rw [k.frozen (p := ⟨c, 1, none⟩) hlt hc]; exact f1
  · rw [k.frozen (p := ⟨c, 2, none⟩) hlt hc]; exact f2
theorem RAt.grow {w w' : World} {c B : Nat} {zs : List Int} {i : Nat} {bad : Bool} (h : RAt w c B zs i bad) (k : Grow w w') : RAt w' c B zs i bad :=
  h.upd (S := fun _ => False) k.s (fun _ f => f.elim) (fun f => f)

theorem RAt.setI {w : World} {c B : Nat} {zs : List Int} {i i' : Nat} {bad : Bool} (h : RAt w c B zs i bad) : RAt (w.setCell ⟨c, 1, none⟩ (.int .i64 i')) c B zs i' bad := by
  have hlt := h.lt
  obtain ⟨a, cp, h0, h1, h2, f0, f1, f2, hr, hB⟩ := h
  refine ⟨a, cp, ?_, ?_, ?_, by rw [World.frozen?_setCell]; exact f0, by rw [World.frozen?_setCell]; exact f1, by rw [World.frozen?_setCell]; exact f2, hr.below ((Upd.setCell c 1 _ w).below (Nat.le_of_lt hlt) |>.mono hB), hB⟩
  · rw [World.cell?_setCell_other w _ _ _ (by simp)]; exact h0
  · rw [World.cell?_setCell_same' w _ _ (by rw [h1]; rfl)]
  · rw [World.cell?_setCell_other w _ _ _ (by simp)]; exact h2

theorem RAt.setBad {w : World} {c B : Nat} {zs : List Int} {i : Nat} {bad : Bool} (h : RAt w c B zs i bad) : RAt (w.setCell ⟨c, 2, none⟩ (.bool true)) c B zs i true := by
  have hlt := h.lt
  obtain ⟨a, cp, h0, h1, h2, f0, f1, f2, hr, hB⟩ := h
  refine ⟨a, cp, ?_, ?_, ?_, by rw [World.frozen?_setCell]; exact f0, by rw [World.frozen?_setCell]; exact f1, by rw [World.frozen?_setCell]; exact f2, hr.below ((Upd.setCell c 2 _ w).below (Nat.le_of_lt hlt) |>.mono hB), hB⟩
  · rw [World.cell?_setCell_other w _ _ _ (by simp)]; exact h0
  · rw [World.cell?_setCell_other w _ _ _ (by simp)]; exact h1
  · rw [World.cell?_setCell_same' w _ _ (by rw [h2]; rfl)]

end Go.Proofs.YtdafamocnjfmjaaDoor
