/-
  Whatever is done: the law's 'does' as a function of lists; a law's state; the law's example. Conditions: each theorem's own.
-/
import Derived.Test.YthdhfojogckflaaPrtZA
import Derived.Test.YthdhfojogckflaaPrtZB
import Derived.Test.YthdhfojogckflaaPrtZC
import Derived.Test.YthdhfojogckflaaPrtZD
namespace Go.Proofs.Ythdhfojogckflaa
open Go.RowKit
set_option linter.unusedVariables false
set_option linter.unusedSimpArgs false

/-- what is done -/
def stp (k i q off n : Int) (ys : List Int) (L : List FS) (h : Nat) : List FS × Nat :=
  if k = 3 then (vicL L h, hnd (flsL L) h) else if k = 4 then ((relP i L).1, h) else if k = 5 then ((clnP i L).1, h)
  else if k = 6 ∨ k = 7 then ((onP q pinS L).1, h) else if k = 8 then ((onP q unpinS L).1, h) else if k = 9 then ((getP q off n L).1, h)
  else if k = 10 ∨ k = 11 then ((onP q (fun s => putS s off (ys.take 40)) L).1, h) else if k = 12 then (List.replicate L.length FS.empty, 0)
  else ((loadP i q (byL n ys) L).1, h)

theorem onP_all {q : Int} {f : FS → FS × Int} {L : List FS} {h : Nat} (k : PtOk L h) (hf : ∀ s : FS, s.Ok → (f s).1.Ok) : PtOk (onP q f L).1 h ∧ (onP q f L).1.length = L.length := by
  unfold onP
  split
  · rename_i hl; exact ⟨k.set (hf _ (k.at hl)), List.length_set⟩
  · exact ⟨k, rfl⟩
theorem getP_all {q off n : Int} {L : List FS} {h : Nat} (k : PtOk L h) : PtOk (getP q off n L).1 h ∧ (getP q off n L).1.length = L.length := by
  unfold getP
  split
  · rename_i hl; exact ⟨k.set (getS_ok (k.at hl) off n), List.length_set⟩
  · exact ⟨k, rfl⟩
theorem relP_all {i : Int} {L : List FS} {h : Nat} (k : PtOk L h) : PtOk (relP i L).1 h ∧ (relP i L).1.length = L.length := by
  unfold relP
  split
  · split
    · exact ⟨k.set FS.empty_ok, List.length_set⟩
    · exact ⟨k, rfl⟩
  · exact ⟨k, rfl⟩
theorem clnP_all {i : Int} {L : List FS} {h : Nat} (k : PtOk L h) : PtOk (clnP i L).1 h ∧ (clnP i L).1.length = L.length := by
  unfold clnP
  split
  · rename_i hj
    have hi : inL i L := of_decide_eq_true (p := 0 ≤ i ∧ i < L.length) hj
    have hm : i.toNat < L.length := by have h1 : 0 ≤ i := hi.1; have h2 : i < L.length := hi.2; omega
    exact ⟨k.set (k.at hm), List.length_set⟩
  · exact ⟨k, rfl⟩
theorem loadP_all {i q : Int} {ys : List Int} {L : List FS} {h : Nat} (k : PtOk L h) (hy : Oct ys) : PtOk (loadP i q ys L).1 h ∧ (loadP i q ys L).1.length = L.length := by
  unfold loadP
  split
  · rename_i hj
    have hi : inL i L := of_decide_eq_true (p := 0 ≤ i ∧ i < L.length) hj
    have hm : i.toNat < L.length := by have h1 : 0 ≤ i := hi.1; have h2 : i < L.length := hi.2; omega
    split
    · exact ⟨k, rfl⟩
    · exact ⟨k.set (loadS_ok (k.at hm) q hy), List.length_set⟩
  · exact ⟨k, rfl⟩
theorem vicL_all {L : List FS} {h : Nat} (k : PtOk L h) : PtOk (vicL L h) (hnd (flsL L) h) ∧ (vicL L h).length = L.length := by
  refine ⟨⟨fun s hs => ?_, ?_, by rw [vicL_len]; exact k.2.2⟩, vicL_len L h⟩
  · obtain ⟨i, hi, e⟩ := List.mem_iff_getElem.1 hs
    have hi' : i < L.length := by rwa [vicL_len] at hi
    have e2 := vicL_is k.2.1 hi'
    rw [getD_at hi, e] at e2
    rw [e2]
    exact k.at hi'
  · have := hnd_lt (l := flsL L) (h := h) (by rw [flsL_len]; exact k.2.1)
    rw [flsL_len] at this
    rw [vicL_len]; exact this
theorem byL_oct {n : Int} {ys : List Int} (h : Oct ys) : Oct (byL n ys) := by
  unfold byL
  split
  · exact h.take _
  · exact oct_fill h 32
theorem stp_all (k i q off n : Int) {ys : List Int} {L : List FS} {h : Nat} (hk : PtOk L h) (hy : Oct ys) : PtOk (stp k i q off n ys L h).1 (stp k i q off n ys L h).2 ∧ (stp k i q off n ys L h).1.length = L.length := by
  unfold stp
  split
  · exact vicL_all hk
  · split
    · exact relP_all hk
    · split
      · exact clnP_all hk
      · split
        · exact onP_all hk (fun s hs => pinS_ok hs)
        · split
          · exact onP_all hk (fun s hs => unpinS_ok hs)
          · split
            · exact getP_all hk
            · split
              · exact onP_all hk (fun s hs => putS_ok hs off (hy.take _))
              · split
                · exact ⟨repl_ok (by have := hk.2.1; omega) hk.2.2, List.length_replicate⟩
                · exact loadP_all hk (byL_oct hy)

theorem thirteen {k : Int} (h : 0 ≤ k ∧ k < 13) : k = 0 ∨ k = 1 ∨ k = 2 ∨ k = 3 ∨ k = 4 ∨ k = 5 ∨ k = 6 ∨ k = 7 ∨ k = 8 ∨ k = 9 ∨ k = 10 ∨ k = 11 ∨ k = 12 := by omega
theorem does_any (w : World) (P b o : Nat) (L : List FS) (h : Nat) (k : PtO w P b o L h) (hk : PtOk L h) (a : Option Addr) (c : Nat) (pq : Nat → Prop) (hpq : ∀ i, pq i → i ≠ P ∧ i ≠ b) (hpn : ∀ i, w.heap.size ≤ i → pq i) (hr : RdQ pq w (.slice a L.length c) L) (dd ii pg off n : Int) (bv : Value) (ys : List Int) (hy : RdV (Value.int .u8) 0 (fun i => i ≠ P ∧ i ≠ b) w bv ys) (hdd : (Lit.int .i64 dd).wf = true) (hii : (Lit.int .i64 ii).wf = true) (hpg : (Lit.int .i64 pg).wf = true) (hof : (Lit.int .i64 off).wf = true) (hnw : (Lit.int .i64 n).wf = true)
    (L' : List FS) (h' : Nat) (hs : stp (around dd 13) (around ii ((L.length : Int) + 2) - 1) (around pg 5) off n ys L h = (L', h')) :
    Calls Try.prog 12 #[.pointer (some ⟨P, 0, none⟩), .agg #[.slice a L.length c, .int .i64 h], .agg #[.int .i64 dd, .int .i64 ii, .int .i64 pg, .int .i64 off, .int .i64 n, bv]] w fun e w' => ∃ a' c', e = .returned (.tuple #[.agg #[.slice a' L.length c', .int .i64 (h' : Nat)], .bool true]) ∧ RdQ pq w' (.slice a' L.length c') L' ∧ PtO w' P b o L' h' ∧ UpdS (fun i => i = P ∨ i = b) w w' := by
  obtain ⟨rfl, rfl⟩ : L' = (stp (around dd 13) (around ii ((L.length : Int) + 2) - 1) (around pg 5) off n ys L h).1 ∧ h' = (stp (around dd 13) (around ii ((L.length : Int) + 2) - 1) (around pg 5) off n ys L h).2 := by rw [hs]; exact ⟨rfl, rfl⟩
  clear hs
  rcases thirteen (around_bd dd 13 (by omega)) with e | e | e | e | e | e | e | e | e | e | e | e | e
  · have hq : stp (around dd 13) (around ii ((L.length : Int) + 2) - 1) (around pg 5) off n ys L h = ((loadP (around ii ((L.length : Int) + 2) - 1) (around pg 5) (byL n ys) L).1, h) := by rw [e]; rfl
    rw [hq]
    exact does_0 w P b o L h k hk a c pq hpq hpn hr dd ii pg off n bv ys hy hdd hii hpg hof hnw e
  · have hq : stp (around dd 13) (around ii ((L.length : Int) + 2) - 1) (around pg 5) off n ys L h = ((loadP (around ii ((L.length : Int) + 2) - 1) (around pg 5) (byL n ys) L).1, h) := by rw [e]; rfl
    rw [hq]
    exact does_1 w P b o L h k hk a c pq hpq hpn hr dd ii pg off n bv ys hy hdd hii hpg hof hnw e
  · have hq : stp (around dd 13) (around ii ((L.length : Int) + 2) - 1) (around pg 5) off n ys L h = ((loadP (around ii ((L.length : Int) + 2) - 1) (around pg 5) (byL n ys) L).1, h) := by rw [e]; rfl
    rw [hq]
    exact does_2 w P b o L h k hk a c pq hpq hpn hr dd ii pg off n bv ys hy hdd hii hpg hof hnw e
  · have hq : stp (around dd 13) (around ii ((L.length : Int) + 2) - 1) (around pg 5) off n ys L h = (vicL L h, hnd (flsL L) h) := by rw [e]; rfl
    rw [hq]
    exact does_3 w P b o L h k hk a c pq hpq hpn hr dd ii pg off n bv ys hy hdd hii hpg hof hnw e
  · have hq : stp (around dd 13) (around ii ((L.length : Int) + 2) - 1) (around pg 5) off n ys L h = ((relP (around ii ((L.length : Int) + 2) - 1) L).1, h) := by rw [e]; rfl
    rw [hq]
    exact does_4 w P b o L h k hk a c pq hpq hpn hr dd ii pg off n bv ys hy hdd hii hpg hof hnw e
  · have hq : stp (around dd 13) (around ii ((L.length : Int) + 2) - 1) (around pg 5) off n ys L h = ((clnP (around ii ((L.length : Int) + 2) - 1) L).1, h) := by rw [e]; rfl
    rw [hq]
    exact does_5 w P b o L h k hk a c pq hpq hpn hr dd ii pg off n bv ys hy hdd hii hpg hof hnw e
  · have hq : stp (around dd 13) (around ii ((L.length : Int) + 2) - 1) (around pg 5) off n ys L h = ((onP (around pg 5) pinS L).1, h) := by rw [e]; rfl
    rw [hq]
    exact does_6 w P b o L h k hk a c pq hpq hpn hr dd ii pg off n bv ys hy hdd hii hpg hof hnw e
  · have hq : stp (around dd 13) (around ii ((L.length : Int) + 2) - 1) (around pg 5) off n ys L h = ((onP (around pg 5) pinS L).1, h) := by rw [e]; rfl
    rw [hq]
    exact does_7 w P b o L h k hk a c pq hpq hpn hr dd ii pg off n bv ys hy hdd hii hpg hof hnw e
  · have hq : stp (around dd 13) (around ii ((L.length : Int) + 2) - 1) (around pg 5) off n ys L h = ((onP (around pg 5) unpinS L).1, h) := by rw [e]; rfl
    rw [hq]
    exact does_8 w P b o L h k hk a c pq hpq hpn hr dd ii pg off n bv ys hy hdd hii hpg hof hnw e
  · have hq : stp (around dd 13) (around ii ((L.length : Int) + 2) - 1) (around pg 5) off n ys L h = ((getP (around pg 5) off n L).1, h) := by rw [e]; rfl
    rw [hq]
    exact does_9 w P b o L h k hk a c pq hpq hpn hr dd ii pg off n bv ys hy hdd hii hpg hof hnw e
  · have hq : stp (around dd 13) (around ii ((L.length : Int) + 2) - 1) (around pg 5) off n ys L h = ((onP (around pg 5) (fun s => putS s off (ys.take 40)) L).1, h) := by rw [e]; rfl
    rw [hq]
    exact does_10 w P b o L h k hk a c pq hpq hpn hr dd ii pg off n bv ys hy hdd hii hpg hof hnw e
  · have hq : stp (around dd 13) (around ii ((L.length : Int) + 2) - 1) (around pg 5) off n ys L h = ((onP (around pg 5) (fun s => putS s off (ys.take 40)) L).1, h) := by rw [e]; rfl
    rw [hq]
    exact does_11 w P b o L h k hk a c pq hpq hpn hr dd ii pg off n bv ys hy hdd hii hpg hof hnw e
  · have hq : stp (around dd 13) (around ii ((L.length : Int) + 2) - 1) (around pg 5) off n ys L h = (List.replicate L.length FS.empty, 0) := by rw [e]; rfl
    rw [hq]
    exact does_12 w P b o L h k hk a c pq hpq hpn hr dd ii pg off n bv ys hy hdd hii hpg hof hnw e
/-- a law's state -/
def LawI (w : World) (P b B K : Nat) (wr : World) (L : List FS) (h : Nat) : Prop :=
  PtO wr P b 0 L h ∧ PtOk L h ∧ L.length = K ∧ (∃ a c, VarAt wr B [.slice a K c, .int .i64 h] ∧ RdQ (fun i => i ≠ P ∧ i ≠ b ∧ i ≠ B) wr (.slice a K c) L) ∧ Grow w wr ∧ w.heap.size ≤ P ∧ w.heap.size ≤ b ∧ w.heap.size ≤ B ∧ B ≠ P ∧ B ≠ b
theorem LawI.grow {w : World} {P b B K : Nat} {wr w' : World} {L : List FS} {h : Nat} (I : LawI w P b B K wr L h) (g : Grow wr w') : LawI w P b B K w' L h := by
  obtain ⟨i1, i2, i3, ⟨a, c, i4, i5⟩, i6, i7⟩ := I
  exact ⟨i1.grow g, i2, i3, ⟨a, c, i4.grow g, RdS.grow i5 g⟩, i6.trans g, i7⟩
theorem LawI.next {w : World} {P b B K : Nat} {wr wx : World} {L L' : List FS} {h h' : Nat} {a5 : Option Addr} {c5 : Nat} {y0 y1 : Value} (I : LawI w P b B K wr L h) (k : PtO wx P b 0 L' h') (hk : PtOk L' h') (hl : L'.length = K) (rq : RdQ (fun i => i ≠ P ∧ i ≠ b ∧ i ≠ B) wx (.slice a5 K c5) L') (V : VarAt wx B [y0, y1]) (g : Grow w wx) :
    LawI w P b B K ((wx.setCell ⟨B, 0, none⟩ (.slice a5 K c5)).setCell ⟨B, 1, none⟩ (.int .i64 h')) L' h' := by
  obtain ⟨-, -, -, -, -, i6, i7, i8, i9, i10⟩ := I
  have u2 := upd_pair wx B (.slice a5 K c5) (.int .i64 h')
  exact ⟨k.upd u2 (fun e => i9 e.symm) (fun e => i10 e.symm), hk, hl, ⟨a5, c5, V.set2 _ _, RdS.upd rq u2 (fun i _ hi => hi.2.2)⟩, UpdS.new g u2 (fun i hi => by omega), i6, i7, i8, i9, i10⟩

def s1 : FS := ⟨true, false, false, 0, 5, z32⟩
def s2 : FS := ⟨true, false, true, 1, 5, z32⟩
theorem ex_load : loadP 0 5 z32 [FS.empty] = ([s1], 0) := by rfl
theorem ex_vic : vicL [s1] 0 = [s1] ∧ hnd (flsL [s1]) 0 = 0 ∧ vic (flsL [s1]) 0 = 0 ∧ (trn (flsL [s1]) 0).1 = 1 := ⟨by rfl, by rfl, by rfl, by rfl⟩
theorem ex_pin : onP 5 pinS [s1] = ([s2], 0) := by rfl
theorem ex_none : (trn (flsL [s2]) 0).1 = 0 := by rfl
theorem s1_ok : PtOk [s1] 0 := ⟨fun s hs => by simp at hs; subst hs; exact ⟨z32_len, z32_oct, by decide, by decide⟩, by decide, by decide⟩
theorem s2_ok : PtOk [s2] 0 := ⟨fun s hs => by simp at hs; subst hs; exact ⟨z32_len, z32_oct, by decide, by decide⟩, by decide, by decide⟩

set_option maxRecDepth 8000 in
set_option maxHeartbeats 4000000 in
theorem lives_any (w : World) : Calls Try.prog 14 #[] w fun e w' => e = .returned (.bool true) ∧ Grow w w' := by
  have hn := new_yes 1 w (by omega) (by omega)
  go_enter Try.func14, Try.ntmps14
  go_wp2_with fail
  refine hn.mono ?_
  rintro e w1 ⟨rfl, k1, g1⟩
  obtain ⟨P, hP⟩ : ∃ P, w.heap.size + 1 = P := ⟨_, rfl⟩
  obtain ⟨b, hb⟩ : ∃ b, w.heap.size = b := ⟨_, rfl⟩
  rw [hP, hb] at k1
  rw [hP]
  obtain ⟨v2, w2, hm, ho2, g2⟩ := make32 w1
  obtain ⟨a2, c2, hv2⟩ := ho2.shape
  rw [z32_len] at hv2
  subst hv2
  have HB : Hid (Grow w w2 ∧ w.heap.size ≤ P ∧ w.heap.size ≤ b) := ⟨g1.trans g2, by omega, by omega⟩
  have hp1 := k1.lt
  have hb1 := k1.2.2.1
  have hl := load_any w2 P b 0 [FS.empty] 0 (k1.grow g2) (repl_ok (n := 1) (by omega) (by omega)) 0 5 _ z32 (ho2.rd.mono (fun i _ hi => by omega))
  rw [ex_load] at hl
  clear hn k1 g1 g2 ho2 hP hb hp1 hb1
  go_wp2_with fail
  refine hl.mono ?_
  rintro e w3 ⟨rfl, k3, u3⟩
  have hv := victim_any w3 P b 0 [s1] 0 k3 s1_ok
  rw [ex_vic.1, ex_vic.2.1, ex_vic.2.2.1, ex_vic.2.2.2, decide_eq_true (by omega)] at hv
  clear hl hm k3
  go_wp2_with fail
  refine hv.mono ?_
  rintro e w4 ⟨rfl, k4, u4⟩
  have hp := ppin_any w4 P b 0 [s1] 0 k4 s1_ok 5
  rw [ex_pin] at hp
  clear hv k4
  go_wp2_with fail
  refine hp.mono ?_
  rintro e w5 ⟨rfl, k5, u5⟩
  have hx := victim_any w5 P b 0 [s2] 0 k5 s2_ok
  rw [ex_none, decide_eq_false (by omega)] at hx
  have HU : Hid (UpdS (fun i => i = P ∨ i = b) w2 w5) := (u3.trans u4).trans u5
  clear hp k5 u3 u4 u5
  generalize vic (flsL [s2]) 0 = V at hx
  go_wp2_with fail
  refine hx.mono ?_
  rintro e w6 ⟨rfl, k6, u6⟩
  have HF : Hid (Grow w w6) := UpdS.new HB.out.1 (HU.out.trans u6) (fun i hi => by have := HB.out; omega)
  clear hx k6 u6
  go_wp2
  go_ret
  exact ⟨rfl, HF.out⟩
end Go.Proofs.Ythdhfojogckflaa
