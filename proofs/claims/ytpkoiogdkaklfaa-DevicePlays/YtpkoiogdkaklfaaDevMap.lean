/-
  A map from ints to rows of bytes, told by what its entries read as: making, looking up, putting, deleting, counting. Conditions: each theorem's own.
-/
import Derived.Test.YtpkoiogdkaklfaaLibV
import Derived.Maps.OwnSet
namespace Go.Proofs.Ytpkoiogdkaklfaa
open Go.RowKit
open Go.Maps (Keyed)
set_option linter.unusedVariables false

/-- how an element reads: as itself -/
def heldR (v : Value) : Option (DataW Value × List MemPlace) := some (.held v, [])

section
variable {P : Program} {kt : TypeId} {w w' : World} {b s : Nat} {m : Int → Option Value}

/-- Block b is a map of s entries: at the key k the value m k, if there is one. -/
def MapAt (P : Program) (kt : TypeId) (w : World) (b s : Nat) (m : Int → Option Value) : Prop :=
  ∃ D : DataW Value, w.ownsMap P kt heldR b s D ∧ Maps.size D = s ∧ ∀ k : Int, Maps.has D (.int .i64 k) = (m k).isSome ∧ ∀ z, D.atKey (.int .i64 k) (.held z) = .held ((m k).getD z)

theorem owns_exact {n : Nat} {D : DataW Value} (h : w.ownsMap P kt heldR b n D) : w.ownsMap P kt heldR b (Maps.size D) D := by
  obtain ⟨es, clock, hb, F, hs, rfl⟩ := h
  exact ⟨es, clock, hb, F, by simp [Maps.size, length_sorted], rfl⟩

theorem MapAt.new (P : Program) (kt : TypeId) (w : World) : MapAt P kt (w.alloc (.map #[] 0)) w.heap.size 0 (fun _ => none) :=
  ⟨.map [], World.ownsMap_made w P kt heldR, rfl, fun k => ⟨rfl, fun z => rfl⟩⟩

theorem MapAt.lt (h : MapAt P kt w b s m) : b < w.heap.size := by
  obtain ⟨D, h, _⟩ := h
  exact h.lt

theorem MapAt.upd {S : Nat → Prop} (h : MapAt P kt w b s m) (hu : UpdS S w w') (hb : ¬ S b) : MapAt P kt w' b s m := by
  have hlt := h.lt
  obtain ⟨D, ⟨es, clock, hh, r⟩, h2⟩ := h
  exact ⟨D, ⟨es, clock, by rw [hu.block b hlt hb]; exact hh, r⟩, h2⟩
theorem MapAt.grow (h : MapAt P kt w b s m) (hu : Grow w w') : MapAt P kt w' b s m := h.upd (S := fun _ => False) hu.s (fun f => f)

variable {t e : TypeId} {z : Value} {k : Int}

theorem key_i64 (hk : P.underlying kt = some (.int .i64)) (hw : (Lit.int .i64 k).wf = true) : keyOf P kt (.int .i64 k) = some (.int .i64 k) := Maps.keyOf_int_mk hk hw

theorem MapAt.look (h : MapAt P kt w b s m) (hk : P.underlying kt = some (.int .i64)) (ht : P.underlying t = some (.map kt e)) (hz : (zeroValue e).run P w = .ok z w) (hw : (Lit.int .i64 k).wf = true) :
    (Instr.lookup t (.map (some b)) (.int .i64 k) false).run P w = .ok ((m k).getD z) w := by
  obtain ⟨D, ho, _, hv⟩ := h
  obtain ⟨v, ps, hrun, hr⟩ := ho.lookup (Maps.int_keyed hk) ht hz (zd := .held z) (zp := []) rfl (key_i64 hk hw)
  rw [(hv k).2 z] at hr
  simp only [heldR, Option.some.injEq, Prod.mk.injEq, DataW.held.injEq] at hr
  rw [hrun, hr.1]

theorem MapAt.look_ok (h : MapAt P kt w b s m) (hk : P.underlying kt = some (.int .i64)) (ht : P.underlying t = some (.map kt e)) (hz : (zeroValue e).run P w = .ok z w) (hw : (Lit.int .i64 k).wf = true) :
    (Instr.lookup t (.map (some b)) (.int .i64 k) true).run P w = .ok (.tuple #[(m k).getD z, .bool (m k).isSome]) w := by
  obtain ⟨D, ho, _, hv⟩ := h
  obtain ⟨v, ps, hrun, hr⟩ := ho.look_ok (Maps.int_keyed hk) ht hz (zd := .held z) (zp := []) rfl (key_i64 hk hw)
  rw [(hv k).2 z] at hr
  simp only [heldR, Option.some.injEq, Prod.mk.injEq, DataW.held.injEq] at hr
  rw [hrun, hr.1, (hv k).1]

theorem MapAt.len (h : MapAt P kt w b s m) (ht : P.underlying t = some (.map kt e)) (ty : TypeId) : (Builtin.len_ #[t] ty #[.map (some b)]).run P w = .ok (.int .i64 s) w := by
  obtain ⟨D, ho, hs, hv⟩ := h
  rw [ho.len ht ty, hs]

theorem upd_turned (h : w.mapTurned w' b) : UpdS (fun i => i = b) w w' ∧ w'.heap.size = w.heap.size := by
  obtain ⟨es, clock, es', clock', hb, rfl⟩ := h
  exact ⟨⟨rfl, rfl, rfl, by simp [ChangeMaps.setBlock], fun i _ hi => ChangeMaps.heap_setBlock_other hb _ hi⟩, by simp [ChangeMaps.setBlock]⟩

theorem MapAt.put (h : MapAt P kt w b s m) (hk : P.underlying kt = some (.int .i64)) (ht : P.underlying t = some (.map kt e)) (hs : s < 1000000) (v : Value) (hw : (Lit.int .i64 k).wf = true) :
    ∃ w', (Instr.mapUpdate t (.map (some b)) (.int .i64 k) v).run P w = .ok () w' ∧ MapAt P kt w' b (if (m k).isSome then s else s + 1) (fun j => if j = k then some v else m j) ∧ UpdS (fun i => i = b) w w' ∧ w'.heap.size = w.heap.size := by
  obtain ⟨D, ho, hsz, hv⟩ := h
  obtain ⟨w', hrun, ho', ht'⟩ := ho.store (Maps.int_keyed hk) ht (by simp only [maxLen]; omega) (d := .held v) (ps := []) (key_i64 hk hw) rfl
  have hT := ho.tidy (Maps.int_keyed hk)
  have hsz' : Maps.size (D.put (.int .i64 k) (.held v)) = if (m k).isSome then s else s + 1 := by
    rw [Maps.size_put hT, (hv k).1, hsz]
  refine ⟨w', hrun, ⟨_, hsz' ▸ owns_exact ho', hsz', fun j => ?_⟩, upd_turned ht'⟩
  by_cases hj : j = k
  · subst hj
    simp only [if_true]
    have hK : WideAt.IsKeyLit (.int .i64 j) := trivial
    exact ⟨Maps.has_put_same hT.isMap hK _, fun z => Maps.atKey_put_same hT.isMap hK _ _⟩
  · have hne : (Lit.int .i64 j) ≠ Lit.int .i64 k := fun e => hj (by injection e)
    simp only [if_neg hj]
    rw [Maps.has_put_other hne]
    refine ⟨(hv j).1, fun z => ?_⟩
    rw [Maps.atKey_put_other hne]
    exact (hv j).2 z

theorem MapAt.del (h : MapAt P kt w b s m) (hk : P.underlying kt = some (.int .i64)) (ht : P.underlying t = some (.map kt e)) (ty : TypeId) (hw : (Lit.int .i64 k).wf = true) :
    ∃ w' s', (Builtin.delete_ #[t, kt] ty #[.map (some b), .int .i64 k]).run P w = .ok (.tuple #[]) w' ∧ MapAt P kt w' b s' (fun j => if j = k then none else m j) ∧ s' ≤ s ∧ UpdS (fun i => i = b) w w' ∧ w'.heap.size = w.heap.size := by
  obtain ⟨D, ho, hsz, hv⟩ := h
  obtain ⟨w', hrun, ho', ht'⟩ := ho.drop (Maps.int_keyed hk) ht (key_i64 hk hw) ty
  have hT := ho.tidy (Maps.int_keyed hk)
  have hsz' := Maps.size_del (k := .int .i64 k) hT
  refine ⟨w', _, hrun, ⟨_, owns_exact ho', rfl, fun j => ?_⟩, by omega, upd_turned ht'⟩
  by_cases hj : j = k
  · subst hj
    simp only [if_true]
    exact ⟨Maps.has_del_same, fun z => Maps.atKey_del_same _⟩
  · have hne : (Lit.int .i64 j) ≠ Lit.int .i64 k := fun e => hj (by injection e)
    simp only [if_neg hj]
    rw [Maps.has_del_other hne]
    refine ⟨(hv j).1, fun z => ?_⟩
    rw [Maps.atKey_del_other hne]
    exact (hv j).2 z

/-- Block b is a map of s entries, each a row of bytes that lies in blocks of p: at the key k it reads as f k, if there is one. -/
def CMap (P : Program) (kt : TypeId) (p : Nat → Prop) (w : World) (b s : Nat) (f : Int → Option (List Int)) : Prop :=
  ∃ m, MapAt P kt w b s m ∧ ¬ p b ∧ ∀ k, (f k = none → m k = none) ∧ ∀ z, f k = some z → ∃ v, m k = some v ∧ RdV (Value.int .u8) 0 p w v z

variable {p q : Nat → Prop} {f : Int → Option (List Int)} {zs : List Int}

theorem CMap.lt (h : CMap P kt p w b s f) : b < w.heap.size := by
  obtain ⟨m, h, _⟩ := h
  exact h.lt
theorem CMap.not (h : CMap P kt p w b s f) : ¬ p b := by
  obtain ⟨m, _, h, _⟩ := h
  exact h
theorem CMap.upd {S : Nat → Prop} (h : CMap P kt p w b s f) (hu : UpdS S w w') (hb : ¬ S b) (hS : ∀ i, i < w.heap.size → p i → ¬ S i) : CMap P kt p w' b s f := by
  obtain ⟨m, h, hn, hf⟩ := h
  refine ⟨m, h.upd hu hb, hn, fun k => ⟨(hf k).1, fun z hz => ?_⟩⟩
  obtain ⟨v, h1, h2⟩ := (hf k).2 z hz
  exact ⟨v, h1, h2.upd hu hS⟩
theorem CMap.grow (h : CMap P kt p w b s f) (hu : Grow w w') : CMap P kt p w' b s f := h.upd (S := fun _ => False) hu.s (fun f => f) (fun _ _ _ f => f)
theorem CMap.mono (h : CMap P kt p w b s f) (hp : ∀ i, i < w.heap.size → p i → q i) (hq : ¬ q b) : CMap P kt q w b s f := by
  obtain ⟨m, h, hn, hf⟩ := h
  refine ⟨m, h, hq, fun k => ⟨(hf k).1, fun z hz => ?_⟩⟩
  obtain ⟨v, h1, h2⟩ := (hf k).2 z hz
  exact ⟨v, h1, h2.mono hp⟩
theorem CMap.new (P : Program) (kt : TypeId) (p : Nat → Prop) (w : World) (hn : ¬ p w.heap.size) : CMap P kt p (w.alloc (.map #[] 0)) w.heap.size 0 (fun _ => none) :=
  ⟨_, MapAt.new P kt w, hn, fun k => ⟨fun _ => rfl, fun z hz => by cases hz⟩⟩
theorem CMap.same {g : Int → Option (List Int)} (h : CMap P kt p w b s f) (hg : ∀ k, f k = g k) : CMap P kt p w b s g := by
  have : f = g := funext hg
  rw [← this]; exact h

theorem CMap.look_none (h : CMap P kt p w b s f) (hk : P.underlying kt = some (.int .i64)) (ht : P.underlying t = some (.map kt e)) (hz : (zeroValue e).run P w = .ok z w) (hw : (Lit.int .i64 k).wf = true) (hf : f k = none) :
    (Instr.lookup t (.map (some b)) (.int .i64 k) true).run P w = .ok (.tuple #[z, .bool false]) w ∧ (Instr.lookup t (.map (some b)) (.int .i64 k) false).run P w = .ok z w := by
  obtain ⟨m, h, _, hm⟩ := h
  have e := (hm k).1 hf
  rw [h.look_ok hk ht hz hw, h.look hk ht hz hw, e]
  exact ⟨rfl, rfl⟩
theorem CMap.look_some (h : CMap P kt p w b s f) (hk : P.underlying kt = some (.int .i64)) (ht : P.underlying t = some (.map kt e)) (hz : (zeroValue e).run P w = .ok z w) (hw : (Lit.int .i64 k).wf = true) (hf : f k = some zs) :
    ∃ a c, (Instr.lookup t (.map (some b)) (.int .i64 k) true).run P w = .ok (.tuple #[.slice a zs.length c, .bool true]) w ∧ (Instr.lookup t (.map (some b)) (.int .i64 k) false).run P w = .ok (.slice a zs.length c) w ∧ RdV (Value.int .u8) 0 p w (.slice a zs.length c) zs := by
  obtain ⟨m, h, _, hm⟩ := h
  obtain ⟨v, e, hr⟩ := (hm k).2 zs hf
  obtain ⟨a, c, rfl⟩ := hr.shape
  refine ⟨a, c, ?_, ?_, hr⟩
  · rw [h.look_ok hk ht hz hw, e]; rfl
  · rw [h.look hk ht hz hw, e]; rfl
/-- .. in every later world -/
theorem CMap.look_all (h : CMap P kt p w b s f) (hk : P.underlying kt = some (.int .i64)) (ht : P.underlying t = some (.map kt e)) (hz : ∀ w, (zeroValue e).run P w = .ok z w) (hw : (Lit.int .i64 k).wf = true) (hf : f k = some zs) :
    ∃ a c, (∀ w', Grow w w' → (Instr.lookup t (.map (some b)) (.int .i64 k) true).run P w' = .ok (.tuple #[.slice a zs.length c, .bool true]) w' ∧ (Instr.lookup t (.map (some b)) (.int .i64 k) false).run P w' = .ok (.slice a zs.length c) w') ∧ RdV (Value.int .u8) 0 p w (.slice a zs.length c) zs := by
  obtain ⟨m, h, _, hm⟩ := h
  obtain ⟨v, e, hr⟩ := (hm k).2 zs hf
  obtain ⟨a, c, rfl⟩ := hr.shape
  refine ⟨a, c, fun w' hg => ⟨?_, ?_⟩, hr⟩
  · rw [(h.grow hg).look_ok hk ht (hz w') hw, e]; rfl
  · rw [(h.grow hg).look hk ht (hz w') hw, e]; rfl
theorem CMap.len (h : CMap P kt p w b s f) (ht : P.underlying t = some (.map kt e)) (ty : TypeId) : (Builtin.len_ #[t] ty #[.map (some b)]).run P w = .ok (.int .i64 s) w := by
  obtain ⟨m, h, _⟩ := h
  exact h.len ht ty
theorem CMap.put (h : CMap P kt p w b s f) (hk : P.underlying kt = some (.int .i64)) (ht : P.underlying t = some (.map kt e)) (hs : s < 1000000) {v : Value} (hv : RdV (Value.int .u8) 0 p w v zs) (hw : (Lit.int .i64 k).wf = true) :
    ∃ w', (Instr.mapUpdate t (.map (some b)) (.int .i64 k) v).run P w = .ok () w' ∧ CMap P kt p w' b (if (f k).isSome then s else s + 1) (fun j => if j = k then some zs else f j) ∧ UpdS (fun i => i = b) w w' ∧ w'.heap.size = w.heap.size := by
  obtain ⟨m, h, hn, hm⟩ := h
  obtain ⟨w', hrun, h', hu, hsz⟩ := h.put hk ht hs v hw
  have hp : ∀ i, i < w.heap.size → p i → ¬ i = b := fun i _ hi e => hn (by rw [← e]; exact hi)
  have e1 : (m k).isSome = (f k).isSome := by
    cases hf : f k with
    | none => rw [(hm k).1 hf]; rfl
    | some z =>
      obtain ⟨v, e, _⟩ := (hm k).2 z hf
      rw [e]; rfl
  rw [e1] at h'
  refine ⟨w', hrun, ⟨_, h', hn, fun j => ?_⟩, hu, hsz⟩
  by_cases hj : j = k
  · simp only [if_pos hj]
    exact ⟨fun e => by simp at e, fun z hz => ⟨v, rfl, by injection hz with hz; rw [← hz]; exact hv.upd hu hp⟩⟩
  · simp only [if_neg hj]
    refine ⟨(hm j).1, fun z hz => ?_⟩
    obtain ⟨v, e, hr⟩ := (hm j).2 z hz
    exact ⟨v, e, hr.upd hu hp⟩
theorem CMap.del (h : CMap P kt p w b s f) (hk : P.underlying kt = some (.int .i64)) (ht : P.underlying t = some (.map kt e)) (ty : TypeId) (hw : (Lit.int .i64 k).wf = true) :
    ∃ w' s', (Builtin.delete_ #[t, kt] ty #[.map (some b), .int .i64 k]).run P w = .ok (.tuple #[]) w' ∧ CMap P kt p w' b s' (fun j => if j = k then none else f j) ∧ s' ≤ s ∧ UpdS (fun i => i = b) w w' ∧ w'.heap.size = w.heap.size := by
  obtain ⟨m, h, hn, hm⟩ := h
  obtain ⟨w', s', hrun, h', hs, hu, hsz⟩ := h.del hk ht ty hw
  have hp : ∀ i, i < w.heap.size → p i → ¬ i = b := fun i _ hi e => hn (by rw [← e]; exact hi)
  refine ⟨w', s', hrun, ⟨_, h', hn, fun j => ?_⟩, hs, hu, hsz⟩
  by_cases hj : j = k
  · simp only [if_pos hj]
    exact ⟨fun _ => trivial, fun z hz => by cases hz⟩
  · simp only [if_neg hj]
    refine ⟨(hm j).1, fun z hz => ?_⟩
    obtain ⟨v, e, hr⟩ := (hm j).2 z hz
    exact ⟨v, e, hr.upd hu hp⟩
end
end Go.Proofs.Ytpkoiogdkaklfaa
