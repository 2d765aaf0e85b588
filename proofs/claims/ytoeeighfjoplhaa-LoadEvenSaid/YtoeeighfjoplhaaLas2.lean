/-
  A region that draws its order, whose last operation waits for all others, by others that wait: the others in whatever order, then the last one. Nothing of a program is named here.
-/
import Derived.Test.YtoeeighfjoplhaaLast
namespace Go.Proofs.Ytoeeighfjoplhaa
open Go.RowKit
/-- Each other one is waited for by the last one, or by a later one. -/
def lassB (l : List Oper) (o : Oper) : Bool :=
  (List.range l.length).all (fun i => (o.after.any fun e => Region.binds .any e && e.on == i) || (List.range l.length).any fun j => decide (i < j) && (match l[j]? with | some x => x.after.any fun e => Region.binds .any e && e.on == i | none => false)) && o.after.all (fun e => decide (e.on < l.length)) &&
  (List.range l.length).all (fun j => match l[j]? with | some x => x.after.all (fun e => decide (e.on < j)) | none => true) &&
  l.all fun x => match x.guard with | none => true | some (j, _) => decide (j < l.length)
/-- What is listed has all that it waits for listed. -/
def Clo (l : List Oper) (L : Array Bool) : Prop := ∀ j x, l[j]? = some x → L.getD j false = true → ∀ e ∈ x.after, Region.binds .any e = true → L.getD e.on false = true
theorem Clo.none (l : List Oper) (n : Nat) : Clo l (Array.replicate n false) := fun j x _ h => by
  simp only [Array.getD_eq_getD_getElem?, Array.getElem?_replicate] at h
  split at h <;> cases h

structure Lass (l : List Oper) (o : Oper) : Prop where
  waits : ∀ i, i < l.length → (∃ e ∈ o.after, Region.binds .any e = true ∧ e.on = i) ∨ ∃ (j : Nat) (x : Oper), i < j ∧ l[j]? = some x ∧ ∃ e ∈ x.after, Region.binds .any e = true ∧ e.on = i
  below : ∀ e ∈ o.after, e.on < l.length
  back : ∀ (j : Nat) x, l[j]? = some x → ∀ e ∈ x.after, e.on < j
  guards : ∀ x ∈ l, ∀ j b, x.guard = some (j, b) → j < l.length
theorem lass_of {l : List Oper} {o : Oper} (h : lassB l o = true) : Lass l o := by
  unfold lassB at h
  simp only [Bool.and_eq_true] at h
  obtain ⟨⟨⟨h1, h2⟩, h3⟩, h4⟩ := h
  refine ⟨fun i hi => ?_, fun e he => ?_, fun j x hj e he => ?_, fun x hx j b hg => ?_⟩
  · have := List.all_eq_true.1 h1 i (List.mem_range.2 hi)
    rw [Bool.or_eq_true] at this
    rcases this with this | this
    · obtain ⟨e, he, hb⟩ := Array.any_eq_true'.1 this
      simp only [Bool.and_eq_true, beq_iff_eq] at hb
      exact .inl ⟨e, he, hb.1, hb.2⟩
    · obtain ⟨j, hj, hb⟩ := List.any_eq_true.1 this
      rw [Bool.and_eq_true] at hb
      cases hx : l[j]? with
      | none => rw [hx] at hb; exact absurd hb.2 Bool.false_ne_true
      | some x =>
        rw [hx] at hb
        obtain ⟨e, he, hb2⟩ := Array.any_eq_true'.1 hb.2
        simp only [Bool.and_eq_true, beq_iff_eq] at hb2
        exact .inr ⟨j, x, of_decide_eq_true hb.1, hx, e, he, hb2.1, hb2.2⟩
  · exact of_decide_eq_true (Array.all_eq_true_iff_forall_mem.1 h2 e he)
  · have := List.all_eq_true.1 h3 j (List.mem_range.2 (List.getElem?_eq_some_iff.1 hj).1)
    rw [hj] at this
    exact of_decide_eq_true (Array.all_eq_true_iff_forall_mem.1 this e he)
  · have := List.all_eq_true.1 h4 x hx
    rw [hg] at this
    exact of_decide_eq_true this

section
variable {P : Program} {Q : Exit → Act → World → Prop} {l : List Oper} {o : Oper}

theorem Lass.wanted (hL : Lass l o) {x : Oper} (hx : x ∈ l) (t : Array Value) : Region.wanted x (yielded (l ++ [o]).toArray t) = Region.wanted x (yielded l.toArray t) := by
  unfold Region.wanted
  cases hg : x.guard with
  | none => rfl
  | some p =>
    obtain ⟨j, b⟩ := p
    simp only [yielded, op_inC (o := o) (hL.guards x hx j b hg)]

theorem Lass.op (hL : Lass l o) {i : Nat} (hi : i < l.length) {K K' : Act → World → Prop} {a : Act} {w : World} (hK : ∀ a w, K a w → K' a w) (h : wpOp P l.toArray (Then P Q l o) i K a w) : wpOp P (l ++ [o]).toArray Q i K' a w := by
  obtain ⟨x, hx⟩ : ∃ x, l[i]? = some x := ⟨l[i], List.getElem?_eq_getElem hi⟩
  have e1 : l.toArray[i]? = some x := by simpa using hx
  unfold wpOp at h ⊢
  rw [op_inC hi, e1]
  rw [e1] at h
  simp only [hL.wanted (List.mem_of_getElem? hx)]
  simp only at h
  split
  · rename_i hw
    simp only [hw, if_true] at h
    rcases h with h | ⟨h1, h2⟩
    · refine .inl ?_
      unfold Oper.wp at h ⊢
      generalize (execOp a.eval x).run P w = r at h
      cases r with
      | ok n w' =>
        cases n <;> simp only [Oper.upon] at h ⊢
        case value => exact hK _ _ h
        case skip => exact hK _ _ h
        case defer => exact hK _ _ h
        case enter f args =>
          refine Calls.mono h fun e w'' he => ?_
          cases e with
          | returned v => exact hK _ _ he
          | panicked c => exact he
          | outgrown => exact he
        case row r args => exact Rows.mono h fun _ _ he => hK _ _ he
      | halt x w' =>
        cases x <;> simp only [Oper.upon] at h ⊢
        case panic v => exact h
    · exact .inr ⟨h1, h2⟩
  · rename_i hw
    simp only [hw] at h
    exact hK _ _ h

section
variable {L : Array Bool} (hs : L.size = l.length)
include hs
theorem Lass.ready_in (hL : Lass l o) {i : Nat} (hi : i < l.length) : i ∈ Region.ready .any (l ++ [o]).toArray (L.push false) ↔ i ∈ Region.ready .any l.toArray L := by
  rw [mem_ready, mem_ready, op_inC hi, push_at hs hi]
  constructor
  · rintro ⟨h1, x, hx, h2⟩
    exact ⟨h1, x, hx, fun e he hb => by rw [← push_at hs (Nat.lt_trans (hL.back i x (by simpa using hx) e he) hi)]; exact h2 e he hb⟩
  · rintro ⟨h1, x, hx, h2⟩
    exact ⟨h1, x, hx, fun e he hb => by rw [push_at hs (Nat.lt_trans (hL.back i x (by simpa using hx) e he) hi)]; exact h2 e he hb⟩
theorem Lass.ready_end (hL : Lass l o) (hC : Clo l L) (h : l.length ∈ Region.ready .any (l ++ [o]).toArray (L.push false)) : ∀ i, i < l.length → L.getD i false = true := by
  rw [mem_ready, op_last, push_end hs] at h
  obtain ⟨_, x, hx, h⟩ := h
  cases hx
  have key : ∀ m i, i < l.length → l.length - i ≤ m → L.getD i false = true := by
    intro m
    induction m with
    | zero => intro i hi hm; omega
    | succ m ih =>
      intro i hi hm
      rcases hL.waits i hi with ⟨e, he, hb, hon⟩ | ⟨j, x, hij, hx, e, he, hb, hon⟩
      · have := h e he hb
        rwa [hon, push_at hs hi] at this
      · have hj := (List.getElem?_eq_some_iff.1 hx).1
        have h1 := ih j hj (by omega)
        have := hC j x hx h1 e he hb
        rwa [hon] at this
  exact fun i hi => key (l.length - i) i hi (Nat.le_refl _)
theorem Clo.step (hC : Clo l L) {i : Nat} (hi : i ∈ Region.ready .any l.toArray L) : Clo l (L.setIfInBounds i true) := by
  intro j x hx hj e he hb
  have mono : ∀ m, L.getD m false = true → (L.setIfInBounds i true).getD m false = true := fun m hm => by
    simp only [Array.getD_eq_getD_getElem?] at hm ⊢
    by_cases e : m = i
    · subst e
      rw [Array.getElem?_setIfInBounds_self]
      split
      · rfl
      · rename_i h2
        rw [Array.getElem?_eq_none (by omega)] at hm
        exact hm
    · rw [Array.getElem?_setIfInBounds_ne (fun q => e q.symm)]
      exact hm
  by_cases hji : j = i
  · subst hji
    obtain ⟨_, x', hx', h2⟩ := mem_ready.1 hi
    have : x' = x := by
      rw [List.getElem?_toArray] at hx'
      exact Option.some.inj (hx'.symm.trans hx)
    subst this
    exact mono _ (h2 e he hb)
  · refine mono _ (hC j x hx ?_ e he hb)
    simp only [Array.getD_eq_getD_getElem?] at hj ⊢
    rwa [Array.getElem?_setIfInBounds_ne (fun q => hji q.symm)] at hj
theorem Lass.all_of (hL : Lass l o) (h : Region.ready .any l.toArray L = []) : ∀ i, i < l.length → L.getD i false = true := by
  intro i
  induction i using Nat.strongRecOn with
  | _ i ih =>
    intro hi
    cases hl : L.getD i false with
    | true => rfl
    | false =>
      exfalso
      have hl' : L.getD i true = false := by
        have : i < L.size := by omega
        simp [this] at hl ⊢
        exact hl
      have : i ∈ Region.ready .any l.toArray L := mem_ready.2 ⟨hl', l[i], by simp [List.getElem?_eq_getElem hi], fun e he _ =>
        ih e.on (hL.back i _ (List.getElem?_eq_getElem hi) e he) (Nat.lt_trans (hL.back i _ (List.getElem?_eq_getElem hi) e he) hi)⟩
      rw [h] at this
      cases this
end

theorem Lass.any (hL : Lass l o) : ∀ (fuel : Nat) (L : Array Bool) (a : Act) (w : World), L.size = l.length → Clo l L → wpAny P .any l.toArray (Then P Q l o) fuel L a w → wpAny P .any (l ++ [o]).toArray Q (fuel + 1) (L.push false) a w := by
  have fin : ∀ (fuel : Nat) (L : Array Bool) (a : Act) (w : World), L.size = l.length → (∀ i, i < l.length → L.getD i false = true) → Then P Q l o .normal a w →
      wpOp P (l ++ [o]).toArray Q l.length (wpAny P .any (l ++ [o]).toArray Q fuel ((L.push false).setIfInBounds l.length true)) a w := fun fuel L a w hs hall h => by
    refine wpOp_mono (fun a' w' h' => ?_) h
    have e : (L.push false).setIfInBounds l.length true = L.push true := by
      rw [← hs]
      simp [Array.setIfInBounds, Array.set_push]
    rw [e]
    exact wpAny_done (none_of hs hall).2 h' fuel
  have step : ∀ (fuel : Nat) (L : Array Bool) (a : Act) (w : World), L.size = l.length → Clo l L →
      (Region.ready .any l.toArray L = [] → Then P Q l o .normal a w) → (∀ i ∈ Region.ready .any l.toArray L, wpOp P (l ++ [o]).toArray Q i (wpAny P .any (l ++ [o]).toArray Q fuel ((L.push false).setIfInBounds i true)) a w) →
      wpAny P .any (l ++ [o]).toArray Q (fuel + 1) (L.push false) a w := fun fuel L a w hs hC h0 h1 => by
    have mem : ∀ i ∈ Region.ready .any (l ++ [o]).toArray (L.push false), wpOp P (l ++ [o]).toArray Q i (wpAny P .any (l ++ [o]).toArray Q fuel ((L.push false).setIfInBounds i true)) a w := fun i hi => by
      have hlt : i < l.length + 1 := by
        obtain ⟨_, x, hx, _⟩ := mem_ready.1 hi
        have := (Array.getElem?_eq_some_iff.1 hx).1
        simpa using this
      by_cases hi' : i < l.length
      · exact h1 i ((hL.ready_in hs hi').1 hi)
      · obtain rfl : i = l.length := by omega
        have hall := hL.ready_end hs hC hi
        exact fin fuel L a w hs hall (h0 (none_of (o := o) hs hall).1)
    refine ⟨fun hn => ?_, mem⟩
    exfalso
    have hr : Region.ready .any l.toArray L = [] := List.eq_nil_iff_forall_not_mem.2 fun i hi => by
      have hlt : i < l.length := by
        obtain ⟨_, x, hx, _⟩ := mem_ready.1 hi
        have := (Array.getElem?_eq_some_iff.1 hx).1
        simpa using this
      have := (hL.ready_in hs hlt).2 hi
      rw [hn] at this
      cases this
    have := (show l.length ∈ Region.ready .any (l ++ [o]).toArray (L.push false) from mem_ready.2 (by
      rw [op_last, push_end hs]
      exact ⟨rfl, o, rfl, fun e he _ => by rw [push_at hs (hL.below e he)]; exact hL.all_of hs hr _ (hL.below e he)⟩))
    rw [hn] at this
    cases this
  intro fuel
  induction fuel with
  | zero => exact fun L a w hs hC h => step 0 L a w hs hC (fun _ => h.2) (fun i hi => by rw [h.1] at hi; cases hi)
  | succ fuel ih =>
    refine fun L a w hs hC h => step (fuel + 1) L a w hs hC h.1 fun i hi => ?_
    have hlt : i < l.length := by
      obtain ⟨_, x, hx, _⟩ := mem_ready.1 hi
      have := (Array.getElem?_eq_some_iff.1 hx).1
      simpa using this
    refine hL.op hlt (fun a' w' h' => ?_) (h.2 i hi)
    have e : (L.push false).setIfInBounds i true = (L.setIfInBounds i true).push false := by
      have : i < L.size := by omega
      simp [Array.setIfInBounds, this, Nat.lt_succ_of_lt this, Array.set_push]
    rw [e]
    exact ih _ a' w' (by simpa using hs) (Clo.step hs hC hi) h'


/-- A region that draws, whose last operation waits for all others: the others in whatever order, then the last one. -/
theorem region_lass {id : Nat} {a : Act} {w : World} {full : List Oper} (n : Nat) (hn : full.drop n = [o]) (hm : P.follows .mixedOrders = true) (hT : lassB (full.take n) o = true)
    (h : wpAny P .any (full.take n).toArray (Then P Q (full.take n) o) (full.take n).length (Array.replicate (full.take n).length false) a w.drew) : (Code.region id full.toArray true).wp P Q a w := by
  have e : full = full.take n ++ [o] := by rw [← hn, List.take_append_drop]
  generalize full.take n = l at *
  subst e
  have hL := lass_of hT
  refine wp_region_any hm ?_
  have h3 := hL.any _ _ _ _ (by simp) (Clo.none l _) h
  have e2 : (Array.replicate l.length false).push false = Array.replicate (l ++ [o]).toArray.size false := by simp [Array.replicate_succ]
  rw [e2] at h3
  simpa using h3
end
end Go.Proofs.Ytoeeighfjoplhaa
