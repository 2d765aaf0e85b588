/-
  Bytes that the call itself owns, and the laws of append, make and copy over them, whatever program: nothing of one is named here. run_app and wp_app are after the guide's 'append_any' (extra-words), turned to bytes and to guarded operations.
-/
import Derived.Test.YtggmdgdgljlddaaGreatDoorWords
import Derived.Laws.CopyOwn
namespace Go.Proofs.YtggmdgdgljlddaaGreatDoor
open Go.RowKit

/-- Of a program: t is a type of slices of e, and e is uint8. -/
structure U8 (P : Program) (t e : TypeId) : Prop where
  un : P.underlying t = some (.slice e)
  info : (P.info? e).map (fun i => (i.zero, i.size, i.bytes)) = some (some (.int .u8 0), 1, 1)

def Own (w : World) (base : Nat) (e : TypeId) (v : Value) (xs : List Int) : Prop :=
  w.ownsRow base e 1 v xs.length (xs.map (Value.int .u8)) ∧ ∀ x ∈ xs, 0 ≤ x ∧ x ≤ 255

section
variable {w w' : World} {base : Nat} {e : TypeId} {v : Value} {xs : List Int}
theorem Own.nil (w : World) (base : Nat) (e : TypeId) : Own w base e (.slice none 0 0) [] := ⟨World.ownsRow_nil w base e 1, by simp⟩
theorem Own.mt (w : World) (e : TypeId) : Own (w.alloc (.cells #[] e)) w.heap.size e (.slice (some ⟨w.heap.size, 0, none⟩) 0 0) [] :=
  ⟨⟨by simp, .inr ⟨w.heap.size, 0, #[], rfl, Nat.le_refl _, heap_alloc_new w _, by simp, by simp, by simp, by simp⟩⟩, by simp⟩
theorem Own.byt {P : Nat → Prop} (h : Own w base e v xs) (hP : ∀ i, base ≤ i → P i) : Byt w P v xs := Byt.of_own h.1 h.2 hP
theorem Own.alloc (h : Own w base e v xs) (o : Obj) : Own (w.alloc o) base e v xs := ⟨h.1.alloc o, h.2⟩
theorem Own.drew (h : Own w base e v xs) : Own w.drew base e v xs := ⟨h.1.drew, h.2⟩
theorem Own.drewN (h : Own w base e v xs) (n : Nat) : Own (w.drewN n) base e v xs := h
theorem Own.at_ (h : Own w base e v xs) : ∀ k, v.ownBlock = some k → base ≤ k := fun k hk => (h.1.lt k hk).1
theorem Own.kp {S : Nat → Prop} (h : Own w base e v xs) (k : Kp S w w') (hs : ∀ i, base ≤ i → ¬ S i) : Own w' base e v xs := by
  refine ⟨⟨h.1.1, ?_⟩, h.2⟩
  rcases h.1.2 with hn | ⟨g, cap, cur, rfl, hb, hg, r⟩
  · exact .inl hn
  · exact .inr ⟨g, cap, cur, rfl, hb, (k.block g (Array.getElem?_eq_some_iff.1 hg).1 (hs g hb)).trans hg, r⟩
theorem Own.lower {base' : Nat} (h : Own w base e v xs) (hb : base' ≤ base) : Own w base' e v xs := by
  refine ⟨⟨h.1.1, ?_⟩, h.2⟩
  rcases h.1.2 with hn | ⟨g, cap, cur, rfl, hg, r⟩
  · exact .inl hn
  · exact .inr ⟨g, cap, cur, rfl, by omega, r⟩
theorem Own.formN {n : Nat} (h : Own w base e v xs) (hl : xs.length = n) : ∃ A c, v = .slice A n c := by
  subst hl
  rcases h.1.2 with ⟨rfl, h0⟩ | ⟨g, cap, cur, rfl, _⟩
  · exact ⟨none, 0, by rw [h0]⟩
  · exact ⟨_, _, rfl⟩
theorem Own.form (h : Own w base e v xs) : ∃ A c, v = .slice A xs.length c := by
  rcases h.1.2 with ⟨rfl, h0⟩ | ⟨g, cap, cur, rfl, _⟩
  · exact ⟨none, 0, by rw [h0]⟩
  · exact ⟨_, _, rfl⟩
end

section
variable {P : Program}
theorem run_app {t ty e : TypeId} (u : U8 P t e) (w : World) {base : Nat} {v x : Value} {xs ys : List Int} {Pb : Nat → Prop} (hown : Own w base e v xs) (hx : Byt w Pb x ys)
    (hle : xs.length + ys.length ≤ 140737488355328) (hbase : base ≤ w.heap.size) :
    ∃ v' w', (Builtin.append_ #[t, t] ty #[v, x]).run P w = .ok v' w' ∧ Own w' base e v' (xs ++ ys) ∧ w.grownBy w' v.ownBlock := by
  obtain ⟨i, hi, hz, hs, hb⟩ := info_parts u.info
  obtain ⟨A, c, rfl, hc, hm, hys, h⟩ := hx
  have hb2 : ∀ z ∈ xs ++ ys, 0 ≤ z ∧ z ≤ 255 := fun z hz => by
    rcases List.mem_append.1 hz with h | h
    · exact hown.2 z h
    · exact hys z h
  rcases A with _ | ad
  · have h0 : ys = [] := by
      rcases ys with _ | ⟨y, ys⟩
      · rfl
      · obtain ⟨b, o, h, _⟩ := h (by simp)
        cases h
    subst h0
    refine ⟨v, w, ?_, by simpa using hown, World.grownBy.refl w _⟩
    rcases hown.1.2 with ⟨rfl, h0⟩ | ⟨g, cap, cur, rfl, _, _, hnc, _⟩
    · simp [Builtin.append_, run_underlying u.un, sizeOf, typeInfo, hi, Builtin.lenOf, Builtin.firstCells]
    · simp [Builtin.append_, run_underlying u.un, sizeOf, typeInfo, hi, Builtin.lenOf, Builtin.firstCells, hnc, storeCells]
  · have hcell : ∀ j q, (ys.map (Value.int .u8))[j]? = some q → w.cell? (ad.add j) = some q := by
      intro j q hq
      have hj : j < ys.length := by
        rcases Nat.lt_or_ge j ys.length with h | h
        · exact h
        · rw [List.getElem?_eq_none (by simpa using h)] at hq; cases hq
      obtain ⟨b, o, he, _, _, hcell⟩ := h (by omega)
      cases he
      have ha : (⟨b, o, none⟩ : Addr).add j = ⟨b, o + j, none⟩ := by unfold Addr.add; split <;> simp_all
      rw [ha, hcell j hj, ← hq]
      simp [List.getElem?_map, List.getElem?_eq_getElem hj]
    obtain ⟨v', w', hrun, h2, h3, _, _⟩ := run_append_own_at (P := P) w base t ty e i (.int .u8 0) 1 1 u.un hi hz hs hb rfl (by omega) v xs.length _ hown.1 ad ys.length c (ys.map (Value.int .u8)) (by simp) hcell
      (ints_oneCell .u8 ys) (by simp only [maxLen]; omega) (by omega) hbase
    exact ⟨v', w', hrun, ⟨by simpa using h2, hb2⟩, h3⟩

theorem wp_app {t e : TypeId} (u : U8 P t e) {ops : Array Oper} {rest : List Oper} {o : Oper} {a : Act} {w : World} {Q : Exit → Act → World → Prop} (hw : Region.wanted o (yielded ops a.tmps) = true) (s x : Operand)
    (ho : o.op = .call { callee := .builtin .append, args := #[s, x], argTypes := #[t, t] }) {base : Nat} {xs ys : List Int} {Pb : Nat → Prop}
    (hown : Own w base e (a.eval s) xs) (hx : Byt w Pb (a.eval x) ys) (hle : xs.length + ys.length ≤ 140737488355328) (hbase : base ≤ w.heap.size)
    (h : ∀ v' w', Own w' base e v' (xs ++ ys) → Kp (fun k => base ≤ k) w w' → wpList P ops Q rest (a.put o.dst v') w') : wpList P ops Q (o :: rest) a w := by
  refine BigFrame.wpList_want hw fun K hK => ?_
  obtain ⟨v', w', hrun, h2, h3⟩ := run_app (P := P) (ty := o.type) u w hown hx hle hbase
  unfold Oper.wp execOp
  simp only [ho, resolve, invoke, builtin, Sem.run_bind, Sem.run_pure, Result.andThen_ok, List.map_toArray, List.map_cons, List.map_nil, hrun]
  exact hK _ _ (h v' w' h2 ((Kp.refl _ _).grown h3 fun k hk => .inl (hown.at_ k hk)))

theorem wp_made {t e : TypeId} (u : U8 P t e) {ops : Array Oper} {rest : List Oper} {o : Oper} {a : Act} {w : World} {Q : Exit → Act → World → Prop} (hw : Region.wanted o (yielded ops a.tmps) = true) (l c : Operand)
    (ho : o.op = .makeSlice t l c) {L C : Int} {n m : Nat} (hl : a.eval l = .int .i64 L) (hc : a.eval c = .int .i64 C) (hL : L = n) (hC : C = m) (hnm : n ≤ m) (hm : m ≤ 281474976710656)
    (h : ∀ w', Own w' w.heap.size e (.slice (some ⟨w.heap.size, 0, none⟩) n m) (List.replicate n 0) → Kp No w w' → w'.heap.size = w.heap.size + 1 → wpList P ops Q rest (a.put o.dst (.slice (some ⟨w.heap.size, 0, none⟩) n m)) w') :
    wpList P ops Q (o :: rest) a w := by
  refine BigFrame.wpList_want hw fun K hK => ?_
  obtain ⟨i, hi, hz, hs, hb⟩ := info_parts u.info
  have hr := run_make (P := P) w t e i (.int .u8 0) u.un hi hz .i64 .i64 L C (by omega) (by omega) (by rw [hb]; omega) (by omega)
  subst hL hC
  rw [hs] at hr
  simp only [Int.toNat_natCast, Nat.mul_one] at hr
  unfold Oper.wp
  simp only [execOp, ho, hl, hc, Sem.run_bind, hr, Result.andThen_ok]
  refine hK _ _ (h _ ⟨⟨by simp, .inr ⟨w.heap.size, m, _, by simp, Nat.le_refl _, heap_alloc_new w _, by simpa using hnm, by simp only [maxLen]; omega, ?_, ?_⟩⟩, ?_⟩ ((Kp.refl _ _).alloc _) (by simp))
  · rw [← Array.length_toList, show (Value.int IntKind.u8 0).cells = #[.int .u8 0] from rfl, toList_madeCells_one]
    simp
  · rw [show (Value.int IntKind.u8 0).cells = #[.int .u8 0] from rfl, toList_madeCells_one]
    simp [List.take_replicate, Nat.min_eq_left hnm]
  · intro x hx
    rw [List.eq_of_mem_replicate hx]
    omega

theorem wp_copied {t e : TypeId} (u : U8 P t e) {ops : Array Oper} {rest : List Oper} {o : Oper} {a : Act} {w : World} {Q : Exit → Act → World → Prop} (hgd : o.guard = none) (d s : Operand)
    (ho : o.op = .call { callee := .builtin .copy, args := #[d, s], argTypes := #[t, t] }) {base g cap : Nat} {xs ys : List Int} {Pb : Nat → Prop}
    (hd : a.eval d = .slice (some ⟨g, 0, none⟩) xs.length cap) (hown : Own w base e (.slice (some ⟨g, 0, none⟩) xs.length cap) xs) (hx : Byt w Pb (a.eval s) ys) (hlen : xs.length = ys.length)
    (h : ∀ w', Own w' base e (.slice (some ⟨g, 0, none⟩) ys.length cap) ys → Kp (fun k => base ≤ k) w w' → wpList P ops Q rest (a.put o.dst (goInt ys.length)) w') : wpList P ops Q (o :: rest) a w := by
  obtain ⟨i, hi, hz, hs, hb⟩ := info_parts u.info
  obtain ⟨A, c, he, hc, hm, hys, hr⟩ := hx
  rcases hown.1.2 with ⟨h0, _⟩ | ⟨g', cap', cur, hv, hbg, hg, hnc, hcm, hcs, htake⟩
  · cases h0
  · injection hv with hv1 _ hv2
    injection hv1 with hv1
    injection hv1 with hv1
    subst hv1 hv2
    refine wpList_copy_splice hgd d s t t ho e u.un (by rw [hi]; simp [hs]) _ A _ _ _ c hd he g 0 cur.toList e (by simpa using hg) (ys.map (Value.int .u8)) (by simp [hlen]) ?_ ?_ (ints_oneCell .u8 ys) base w (Below.refl _ _) hbg ?_
    · intro hp
      obtain ⟨b, o', rfl, _, _, hcell⟩ := hr (by simpa using hp)
      refine ⟨rfl, _, rfl, fun j q hq => ?_⟩
      have hj : j < ys.length := by
        rcases Nat.lt_or_ge j ys.length with h | h
        · exact h
        · rw [List.getElem?_eq_none (by simpa using h)] at hq; cases hq
      have ha : (⟨b, o', none⟩ : Addr).add j = ⟨b, o' + j, none⟩ := by unfold Addr.add; split <;> simp_all
      rw [ha, hcell j hj, ← hq]
      simp [List.getElem?_map, List.getElem?_eq_getElem hj]
    · simp only [List.length_map, Array.length_toList]
      omega
    · intro w' hg' hbl
      rw [List.length_map]
      refine h w' ⟨⟨by simp, .inr ⟨g, cap, _, rfl, hbg, hg'.out, by omega, hcm, ?_, ?_⟩⟩, hys⟩ ⟨hbl.os, hbl.tape, hbl.output, hbl.size, fun k _ hk => hbl.block k (by omega)⟩
      · rw [List.size_toArray, length_splice _ _ _ (by simp only [List.length_map, Array.length_toList]; omega), Array.length_toList]
        exact hcs
      · simp [splice]

/-- One byte that was just laid in a block of its own. -/
theorem Byt.one (w : World) (e : TypeId) {P : Nat → Prop} (x : Int) (hx : 0 ≤ x ∧ x ≤ 255) (hP : P w.heap.size) : Byt (w.alloc (.cells #[.int .u8 x] e)) P (.slice (some ⟨w.heap.size, 0, none⟩) 1 1) [x] :=
  ⟨some ⟨w.heap.size, 0, none⟩, 1, rfl, by simp, by simp [maxLen], by simpa using hx, fun _ => ⟨w.heap.size, 0, rfl, by simp, hP, fun j hj => by
    have : j = 0 := by simpa using hj
    subst this
    simp⟩⟩
end
end Go.Proofs.YtggmdgdgljlddaaGreatDoor
