/-
  Slices of slices of sixty-four bytes, each in a block of its own: how they read; one more appended.
-/
import Derived.Test.YtndbkpmfimpgnaaDArr
import Derived.Test.YtndbkpmfimpgnaaBytes
namespace Go.Proofs.Ytndbkpmfimpgnaa
open Go.RowKit

/-- A slice of a whole block of sixty-four bytes. -/
def bf (q : Nat) (_ : Nat) : Value := .slice (some ⟨q, 0, none⟩) 64 64
theorem usB : Us Try.prog 28 30 1 24 (.slice none 0 0) := ⟨by kernel_rfl, by kernel_rfl, by decide, by decide⟩

/-- A row that the call owns. -/
def Ks (w : World) (base : Nat) (v : Value) (ks : List (List Int)) : Prop :=
  ∃ bs : List Nat, Ow w base 30 1 bf v bs ∧ bs.length = ks.length ∧ bs.Pairwise (· < ·) ∧ ∀ j, j < bs.length → base ≤ bs.getD j 0 ∧ Blk w (bs.getD j 0) 57 (sc (ks.getD j [])).toArray
/-- A row that is read; all its blocks in Q. -/
def Kr (w : World) (Q : Nat → Prop) (v : Value) (ks : List (List Int)) : Prop :=
  ∃ (A : Option Addr) (c : Nat) (bs : List Nat), v = .slice A bs.length c ∧ bs.length ≤ c ∧ c ≤ maxLen ∧ bs.length = ks.length ∧ bs.Pairwise (· < ·) ∧ (∀ j, j < bs.length → Q (bs.getD j 0) ∧ Blk w (bs.getD j 0) 57 (sc (ks.getD j [])).toArray) ∧
    (0 < bs.length → ∃ rb ro, A = some ⟨rb, ro, none⟩ ∧ rb < w.heap.size ∧ Q rb ∧ (∀ j, j < bs.length → bs.getD j 0 ≠ rb) ∧ ∀ j, j < bs.length → w.cell? ⟨rb, ro + j, none⟩ = some (bf (bs.getD j 0) 0))

section
variable {w w' : World} {base : Nat} {v : Value} {ks : List (List Int)} {S Q : Nat → Prop}
theorem Ks.nil (w : World) (base : Nat) : Ks w base (.slice none 0 0) [] := ⟨[], Ow.nil _ _ _ _ _, rfl, List.Pairwise.nil, fun j h => by simp at h⟩
theorem own_block {bs : List Nat} (h : Ow w base 30 1 bf v bs) {g : Nat} (hg : v.ownBlock = some g) : base ≤ g ∧ ∃ cur, w.heap[g]? = some (.cells cur 30 (0, 0)) := by
  rcases h.2 with ⟨rfl, _⟩ | ⟨g', cap, cur, rfl, hb, hh, _⟩
  · cases hg
  · cases hg
    exact ⟨hb, cur, hh⟩
theorem blk_ne {b g : Nat} {cs cur : Array Value} (h : Blk w b 57 cs) (hg : w.heap[g]? = some (.cells cur 30 (0, 0))) : b ≠ g := by
  rintro rfl
  unfold Blk at h
  rw [h] at hg
  injection hg with hg
  injection hg with _ h2
  exact absurd h2 (by decide)
theorem Ow.kpl {bs : List Nat} {e : TypeId} (h : Ow w base e 1 bf v bs) (k : Kp S w w') (hs : ∀ i, base ≤ i → i < w.heap.size → ¬ S i) : Ow w' base e 1 bf v bs := by
  refine ⟨h.1, ?_⟩
  rcases h.2 with hn | ⟨g, cap, cur, rfl, hb, hg, r⟩
  · exact .inl hn
  · have hl := (Array.getElem?_eq_some_iff.1 hg).1
    exact .inr ⟨g, cap, cur, rfl, hb, (k.block g hl (hs g hb hl)).trans hg, r⟩
theorem Ks.kp (h : Ks w base v ks) (k : Kp S w w') (hs : ∀ i, base ≤ i → i < w.heap.size → ¬ S i) : Ks w' base v ks := by
  obtain ⟨bs, h1, h2, h3, h4⟩ := h
  exact ⟨bs, h1.kpl k hs, h2, h3, fun j hj => ⟨(h4 j hj).1, (h4 j hj).2.kp k (hs _ (h4 j hj).1 (h4 j hj).2.lt)⟩⟩
theorem Ks.kp0 (h : Ks w base v ks) (k : Kp No w w') : Ks w' base v ks := h.kp k fun _ _ _ h => h
theorem Ks.formN {n : Nat} (h : Ks w base v ks) (hl : ks.length = n) : ∃ A c, v = .slice A n c := by
  obtain ⟨bs, h1, h2, _⟩ := h
  exact h1.formN (by omega)
theorem Ks.kr (h : Ks w base v ks) : Kr w (fun i => base ≤ i ∧ i < w.heap.size) v ks := by
  obtain ⟨bs, h1, h2, h3, h4⟩ := h
  have hr := h1.rw (d := 0)
  have hq : ∀ j, j < bs.length → (base ≤ bs.getD j 0 ∧ bs.getD j 0 < w.heap.size) ∧ Blk w (bs.getD j 0) 57 (sc (ks.getD j [])).toArray := fun j hj => ⟨⟨(h4 j hj).1, (h4 j hj).2.lt⟩, (h4 j hj).2⟩
  rcases h1.2 with ⟨rfl, h0⟩ | ⟨g, cap, cur, rfl, hb, hg, hl, hm, hs, ht⟩
  · have : bs = [] := List.eq_nil_of_length_eq_zero h0
    subst this
    exact ⟨none, 0, [], rfl, Nat.le_refl _, by simp [maxLen], h2, h3, fun j h => by simp at h, fun h => by simp at h⟩
  · refine ⟨some ⟨g, 0, none⟩, cap, bs, rfl, hl, hm, h2, h3, hq, fun _ => ⟨g, 0, rfl, (Array.getElem?_eq_some_iff.1 hg).1, ⟨hb, (Array.getElem?_eq_some_iff.1 hg).1⟩, fun j hj => blk_ne (h4 j hj).2 hg, fun j hj => ?_⟩⟩
    have := hr.cell (i := 0) (Kp.refl No w) hj (Nat.lt_succ_self 0) rfl
    rwa [show j * 1 + 0 = j by omega] at this
theorem Kr.kp (h : Kr w Q v ks) (k : Kp S w w') (hs : ∀ i, Q i → i < w.heap.size → ¬ S i) : Kr w' Q v ks := by
  obtain ⟨A, c, bs, rfl, h1, h2, h3, h4, h5, h6⟩ := h
  refine ⟨A, c, bs, rfl, h1, h2, h3, h4, fun j hj => ⟨(h5 j hj).1, (h5 j hj).2.kp k (hs _ (h5 j hj).1 (h5 j hj).2.lt)⟩, fun h0 => ?_⟩
  obtain ⟨rb, ro, e, g1, g2, g3, g4⟩ := h6 h0
  exact ⟨rb, ro, e, Nat.lt_of_lt_of_le g1 k.size, g2, g3, fun j hj => (k.cell (p := ⟨rb, ro + j, none⟩) g1 (hs rb g2 g1)).trans (g4 j hj)⟩
theorem Kr.kp0 (h : Kr w Q v ks) (k : Kp No w w') : Kr w' Q v ks := h.kp k fun _ _ _ h => h
theorem Kr.mono {Q' : Nat → Prop} (h : Kr w Q v ks) (hq : ∀ i, Q i → Q' i) : Kr w Q' v ks := by
  obtain ⟨A, c, bs, rfl, h1, h2, h3, h4, h5, h6⟩ := h
  refine ⟨A, c, bs, rfl, h1, h2, h3, h4, fun j hj => ⟨hq _ (h5 j hj).1, (h5 j hj).2⟩, fun h0 => ?_⟩
  obtain ⟨rb, ro, e, g1, g2, g3⟩ := h6 h0
  exact ⟨rb, ro, e, g1, hq _ g2, g3⟩
theorem Kr.form (h : Kr w Q v ks) : ∃ A c, v = .slice A ks.length c := by
  obtain ⟨A, c, bs, rfl, _, _, h3, _⟩ := h
  exact ⟨A, c, by rw [h3]⟩
/-- One of its slices. -/
theorem Kr.get {A : Option Addr} {n c : Nat} (h : Kr w Q (.slice A n c) ks) {j : Nat} (hj : j < ks.length) : ∃ rb ro q, A = some ⟨rb, ro, none⟩ ∧ w.cell? ⟨rb, ro + j, none⟩ = some (.slice (some ⟨q, 0, none⟩) 64 64) ∧ Q q ∧ Q rb ∧ rb ≠ q ∧ Blk w q 57 (sc (ks.getD j [])).toArray := by
  obtain ⟨A', c', bs, he, h1, h2, h3, h4, h5, h6⟩ := h
  injection he with e1 e2 e3
  subst e1
  obtain ⟨rb, ro, e, g1, g2, g3, g4⟩ := h6 (by omega)
  exact ⟨rb, ro, bs.getD j 0, e, g4 j (by omega), (h5 j (by omega)).1, g2, fun x => g3 j (by omega) x.symm, (h5 j (by omega)).2⟩
/-- A byte of one of them laid. -/
theorem Kr.put {A : Option Addr} {n c : Nat} (h : Kr w Q (.slice A n c) ks) {j p q rb ro : Nat} (hj : j < ks.length) (hA : A = some ⟨rb, ro, none⟩) (hq : w.cell? ⟨rb, ro + j, none⟩ = some (.slice (some ⟨q, 0, none⟩) 64 64)) (x : Int) : Kr (w.setCell ⟨q, p, none⟩ (.int .u8 x)) Q (.slice A n c) (ks.set j ((ks.getD j []).set p x)) := by
  obtain ⟨A', c', bs, he, h1, h2, h3, h4, h5, h6⟩ := h
  injection he with e1 e2 e3
  subst e1 e2 e3
  obtain ⟨rb', ro', e, g1, g2, g3, g4⟩ := h6 (by omega)
  rw [hA] at e
  injection e with e
  injection e with e1 e2 _
  subst e1 e2
  have hqj : q = bs.getD j 0 := by
    have := g4 j (by omega)
    rw [hq] at this
    simp [bf] at this
    simpa [List.getD] using this
  have k := Kp.set1 q p w (.int .u8 x)
  refine ⟨A, c, bs, rfl, h1, h2, by simpa using h3, h4, fun i hi => ⟨(h5 i hi).1, ?_⟩, fun h0 => ⟨rb, ro, hA, Nat.lt_of_lt_of_le g1 k.size, g2, g3, fun i hi => ?_⟩⟩
  · by_cases hij : i = j
    · subst hij
      have := (h5 i hi).2.put p (.int .u8 x)
      rw [← hqj] at this ⊢
      rw [getD_set_self hj]
      have e : (sc ((ks.getD i []).set p x)).toArray = (sc (ks.getD i [])).toArray.setIfInBounds p (Value.int IntKind.u8 x) := by
        unfold sc
        rw [List.map_set, List.setIfInBounds_toArray]
      rw [e]
      exact this
    · rw [getD_set_ne (Ne.symm hij)]
      refine (h5 i hi).2.kp k fun e => hij ?_
      have e : bs.getD i 0 = q := e
      have hnd : bs.Nodup := h4.imp fun h => Nat.ne_of_lt h
      rw [hqj] at e
      simp only [List.getD_eq_getElem?_getD] at e
      rw [List.getElem?_eq_getElem hi, List.getElem?_eq_getElem (by omega)] at e
      exact (List.getElem_inj hnd).1 e
  · exact (k.cell (p := ⟨rb, ro + i, none⟩) g1 fun e => by
      have e : rb = q := e
      exact g3 j (by omega) (by rw [← hqj]; exact e.symm)).trans (g4 i hi)
end

section
variable {ops : Array Oper} {rest : List Oper} {o : Oper} {a : Act} {w w0 : World} {Q : Exit → Act → World → Prop}
/-- 'make([][]byte, 0, n)'. -/
theorem wp_mk28 (hg : o.guard = none) (l c : Operand) (ho : o.op = .makeSlice 28 l c) {n : Nat} (hl : a.eval l = .int .i64 0) (hc : a.eval c = .int .i64 (n : Int)) (hn : n ≤ 100000)
    (h : ∀ w', Ks w' w.heap.size (.slice (some ⟨w.heap.size, 0, none⟩) 0 n) [] → Kp No w w' → wpList Try.prog ops Q rest (a.put o.dst (.slice (some ⟨w.heap.size, 0, none⟩) 0 n)) w') : wpList Try.prog ops Q (o :: rest) a w := by
  obtain ⟨i, hi, hz, hs, hb⟩ := info_parts usB.info
  obtain ⟨w', hr, h1, h2⟩ := run_make_own (P := Try.prog) w w.heap.size 28 30 i _ 1 usB.un hi hz hs .i64 .i64 n (by rw [hb]; omega) (by unfold maxLen; omega) (Nat.le_refl _)
  refine wpList_plain hg fun K hK => ?_
  unfold Oper.wp
  simp only [execOp, ho, hl, hc, Sem.run_bind, hr, Result.andThen_ok]
  exact hK _ _ (h _ ⟨[], h1, rfl, List.Pairwise.nil, fun j h => by simp at h⟩ ((Kp.refl No w).grown h2 fun k e => by cases e))
/-- One more. -/
theorem wp_snoc (hg : Region.wanted o (yielded ops a.tmps) = true) (s x : Operand) (ho : o.op = .call { callee := .builtin .append, args := #[s, x], argTypes := #[28, 28] }) {base q p : Nat} {ks : List (List Int)} {l : List Int} {S : Nat → Prop} {v : Value}
    (hv : a.eval s = v) (hs : Ks w0 base v ks) (k : Kp S w0 w) (hS : ∀ i, base ≤ i → i < w0.heap.size → ¬ S i) (hbase : base ≤ w0.heap.size) (hx : a.eval x = .slice (some ⟨p, 0, none⟩) 1 1) (hp : w.cell? ⟨p, 0, none⟩ = some (.slice (some ⟨q, 0, none⟩) 64 64)) (hb : Blk w q 57 (sc l).toArray) (hq : w0.heap.size ≤ q) (hn : ks.length ≤ 100000)
    (h : ∀ v' w', Ks w' base v' (ks ++ [l]) → Kp (fun i => base ≤ i ∧ i < w0.heap.size) w w' → wpList Try.prog ops Q rest (a.put o.dst v') w') : wpList Try.prog ops Q (o :: rest) a w := by
  subst hv
  have hlt : ∀ bs : List Nat, (∀ j, j < bs.length → base ≤ bs.getD j 0 ∧ Blk w0 (bs.getD j 0) 57 (sc (ks.getD j [])).toArray) → ∀ y ∈ bs, y < q := fun bs h4 y hy => by
    obtain ⟨j, hj, rfl⟩ := List.getElem_of_mem hy
    have := (h4 j hj).2.lt
    rw [List.getD_eq_getElem?_getD, List.getElem?_eq_getElem hj] at this
    exact Nat.lt_of_lt_of_le this hq
  obtain ⟨bs, h1, h2, h3, h4⟩ := hs
  have h1w := h1.kpl k hS
  have hpl := World.block_lt_of_cell? w _ hp
  refine BigFrame.wpList_want hg fun K hK => ?_
  have hrx : Rw 1 bf 0 w Anyb (a.eval x) [q] := by
    rw [hx]
    refine ⟨_, 1, rfl, Nat.le_refl _, by simp [maxLen], fun _ => ⟨p, 0, rfl, hpl, trivial, fun j i hj hi => ?_⟩⟩
    have e1 : j = 0 := by simpa using hj
    have e2 : i = 0 := by omega
    subst e1 e2
    exact hp
  obtain ⟨v', w', hrun, g2, g3⟩ := run_apps (P := Try.prog) (ty := o.type) usB (fun _ _ => rfl) w h1w hrx (by simp; omega) (by simp [maxLen]; omega) (Nat.le_trans hbase k.size)
  unfold Oper.wp execOp
  simp only [ho, resolve, invoke, builtin, Sem.run_bind, Sem.run_pure, Result.andThen_ok, List.map_toArray, List.map_cons, List.map_nil, hrun]
  have kk : ∀ g, (a.eval s).ownBlock = some g → base ≤ g ∧ g < w0.heap.size := fun g hg => by
    obtain ⟨b1, cur, hcur⟩ := own_block h1 hg
    exact ⟨b1, (Array.getElem?_eq_some_iff.1 hcur).1⟩
  have kw : Kp (fun i => (a.eval s).ownBlock = some i) w w' := (Kp.refl _ w).grown g3 fun i e => .inl e
  have inner : ∀ b (cs : Array Value), Blk w b 57 cs → Blk w' b 57 cs := fun b cs hb => hb.kp kw fun e => by
    obtain ⟨_, cur, hcur⟩ := own_block h1w e
    exact blk_ne hb hcur rfl
  refine hK _ _ (h v' w' ⟨bs ++ [q], g2, by simp [h2], ?_, fun j hj => ?_⟩ (kw.mono fun i _ e => kk i e))
  · refine List.pairwise_append.2 ⟨h3, by simp, fun x hx y hy => ?_⟩
    rw [List.mem_singleton.1 hy]
    exact hlt bs h4 x hx
  · by_cases hj2 : j < bs.length
    · have e1 : (bs ++ [q]).getD j 0 = bs.getD j 0 := by simp [List.getD, List.getElem?_append_left hj2]
      have e2 : (ks ++ [l]).getD j [] = ks.getD j [] := by simp [List.getD, List.getElem?_append_left (show j < ks.length by omega)]
      rw [e1, e2]
      exact ⟨(h4 j hj2).1, inner _ _ ((h4 j hj2).2.kp k (hS _ (h4 j hj2).1 (h4 j hj2).2.lt))⟩
    · have ej : j = bs.length := by simp at hj; omega
      subst ej
      have e1 : (bs ++ [q]).getD bs.length 0 = q := by simp [List.getD]
      have e2 : (ks ++ [l]).getD bs.length [] = l := by rw [h2]; simp [List.getD]
      rw [e1, e2]
      exact ⟨Nat.le_trans hbase hq, inner _ _ hb⟩
end
end Go.Proofs.Ytndbkpmfimpgnaa
