/-
  For below: a plain region in a round, append of one element, marks of rounds that are over, what the walk holds.
-/
import Derived.Test.YtggmdgdgljlddaaNPath
import Derived.Test.YtggmdgdgljlddaaNBack
import Derived.Deep.RegionLaw
import Derived.RangeFuncLeaves
namespace Go.Proofs.Ytggmdgdgljlddaa
open Go.RowKit

section
variable {P : Program}
/-- A plain region in a round: walked as outside of one. -/
theorem list_in {ops : Array Oper} {Q : Exit → Act → World → Prop} (l0 n : Nat) (hL : ¬ LetsOut Q) :
    ∀ (l : List Oper) (a : Act) (w : World), (∀ o ∈ l, ∀ c, o.op ≠ .defer c) → wpList P ops Q l a w → wpListIn (Fence.wide.inRound l0) n P ops Q l a w
  | [], _, _, _, h => h
  | o :: l, a, w, hd, h => by
    unfold wpList at h
    unfold wpListIn
    split at h
    · rename_i hw
      rw [if_pos hw]
      rcases h with h | h
      · exact Oper.wpIn_mono (fun a w h => list_in l0 n hL l a w (fun o ho => hd o (List.mem_cons_of_mem _ ho)) h) (op_in l0 n (hd o List.mem_cons_self) h)
      · exact absurd h.2 hL
    · rename_i hw
      rw [if_neg hw]
      exact ⟨fun _ _ => trivial, list_in l0 n hL l _ _ (fun o ho => hd o (List.mem_cons_of_mem _ ho)) h⟩
theorem region_lit_in {Q : Exit → Act → World → Prop} {l : List Oper} {a : Act} {w : World} {l0 n id : Nat} (hd : noDefer l.toArray = true) (hL : ¬ LetsOut Q)
    (h2 : wpList P l.toArray Q l a w) : (Code.region id l.toArray false).wpIn (Fence.wide.inRound l0) n P Q a w :=
  wpIn_region_lit (list_in l0 n hL l a w (fun o ho c => by
    obtain ⟨i, hi⟩ := List.mem_iff_getElem?.1 ho
    exact noDefer_spec hd i o (by simpa using hi) c) h2)

section
variable {α : Type} {n bytes : Nat} {z : Value} {f : α → Nat → Value} {t e : TypeId} {base : Nat} {xs : List α} {y : α} {v : Value} {w : World}
/-- append of one element onto what is owned. -/
theorem run_app1 {ty : TypeId} (u : Us P t e n bytes z) (hf : ∀ x i, (f x i).oneCell' = true) (hown : Ow w base e n f v xs) {q : Nat} (hq : ∀ i, i < n → w.cell? ⟨q, i, none⟩ = some (f y i))
    (hle : (xs.length + 1) * bytes ≤ 140737488355328) (h63 : xs.length + 1 ≤ maxLen) (hbase : base ≤ w.heap.size) :
    ∃ v' w', (Builtin.append_ #[t, t] ty #[v, .slice (some ⟨q, 0, none⟩) 1 1]).run P w = .ok v' w' ∧ Ow w' base e n f v' (xs ++ [y]) ∧ w.grownBy w' v.ownBlock ∧ (v'.ownBlock = v.ownBlock ∨ v'.ownBlock = some w.heap.size) := by
  obtain ⟨i, hi, hz, hs, hb⟩ := info_parts u.info
  have hc : ∀ j u, (flat n f [y])[j]? = some u → w.cell? ((⟨q, 0, none⟩ : Addr).add j) = some u := by
    intro j u hu
    obtain ⟨k, i, hk, hi, rfl, rfl⟩ := flat_get (d := y) [y] hu
    have hk0 : k = 0 := by simpa using hk
    subst hk0
    have ha : (⟨q, 0, none⟩ : Addr).add (0 * n + i) = ⟨q, i, none⟩ := by unfold Addr.add; split <;> simp_all
    rw [ha, hq i hi]
    rfl
  obtain ⟨v', w', hrun, h2, h3, _, h5⟩ := run_append_own_at (P := P) w base t ty e i z n bytes u.un hi hz hs hb u.zero u.pos v xs.length _ hown ⟨q, 0, none⟩ 1 1 (flat n f [y]) (flat_len [y]) hc (flat_one hf [y]) h63 hle hbase
  refine ⟨v', w', hrun, ?_, h3, h5⟩
  unfold Ow
  rw [List.length_append, flat_app]
  exact h2
theorem wp_app1 (u : Us P t e n bytes z) (hf : ∀ x i, (f x i).oneCell' = true) {ops : Array Oper} {rest : List Oper} {o : Oper} {a : Act} {Q : Exit → Act → World → Prop} (hw : Region.wanted o (yielded ops a.tmps) = true) (s x : Operand)
    (ho : o.op = .call { callee := .builtin .append, args := #[s, x], argTypes := #[t, t] }) {q : Nat} (hown : Ow w base e n f (a.eval s) xs) (hx : a.eval x = .slice (some ⟨q, 0, none⟩) 1 1) (hq : ∀ i, i < n → w.cell? ⟨q, i, none⟩ = some (f y i))
    (hle : (xs.length + 1) * bytes ≤ 140737488355328) (h63 : xs.length + 1 ≤ maxLen) (hbase : base ≤ w.heap.size)
    (h : ∀ v' w', Ow w' base e n f v' (xs ++ [y]) → w.grownBy w' (a.eval s).ownBlock → (v'.ownBlock = (a.eval s).ownBlock ∨ v'.ownBlock = some w.heap.size) → wpList P ops Q rest (a.put o.dst v') w') : wpList P ops Q (o :: rest) a w := by
  refine BigFrame.wpList_want hw fun K hK => ?_
  obtain ⟨v', w', hrun, h2, h3, h5⟩ := run_app1 (P := P) (ty := o.type) u hf hown hq hle h63 hbase
  unfold Oper.wp execOp
  simp only [ho, hx, resolve, invoke, builtin, Sem.run_bind, Sem.run_pure, Result.andThen_ok, List.map_toArray, List.map_cons, List.map_nil, hrun]
  exact hK _ _ (h v' w' h2 h3 h5)
theorem step_app1 (u : Us P t e n bytes z) (hf : ∀ x i, (f x i).oneCell' = true) {ops : Array Oper} {o : Oper} {a : Act} {K : Act → World → Prop} {Q : Exit → Act → World → Prop} {E : Prop} (hgd : o.guard = none) (s x : Operand)
    (ho : o.op = .call { callee := .builtin .append, args := #[s, x], argTypes := #[t, t] }) {q : Nat} (hv : a.eval s = v) (hown : Ow w base e n f v xs) (hx : a.eval x = .slice (some ⟨q, 0, none⟩) 1 1) (hq : ∀ i, i < n → w.cell? ⟨q, i, none⟩ = some (f y i))
    (hle : (xs.length + 1) * bytes ≤ 140737488355328) (h63 : xs.length + 1 ≤ maxLen) (hbase : base ≤ w.heap.size)
    (h : ∀ v' w', Ow w' base e n f v' (xs ++ [y]) → w.grownBy w' v.ownBlock → (v'.ownBlock = v.ownBlock ∨ v'.ownBlock = some w.heap.size) → K (a.put o.dst v') w') : if Region.wanted o (yielded ops a.tmps) = true then Oper.wp P o a w K Q else E := by
  have hw : Region.wanted o (yielded ops a.tmps) = true := by simp [Region.wanted, hgd]
  rw [if_pos hw]
  obtain ⟨v', w', hrun, h2, h3, h5⟩ := run_app1 (P := P) (ty := o.type) u hf hown hq hle h63 hbase
  unfold Oper.wp execOp
  simp only [ho, resolve, invoke, builtin, Sem.run_bind, Sem.run_pure, Result.andThen_ok, List.map_toArray, List.map_cons, List.map_nil, hv, hx, hrun]
  exact h v' w' h2 h3 h5
/-- What is owned, without its last one. -/
theorem Ow.pop (h : Ow w base e n f v (xs ++ [y])) : ∃ b c, v = .slice (some ⟨b, 0, none⟩) (xs.length + 1) c ∧ Ow w base e n f (.slice (some ⟨b, 0, none⟩) xs.length c) xs ∧ xs.length + 1 ≤ c ∧ base ≤ b ∧ b < w.heap.size ∧ c ≤ maxLen ∧
    ∀ i, i < n → w.cell? ⟨b, xs.length * n + i, none⟩ = some (f y i) := by
  have hr := Ow.rw (d := y) h
  rcases h.2 with ⟨_, h0⟩ | ⟨b, c, cur, hv, hb, hg, hl, hm, hs, ht⟩
  · simp at h0
  · rw [List.length_append, List.length_singleton] at hv hl
    refine ⟨b, c, hv, ⟨flat_len xs, .inr ⟨b, c, cur, rfl, hb, hg, by omega, hm, hs, ?_⟩⟩, hl, hb, (Array.getElem?_eq_some_iff.1 hg).1, hm, fun i hi => ?_⟩
    · have h1 := congrArg (List.take (xs.length * n)) ht
      rw [List.take_take, List.length_append, List.length_singleton, Nat.add_mul, Nat.min_eq_left (by omega), flat_app, List.take_left' (flat_len xs)] at h1
      exact h1
    · obtain ⟨A, c', he, _, _, hx⟩ := hr
      obtain ⟨b', o, hA, _, _, hcell⟩ := hx (by simp)
      rw [hv] at he
      injection he with e1 _ _
      rw [hA] at e1
      cases e1
      have := hcell xs.length i (by simp) hi
      rw [Nat.zero_add] at this
      rw [this]
      simp [List.getD]
theorem Ow.blk (h : Ow w base e n f v xs) {k : Nat} (hk : v.ownBlock = some k) : base ≤ k ∧ k < w.heap.size ∧ ∃ cs, w.heap[k]? = some (.cells cs e (0, 0)) := by
  rcases h.2 with ⟨rfl, _⟩ | ⟨g, cap, cur, rfl, hb, hg, _⟩
  · cases hk
  · cases hk
    exact ⟨hb, (Array.getElem?_eq_some_iff.1 hg).1, _, hg⟩
theorem Ow.kpx {S : Nat → Prop} {w' : World} (h : Ow w base e n f v xs) (k : Kp S w w') (hs : ∀ i, v.ownBlock = some i → ¬ S i) : Ow w' base e n f v xs := by
  refine ⟨h.1, ?_⟩
  rcases h.2 with hn | ⟨g, cap, cur, rfl, hb, hg, r⟩
  · exact .inl hn
  · exact .inr ⟨g, cap, cur, rfl, hb, (k.block g (Array.getElem?_eq_some_iff.1 hg).1 (hs g rfl)).trans hg, r⟩
end

def mkD (D : Nat) : Deferred := { target := .collected D, args := #[] }
theorem marks_taken {F : Fence} {n : Nat} {fn : Func} {tmps : Array Value} {R : Ending → World → Prop} : ∀ (ms : List Nat) (w : World), ms.Nodup → (∀ D ∈ ms, w.heap[D]? = some (.deferred (some []))) →
    (∀ w', Kp (fun k => k ∈ ms) w w' → LeavesInM F n P fn tmps R [] .returning w') → LeavesInM F n P fn tmps R (ms.map mkD) .returning w
  | [], w, _, _, h => h w (Kp.refl _ w)
  | D :: ms, w, hn, hD, h => by
    rw [List.nodup_cons] at hn
    have k := (Kp.put1 D w (.deferred none)).mono (T := fun k => k ∈ D :: ms) fun i _ e => by
      have e : i = D := e
      rw [e]
      exact List.mem_cons_self
    refine ⟨by simp, .inl ⟨D, _, rfl, run_takeDeferred (hD D List.mem_cons_self), marks_taken ms _ hn.2 (fun D' h' => ?_) fun w' k' => h w' (k.trans (k'.mono fun i _ e => List.mem_cons_of_mem _ e))⟩⟩
    exact (World.putObj_heap_other (by rintro rfl; exact hn.1 h')).trans (hD D' (List.mem_cons_of_mem _ h'))
end

/-- A place. -/
def pf (x : Int × Nat) (i : Nat) : Value := if i = 0 then .int .i64 x.1 else .int .i64 (x.2 : Int)
theorem pf_one (x : Int × Nat) (i : Nat) : (pf x i).oneCell' = true := by unfold pf; split <;> rfl
theorem usP : Us Try.prog 50 53 2 16 (.agg #[.int .i64 0, .int .i64 0]) := ⟨by kernel_rfl, by kernel_rfl, by decide, by decide⟩

/-- What below holds: all so far (v), what is still to be seen (its box sb, sv), marks. -/
structure BJ (w : World) (sb : Nat) (v sv : Value) (al st : List (Int × Nat)) (ms : List Nat) (W : World) : Prop where
  kp : Kp No w W
  al : Ow W w.heap.size 53 2 pf v al
  bx : Blk W sb 50 #[sv]
  lo : w.heap.size ≤ sb
  st : Ow W w.heap.size 53 2 pf sv st
  ne : ∀ k, v.ownBlock = some k → sv.ownBlock ≠ some k
  nd : ms.Nodup
  dm : ∀ D ∈ ms, w.heap.size ≤ D ∧ W.heap[D]? = some (.deferred (some []))
section
variable {w W W' W1 W2 : World} {sb : Nat} {v v' sv sv' : Value} {al st : List (Int × Nat)} {y : Int × Nat} {ms : List Nat} {S : Nat → Prop}
theorem BJ.bv (h : BJ w sb v sv al st ms W) : v.ownBlock ≠ some sb := fun e => by
  obtain ⟨_, _, cs, hc⟩ := h.al.blk e
  have := hc.symm.trans h.bx
  simp only [Option.some.injEq, Obj.cells.injEq] at this
  exact absurd this.2.1 (by decide)
theorem BJ.bs (h : BJ w sb v sv al st ms W) : sv.ownBlock ≠ some sb := fun e => by
  obtain ⟨_, _, cs, hc⟩ := h.st.blk e
  have := hc.symm.trans h.bx
  simp only [Option.some.injEq, Obj.cells.injEq] at this
  exact absurd this.2.1 (by decide)
theorem BJ.md (h : BJ w sb v sv al st ms W) {D : Nat} (hD : D ∈ ms) : D ≠ sb ∧ v.ownBlock ≠ some D ∧ sv.ownBlock ≠ some D := by
  have hm := (h.dm D hD).2
  refine ⟨fun e => ?_, fun e => ?_, fun e => ?_⟩
  · have := hm.symm.trans (e ▸ h.bx)
    cases this
  · obtain ⟨_, _, cs, hc⟩ := h.al.blk e
    have := hm.symm.trans hc
    cases this
  · obtain ⟨_, _, cs, hc⟩ := h.st.blk e
    have := hm.symm.trans hc
    cases this
def Mine (sb : Nat) (v sv : Value) (ms : List Nat) (k : Nat) : Prop := k = sb ∨ v.ownBlock = some k ∨ sv.ownBlock = some k ∨ k ∈ ms
theorem BJ.mlt (h : BJ w sb v sv al st ms W) {k : Nat} (hk : Mine sb v sv ms k) : w.heap.size ≤ k ∧ k < W.heap.size := by
  rcases hk with rfl | e | e | e
  · exact ⟨h.lo, h.bx.lt⟩
  · exact ⟨(h.al.blk e).1, (h.al.blk e).2.1⟩
  · exact ⟨(h.st.blk e).1, (h.st.blk e).2.1⟩
  · exact ⟨(h.dm k e).1, (Array.getElem?_eq_some_iff.1 (h.dm k e).2).1⟩
theorem BJ.step (h : BJ w sb v sv al st ms W) (k : Kp S W W') (hs : ∀ i, Mine sb v sv ms i → ¬ S i) (hS : ∀ i, i < w.heap.size → ¬ S i) : BJ w sb v sv al st ms W' :=
  ⟨h.kp.step k fun i hi e => absurd e (hS i hi), h.al.kpx k fun i e => hs i (.inr (.inl e)), h.bx.kp k (hs sb (.inl rfl)), h.lo, h.st.kpx k fun i e => hs i (.inr (.inr (.inl e))), h.ne, h.nd,
    fun D hD => ⟨(h.dm D hD).1, (k.block D (Array.getElem?_eq_some_iff.1 (h.dm D hD).2).1 (hs D (.inr (.inr (.inr hD))))).trans (h.dm D hD).2⟩⟩
theorem BJ.kp0 (h : BJ w sb v sv al st ms W) (k : Kp No W W') : BJ w sb v sv al st ms W' := h.step k (fun _ _ h => h) fun _ _ h => h
/-- One more is laid onto what is still to be seen. -/
theorem BJ.push (h : BJ w sb v sv al st ms W) (o : Ow W2 w.heap.size 53 2 pf sv' (st ++ [y])) (k : W.grownBy W2 sv.ownBlock) (p : sv'.ownBlock = sv.ownBlock ∨ sv'.ownBlock = some W.heap.size) :
    BJ w sb v sv' al (st ++ [y]) ms (W2.setCell ⟨sb, 0, none⟩ sv') ∧ Kp (fun i => i = sb ∨ sv.ownBlock = some i) W (W2.setCell ⟨sb, 0, none⟩ sv') := by
  have kA : Kp (fun i => sv.ownBlock = some i) W W2 := (Kp.refl _ W).grown k fun k hk => .inl hk
  have kB := Kp.set1 sb 0 W2 sv'
  have B2 := h.bx.kp kA fun e => h.bs e
  have K : Kp (fun i => i = sb ∨ sv.ownBlock = some i) W (W2.setCell ⟨sb, 0, none⟩ sv') := (kA.mono fun i _ e => .inr e).step kB fun i _ e => .inl e
  have ho2 : sv'.ownBlock ≠ some sb := fun e => by
    rcases p with p | p
    · exact h.bs (p.symm.trans e)
    · rw [p] at e
      have := h.bx.lt
      have e : W.heap.size = sb := Option.some.inj e
      omega
  refine ⟨⟨h.kp.step K fun i hi e => ?_, h.al.kpx K fun i e1 e => ?_, B2.put 0 sv', h.lo, o.kpx kB fun i e1 e => ?_, fun i e1 e2 => ?_, h.nd, fun D hD => ⟨(h.dm D hD).1, (K.block D (Array.getElem?_eq_some_iff.1 (h.dm D hD).2).1 fun e => ?_).trans (h.dm D hD).2⟩⟩, K⟩
  · rcases e with rfl | e
    · have := h.lo; omega
    · have := (h.st.blk e).1; omega
  · rcases e with rfl | e
    · exact h.bv e1
    · exact h.ne i e1 e
  · have e : i = sb := e
    subst e
    exact ho2 e1
  · rcases p with p | p
    · exact h.ne i e1 (p.symm.trans e2)
    · rw [p] at e2
      have e2 : W.heap.size = i := Option.some.inj e2
      have := (h.al.blk e1).2.1
      omega
  · rcases e with e | e
    · exact (h.md hD).1 e
    · exact (h.md hD).2.2 e
/-- The last one is taken off, and told. -/
theorem BJ.pop {b c : Nat} (h : BJ w sb v (.slice (some ⟨b, 0, none⟩) (st.length + 1) c) al (st ++ [y]) ms W) (ho : Ow W w.heap.size 53 2 pf (.slice (some ⟨b, 0, none⟩) st.length c) st) (o : Ow W2 w.heap.size 53 2 pf v' (al ++ [y])) (k : W.grownBy W2 v.ownBlock) (p : v'.ownBlock = v.ownBlock ∨ v'.ownBlock = some W.heap.size) :
    BJ w sb v' (.slice (some ⟨b, 0, none⟩) st.length c) (al ++ [y]) st ms (W2.setCell ⟨sb, 0, none⟩ (.slice (some ⟨b, 0, none⟩) st.length c)) := by
  have kA : Kp (fun i => v.ownBlock = some i) W W2 := (Kp.refl _ W).grown k fun k hk => .inl hk
  have kB := Kp.set1 sb 0 W2 (.slice (some ⟨b, 0, none⟩) st.length c)
  have B2 := h.bx.kp kA fun e => h.bv e
  have K : Kp (fun i => i = sb ∨ v.ownBlock = some i) W (W2.setCell ⟨sb, 0, none⟩ (.slice (some ⟨b, 0, none⟩) st.length c)) := (kA.mono fun i _ e => .inr e).step kB fun i _ e => .inl e
  refine ⟨h.kp.step K fun i hi e => ?_, o.kpx kB fun i e1 e => ?_, B2.put 0 _, h.lo, ho.kpx K fun i e1 e => ?_, fun i e1 e2 => ?_, h.nd, fun D hD => ⟨(h.dm D hD).1, (K.block D (Array.getElem?_eq_some_iff.1 (h.dm D hD).2).1 fun e => ?_).trans (h.dm D hD).2⟩⟩
  · rcases e with rfl | e
    · have := h.lo; omega
    · have := (h.al.blk e).1; omega
  · have e : i = sb := e
    subst e
    rcases p with p | p
    · exact h.bv (p.symm.trans e1)
    · rw [p] at e1
      have := h.bx.lt
      have e1 : W.heap.size = i := Option.some.inj e1
      omega
  · rcases e with rfl | e
    · exact h.bs e1
    · exact h.ne i e e1
  · have e3 : (Value.slice (some ⟨b, 0, none⟩) (st.length + 1) c).ownBlock = some i := e2
    rcases p with p | p
    · exact h.ne i (p.symm.trans e1) e3
    · rw [p] at e1
      have e1 : W.heap.size = i := Option.some.inj e1
      have := (h.st.blk e3).2.1
      omega
  · rcases e with e | e
    · exact (h.md hD).1 e
    · exact (h.md hD).2.1 e
/-- A mark more. -/
theorem BJ.mark (h : BJ w sb v sv al st ms W) {D : Nat} (h1 : w.heap.size ≤ D) (h2 : W.heap[D]? = some (.deferred (some []))) (h3 : D ∉ ms) : BJ w sb v sv al st (D :: ms) W :=
  ⟨h.kp, h.al, h.bx, h.lo, h.st, h.ne, List.nodup_cons.2 ⟨h3, h.nd⟩, fun D' h' => by
    rcases List.mem_cons.1 h' with rfl | h'
    · exact ⟨h1, h2⟩
    · exact h.dm D' h'⟩
end
theorem bk_map (fs : List Int) : (bk fs fs.length).map (·.2) = fs.reverse := by
  apply List.ext_getElem?
  intro i
  unfold bk
  simp only [List.map_map, List.getElem?_map, Function.comp_def]
  by_cases h : i < fs.length
  · rw [List.getElem?_range h, List.getElem?_reverse h]
    have : fs.length - 1 - i < fs.length := by omega
    simp [List.getD, this]
  · rw [List.getElem?_eq_none (by simpa using h), List.getElem?_eq_none (by simpa using h)]
    rfl
end Go.Proofs.Ytggmdgdgljlddaa
