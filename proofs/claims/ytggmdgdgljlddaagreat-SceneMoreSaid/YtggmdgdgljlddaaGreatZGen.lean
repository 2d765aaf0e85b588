/-
  General laws: a plain region in a round, append of one element, marks of rounds that are over. Nothing of a program is named here.
-/
import Derived.Test.YtggmdgdgljlddaaGreatRan
import Derived.Test.YtggmdgdgljlddaaGreatOwn
import Derived.Test.YtggmdgdgljlddaaGreatInRound
import Derived.Deep.RegionLaw
import Derived.RangeFuncLeaves
import Derived.OwnWalkIn
namespace Go.Proofs.YtggmdgdgljlddaaGreat
open Go.RowKit

section
variable {P : Program}
/-- A plain region in a round: walked as outside of one. -/
theorem list_in {ops : Array Oper} {Q : Exit → Act → World → Prop} (l0 n : Nat) (hL : ¬ LetsOut Q) :
    ∀ (l : List Oper) (a : Act) (w : World), (∀ o ∈ l, ∀ c, o.op ≠ .defer c) → wpList P ops Q l a w → wpListIn (Fence.wide.inRound l0) n P ops Q l a w
  | [], _, _, _, h => h
  | o :: l, a, w, hd, h => by
    unfold wpList at h
    unfold wpListIn
    split at h
    · rename_i hw
      rw [if_pos hw]
      rcases h with h | h
      · exact Oper.wpIn_mono (fun a w h => list_in l0 n hL l a w (fun o ho => hd o (List.mem_cons_of_mem _ ho)) h) (op_in l0 n (hd o List.mem_cons_self) h)
      · exact absurd h.2 hL
    · rename_i hw
      rw [if_neg hw]
      exact ⟨fun _ _ => trivial, list_in l0 n hL l _ _ (fun o ho => hd o (List.mem_cons_of_mem _ ho)) h⟩
theorem region_lit_in {Q : Exit → Act → World → Prop} {l : List Oper} {a : Act} {w : World} {l0 n id : Nat} (hd : noDefer l.toArray = true) (hL : ¬ LetsOut Q)
    (h2 : wpList P l.toArray Q l a w) : (Code.region id l.toArray false).wpIn (Fence.wide.inRound l0) n P Q a w :=
  wpIn_region_lit (list_in l0 n hL l a w (fun o ho c => by
    obtain ⟨i, hi⟩ := List.mem_iff_getElem?.1 ho
    exact noDefer_spec hd i o (by simpa using hi) c) h2)

section
variable {α : Type} {n bytes : Nat} {z : Value} {f : α → Nat → Value} {t e : TypeId} {base : Nat} {xs : List α} {y : α} {v : Value} {w : World}
/-- append of one element onto what is owned. -/
theorem run_app1 {ty : TypeId} (u : Us P t e n bytes z) (hf : ∀ x i, (f x i).oneCell' = true) (hown : Ow w base e n f v xs) {q : Nat} (hq : ∀ i, i < n → w.cell? ⟨q, i, none⟩ = some (f y i))
    (hle : (xs.length + 1) * bytes ≤ 140737488355328) (h63 : xs.length + 1 ≤ maxLen) (hbase : base ≤ w.heap.size) :
    ∃ v' w', (Builtin.append_ #[t, t] ty #[v, .slice (some ⟨q, 0, none⟩) 1 1]).run P w = .ok v' w' ∧ Ow w' base e n f v' (xs ++ [y]) ∧ w.grownBy w' v.ownBlock ∧ (v'.ownBlock = v.ownBlock ∨ v'.ownBlock = some w.heap.size) := by
  obtain ⟨i, hi, hz, hs, hb⟩ := info_parts u.info
  have hc : ∀ j u, (flat n f [y])[j]? = some u → w.cell? ((⟨q, 0, none⟩ : Addr).add j) = some u := by
    intro j u hu
    obtain ⟨k, i, hk, hi, rfl, rfl⟩ := flat_get (d := y) [y] hu
    have hk0 : k = 0 := by simpa using hk
    subst hk0
    have ha : (⟨q, 0, none⟩ : Addr).add (0 * n + i) = ⟨q, i, none⟩ := by unfold Addr.add; split <;> simp_all
    rw [ha, hq i hi]
    rfl
  obtain ⟨v', w', hrun, h2, h3, _, h5⟩ := run_append_own_at (P := P) w base t ty e i z n bytes u.un hi hz hs hb u.zero u.pos v xs.length _ hown ⟨q, 0, none⟩ 1 1 (flat n f [y]) (flat_len [y]) hc (flat_one hf [y]) h63 hle hbase
  refine ⟨v', w', hrun, ?_, h3, h5⟩
  unfold Ow
  rw [List.length_append, flat_app]
  exact h2
theorem wp_app1 (u : Us P t e n bytes z) (hf : ∀ x i, (f x i).oneCell' = true) {ops : Array Oper} {rest : List Oper} {o : Oper} {a : Act} {Q : Exit → Act → World → Prop} (hw : Region.wanted o (yielded ops a.tmps) = true) (s x : Operand)
    (ho : o.op = .call { callee := .builtin .append, args := #[s, x], argTypes := #[t, t] }) {q : Nat} (hown : Ow w base e n f (a.eval s) xs) (hx : a.eval x = .slice (some ⟨q, 0, none⟩) 1 1) (hq : ∀ i, i < n → w.cell? ⟨q, i, none⟩ = some (f y i))
    (hle : (xs.length + 1) * bytes ≤ 140737488355328) (h63 : xs.length + 1 ≤ maxLen) (hbase : base ≤ w.heap.size)
    (h : ∀ v' w', Ow w' base e n f v' (xs ++ [y]) → w.grownBy w' (a.eval s).ownBlock → (v'.ownBlock = (a.eval s).ownBlock ∨ v'.ownBlock = some w.heap.size) → wpList P ops Q rest (a.put o.dst v') w') : wpList P ops Q (o :: rest) a w := by
  refine BigFrame.wpList_want hw fun K hK => ?_
  obtain ⟨v', w', hrun, h2, h3, h5⟩ := run_app1 (P := P) (ty := o.type) u hf hown hq hle h63 hbase
  unfold Oper.wp execOp
  simp only [ho, hx, resolve, invoke, builtin, Sem.run_bind, Sem.run_pure, Result.andThen_ok, List.map_toArray, List.map_cons, List.map_nil, hrun]
  exact hK _ _ (h v' w' h2 h3 h5)
theorem step_app1 (u : Us P t e n bytes z) (hf : ∀ x i, (f x i).oneCell' = true) {ops : Array Oper} {o : Oper} {a : Act} {K : Act → World → Prop} {Q : Exit → Act → World → Prop} {E : Prop} (hgd : o.guard = none) (s x : Operand)
    (ho : o.op = .call { callee := .builtin .append, args := #[s, x], argTypes := #[t, t] }) {q : Nat} (hv : a.eval s = v) (hown : Ow w base e n f v xs) (hx : a.eval x = .slice (some ⟨q, 0, none⟩) 1 1) (hq : ∀ i, i < n → w.cell? ⟨q, i, none⟩ = some (f y i))
    (hle : (xs.length + 1) * bytes ≤ 140737488355328) (h63 : xs.length + 1 ≤ maxLen) (hbase : base ≤ w.heap.size)
    (h : ∀ v' w', Ow w' base e n f v' (xs ++ [y]) → w.grownBy w' v.ownBlock → (v'.ownBlock = v.ownBlock ∨ v'.ownBlock = some w.heap.size) → K (a.put o.dst v') w') : if Region.wanted o (yielded ops a.tmps) = true then Oper.wp P o a w K Q else E := by
  have hw : Region.wanted o (yielded ops a.tmps) = true := by simp [Region.wanted, hgd]
  rw [if_pos hw]
  obtain ⟨v', w', hrun, h2, h3, h5⟩ := run_app1 (P := P) (ty := o.type) u hf hown hq hle h63 hbase
  unfold Oper.wp execOp
  simp only [ho, resolve, invoke, builtin, Sem.run_bind, Sem.run_pure, Result.andThen_ok, List.map_toArray, List.map_cons, List.map_nil, hv, hx, hrun]
  exact h v' w' h2 h3 h5
/-- What is owned, without its last one. -/
theorem Ow.pop (h : Ow w base e n f v (xs ++ [y])) : ∃ b c, v = .slice (some ⟨b, 0, none⟩) (xs.length + 1) c ∧ Ow w base e n f (.slice (some ⟨b, 0, none⟩) xs.length c) xs ∧ xs.length + 1 ≤ c ∧ base ≤ b ∧ b < w.heap.size ∧ c ≤ maxLen ∧
    ∀ i, i < n → w.cell? ⟨b, xs.length * n + i, none⟩ = some (f y i) := by
  have hr := Ow.rw (d := y) h
  rcases h.2 with ⟨_, h0⟩ | ⟨b, c, cur, hv, hb, hg, hl, hm, hs, ht⟩
  · simp at h0
  · rw [List.length_append, List.length_singleton] at hv hl
    refine ⟨b, c, hv, ⟨flat_len xs, .inr ⟨b, c, cur, rfl, hb, hg, by omega, hm, hs, ?_⟩⟩, hl, hb, (Array.getElem?_eq_some_iff.1 hg).1, hm, fun i hi => ?_⟩
    · have h1 := congrArg (List.take (xs.length * n)) ht
      rw [List.take_take, List.length_append, List.length_singleton, Nat.add_mul, Nat.min_eq_left (by omega), flat_app, List.take_left' (flat_len xs)] at h1
      exact h1
    · obtain ⟨A, c', he, _, _, hx⟩ := hr
      obtain ⟨b', o, hA, _, _, hcell⟩ := hx (by simp)
      rw [hv] at he
      injection he with e1 _ _
      rw [hA] at e1
      cases e1
      have := hcell xs.length i (by simp) hi
      rw [Nat.zero_add] at this
      rw [this]
      simp [List.getD]
theorem Ow.blk (h : Ow w base e n f v xs) {k : Nat} (hk : v.ownBlock = some k) : base ≤ k ∧ k < w.heap.size ∧ ∃ cs, w.heap[k]? = some (.cells cs e (0, 0)) := by
  rcases h.2 with ⟨rfl, _⟩ | ⟨g, cap, cur, rfl, hb, hg, _⟩
  · cases hk
  · cases hk
    exact ⟨hb, (Array.getElem?_eq_some_iff.1 hg).1, _, hg⟩
theorem Ow.kpx {S : Nat → Prop} {w' : World} (h : Ow w base e n f v xs) (k : Kp S w w') (hs : ∀ i, v.ownBlock = some i → ¬ S i) : Ow w' base e n f v xs := by
  refine ⟨h.1, ?_⟩
  rcases h.2 with hn | ⟨g, cap, cur, rfl, hb, hg, r⟩
  · exact .inl hn
  · exact .inr ⟨g, cap, cur, rfl, hb, (k.block g (Array.getElem?_eq_some_iff.1 hg).1 (hs g rfl)).trans hg, r⟩
end

def mkD (D : Nat) : Deferred := { target := .collected D, args := #[] }
theorem marks_taken {F : Fence} {n : Nat} {fn : Func} {tmps : Array Value} {R : Ending → World → Prop} : ∀ (ms : List Nat) (w : World), ms.Nodup → (∀ D ∈ ms, w.heap[D]? = some (.deferred (some []))) →
    (∀ w', Kp (fun k => k ∈ ms) w w' → LeavesInM F n P fn tmps R [] .returning w') → LeavesInM F n P fn tmps R (ms.map mkD) .returning w
  | [], w, _, _, h => h w (Kp.refl _ w)
  | D :: ms, w, hn, hD, h => by
    rw [List.nodup_cons] at hn
    have k := (Kp.put1 D w (.deferred none)).mono (T := fun k => k ∈ D :: ms) fun i _ e => by
      have e : i = D := e
      rw [e]
      exact List.mem_cons_self
    refine ⟨by simp, .inl ⟨D, _, rfl, run_takeDeferred (hD D List.mem_cons_self), marks_taken ms _ hn.2 (fun D' h' => ?_) fun w' k' => h w' (k.trans (k'.mono fun i _ e => List.mem_cons_of_mem _ e))⟩⟩
    exact (World.putObj_heap_other (by rintro rfl; exact hn.1 h')).trans (hD D' (List.mem_cons_of_mem _ h'))
end

section
variable {α : Type} {n : Nat} {f : α → Nat → Value} {d : α} {w : World} {base : Nat} {e : TypeId} {v : Value} {xs : List α}
theorem Ow.form2 (h : Ow w base e n f v xs) (h0 : 0 < xs.length) : ∃ b c, v = .slice (some ⟨b, 0, none⟩) xs.length c ∧ base ≤ b ∧ b < w.heap.size ∧ xs.length ≤ c ∧ c ≤ maxLen := by
  rcases h.2 with ⟨_, h1⟩ | ⟨g, cap, cur, rfl, hb, hg, hl, hm, _⟩
  · omega
  · exact ⟨g, cap, rfl, hb, (Array.getElem?_eq_some_iff.1 hg).1, hl, hm⟩
theorem Ow.cellAt {b m c j i : Nat} (h : Ow w base e n f (.slice (some ⟨b, 0, none⟩) m c) xs) (hj : j < xs.length) (hi : i < n) : w.cell? ⟨b, j * n + i, none⟩ = some (f (xs.getD j d) i) := by
  have hlt : j * n + i < xs.length * n := by
    have : (j + 1) * n ≤ xs.length * n := Nat.mul_le_mul_right _ hj
    rw [Nat.add_mul, Nat.one_mul] at this
    omega
  rcases h.2 with ⟨h1, _⟩ | ⟨g, cap, cur, h1, _⟩
  · cases h1
  · have := World.ownsRow.cellAt (h1 ▸ h) (j * n + i) hlt
    injection h1 with e1 _ _
    cases e1
    rw [this]
    exact flat_at xs hj hi
end

theorem take_s {α : Type} (l : List α) {k : Nat} (h : k < l.length) (d : α) : l.take (k + 1) = l.take k ++ [l.getD k d] := by
  rw [List.take_add_one, List.getElem?_eq_getElem h]
  simp [List.getD, h]
theorem list_split {α : Type} (l : List α) {k : Nat} (h : k < l.length) (d : α) : l = l.take k ++ l.getD k d :: l.drop (k + 1) := by
  conv => lhs; rw [← List.take_append_drop k l, List.drop_eq_getElem_cons h]
  simp [List.getD, h]
theorem SeqO.kp {α : Type} {P : Program} {g : Nat} {lb : Array Value} {encs : α → Array Value} {Rd : Nat → Prop} {xs : List α} {w w' : World} (h : SeqO P g lb encs Rd xs w) (k : Kp (Nt Rd) w w') : SeqO P g lb encs Rd xs w' :=
  fun l J Jx W hW => h l J Jx W (k.trans hW)
theorem Ow.rwp {α : Type} {n : Nat} {f : α → Nat → Value} {d : α} {w : World} {base : Nat} {e : TypeId} {v : Value} {xs : List α} (h : Ow w base e n f v xs) : Rw n f d w (fun i => base ≤ i ∧ i < w.heap.size) v xs := by
  obtain ⟨A, c, rfl, h1, h2, h3⟩ := Ow.rw (d := d) h
  refine ⟨A, c, rfl, h1, h2, fun h0 => ?_⟩
  obtain ⟨b, o, rfl, g1, _, g3⟩ := h3 h0
  obtain ⟨hb, hl, _⟩ := h.blk (k := b) rfl
  exact ⟨b, o, rfl, g1, ⟨hb, hl⟩, g3⟩
end Go.Proofs.YtggmdgdgljlddaaGreat
