/-
  append of one element onto what is owned; onto a row of ints in a block of its own.
-/
import Derived.Test.YtoeeighfjoplhaaLoRa
import Derived.Test.YtoeeighfjoplhaaLast
namespace Go.Proofs.Ytoeeighfjoplhaa
open Go.RowKit

section
variable {P : Program}
section
variable {α : Type} {n bytes : Nat} {z : Value} {f : α → Nat → Value} {t e : TypeId} {base : Nat} {xs : List α} {y : α} {v : Value} {w : World}
/-- append of one element onto what is owned. -/
theorem run_app1 {ty : TypeId} (u : Us P t e n bytes z) (hf : ∀ x i, (f x i).oneCell' = true) (hown : Ow w base e n f v xs) {q : Nat} (hq : ∀ i, i < n → w.cell? ⟨q, i, none⟩ = some (f y i))
    (hle : (xs.length + 1) * bytes ≤ 140737488355328) (h63 : xs.length + 1 ≤ maxLen) (hbase : base ≤ w.heap.size) :
    ∃ v' w', (Builtin.append_ #[t, t] ty #[v, .slice (some ⟨q, 0, none⟩) 1 1]).run P w = .ok v' w' ∧ Ow w' base e n f v' (xs ++ [y]) ∧ w.grownBy w' v.ownBlock ∧ (v'.ownBlock = v.ownBlock ∨ v'.ownBlock = some w.heap.size) := by
  obtain ⟨i, hi, hz, hs, hb⟩ := info_parts u.info
  have hc : ∀ j u, (flat n f [y])[j]? = some u → w.cell? ((⟨q, 0, none⟩ : Addr).add j) = some u := by
    intro j u hu
    obtain ⟨k, i, hk, hi, rfl, rfl⟩ := flat_get (d := y) [y] hu
    have hk0 : k = 0 := by simpa using hk
    subst hk0
    have ha : (⟨q, 0, none⟩ : Addr).add (0 * n + i) = ⟨q, i, none⟩ := by unfold Addr.add; split <;> simp_all
    rw [ha, hq i hi]
    rfl
  obtain ⟨v', w', hrun, h2, h3, _, h5⟩ := run_append_own_at (P := P) w base t ty e i z n bytes u.un hi hz hs hb u.zero u.pos v xs.length _ hown ⟨q, 0, none⟩ 1 1 (flat n f [y]) (flat_len [y]) hc (flat_one hf [y]) h63 hle hbase
  refine ⟨v', w', hrun, ?_, h3, h5⟩
  unfold Ow
  rw [List.length_append, flat_app]
  exact h2
theorem step_app1 (u : Us P t e n bytes z) (hf : ∀ x i, (f x i).oneCell' = true) {ops : Array Oper} {o : Oper} {a : Act} {K : Act → World → Prop} {Q : Exit → Act → World → Prop} {E : Prop} (hgd : o.guard = none) (s x : Operand)
    (ho : o.op = .call { callee := .builtin .append, args := #[s, x], argTypes := #[t, t] }) {q : Nat} (hv : a.eval s = v) (hown : Ow w base e n f v xs) (hx : a.eval x = .slice (some ⟨q, 0, none⟩) 1 1) (hq : ∀ i, i < n → w.cell? ⟨q, i, none⟩ = some (f y i))
    (hle : (xs.length + 1) * bytes ≤ 140737488355328) (h63 : xs.length + 1 ≤ maxLen) (hbase : base ≤ w.heap.size)
    (h : ∀ v' w', Ow w' base e n f v' (xs ++ [y]) → w.grownBy w' v.ownBlock → (v'.ownBlock = v.ownBlock ∨ v'.ownBlock = some w.heap.size) → K (a.put o.dst v') w') : if Region.wanted o (yielded ops a.tmps) = true then Oper.wp P o a w K Q else E := by
  have hw : Region.wanted o (yielded ops a.tmps) = true := by simp [Region.wanted, hgd]
  rw [if_pos hw]
  obtain ⟨v', w', hrun, h2, h3, h5⟩ := run_app1 (P := P) (ty := o.type) u hf hown hq hle h63 hbase
  unfold Oper.wp execOp
  simp only [ho, resolve, invoke, builtin, Sem.run_bind, Sem.run_pure, Result.andThen_ok, List.map_toArray, List.map_cons, List.map_nil, hv, hx, hrun]
  exact h v' w' h2 h3 h5
/-- What is owned, without its last one. -/
theorem Ow.pop (h : Ow w base e n f v (xs ++ [y])) : ∃ b c, v = .slice (some ⟨b, 0, none⟩) (xs.length + 1) c ∧ Ow w base e n f (.slice (some ⟨b, 0, none⟩) xs.length c) xs ∧ xs.length + 1 ≤ c ∧ base ≤ b ∧ b < w.heap.size ∧ c ≤ maxLen ∧
    ∀ i, i < n → w.cell? ⟨b, xs.length * n + i, none⟩ = some (f y i) := by
  have hr := Ow.rw (d := y) h
  rcases h.2 with ⟨_, h0⟩ | ⟨b, c, cur, hv, hb, hg, hl, hm, hs, ht⟩
  · simp at h0
  · rw [List.length_append, List.length_singleton] at hv hl
    refine ⟨b, c, hv, ⟨flat_len xs, .inr ⟨b, c, cur, rfl, hb, hg, by omega, hm, hs, ?_⟩⟩, hl, hb, (Array.getElem?_eq_some_iff.1 hg).1, hm, fun i hi => ?_⟩
    · have h1 := congrArg (List.take (xs.length * n)) ht
      rw [List.take_take, List.length_append, List.length_singleton, Nat.add_mul, Nat.min_eq_left (by omega), flat_app, List.take_left' (flat_len xs)] at h1
      exact h1
    · obtain ⟨A, c', he, _, _, hx⟩ := hr
      obtain ⟨b', o, hA, _, _, hcell⟩ := hx (by simp)
      rw [hv] at he
      injection he with e1 _ _
      rw [hA] at e1
      cases e1
      have := hcell xs.length i (by simp) hi
      rw [Nat.zero_add] at this
      rw [this]
      simp [List.getD]
theorem Ow.blk (h : Ow w base e n f v xs) {k : Nat} (hk : v.ownBlock = some k) : base ≤ k ∧ k < w.heap.size ∧ ∃ cs, w.heap[k]? = some (.cells cs e (0, 0)) := by
  rcases h.2 with ⟨rfl, _⟩ | ⟨g, cap, cur, rfl, hb, hg, _⟩
  · cases hk
  · cases hk
    exact ⟨hb, (Array.getElem?_eq_some_iff.1 hg).1, _, hg⟩
theorem Ow.kpx {S : Nat → Prop} {w' : World} (h : Ow w base e n f v xs) (k : Kp S w w') (hs : ∀ i, v.ownBlock = some i → ¬ S i) : Ow w' base e n f v xs := by
  refine ⟨h.1, ?_⟩
  rcases h.2 with hn | ⟨g, cap, cur, rfl, hb, hg, r⟩
  · exact .inl hn
  · exact .inr ⟨g, cap, cur, rfl, hb, (k.block g (Array.getElem?_eq_some_iff.1 hg).1 (hs g rfl)).trans hg, r⟩
end
end
theorem usI : Us Try.prog 24 3 1 8 (.int .i64 0) := ⟨by kernel_rfl, by kernel_rfl, rfl, by decide⟩
def cI (x : Int) (_ : Nat) : Value := .int .i64 x
theorem flat_int (ks : List Int) : flat 1 cI ks = ks.map (Value.int .i64) := by
  induction ks with
  | nil => rfl
  | cons x l ih => simp only [flat, ih, List.map_cons]; rfl
section
variable {w : World} {b : Option Nat} {n c : Nat} {ks : List Int}
theorem RowI.ow (h : RowI w b n c ks) {base : Nat} (hb : ∀ k, b = some k → base ≤ k) : Ow w base 3 1 cI (gsl b n c) ks := by
  obtain ⟨h1, h2, h3, h4⟩ := h
  subst h1
  unfold Ow
  rw [flat_int]
  refine ⟨by simp, ?_⟩
  cases b with
  | none =>
    have h4 : c = 0 := h4
    exact .inl ⟨by unfold gsl ga; rw [show ks.length = 0 by omega, h4]; rfl, by omega⟩
  | some k =>
    obtain ⟨cs, hk, hs, hc⟩ := h4
    refine .inr ⟨k, c, cs, rfl, hb k rfl, hk, h2, h3, by omega, ?_⟩
    refine List.ext_getElem? fun j => ?_
    rw [Nat.mul_one, List.getElem?_map]
    by_cases hj : j < ks.length
    · rw [List.getElem?_take_of_lt hj, Array.getElem?_toList, hc j hj]
      simp [List.getD, hj]
    · rw [List.getElem?_eq_none (by rw [List.length_take]; omega), List.getElem?_eq_none (by omega)]
      rfl
theorem RowI.of_ow {base : Nat} {v : Value} (h : Ow w base 3 1 cI v ks) : ∃ b c, v = gsl b ks.length c ∧ RowI w b ks.length c ks ∧ ∀ k, b = some k → base ≤ k := by
  unfold Ow at h
  rw [flat_int] at h
  exact RowI.of_own h rfl
/-- append of one int onto a row, in a region that draws. -/
theorem step_row {ops : Array Oper} {o : Oper} {a : Act} {K : Act → World → Prop} {Q : Exit → Act → World → Prop} {E : Prop} (hgd : o.guard = none) (s x : Operand) (ho : o.op = .call { callee := .builtin .append, args := #[s, x], argTypes := #[24, 24] })
    {q : Nat} {y : Int} (hv : a.eval s = gsl b n c) (hr : RowI w b n c ks) (hx : a.eval x = .slice (some ⟨q, 0, none⟩) 1 1) (hq : w.cell? ⟨q, 0, none⟩ = some (.int .i64 y)) (hl : ks.length ≤ 100000)
    (h : ∀ b' c' w', RowI w' b' (n + 1) c' (ks ++ [y]) → (b' = b ∨ b' = some w.heap.size) → Kp (fun i => b = some i) w w' → K (a.put o.dst (gsl b' (n + 1) c')) w') : if Region.wanted o (yielded ops a.tmps) = true then Oper.wp Try.prog o a w K Q else E := by
  have hn := hr.1
  have hob : (gsl b n c).ownBlock = b := by cases b <;> rfl
  refine step_app1 (base := 0) usI (fun _ _ => rfl) hgd s x ho (y := y) hv (hr.ow fun k _ => Nat.zero_le _) hx (fun i hi => by
    obtain rfl : i = 0 := by omega
    exact hq) (by omega) (by simp only [maxLen]; omega) (Nat.zero_le _) ?_
  intro v' w' o' k' p'
  obtain ⟨b', c', rfl, hr', _⟩ := RowI.of_ow o'
  have hl' : (ks ++ [y]).length = n + 1 := by rw [List.length_append, hn]; rfl
  rw [hl'] at hr' p' ⊢
  have hob' : (gsl b' (n + 1) c').ownBlock = b' := by cases b' <;> rfl
  rw [hob, hob'] at p'
  rw [hob] at k'
  exact h b' c' w' hr' p' ((Kp.refl (fun i => b = some i) w).grown k' fun k hk => .inl hk)
end
end Go.Proofs.Ytoeeighfjoplhaa
