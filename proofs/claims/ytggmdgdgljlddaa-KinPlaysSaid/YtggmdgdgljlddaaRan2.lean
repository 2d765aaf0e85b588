/-
  A region that draws its order in a round, whose head reads or calls quietly, and whose tail is walked in the fence (so it may call yield); a scope with one label by a measure that no act shows. Nothing of a program is named here.
-/
import Derived.Test.YtggmdgdgljlddaaRan
import Derived.Test.YtggmdgdgljlddaaInRound
import Derived.StillTailTactics
namespace Go.Proofs.Ytggmdgdgljlddaa
open Go.RowKit

section
variable {P : Program}
theorem opIn_of_op {ops : Array Oper} {Q : Exit → Act → World → Prop} {i : Nat} {K : Act → World → Prop} {a : Act} {w : World} (l n : Nat) (hd : noDefer ops = true) (hL : ¬ LetsOut Q) (h : wpOp P ops Q i K a w) : wpOpIn (Fence.wide.inRound l) n P ops Q i K a w := by
  unfold wpOp at h
  unfold wpOpIn
  cases ho : ops[i]? with
  | none => rw [ho] at h; exact h
  | some o =>
    rw [ho] at h
    dsimp only at h ⊢
    split at h
    · rename_i hw
      rw [if_pos hw]
      rcases h with h | h
      · exact op_in l n (noDefer_spec hd i o ho) h
      · exact absurd h.2 hL
    · rename_i hw
      rw [if_neg hw]
      exact ⟨fun _ _ => trivial, h⟩

theorem anyIn_head {ops : Array Oper} {Q : Exit → Act → World → Prop} {w : World} {n g : Nat} {L : Array Bool → Act → Prop} (l m : Nat) (hd : noDefer ops = true) (hL : ¬ LetsOut Q) (hg : ∀ listed a, L listed a → wpAnyIn (Fence.wide.inRound l) m P .any ops Q g listed a w) :
    ∀ (f : Nat) (listed : Array Bool) (a : Act), wpAnyL P .any ops w n L f listed a → wpAnyIn (Fence.wide.inRound l) m P .any ops Q (f + g) listed a w
  | 0, listed, a, h => by rw [Nat.zero_add]; exact hg _ _ h
  | f + 1, listed, a, h => by
    rw [show f + 1 + g = (f + g) + 1 by omega]
    exact ⟨fun h0 => absurd h0 h.1, fun i hi => opIn_of_op l m hd hL (wpOp_of_stOp (fun a' h' => anyIn_head l m hd hL hg f _ a' h') (h.2 i hi).2)⟩

theorem anyIn_seq {ops : Array Oper} {Q : Exit → Act → World → Prop} {F : Fence} {m : Nat} : ∀ (l : List Oper) (k : Nat) (listed : Array Bool) (a : Act) (w : World), (∀ j, l[j]? = ops[k + j]?) →
    Region.seqB .any ops l.length k listed = true → wpListIn F m P ops Q l a w → wpAnyIn F m P .any ops Q l.length listed a w
  | [], _, _, _, _, _, hB, h => ⟨by simpa [Region.seqB] using hB, h⟩
  | o :: l, k, listed, a, w, hl, hB, h => by
    have h0 : ops[k]? = some o := by simpa using (hl 0).symm
    simp only [List.length_cons, Region.seqB, Bool.and_eq_true, decide_eq_true_eq] at hB
    refine ⟨fun h1 => (by rw [hB.1] at h1; cases h1), fun i hi => ?_⟩
    rw [hB.1] at hi
    have hik : i = k := by simpa using hi
    subst hik
    have hw : wpOpIn F m P ops Q i (wpListIn F m P ops Q l) a w := by unfold wpOpIn; simp only [h0]; exact h
    exact wpOpIn_mono (fun a' w' h' => anyIn_seq l (i + 1) _ a' w' (fun j => by have := hl (j + 1); simpa [Nat.add_assoc, Nat.add_comm 1 j] using this) hB.2 h') hw

/-- A region that draws in a round: the head in the order of the text, quietly; then the rest, in the fence. -/
theorem region_fence_tail {Q : Exit → Act → World → Prop} {a : Act} {w : World} {l : List Oper} {l0 m id : Nat} (n : Nat) (hm : P.follows .mixedOrders = true) (hd : noDefer l.toArray = true) (hL : ¬ LetsOut Q) (hB : Region.lexTailB .any l.toArray n = true)
    (h : wpStill P l.toArray w.drew (fun a' => wpListIn (Fence.wide.inRound l0) m P l.toArray Q (l.drop n) a' w.drew) (l.take n) a) : (Code.region id l.toArray true).wpIn (Fence.wide.inRound l0) m P Q a w := by
  simp only [Region.lexTailB, Bool.and_eq_true, decide_eq_true_eq] at hB
  obtain ⟨⟨⟨⟨hsel, hn⟩, hs⟩, hc⟩, hlex⟩ := hB
  have hn' : n < l.length := by simpa using hn
  have htl : (l.take n).length = n := by simp; omega
  have hdl : (l.drop n).length = l.toArray.size - n := by simp
  have inv0 : HeadInv .any l.toArray n (Array.replicate l.toArray.size false) :=
    ⟨by simp, fun j oj _ hl => (by rw [getD_replicate_false] at hl; cases hl), fun t _ ht => getD_in (by simpa using ht) (getD_replicate_false _ _)⟩
  have H := wpAnyL_lex (md := .any) (g := l.toArray.size - n) hsel hs hc hn (l.take n) 0 _ a (fun j hj => by
    have hj' : j < n := by rw [htl] at hj; exact hj
    simp [hj']) (by simpa using htl) inv0 (by rw [htl]; exact hlex) h
  refine wpIn_region_any hm ?_
  have := anyIn_head (Q := Q) (g := l.toArray.size - n) l0 m hd hL (fun listed a' hL => by
    have := anyIn_seq (P := P) (Q := Q) (F := Fence.wide.inRound l0) (m := m) (l.drop n) n listed a' w.drew (fun j => by simp [List.getElem?_drop]) (by rw [hdl]; exact hL.1) hL.2
    rwa [hdl] at this) _ _ _ H
  rw [htl, show n + (l.toArray.size - n) = l.toArray.size by omega] at this
  exact this

theorem least_ex {p : Nat → Prop} (h : ∃ k, p k) : ∃ k, p k ∧ ∀ j, p j → k ≤ j := by
  obtain ⟨k, hk⟩ := h
  induction k using Nat.strongRecOn with
  | _ k ih =>
    by_cases h : ∃ j, j < k ∧ p j
    · obtain ⟨j, hj, hp⟩ := h
      exact ih j hj hp
    · exact ⟨k, hk, fun j hj => Nat.le_of_not_lt fun hlt => h ⟨j, hlt, hj⟩⟩

/-- A scope with one label, by what holds there with a number that every pass lowers. -/
theorem wp_scope_idx {a : Act} {w : World} {Q : Exit → Act → World → Prop} {c rest : Code} (l : Nat) (J : Nat → Act → World → Prop) (hf : findLabel c l = some (Code.skip.seq rest))
    (pass : ∀ k a w, J k a w → rest.wp P (Exit.jump l (fun a' w' => ∃ j, j < k ∧ J j a' w') Q) a w)
    (first : (∀ k a w, J k a w → rest.wp P (Exit.jump l (fun a' w' => ∃ j, J j a' w') Q) a w) → c.wp P (Exit.jump l (fun a' w' => ∃ j, J j a' w') Q) a w) : (Code.scope c).wp P Q a w := by
  obtain ⟨μ, hμ⟩ : ∃ μ : Act → World → Nat, ∀ a w, (∃ k, J k a w) → J (μ a w) a w ∧ ∀ k, J k a w → μ a w ≤ k := by
    classical
    refine ⟨fun a w => if h : ∃ k, J k a w then (least_ex h).choose else 0, fun a w h => ?_⟩
    simp only [dif_pos h]
    exact (least_ex h).choose_spec
  refine wp_scope_pass l (fun a w => ∃ k, J k a w) μ hf (fun a w h => ?_) fun h => first fun k a w hJ => h a w ⟨k, hJ⟩
  obtain ⟨h1, h2⟩ := hμ a w h
  refine Code.wp_mono (fun e a' w' he => ?_) (pass _ a w h1)
  cases e <;> simp only [Exit.jump] at he ⊢ <;> first | exact he | skip
  obtain ⟨e1, j, hj, hJ⟩ := he
  exact ⟨e1, ⟨j, hJ⟩, Nat.lt_of_le_of_lt ((hμ a' w' ⟨j, hJ⟩).2 j hJ) hj⟩
end
end Go.Proofs.Ytggmdgdgljlddaa
