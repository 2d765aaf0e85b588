/-
  The hall in memory: its head, the rows of places.
-/
import Derived.Test.YtoeeighfjoplhaaLoAp
import Derived.Test.YtoeeighfjoplhaaLoC
import Derived.Test.YtoeeighfjoplhaaMaskA
namespace Go.Proofs.Ytoeeighfjoplhaa
open Go.RowKit

/-- A hall whose head lies at hb, with the seats' slice sv, and of each core k a row of places P k. -/
structure Hl (w : World) (Bd hb : Nat) (sv : Value) (bs : Nat → Option Nat) (cp : Nat → Nat) (P : Nat → List Int) : Prop where
  bx : ∃ cs, Blk w hb 64 cs ∧ cs[0]? = some sv ∧ ∀ k, k < 64 → cs[1 + k]? = some (gsl (bs k) (P k).length (cp k))
  rows : ∀ k, k < 64 → RowI w (bs k) (P k).length (cp k) (P k)
  ne : ∀ k, k < 64 → bs k ≠ some hb
  dis : ∀ j k, j < 64 → k < 64 → j ≠ k → ∀ b, bs j = some b → bs k ≠ some b
  lo : Bd ≤ hb
  los : ∀ k, k < 64 → ∀ b, bs k = some b → Bd ≤ b
section
variable {w w' : World} {Bd hb : Nat} {sv : Value} {bs : Nat → Option Nat} {cp : Nat → Nat} {P : Nat → List Int} {S : Nat → Prop}
theorem Hl.kp (h : Hl w Bd hb sv bs cp P) (k : Kp S w w') (h1 : ¬ S hb) (h2 : ∀ k, k < 64 → ∀ b, bs k = some b → ¬ S b) : Hl w' Bd hb sv bs cp P := by
  obtain ⟨cs, hb', h0, hc⟩ := h.bx
  exact ⟨⟨cs, hb'.kp k h1, h0, hc⟩, fun j hj => (h.rows j hj).kp k (h2 j hj), h.ne, h.dis, h.lo, h.los⟩
theorem Hl.kp0 (h : Hl w Bd hb sv bs cp P) (k : Kp No w w') : Hl w' Bd hb sv bs cp P := h.kp k id fun _ _ _ _ => id
theorem Hl.below (h : Hl w Bd hb sv bs cp P) (k : Kp S w w') (hs : ∀ i, Bd ≤ i → ¬ S i) : Hl w' Bd hb sv bs cp P := h.kp k (hs _ h.lo) fun j hj b hb => hs _ (h.los j hj b hb)
theorem Hl.head (h : Hl w Bd hb sv bs cp P) : w.cell? ⟨hb, 0, none⟩ = some sv := by
  obtain ⟨cs, hb', h0, hc⟩ := h.bx
  rw [hb'.cell]
  exact h0
theorem Hl.cell (h : Hl w Bd hb sv bs cp P) {k : Nat} (hk : k < 64) : w.cell? ⟨hb, 1 + k, none⟩ = some (gsl (bs k) (P k).length (cp k)) := by
  obtain ⟨cs, hb', h0, hc⟩ := h.bx
  rw [hb'.cell]
  exact hc k hk
theorem Hl.frozen (h : Hl w Bd hb sv bs cp P) (j : Nat) : w.frozen? ⟨hb, j, none⟩ = false := by
  obtain ⟨cs, hb', h0, hc⟩ := h.bx
  exact hb'.frozen j
theorem Hl.lt (h : Hl w Bd hb sv bs cp P) : hb < w.heap.size := by
  obtain ⟨cs, hb', h0, hc⟩ := h.bx
  exact hb'.lt
def upd {α : Type} (f : Nat → α) (k : Nat) (x : α) : Nat → α := fun j => if j = k then x else f j
theorem upd_at {α : Type} (f : Nat → α) (k : Nat) (x : α) : upd f k x k = x := by unfold upd; rw [if_pos rfl]
theorem upd_ne {α : Type} (f : Nat → α) {k j : Nat} (x : α) (h : j ≠ k) : upd f k x j = f j := by unfold upd; rw [if_neg h]
/-- One row is another one, in its block or in a new one: nothing is laid into the head yet. -/
theorem Hl.part (h : Hl w Bd hb sv bs cp P) {k : Nat} (hk : k < 64) (kk : Kp (fun i => bs k = some i) w w') : (∃ cs, Blk w' hb 64 cs ∧ cs[0]? = some sv ∧ ∀ k, k < 64 → cs[1 + k]? = some (gsl (bs k) (P k).length (cp k))) ∧ ∀ j, j < 64 → j ≠ k → RowI w' (bs j) (P j).length (cp j) (P j) := by
  obtain ⟨cs, hb', h0, hc⟩ := h.bx
  exact ⟨⟨cs, hb'.kp kk (h.ne k hk), h0, hc⟩, fun j hj hjk => (h.rows j hj).kp kk fun b hb e => h.dis k j hk hj (fun e => hjk e.symm) b e hb⟩
/-- .. and the head's cell tells of it. -/
theorem Hl.set (h : Hl w Bd hb sv bs cp P) {k : Nat} (hk : k < 64) (kk : Kp (fun i => bs k = some i) w w') {b' : Option Nat} {c' : Nat} {ks : List Int} (hr : RowI w' b' ks.length c' ks) (hb' : b' = bs k ∨ ∀ j, b' = some j → w.heap.size ≤ j) :
    Hl (w'.setCell ⟨hb, 1 + k, none⟩ (gsl b' ks.length c')) Bd hb sv (upd bs k b') (upd cp k c') (upd P k ks) := by
  obtain ⟨⟨cs, hx, h0, hc⟩, ho⟩ := h.part hk kk
  have hlt := h.lt
  have hnb : b' ≠ some hb := by
    rcases hb' with e | e
    · rw [e]; exact h.ne k hk
    · intro e2
      have := e _ e2
      omega
  have ks1 := Kp.set1 hb (1 + k) w' (gsl b' ks.length c')
  refine ⟨⟨_, hx.put (1 + k) _, ?_, fun j hj => ?_⟩, fun j hj => ?_, fun j hj => ?_, fun i j hi hj hij b hbi => ?_, h.lo, fun j hj b hbj => ?_⟩
  · rw [Array.getElem?_setIfInBounds_ne (by omega)]
    exact h0
  · by_cases e : j = k
    · subst e
      have hsz : 1 + j < cs.size := (Array.getElem?_eq_some_iff.1 (hc j hj)).1
      rw [Array.getElem?_setIfInBounds_self, upd_at, upd_at, upd_at]
      simp [hsz]
    · rw [Array.getElem?_setIfInBounds_ne (by omega), upd_ne _ _ e, upd_ne _ _ e, upd_ne _ _ e]
      exact hc j hj
  · by_cases e : j = k
    · subst e
      rw [upd_at, upd_at, upd_at]
      exact hr.kp ks1 fun b hb e => hnb (by rw [hb]; exact congrArg some e)
    · rw [upd_ne _ _ e, upd_ne _ _ e, upd_ne _ _ e]
      exact (ho j hj e).kp ks1 fun b hb e2 => h.ne j hj (by rw [hb]; exact congrArg some e2)
  · by_cases e : j = k
    · subst e; rw [upd_at]; exact hnb
    · rw [upd_ne _ _ e]; exact h.ne j hj
  · have old : ∀ m, m < 64 → ∀ b, bs m = some b → b < w.heap.size := fun m hm b hb => by
      have := h.rows m hm
      rw [hb] at this
      exact this.lt
    by_cases e : i = k
    · subst e
      rw [upd_at] at hbi
      rw [upd_ne _ _ (fun e => hij e.symm)]
      intro e2
      rcases hb' with q | q
      · exact h.dis i j hi hj hij b (q ▸ hbi) e2
      · have := q _ hbi
        have := old j hj b e2
        omega
    · rw [upd_ne _ _ e] at hbi
      by_cases e3 : j = k
      · subst e3
        rw [upd_at]
        intro e2
        rcases hb' with q | q
        · exact h.dis i j hi hj hij b hbi (q ▸ e2)
        · have := q _ e2
          have := old i hi b hbi
          omega
      · rw [upd_ne _ _ e3]
        exact h.dis i j hi hj hij b hbi
  · by_cases e : j = k
    · subst e
      rw [upd_at] at hbj
      rcases hb' with q | q
      · exact h.los j hj b (q ▸ hbj)
      · have := q _ hbj
        have := h.lo
        omega
    · rw [upd_ne _ _ e] at hbj
      exact h.los j hj b hbj
/-- A row is put in order in its own block: the head's cell stays. -/
theorem Hl.sorted (h : Hl w Bd hb sv bs cp P) {k : Nat} (hk : k < 64) {ks : List Int} (hl : ks.length = (P k).length) (kk : Kp (fun i => bs k = some i) w w') (hr : RowI w' (bs k) (P k).length (cp k) ks) : Hl w' Bd hb sv bs cp (upd P k ks) := by
  obtain ⟨⟨cs, hx, h0, hc⟩, ho⟩ := h.part hk kk
  refine ⟨⟨cs, hx, h0, fun j hj => ?_⟩, fun j hj => ?_, h.ne, h.dis, h.lo, h.los⟩
  · by_cases e : j = k
    · subst e
      rw [upd_at, hl]
      exact hc j hj
    · rw [upd_ne _ _ e]
      exact hc j hj
  · by_cases e : j = k
    · subst e
      rw [upd_at, hl]
      exact hr
    · rw [upd_ne _ _ e]
      exact ho j hj e
end
/-- The places of core k's seats among the first n, in the order of the seats. -/
def plcs (ss : List St) (k n : Nat) : List Int := List.map (fun i : Nat => (i : Int)) ((List.range n).filter fun i => decide ((ss.getD i st0).core = (k : Int)))
theorem plcs_zero (ss : List St) (k : Nat) : plcs ss k 0 = [] := rfl
theorem plcs_succ (ss : List St) (k n : Nat) : plcs ss k (n + 1) = plcs ss k n ++ (if (ss.getD n st0).core = (k : Int) then [(n : Int)] else []) := by
  unfold plcs
  rw [List.range_succ, List.filter_append, List.map_append]
  congr 1
  by_cases h : (ss.getD n st0).core = (k : Int)
  · rw [if_pos h, List.filter_cons_of_pos (by exact decide_eq_true h)]
    rfl
  · rw [if_neg h, List.filter_cons_of_neg (by rw [decide_eq_true_eq]; exact h)]
    rfl
theorem mem_plcs {ss : List St} {k n : Nat} {x : Int} : x ∈ plcs ss k n ↔ ∃ i : Nat, i < n ∧ x = (i : Int) ∧ (ss.getD i st0).core = (k : Int) := by
  unfold plcs
  rw [List.mem_map]
  constructor
  · rintro ⟨i, hi, e⟩
    obtain ⟨h1, h2⟩ := List.mem_filter.1 hi
    exact ⟨i, List.mem_range.1 h1, e.symm, of_decide_eq_true h2⟩
  · rintro ⟨i, h1, h2, h3⟩
    exact ⟨i, List.mem_filter.2 ⟨List.mem_range.2 h1, decide_eq_true h3⟩, h2.symm⟩
theorem plcs_rise (ss : List St) (k n : Nat) : (plcs ss k n).Pairwise (· < ·) := by
  unfold plcs
  rw [List.pairwise_map]
  exact List.Pairwise.imp (fun h => by omega) (List.Pairwise.filter _ List.pairwise_lt_range)
theorem plcs_len (ss : List St) (k n : Nat) : (plcs ss k n).length ≤ n := by
  unfold plcs
  rw [List.length_map]
  have := List.length_filter_le (fun i => decide ((ss.getD i st0).core = (k : Int))) (List.range n)
  rwa [List.length_range] at this
end Go.Proofs.Ytoeeighfjoplhaa
