/-
  slices.Backward at ints: the numbers of a row, the last one first.
-/
import Derived.Test.YtggmdgdgljlddaaNMem
import Derived.Test.YtggmdgdgljlddaaRan
import Derived.Test.YtggmdgdgljlddaaInRound
import Derived.Shelf.Abstract
import Derived.Shelf.RegionOpen
import Derived.WalkKit
import Derived.OwnWalkIn
import Derived.TacticsInMore
import Derived.LoopNIn
import Derived.LoopIn
import Derived.LoopTactic
namespace Go.Proofs.Ytggmdgdgljlddaa
open Go.RowKit Go.Shelf

attribute [local go_sem] Oper.semAt_some

theorem backward_any (v : Value) (hv : v.oneCell' = true) (w : World) :
    Calls Try.prog 33 #[v] w fun e w' => e = .returned (.func (.func 38) #[] #[.pointer (some ⟨w.heap.size, 0, none⟩)]) ∧ w' = w.alloc (.cells #[v] 37) := by
  go_enter Try.func33, Try.ntmps33
  go_wp2
  go_ret
  exact ⟨rfl, rfl⟩

/-- The steps of a slice, the last one first: so many of them. -/
def bk (fs : List Int) (m : Nat) : List (Nat × Int) := (List.range m).map fun i => (fs.length - 1 - i, fs.getD (fs.length - 1 - i) 0)
theorem bk_succ (fs : List Int) (m : Nat) : bk fs (m + 1) = bk fs m ++ [(fs.length - 1 - m, fs.getD (fs.length - 1 - m) 0)] := by simp [bk, List.range_succ]
theorem range_split {α : Type} (f : Nat → α) {m n : Nat} (h : m < n) : (List.range n).map f = (List.range m).map f ++ f m :: ((List.range n).drop (m + 1)).map f := by
  have e : List.range n = List.range m ++ m :: (List.range n).drop (m + 1) := by
    conv => lhs; rw [← List.take_append_drop m (List.range n)]
    rw [List.drop_eq_getElem_cons (by simpa using h), List.take_range, Nat.min_eq_left (Nat.le_of_lt h)]
    simp
  conv => lhs; rw [e]
  simp
theorem bk_split (fs : List Int) {m : Nat} (h : m < fs.length) : bk fs fs.length = bk fs m ++ (fs.length - 1 - m, fs.getD (fs.length - 1 - m) 0) :: ((List.range fs.length).drop (m + 1)).map fun i => (fs.length - 1 - i, fs.getD (fs.length - 1 - i) 0) := range_split _ h

/-- The steps, the last one first, to whatever body. -/
theorem backward_seq (B b c : Nat) (A : Option Addr) (fs : List Int) (w : World) (hB : B < w.heap.size) (hc : w.cell? ⟨B, 0, none⟩ = some (.slice A fs.length c)) (hb : 0 < fs.length → A = some ⟨b, 0, none⟩ ∧ b < w.heap.size)
    (hx : ∀ j i, j < fs.length → i < 1 → w.cell? ⟨b, j * 1 + i, none⟩ = some (.int .i64 (fs.getD j 0))) (hl : fs.length ≤ 1000000000) :
    SeqO Try.prog 38 #[.pointer (some ⟨B, 0, none⟩)] (fun x : Nat × Int => #[.int .i64 (x.1 : Int), Value.int .i64 x.2]) (fun k => k = B ∨ k = b) (bk fs fs.length) w := by
  intro l J Jx W hW hJ hJx hY h0
  refine (callsIn_wide (n := 5)).1 ?_
  refine callsIn_of_wp Try.func38 rfl trivial ?_ rfl
  simp only [Try.ntmps38, List.size_toArray, List.length_cons, List.length_nil, Nat.reduceAdd, Nat.reduceSub, Array.replicate_succ, Array.replicate_zero, List.push_toArray, List.append_toArray, List.nil_append, List.cons_append]
  have hcW : W.cell? ⟨B, 0, none⟩ = some (.slice A fs.length c) := (hW.cell (p := ⟨B, 0, none⟩) hB (fun h => h (.inl rfl))).trans hc
  have HC := hid hc
  have HX := hid hx
  clear hc hx
  gi_wp2
  gi_loopw [3] (fun i wr => ∃ m : Nat, m ≤ fs.length ∧ i = .int .i64 ((fs.length : Int) - 1 - (m : Int)) ∧ Kp (Nt fun k => k = B ∨ k = b) w wr ∧ J No (bk fs m) wr) (fun i _ => (intOf i + 1).toNat)
  case atStart => exact ⟨0, by omega, by simp, hW, h0⟩
  case round =>
    clear hcW
    obtain ⟨m, hm, rfl, hk, hj⟩ := hrel
    have hcW : wr.cell? ⟨B, 0, none⟩ = some (.slice A fs.length c) := (hk.cell (p := ⟨B, 0, none⟩) hB (fun h => h (.inl rfl))).trans HC.out
    by_cases hlt : m < fs.length
    · obtain ⟨rfl, hbl⟩ := hb (by omega)
      have e1 := (hk.cell (p := ⟨b, (fs.length - 1 - m) * 1 + 0, none⟩) hbl (fun h => h (.inr rfl))).trans (HX.out (fs.length - 1 - m) 0 (by omega) (by omega))
      have HS := hid (bk_succ fs m)
      have HB := hid (bk_split fs hlt)
      obtain ⟨fn, tmps, assign, body, hy, hR⟩ := hY _ _ _ _ wr (bk_split fs hlt) hj
      have hcast : (fs.length : Int) - 1 - (m : Int) = ((fs.length - 1 - m : Nat) : Int) := by omega
      have hjl : fs.length - 1 - m < fs.length := by omega
      dsimp only at hy
      simp only [Nat.mul_one, Nat.add_zero] at e1
      generalize fs.getD (fs.length - 1 - m) 0 = f at hy e1 HS HB hR
      rw [hcast]
      generalize hq : fs.length - 1 - m = q at hy e1 HS HB hR hcast hjl ⊢
      have HQ := hid hq
      have HC2 := hid hcast
      clear hq hcast
      gi_wp2
      refine (RoundIn.any hR).mono ?_
      rintro e W3 (⟨rfl, hJ3, hk3⟩ | ⟨rfl, hx3, _⟩)
      · clear hcW e1 hy
        gi_wp2
        go_roundw
        case rel => exact ⟨m + 1, by omega, by have := HC2.out; congr 1; omega, hk.trans (hk3.mono fun k _ h => h.2), by rw [HS.out]; exact hJ3⟩
        case measure => simp [intOf]
      · gi_wp2
        refine bodyPost_ret (results_none rfl _ _ _) rfl ?_
        exact ⟨⟨_, rfl⟩, .inr ⟨No, _, _, by rw [HB.out, List.append_assoc]; rfl, hx3⟩⟩
    · have : m = fs.length := by omega
      subst this
      have hneg : (fs.length : Int) - 1 - (fs.length : Int) = -1 := by omega
      rw [hneg]
      clear hcW hneg
      gi_wp2
      go_end0
      exact ⟨⟨_, rfl⟩, .inl ⟨No, hj⟩⟩
end Go.Proofs.Ytggmdgdgljlddaa
