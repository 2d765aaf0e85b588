/-
  The iterator: those, and what it gives to any body, for Has and for begins; begins itself.
-/
import Derived.Test.YtoeeighfjoplhaaMaskA
import Derived.RangeFuncNested
import Derived.RangeFuncBound
import Derived.RangeFuncCalls
import Derived.RangeFuncLeaves
import Derived.RangeFuncBox
import Derived.Shelf.Abstract
import Derived.Shelf.RegionOpen
import Derived.WalkKit
import Derived.OwnWalkIn
import Derived.TacticsInMore
import Derived.LoopNIn
import Derived.LoopIn
import Derived.Maps.AppendAt
namespace Go.Proofs.Ytoeeighfjoplhaa
open Go.RowKit Go.Shelf

attribute [local go_sem] Oper.semAt_some

/-- Whether a run begins at a core. -/
def bg (s : Nat) (c : Int) : Bool := isIn s c && !isIn s (c - 1)

/-- The cores for which p tells so, of the first k. -/
def cs (p : Nat → Bool) (k : Nat) : List (Fin 64) := ((List.finRange 64).take k).filter fun i => p i.val
theorem cs_zero (p : Nat → Bool) : cs p 0 = [] := rfl
theorem cs_succ (p : Nat → Bool) (k : Nat) (h : k < 64) : cs p (k + 1) = cs p k ++ (if p k then [⟨k, h⟩] else []) := by
  unfold cs
  rw [List.take_succ_eq_append_getElem (by rw [List.length_finRange]; exact h), List.filter_append, List.getElem_finRange]
  cases hp : p k <;> simp [hp]
theorem cs_len (p : Nat → Bool) (k : Nat) : (cs p k).length ≤ k := by
  unfold cs
  exact Nat.le_trans (List.length_filter_le _ _) (by rw [List.length_take]; omega)
theorem cs_pre (p : Nat → Bool) (k : Nat) (h : k < 64) (hp : p k = true) : cs p k ++ [⟨k, h⟩] <+: cs p 64 := by
  have h1 : cs p k ++ [⟨k, h⟩] = cs p (k + 1) := by rw [cs_succ p k h, if_pos hp]
  rw [h1]
  unfold cs
  rw [List.take_of_length_le (i := 64) (by rw [List.length_finRange]; omega)]
  exact List.IsPrefix.filter _ (List.take_prefix _ _)

/-- Block g is as it was. -/
def KpB (g : Nat) (a b : World) : Prop := b.heap[g]? = a.heap[g]?
theorem KpB.cell {g : Nat} {a b : World} (h : KpB g a b) (i : Nat) : b.cell? ⟨g, i, none⟩ = a.cell? ⟨g, i, none⟩ := World.cell?_of_block h

theorem those_any (v : Value) (hv : v.oneCell' = true) (w : World) :
    Calls Try.prog 37 #[v] w fun e w' => e = .returned (.func (.func 50) #[] #[.pointer (some ⟨w.heap.size, 0, none⟩)]) ∧ w' = w.alloc (.cells #[v] 51) := by
  go_enter Try.func37, Try.ntmps37
  go_wp2
  go_ret
  exact ⟨rfl, rfl⟩

set_option maxRecDepth 100000 in
set_option maxHeartbeats 1000000 in
theorem has_seq (n : Nat) (hn : 1 ≤ n) (s : Nat) (hs : U64 s) (l Bn : Nat) (J Jx : List (Fin 64) → World → Prop)
    (hY : ∀ pre x W, J pre W → pre.length < 64 → YieldAt Fence.wide (n - 1) Try.prog l #[.int .i64 (x.val : Int)] W fun e W' =>
      (e = .returned (.bool true) ∧ J (pre ++ [x]) W' ∧ KpB Bn W W') ∨ (e = .returned (.bool false) ∧ Jx (pre ++ [x]) W'))
    (W : World) (hB : W.cell? ⟨Bn, 0, none⟩ = some (.func (.func 27) #[.int .u64 (s : Int)] #[])) (h0 : J [] W) :
    CallsIn Fence.wide n Try.prog 50 #[.func (.yield l) #[] #[], .pointer (some ⟨Bn, 0, none⟩)] W fun e W' => (∃ v, e = .returned v) ∧
      ((∃ ys, ys = cs (fun i => isIn s (i : Int)) 64 ∧ J ys W') ∨ (∃ pre, pre <+: cs (fun i => isIn s (i : Int)) 64 ∧ Jx pre W')) := by
  refine callsIn_of_wp Try.func50 rfl trivial ?_ rfl
  simp only [Try.ntmps50, List.size_toArray, List.length_cons, List.length_nil, Nat.reduceAdd, Nat.reduceSub, Array.replicate_succ, Array.replicate_zero, List.push_toArray, List.append_toArray, List.nil_append, List.cons_append]
  gi_wp2
  gi_loopw [4] (fun i wr => ∃ k : Nat, k ≤ 64 ∧ i = .int .i64 (k : Int) ∧ wr.cell? ⟨Bn, 0, none⟩ = some (.func (.func 27) #[.int .u64 (s : Int)] #[]) ∧ J (cs (fun i => isIn s (i : Int)) k) wr)
    (fun i _ => 64 - (intOf i).toNat)
  case atStart => exact ⟨0, by omega, rfl, hB, h0⟩
  case round =>
    obtain ⟨k, hk, rfl, hc, hJ⟩ := hrel
    by_cases hlt : k < 64
    · have hlen := cs_len (fun i => isIn s (i : Int)) k
      have HS := hid (cs_succ (fun i => isIn s (i : Int)) k hlt)
      have HP := hid (cs_pre (fun i => isIn s (i : Int)) k hlt)
      obtain ⟨fn, tmps, assign, body, hy, hR⟩ := hY _ ⟨k, hlt⟩ wr hJ (by omega)
      dsimp only at hy
      have hki : (k : Int) < 64 := by omega
      have HB := hid hc
      cases hp : isIn s (k : Int) with
      | true =>
        rw [if_pos hp] at HS
        gi_wp2_with (refine ⟨trivial, ?_⟩; gi_at_call 27; refine (callsIn_wide.2 (has_any s (k : Int) _ hs)).mono ?_; rintro e w' ⟨rfl, rfl⟩)
        refine hR.mono ?_
        rintro e W3 (⟨rfl, hJ3, hk3⟩ | ⟨rfl, hx3⟩)
        · have hc3 := (hk3.cell 0).trans HB.out
          clear hc hJ hy
          gi_wp2
          go_roundw
          case rel => exact ⟨k + 1, by omega, by go_num, hc3, by rw [HS.out]; exact hJ3⟩
          case measure => simp [intOf]; omega
        · gi_wp2
          refine bodyPost_ret (results_none rfl _ _ _) rfl ?_
          exact ⟨⟨_, rfl⟩, .inr ⟨_, HP.out hp, hx3⟩⟩
      | false =>
        rw [if_neg (by rw [hp]; decide), List.append_nil] at HS
        gi_wp2_with (refine ⟨trivial, ?_⟩; gi_at_call 27; refine (callsIn_wide.2 (has_any s (k : Int) _ hs)).mono ?_; rintro e w' ⟨rfl, rfl⟩)
        refine ⟨fun _ h => (by cases h), ?_⟩
        gi_wp2
        go_roundw
        case rel => exact ⟨k + 1, by omega, by go_num, HB.out, by rw [HS.out]; exact hJ⟩
        case measure => simp [intOf]; omega
    · gi_wp2
      go_end0
      have : k = 64 := by omega
      subst this
      exact ⟨⟨_, rfl⟩, .inl ⟨_, rfl, hJ⟩⟩

theorem has_stops (n : Nat) (hn : 1 ≤ n) (s : Nat) (hs : U64 s) (Bn : Nat) (w : World) (hBn : Bn < w.heap.size) (hc : w.cell? ⟨Bn, 0, none⟩ = some (.func (.func 27) #[.int .u64 (s : Int)] #[])) :
    SeqStopsK Fence.wide n Try.prog 50 #[.pointer (some ⟨Bn, 0, none⟩)] (fun x : Fin 64 => #[Value.int .i64 (x.val : Int)]) (KpB Bn) (fun ys => ys = cs (fun i => isIn s (i : Int)) 64) (fun pre => pre <+: cs (fun i => isIn s (i : Int)) 64) 64 w := fun l J Jx W hW _ _ hY h0 =>
  has_seq n hn s hs l Bn J Jx hY W ((hW.cell (p := ⟨Bn, 0, none⟩) hBn).trans hc) h0

theorem KpB.trans {g : Nat} {a b c : World} (h : KpB g a b) (k : KpB g b c) : KpB g a c := Eq.trans k h
theorem KpB.put {g : Nat} {w : World} (hg : g < w.heap.size) (W : World) (l : Nat) (o o' : Obj) (hl : w.heap.size ≤ l) (_ : W.heap[l]? = some o) (_ : o.isCells = false) (_ : o.isWalk = false) : KpB g W (W.putObj l o') := by
  unfold KpB World.putObj
  simp [Array.getElem?_setIfInBounds]
  omega
end Go.Proofs.Ytoeeighfjoplhaa
