/-
  Contracts: Len, Nth, First, All of a set.
-/
import Derived.Test.YtoeeighfjoplhaaMaskB
namespace Go.Proofs.Ytoeeighfjoplhaa
open Go.RowKit Go.Shelf

attribute [local go_sem] Oper.semAt_some

/-- The cores of a set, rising. -/
def al (s : Nat) : List (Fin 64) := cs (fun i => isIn s (i : Int)) 64
/-- The one with a number. -/
def nt (s : Nat) (k : Int) : Int := if 0 ≤ k then (((al s)[k.toNat]?).map fun i => (i.val : Int)).getD (-1) else -1

theorem kpOf {a w : World} (h : Below a.heap.size a w) : Kp No a w := ⟨h.os, h.tape, h.output, h.size, fun k hk _ => h.block k hk⟩
theorem KpB.set {g b : Nat} (W : World) (v : Value) (h : g ≠ b) : KpB g W (W.setCell ⟨b, 0, none⟩ v) := Below.heap_setCell W ⟨b, 0, none⟩ v g h
theorem KpB.refl (g : Nat) (W : World) : KpB g W W := rfl
theorem wrap_small {x : Int} (h0 : -1000 ≤ x) (h1 : x ≤ 1000) : wrap64 x = x := by unfold wrap64; omega

set_option maxRecDepth 100000 in
set_option maxHeartbeats 2000000 in
theorem len_any (s : Nat) (w : World) (hs : U64 s) :
    Calls Try.prog 26 #[.int .u64 (s : Int)] w fun e w' => e = .returned (.int .i64 ((al s).length : Nat)) ∧ Kp No w w' := by
  refine (callsIn_wide (n := 5)).1 ?_
  refine callsIn_of_wp_marks Try.func26 rfl trivial ?_ rfl
  simp only [Try.ntmps26, List.size_toArray, List.length_cons, List.length_nil, Nat.reduceAdd, Nat.reduceSub, Array.replicate_succ, Array.replicate_zero, List.push_toArray, List.append_toArray, List.nil_append, List.cons_append]
  gi_wp2_with (refine ⟨trivial, ?_⟩; gi_at_call 37; refine (callsIn_wide.2 (those_any _ rfl _)).mono ?_; rintro e w' ⟨rfl, rfl⟩)
  have b0 := Boxed.new w 3 (.int .i64 0)
  have b1 := Boxed.new (w.alloc (.cells #[.int .i64 0] 3)) 51 (.func (.func 27) #[.int .u64 (s : Int)] #[])
  rw [World.size_alloc] at b1
  have hB0 : Below w.heap.size w ((w.alloc (.cells #[.int .i64 0] 3)).alloc (.cells #[(.func (.func 27) #[.int .u64 (s : Int)] #[])] 51)) := ((Below.refl _ w).alloc (Nat.le_refl _) _).alloc (by simp) _
  refine wpIn_rangeFunc_ownF rfl (by omega) (gf := 50) (lb := #[.pointer (some ⟨w.heap.size + 1, 0, none⟩)]) rfl trivial (enters_of Try.func50 (by kernel_rfl) rfl)
    (has_stops _ (by omega) s hs (w.heap.size + 1) _ (by simp) b1.cell) KpB.trans (KpB.put (by simp)) (Below.refl _ _) (fun _ => rfl)
    (fun pre W => Boxed W w.heap.size 3 (.int .i64 (pre.length : Nat)) ∧ Below w.heap.size w W)
    (fun _ _ _ => False)
    (OwnFrom.and (Own.from (boxed_own w.heap.size 3 fun (pre : List (Fin 64)) => .int .i64 (pre.length : Nat)) _) (ownFrom_below (Nat.le_refl _) (by simp; omega)))
    (fun _ _ _ _ _ hs _ _ => hs)
    ⟨b0.alloc _, hB0⟩
    (fun x => { tmps := #[.int .u64 (s : Int), undef, .int .i64 0, .pointer (some ⟨w.heap.size, 0, none⟩), .int .u64 (s : Int), (.func (.func 27) #[.int .u64 (s : Int)] #[]), .func (.func 50) #[] #[.pointer (some ⟨w.heap.size + 1, 0, none⟩)], .int .i64 (x.val : Int), undef, undef, undef], defers := [] }) ?assign ?body ?done ?stop
  case assign =>
    intro l x W K hK
    gi_wp2
    simpa using hK
  case body =>
    rintro l pre x W ⟨hb, hB⟩ hlt
    have hc := hb.cell
    have hf := hb.frozen
    gi_wp2
    exact ⟨KeepsOthers.setCell _ _ _, KpB.set _ _ (by omega), by rw [List.length_append]; exact hb.set _, hB.setCell (p := ⟨w.heap.size, 0, none⟩) (Nat.le_refl _) _⟩
  case done =>
    rintro D ys W hD rfl ⟨hb, hB⟩ hK
    have hc := hb.cell
    gi_wp2
    refine ⟨by simp, .inl ⟨_, _, rfl, run_takeDeferred hK, ?_⟩⟩
    exact ⟨_, results_tmp rfl _ _ _, rfl, kpOf (hB.trans (belowK_b (w := w) (Nat.le_refl _) W D _ _ (by simp at hD; omega) hK rfl rfl))⟩
  case stop =>
    rintro D c pre W _ _ h _
    exact h.elim

end Go.Proofs.Ytoeeighfjoplhaa
