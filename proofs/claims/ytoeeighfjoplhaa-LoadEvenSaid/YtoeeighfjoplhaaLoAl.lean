/-
  Contract: All of a set, as a row in a block of its own; what stands in it.
-/
import Derived.Test.YtoeeighfjoplhaaMaskD
import Derived.Test.YtoeeighfjoplhaaLoRa
namespace Go.Proofs.Ytoeeighfjoplhaa
open Go.RowKit Go.Shelf

attribute [local go_sem] Oper.semAt_some

theorem mem_alI {s : Nat} {x : Int} : x ∈ nums (al s) ↔ ∃ i : Nat, i < 64 ∧ x = (i : Int) ∧ s.testBit i = true := by
  unfold nums
  rw [List.mem_map]
  constructor
  · rintro ⟨i, hi, e⟩
    unfold al cs at hi
    rw [List.mem_filter] at hi
    have this : isIn s (i.val : Int) = true := hi.2
    rw [isIn_nat s i.val i.isLt] at this
    exact ⟨i.val, i.isLt, e.symm, this⟩
  · rintro ⟨i, hi, e, hb⟩
    refine ⟨⟨i, hi⟩, ?_, e.symm⟩
    unfold al cs
    rw [List.mem_filter]
    refine ⟨?_, ?_⟩
    · rw [List.take_of_length_le (by rw [List.length_finRange]; exact Nat.le_refl _)]
      exact List.mem_finRange _
    · show isIn s (i : Int) = true
      rw [isIn_nat s i hi]
      exact hb
theorem nums_rise (s : Nat) : (nums (al s)).Pairwise (· < ·) := by
  unfold nums al cs
  rw [List.pairwise_map]
  rw [List.take_of_length_le (by rw [List.length_finRange]; exact Nat.le_refl _)]
  refine List.Pairwise.filter _ (List.pairwise_iff_getElem.2 fun i j hi hj hij => ?_)
  simp only [List.getElem_finRange]
  show ((i : Nat) : Int) < ((j : Nat) : Int)
  omega
theorem nums_len64 (s : Nat) : (nums (al s)).length ≤ 64 := by
  rw [nums_len]
  exact cs_len _ _
set_option maxRecDepth 100000 in
set_option maxHeartbeats 2000000 in
theorem all_row (s : Nat) (w : World) (hs : U64 s) :
    Calls Try.prog 28 #[.int .u64 (s : Int)] w fun e w' => ∃ b n c, e = .returned (gsl b n c) ∧ RowI w' b n c (nums (al s)) ∧ (∀ k, b = some k → w.heap.size ≤ k) ∧ Kp No w w' := by
  obtain ⟨i0, hi, hz0, hz1, hz2⟩ := info_parts infoInt
  refine (callsIn_wide (n := 5)).1 ?_
  refine callsIn_of_wp_marks Try.func28 rfl trivial ?_ rfl
  simp only [Try.ntmps28, List.size_toArray, List.length_cons, List.length_nil, Nat.reduceAdd, Nat.reduceSub, Array.replicate_succ, Array.replicate_zero, List.push_toArray, List.append_toArray, List.nil_append, List.cons_append]
  gi_wp2_with (refine ⟨trivial, ?_⟩; gi_at_call 37; refine (callsIn_wide.2 (those_any _ rfl _)).mono ?_; rintro e w' ⟨rfl, rfl⟩)
  have b0 := Boxed.new w 24 (.slice none 0 0)
  have b1 := Boxed.new (w.alloc (.cells #[.slice none 0 0] 24)) 51 (.func (.func 27) #[.int .u64 (s : Int)] #[])
  rw [World.size_alloc] at b1
  have hB0 : Below w.heap.size w ((w.alloc (.cells #[.slice none 0 0] 24)).alloc (.cells #[(.func (.func 27) #[.int .u64 (s : Int)] #[])] 51)) := ((Below.refl _ w).alloc (Nat.le_refl _) _).alloc (by simp) _
  refine wpIn_rangeFunc_ownG rfl (by omega) (gf := 50) (lb := #[.pointer (some ⟨w.heap.size + 1, 0, none⟩)]) rfl trivial (enters_of Try.func50 (by kernel_rfl) rfl)
    (has_stops _ (by omega) s hs (w.heap.size + 1) _ (by simp) b1.cell) KpB.trans (KpB.put (by simp)) (Below.refl _ _) (fun _ => rfl)
    (fun pre W => ((∃ v, Boxed W w.heap.size 24 v ∧ W.ownsRow w.heap.size 3 1 v pre.length ((nums pre).map (Value.int .i64)) ∧ (v = .slice none 0 0 ↔ pre = [])) ∧ Boxed W (w.heap.size + 1) 51 (.func (.func 27) #[.int .u64 (s : Int)] #[])) ∧ Below w.heap.size w W)
    (fun _ _ _ => False)
    (OwnFrom.and (OwnFrom.and (Own.from (holdsRow_own w.heap.size w.heap.size 24 3 1 (fun (pre : List (Fin 64)) => pre.length) (fun pre => (nums pre).map (Value.int .i64)) (fun pre v => v = .slice none 0 0 ↔ pre = [])) _) (Own.from (boxed_own (w.heap.size + 1) 51 fun (_ : List (Fin 64)) => (.func (.func 27) #[.int .u64 (s : Int)] #[])) _)) (ownFrom_below (Nat.le_refl _) (by simp; omega)))
    (fun _ _ _ _ _ hs _ _ => hs)
    ⟨⟨⟨_, b0.alloc _, World.ownsRow_nil _ _ _ _, by simp⟩, b1⟩, hB0⟩
    (fun x => { tmps := #[.int .u64 (s : Int), undef, .slice none 0 0, .pointer (some ⟨w.heap.size, 0, none⟩), .int .i64 (x.val : Int), .int .u64 (s : Int), (.func (.func 27) #[.int .u64 (s : Int)] #[]), .func (.func 50) #[] #[.pointer (some ⟨w.heap.size + 1, 0, none⟩)], .int .i64 (x.val : Int), undef, undef, undef, undef, undef], defers := [] }) ?assign ?body ?done ?stop
  case assign =>
    intro l x W K hK
    gi_wp2
    exact hK
  case body =>
    rintro l pre x W ⟨⟨⟨v, hv, hrow, hnil⟩, hbn⟩, hB⟩ hlt
    have hc := hv.cell
    gi_wp2_with (gi_at_builtin; refine wpListIn_append_own _ rfl _ _ 24 rfl w.heap.size 3 i0 (.int .i64 0) 1 8 Try.underlying24 hi hz0 hz1 hz2 rfl (by decide) _ _ _ rfl (hrow.alloc _) ⟨W.heap.size, 0, none⟩ 1 1 [.int .i64 (x.val : Int)] rfl rfl (cell_one_new _ _ _) (by simp [Value.oneCell']) (by unfold maxLen; omega) (by omega) (by have := hB.size; simp; omega) ?_; intro v' w1 hown' hgrow _; obtain ⟨g', cap', rfl⟩ := ownsRow_succ hown'; obtain ⟨hv1, hv2, hr2, hk2, hb2⟩ := hv.appended (by decide) hrow hB.size (Nat.le_refl _) hown' hgrow; have hbn1 := ((hbn.alloc _).kept hgrow (hbn.not_row (by decide) hrow)).other (B' := w.heap.size) (by omega) (.slice (some ⟨g', 0, none⟩) (pre.length + 1) cap'); have hc1 := hv1.cell; have hf1 := hv1.frozen)
    exact ⟨hk2.from _, hbn1.trans (Eq.symm hbn), ⟨⟨_, hv2, by rw [nums_snoc]; simpa using hr2, by simp⟩, hbn1⟩, hB.trans hb2⟩
  case done =>
    rintro D ys W hD rfl ⟨⟨⟨v, hv, hrow, hnil⟩, _⟩, hB⟩ hK
    have hc := hv.cell
    gi_wp2
    refine ⟨by simp, .inl ⟨_, _, rfl, run_takeDeferred hK, ?_⟩⟩
    have hr3 := ownsRow_putObj hrow (.deferred none) hK rfl
    rw [← nums_len] at hr3
    obtain ⟨b', c', rfl, hr', hk'⟩ := RowI.of_own hr3 rfl
    exact ⟨_, results_tmp rfl _ _ _, b', _, c', rfl, hr', hk', kpOf (hB.trans (belowK_b (w := w) (Nat.le_refl _) W D _ _ (by simp at hD; omega) hK rfl rfl))⟩
  case stop =>
    rintro D c pre W _ _ h _
    exact h.elim
end Go.Proofs.Ytoeeighfjoplhaa
