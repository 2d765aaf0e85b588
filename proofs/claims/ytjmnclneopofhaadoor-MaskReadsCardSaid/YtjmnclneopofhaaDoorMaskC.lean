/-
  Contracts: Len, Nth, First, All of a set.
-/
import Derived.Test.YtjmnclneopofhaaDoorMaskB
namespace Go.Proofs.YtjmnclneopofhaaDoor
open Go.RowKit Go.Shelf

attribute [local go_sem] Oper.semAt_some

/-- The cores of a set, rising. -/
def al (s : Nat) : List (Fin 64) := cs (fun i => isIn s (i : Int)) 64
/-- The one with a number. -/
def nt (s : Nat) (k : Int) : Int := if 0 ≤ k then (((al s)[k.toNat]?).map fun i => (i.val : Int)).getD (-1) else -1

theorem kpOf {a w : World} (h : Below a.heap.size a w) : Kp No a w := ⟨h.os, h.tape, h.output, h.size, fun k hk _ => h.block k hk⟩
theorem KpB.set {g b : Nat} (W : World) (v : Value) (h : g ≠ b) : KpB g W (W.setCell ⟨b, 0, none⟩ v) := Below.heap_setCell W ⟨b, 0, none⟩ v g h
theorem KpB.refl (g : Nat) (W : World) : KpB g W W := rfl
theorem wrap_small {x : Int} (h0 : -1000 ≤ x) (h1 : x ≤ 1000) : wrap64 x = x := by unfold wrap64; omega

set_option maxRecDepth 100000 in
set_option maxHeartbeats 2000000 in
theorem len_any (s : Nat) (w : World) (hs : U64 s) :
    Calls Tryd.prog 21 #[.int .u64 (s : Int)] w fun e w' => e = .returned (.int .i64 ((al s).length : Nat)) ∧ Kp No w w' := by
  refine (callsIn_wide (n := 5)).1 ?_
  refine callsIn_of_wp_marks Tryd.func21 rfl trivial ?_ rfl
  simp only [Tryd.ntmps21, List.size_toArray, List.length_cons, List.length_nil, Nat.reduceAdd, Nat.reduceSub, Array.replicate_succ, Array.replicate_zero, List.push_toArray, List.append_toArray, List.nil_append, List.cons_append]
  gi_wp2_with (refine ⟨trivial, ?_⟩; gi_at_call 33; refine (callsIn_wide.2 (those_any _ rfl _)).mono ?_; rintro e w' ⟨rfl, rfl⟩)
  have b0 := Boxed.new w 3 (.int .i64 0)
  have b1 := Boxed.new (w.alloc (.cells #[.int .i64 0] 3)) 27 (.func (.func 13) #[.int .u64 (s : Int)] #[])
  rw [World.size_alloc] at b1
  have hB0 : Below w.heap.size w ((w.alloc (.cells #[.int .i64 0] 3)).alloc (.cells #[(.func (.func 13) #[.int .u64 (s : Int)] #[])] 27)) := ((Below.refl _ w).alloc (Nat.le_refl _) _).alloc (by simp) _
  refine wpIn_rangeFunc_ownF rfl (by omega) (gf := 39) (lb := #[.pointer (some ⟨w.heap.size + 1, 0, none⟩)]) rfl trivial (enters_of Tryd.func39 (by kernel_rfl) rfl)
    (has_stops _ (by omega) s hs (w.heap.size + 1) _ (by simp) b1.cell) KpB.trans (KpB.put (by simp)) (Below.refl _ _) (fun _ => rfl)
    (fun pre W => Boxed W w.heap.size 3 (.int .i64 (pre.length : Nat)) ∧ Below w.heap.size w W)
    (fun _ _ _ => False)
    (OwnFrom.and (Own.from (boxed_own w.heap.size 3 fun (pre : List (Fin 64)) => .int .i64 (pre.length : Nat)) _) (ownFrom_below (Nat.le_refl _) (by simp; omega)))
    (fun _ _ _ _ _ hs _ _ => hs)
    ⟨b0.alloc _, hB0⟩
    (fun x => { tmps := #[.int .u64 (s : Int), undef, .int .i64 0, .pointer (some ⟨w.heap.size, 0, none⟩), .int .u64 (s : Int), (.func (.func 13) #[.int .u64 (s : Int)] #[]), .func (.func 39) #[] #[.pointer (some ⟨w.heap.size + 1, 0, none⟩)], .int .i64 (x.val : Int), undef, undef, undef], defers := [] }) ?assign ?body ?done ?stop
  case assign =>
    intro l x W K hK
    gi_wp2
    simpa using hK
  case body =>
    rintro l pre x W ⟨hb, hB⟩ hlt
    have hc := hb.cell
    have hf := hb.frozen
    gi_wp2
    exact ⟨KeepsOthers.setCell _ _ _, KpB.set _ _ (by omega), by rw [List.length_append]; exact hb.set _, hB.setCell (p := ⟨w.heap.size, 0, none⟩) (Nat.le_refl _) _⟩
  case done =>
    rintro D ys W hD rfl ⟨hb, hB⟩ hK
    have hc := hb.cell
    gi_wp2
    refine ⟨by simp, .inl ⟨_, _, rfl, run_takeDeferred hK, ?_⟩⟩
    exact ⟨_, results_tmp rfl _ _ _, rfl, kpOf (hB.trans (belowK_b (w := w) (Nat.le_refl _) W D _ _ (by simp at hD; omega) hK rfl rfl))⟩
  case stop =>
    rintro D c pre W _ _ h _
    exact h.elim

set_option maxRecDepth 100000 in
set_option maxHeartbeats 2000000 in
theorem nth_any (s : Nat) (k : Int) (w : World) (hs : U64 s) :
    Calls Tryd.prog 22 #[.int .u64 (s : Int), .int .i64 k] w fun e w' => e = .returned (.int .i64 (nt s k)) ∧ Kp No w w' := by
  refine (callsIn_wide (n := 5)).1 ?_
  refine callsIn_of_wp_marks Tryd.func22 rfl trivial ?_ rfl
  simp only [Tryd.ntmps22, List.size_toArray, List.length_cons, List.length_nil, Nat.reduceAdd, Nat.reduceSub, Array.replicate_succ, Array.replicate_zero, List.push_toArray, List.append_toArray, List.nil_append, List.cons_append]
  gi_wp2_with (refine ⟨trivial, ?_⟩; gi_at_call 33; refine (callsIn_wide.2 (those_any _ rfl _)).mono ?_; rintro e w' ⟨rfl, rfl⟩)
  have b0 := Boxed.new w 3 (.int .i64 k)
  have b1 := Boxed.new (w.alloc (.cells #[.int .i64 k] 3)) 3 (.int .i64 0)
  have b2 := Boxed.new ((w.alloc (.cells #[.int .i64 k] 3)).alloc (.cells #[.int .i64 0] 3)) 3 (.int .i64 0)
  have b3 := Boxed.new (((w.alloc (.cells #[.int .i64 k] 3)).alloc (.cells #[.int .i64 0] 3)).alloc (.cells #[.int .i64 0] 3)) 27 (.func (.func 13) #[.int .u64 (s : Int)] #[])
  simp only [World.size_alloc] at b1 b2 b3
  have hB0 : Below w.heap.size w ((((w.alloc (.cells #[.int .i64 k] 3)).alloc (.cells #[.int .i64 0] 3)).alloc (.cells #[.int .i64 0] 3)).alloc (.cells #[(.func (.func 13) #[.int .u64 (s : Int)] #[])] 27)) := ((((Below.refl _ w).alloc (Nat.le_refl _) _).alloc (by simp) _).alloc (by simp; omega) _).alloc (by simp; omega) _
  refine wpIn_rangeFunc_ownF rfl (by omega) (gf := 39) (lb := #[.pointer (some ⟨w.heap.size + 1 + 1 + 1, 0, none⟩)]) rfl trivial (enters_of Tryd.func39 (by kernel_rfl) rfl)
    (has_stops _ (by omega) s hs (w.heap.size + 1 + 1 + 1) _ (by simp) b3.cell) KpB.trans (KpB.put (by simp)) (Below.refl _ _) (fun _ => rfl)
    (fun pre W => (((k < 0 ∨ (pre.length : Int) ≤ k) ∧ Boxed W w.heap.size 3 (.int .i64 k)) ∧ (Boxed W (w.heap.size + 1) 3 (.int .i64 0) ∧ Boxed W (w.heap.size + 1 + 1) 3 (.int .i64 (pre.length : Nat)))) ∧ Below w.heap.size w W)
    (fun c pre W => ((c = .ret ∧ (0 ≤ k ∧ pre.length = k.toNat + 1)) ∧ ∃ x : Fin 64, pre.getLast? = some x ∧ Boxed W (w.heap.size + 1) 3 (.int .i64 (x.val : Int))) ∧ Below w.heap.size w W)
    (OwnFrom.and (OwnFrom.and (OwnFrom.and (ownFrom_pure _ _) (Own.from (boxed_own w.heap.size 3 fun (_ : List (Fin 64)) => .int .i64 k) _)) (OwnFrom.and (Own.from (boxed_own (w.heap.size + 1) 3 fun (_ : List (Fin 64)) => .int .i64 0) _) (Own.from (boxed_own (w.heap.size + 1 + 1) 3 fun (pre : List (Fin 64)) => .int .i64 (pre.length : Nat)) _))) (ownFrom_below (Nat.le_refl _) (by simp; omega)))
    (fun c => OwnFrom.and (OwnFrom.and (ownFrom_pure _ _) (fun pre X Y row hs hg hr => by
      obtain ⟨x, hx, hb⟩ := hs
      exact ⟨x, hx, Own.from (boxed_own (w.heap.size + 1) 3 fun (_ : List (Fin 64)) => .int .i64 (x.val : Int)) _ pre X Y row hb hg hr⟩)) (ownFrom_below (Nat.le_refl _) (by simp; omega)))
    ⟨⟨⟨by simp; omega, ((b0.alloc _).alloc _).alloc _⟩, (b1.alloc _).alloc _, b2.alloc _⟩, hB0⟩
    (fun x => { tmps := #[.int .u64 (s : Int), .int .i64 k, undef, .pointer (some ⟨w.heap.size, 0, none⟩), .pointer (some ⟨w.heap.size + 1, 0, none⟩), .pointer (some ⟨w.heap.size + 1 + 1, 0, none⟩), .int .i64 (x.val : Int), .int .u64 (s : Int), (.func (.func 13) #[.int .u64 (s : Int)] #[]), .func (.func 39) #[] #[.pointer (some ⟨w.heap.size + 1 + 1 + 1, 0, none⟩)], .int .i64 (x.val : Int), undef, undef, undef, undef, undef, undef], defers := [] }) ?assign ?body ?done ?stop
  case assign =>
    intro l x W K hK
    gi_wp2
    exact hK
  case body =>
    rintro l pre x W ⟨⟨⟨hk, bk⟩, br, ba⟩, hB⟩ hlt
    have hc0 := bk.cell
    have hc1 := br.cell
    have hc2 := ba.cell
    have hf1 := br.frozen
    have hf2 := ba.frozen
    gi_wp2
    · rename_i hx
      have hx' : (pre.length : Int) = k := eq_of_beq hx
      exact ⟨KeepsOthers.setCell _ _ _, ⟨⟨rfl, by omega, by rw [List.length_append, List.length_singleton]; omega⟩, x, by simp, br.set _⟩, hB.setCell (p := ⟨w.heap.size + 1, 0, none⟩) (by simp) _⟩
    · rename_i hx
      have hx' : (pre.length : Int) ≠ k := fun h => by simp [h] at hx
      exact ⟨KeepsOthers.setCell _ _ _, KpB.set _ _ (by omega), ⟨⟨by rw [List.length_append, List.length_singleton]; omega, bk.other (by omega) _⟩, br.other (by omega) _, by rw [List.length_append]; exact ba.set _⟩, hB.setCell (p := ⟨w.heap.size + 1 + 1, 0, none⟩) (by simp; omega) _⟩
  case done =>
    rintro D ys W hD rfl ⟨⟨⟨hk, bk⟩, br, ba⟩, hB⟩ hK
    have hc1 := br.cell
    have hf1 := br.frozen
    have hn : nt s k = -1 := by
      unfold nt
      rcases hk with hk | hk
      · rw [if_neg (by omega)]
      · split
        · rw [List.getElem?_eq_none (by show (cs _ 64).length ≤ _; omega)]; rfl
        · rfl
    gi_wp2
    have hK' := (KeepsOthers.setCell W ⟨w.heap.size + 1, 0, none⟩ (.int .i64 (-1))).same D _ hK rfl
    refine ⟨by simp, .inl ⟨_, _, rfl, run_takeDeferred hK', ?_⟩⟩
    have hc5 := cell_kept (br.set (.int .i64 (-1))).cell (grownBy_putObj' _ D (.deferred none)) (fun r e => by cases e; exact ⟨_, hK', rfl⟩)
    refine ⟨.int .i64 (-1), ?_, by rw [hn], kpOf ((hB.setCell (p := ⟨w.heap.size + 1, 0, none⟩) (by simp) _).trans (belowK_b (w := w) (Nat.le_refl _) _ D _ _ (by simp at hD; omega) hK' rfl rfl))⟩
    simp [results, Tryd.f22, go_sem, hc5]
  case stop =>
    rintro D c pre W hD hpre ⟨⟨⟨rfl, hk0, hkl⟩, x, hx, br⟩, hB⟩ hK
    have hn : nt s k = (x.val : Int) := by
      obtain ⟨r, hr⟩ := hpre
      unfold nt
      rw [if_pos hk0]
      have h1 : (al s)[k.toNat]? = pre[k.toNat]? := by
        show (cs _ 64)[_]? = _
        rw [← hr, List.getElem?_append_left (by omega)]
      rw [h1]
      rw [List.getLast?_eq_getElem?, hkl, Nat.add_sub_cancel] at hx
      rw [hx]
      rfl
    gi_wp2
    refine ⟨by simp, .inl ⟨_, _, rfl, run_takeDeferred hK, ?_⟩⟩
    have hc5 := cell_kept br.cell (grownBy_putObj' _ D (.deferred none)) (fun r e => by cases e; exact ⟨_, hK, rfl⟩)
    refine ⟨.int .i64 (x.val : Int), ?_, by rw [hn], kpOf (hB.trans (belowK_b (w := w) (Nat.le_refl _) W D _ _ (by simp at hD; omega) hK rfl rfl))⟩
    simp [results, Tryd.f22, go_sem, hc5]

theorem first_any (s : Nat) (w : World) (hs : U64 s) :
    Calls Tryd.prog 24 #[.int .u64 (s : Int)] w fun e w' => e = .returned (.int .i64 (nt s 0)) ∧ Kp No w w' := by
  go_enter Tryd.func24, Tryd.ntmps24
  go_wp2_with fail
  refine (nth_any s 0 _ hs).mono ?_
  rintro e w' ⟨rfl, k1⟩
  have K1 := hid k1
  clear k1
  go_wp2_with fail
  go_ret
  exact ⟨rfl, K1.out⟩

end Go.Proofs.YtjmnclneopofhaaDoor
