/-
  Contract of the order of places.
-/
import Derived.Test.YtoeeighfjoplhaaLoA
import Derived.Test.YtoeeighfjoplhaaLast
import Derived.Deep.DeepCutAuto
namespace Go.Proofs.Ytoeeighfjoplhaa
open Go.RowKit

/-- How two places are held against each other. -/
def ordI (ss : List St) (i j : Nat) : Int := orI (cmpI (ss.getD i st0).id (ss.getD j st0).id) (cmpI i j)
/-- Kept since. -/
structure Kn0 (w0 W : World) : Prop where
  kp : Kp No w0 W
theorem Kn0.kp0 {w0 W W' : World} (h : Kn0 w0 W) (k : Kp No W W') : Kn0 w0 W' := ⟨h.kp.trans k⟩
set_option maxRecDepth 100000 in
set_option maxHeartbeats 2000000 in
theorem order_any {w : World} {P : Nat → Prop} {hb n c : Nat} {A : Option Addr} {ss : List St} (hc : w.cell? ⟨hb, 0, none⟩ = some (.slice A n c)) (hr : Rw 3 sc st0 w P (.slice A n c) ss) (hn : ss.length = n) (hn9 : n ≤ 1000000) {i j : Nat} (hi : i < n) (hj : j < n) :
    Calls Try.prog 41 #[.pointer (some ⟨hb, 0, none⟩), .int .i64 (i : Int), .int .i64 (j : Int)] w fun e w' => e = .returned (.int .i64 (ordI ss i j)) ∧ Kp No w w' := by
  obtain ⟨b, o, rfl⟩ := hr.there (by omega)
  have q0 := hr.cell (j := i) (i := 0) (Kp.refl No _) (by omega) (by omega) rfl
  have q1 := hr.cell (j := j) (i := 0) (Kp.refl No _) (by omega) (by omega) rfl
  have HORD := hid (show ordI ss i j = orI (cmpI (ss.getD i st0).id (ss.getD j st0).id) (cmpI i j) from rfl)
  obtain ⟨x, hx⟩ : ∃ x, (ss.getD i st0).id = x := ⟨_, rfl⟩
  obtain ⟨y, hy⟩ : ∃ y, (ss.getD j st0).id = y := ⟨_, rfl⟩
  simp only [sc, Nat.add_zero] at q0 q1
  rw [hx] at q0 HORD
  rw [hy] at q1 HORD
  have HRD := hid (fun (W : World) (k : Kn0 w W) => show W.cell? ⟨hb, 0, none⟩ = some (.slice (some ⟨b, o, none⟩) n c) ∧ W.cell? ⟨b, o + i * 3, none⟩ = some (.int .i64 x) ∧ W.cell? ⟨b, o + j * 3, none⟩ = some (.int .i64 y) from
    ⟨(k.kp.cell (p := ⟨hb, 0, none⟩) (World.block_lt_of_cell? w _ hc) id).trans hc, (k.kp.cell (p := ⟨b, o + i * 3, none⟩) (World.block_lt_of_cell? w _ q0) id).trans q0, (k.kp.cell (p := ⟨b, o + j * 3, none⟩) (World.block_lt_of_cell? w _ q1) id).trans q1⟩)
  have G := hid (Kn0.mk (Kp.refl No w))
  have gi : (i : Int) < (n : Int) := by omega
  have gj : (j : Int) < (n : Int) := by omega
  clear hc hr q0 q1 hx hy hn
  go_enter Try.func41, Try.ntmps41
  go_upto_region 1 with fail
  refine region_last 22 rfl (by kernel_rfl) (by kernel_rfl) ?_
  simp only [List.take_succ_cons, List.take_zero, List.length_cons, List.length_nil, Nat.reduceAdd]
  have Fd1 := hid (G.out.kp0 (Kp.refl No w).drew)
  generalize World.drew w = Wd1 at Fd1 ⊢
  have HS5 : (fun w' : World => w'.cell? ⟨hb, 0, none⟩ = some (.slice (some ⟨b, o, none⟩) n c) ∧ w'.cell? ⟨b, o + i * 3, none⟩ = some (.int .i64 x) ∧ w'.cell? ⟨b, o + j * 3, none⟩ = some (.int .i64 y)) Wd1 := HRD.out _ Fd1.out
  (try simp only at HS5)
  refine wpAny_of_held (S := (fun w' : World => w'.cell? ⟨hb, 0, none⟩ = some (.slice (some ⟨b, o, none⟩) n c) ∧ w'.cell? ⟨b, o + i * 3, none⟩ = some (.int .i64 x) ∧ w'.cell? ⟨b, o + j * 3, none⟩ = some (.int .i64 y))) _ _ _ _ ?_
  simp only [Array.replicate_succ, Array.replicate_zero, List.push_toArray, List.nil_append, List.cons_append]
  refine wpAnyH_take (i := 0) (v := ?_) rfl (by kernel_rfl) (by kernel_rfl) (by kernel_rfl) (fun _ _ _ h => h) (Or.inl ⟨by rfl, ?_⟩) HS5 ?_
  rotate_left
  · (intro w6 hS6; obtain ⟨z0, z1, z2⟩ := hS6; (try go_simp); (try with_reducible rfl))
  simp only [List.getElem_toArray, List.getElem_cons_zero, Act.put, List.setIfInBounds_toArray, List.set_cons_zero, List.set_cons_succ]
  refine wpAnyH_take (i := 1) (v := ?_) rfl (by kernel_rfl) (by kernel_rfl) (by kernel_rfl) (fun _ _ _ h => h) (Or.inl ⟨by rfl, ?_⟩) HS5 ?_
  rotate_left
  · (intro w6 hS6; obtain ⟨z0, z1, z2⟩ := hS6; (try go_simp); (try with_reducible rfl))
  simp only [List.getElem_toArray, List.getElem_cons_zero, List.getElem_cons_succ, Act.put, List.setIfInBounds_toArray, List.set_cons_zero, List.set_cons_succ]
  refine wpAnyH_take (i := 2) (v := ?_) rfl (by kernel_rfl) (by kernel_rfl) (by kernel_rfl) (fun _ _ _ h => h) (Or.inl ⟨by rfl, ?_⟩) HS5 ?_
  rotate_left
  · (intro w6 hS6; obtain ⟨z0, z1, z2⟩ := hS6; (try go_simp); (try with_reducible rfl))
  simp only [List.getElem_toArray, List.getElem_cons_zero, List.getElem_cons_succ, Act.put, List.setIfInBounds_toArray, List.set_cons_zero, List.set_cons_succ]
  refine wpAnyH_take (i := 3) (v := ?_) rfl (by kernel_rfl) (by kernel_rfl) (by kernel_rfl) (fun _ _ _ h => h) (Or.inl ⟨by rfl, ?_⟩) HS5 ?_
  rotate_left
  · (intro w6 hS6; obtain ⟨z0, z1, z2⟩ := hS6; (try go_simp); (try with_reducible rfl))
  simp only [List.getElem_toArray, List.getElem_cons_zero, List.getElem_cons_succ, Act.put, List.setIfInBounds_toArray, List.set_cons_zero, List.set_cons_succ]
  refine wpAnyH_take (i := 4) (v := ?_) rfl (by kernel_rfl) (by kernel_rfl) (by kernel_rfl) (fun _ _ _ h => h) (Or.inl ⟨by rfl, ?_⟩) HS5 ?_
  rotate_left
  · (intro w6 hS6; obtain ⟨z0, z1, z2⟩ := hS6; (try go_simp); (try with_reducible rfl))
  simp only [List.getElem_toArray, List.getElem_cons_zero, List.getElem_cons_succ, Act.put, List.setIfInBounds_toArray, List.set_cons_zero, List.set_cons_succ]
  refine wpAnyH_take (i := 5) (v := ?_) rfl (by kernel_rfl) (by kernel_rfl) (by kernel_rfl) (fun _ _ _ h => h) (Or.inl ⟨by rfl, ?_⟩) HS5 ?_
  rotate_left
  · (intro w6 hS6; obtain ⟨z0, z1, z2⟩ := hS6; (try go_simp); (try with_reducible rfl))
  simp only [List.getElem_toArray, List.getElem_cons_zero, List.getElem_cons_succ, Act.put, List.setIfInBounds_toArray, List.set_cons_zero, List.set_cons_succ]
  refine wpAnyH_take (i := 6) (v := ?_) rfl (by kernel_rfl) (by kernel_rfl) (by kernel_rfl) (fun _ _ _ h => h) (Or.inl ⟨by rfl, ?_⟩) HS5 ?_
  rotate_left
  · (intro w6 hS6; obtain ⟨z0, z1, z2⟩ := hS6; (try go_simp); (try with_reducible rfl))
  simp only [List.getElem_toArray, List.getElem_cons_zero, List.getElem_cons_succ, Act.put, List.setIfInBounds_toArray, List.set_cons_zero, List.set_cons_succ]
  refine wpAnyH_take (i := 7) (v := ?_) rfl (by kernel_rfl) (by kernel_rfl) (by kernel_rfl) (fun _ _ _ h => h) (Or.inl ⟨by rfl, ?_⟩) HS5 ?_
  rotate_left
  · (intro w6 hS6; obtain ⟨z0, z1, z2⟩ := hS6; (try go_simp); (try with_reducible rfl))
  simp only [List.getElem_toArray, List.getElem_cons_zero, List.getElem_cons_succ, Act.put, List.setIfInBounds_toArray, List.set_cons_zero, List.set_cons_succ]
  refine wpAnyH_take (i := 8) (v := ?_) rfl (by kernel_rfl) (by kernel_rfl) (by kernel_rfl) (fun _ _ _ h => h) (Or.inl ⟨by rfl, ?_⟩) HS5 ?_
  rotate_left
  · (intro w6 hS6; obtain ⟨z0, z1, z2⟩ := hS6; (try go_simp); (try with_reducible rfl))
  simp only [List.getElem_toArray, List.getElem_cons_zero, List.getElem_cons_succ, Act.put, List.setIfInBounds_toArray, List.set_cons_zero, List.set_cons_succ]
  refine wpAnyH_take (i := 9) (v := ?_) rfl (by kernel_rfl) (by kernel_rfl) (by kernel_rfl) (fun _ _ _ h => h) (Or.inl ⟨by rfl, ?_⟩) HS5 ?_
  rotate_left
  · (intro w6 hS6; obtain ⟨z0, z1, z2⟩ := hS6; (try go_simp); (try with_reducible rfl))
  simp only [List.getElem_toArray, List.getElem_cons_zero, List.getElem_cons_succ, Act.put, List.setIfInBounds_toArray, List.set_cons_zero, List.set_cons_succ]
  refine wpAnyH_take (i := 10) (v := ?_) rfl (by kernel_rfl) (by kernel_rfl) (by kernel_rfl) (fun _ _ _ h => h) (Or.inl ⟨by rfl, ?_⟩) HS5 ?_
  rotate_left
  · (intro w6 hS6; obtain ⟨z0, z1, z2⟩ := hS6; (try go_simp); (try with_reducible rfl))
  simp only [List.getElem_toArray, List.getElem_cons_zero, List.getElem_cons_succ, Act.put, List.setIfInBounds_toArray, List.set_cons_zero, List.set_cons_succ]
  refine wpAnyH_take (i := 11) (v := ?_) rfl (by kernel_rfl) (by kernel_rfl) (by kernel_rfl) (fun _ _ _ h => h) (Or.inl ⟨by rfl, ?_⟩) HS5 ?_
  rotate_left
  · (intro w6 hS6; obtain ⟨z0, z1, z2⟩ := hS6; (try go_simp); (try with_reducible rfl))
  simp only [List.getElem_toArray, List.getElem_cons_zero, List.getElem_cons_succ, Act.put, List.setIfInBounds_toArray, List.set_cons_zero, List.set_cons_succ]
  refine wpAnyH_take (i := 12) (v := ?_) rfl (by kernel_rfl) (by kernel_rfl) (by kernel_rfl) (fun _ _ _ h => h) (Or.inl ⟨by rfl, ?_⟩) HS5 ?_
  rotate_left
  · (intro w6 hS6; obtain ⟨z0, z1, z2⟩ := hS6; (try go_simp); (try with_reducible rfl))
  simp only [List.getElem_toArray, List.getElem_cons_zero, List.getElem_cons_succ, Act.put, List.setIfInBounds_toArray, List.set_cons_zero, List.set_cons_succ]
  refine wpAnyH_take (i := 13) (v := ?_) rfl (by kernel_rfl) (by kernel_rfl) (by kernel_rfl) (fun _ _ _ h => h) (Or.inl ⟨by rfl, ?_⟩) HS5 ?_
  rotate_left
  · (intro w6 hS6; obtain ⟨z0, z1, z2⟩ := hS6; (try go_simp); (try with_reducible rfl))
  simp only [List.getElem_toArray, List.getElem_cons_zero, List.getElem_cons_succ, Act.put, List.setIfInBounds_toArray, List.set_cons_zero, List.set_cons_succ]
  refine wpAnyH_take (i := 14) (v := ?_) rfl (by kernel_rfl) (by kernel_rfl) (by kernel_rfl) (fun _ _ _ h => h) (Or.inl ⟨by rfl, ?_⟩) HS5 ?_
  rotate_left
  · (intro w6 hS6; obtain ⟨z0, z1, z2⟩ := hS6; (try go_simp); (try with_reducible rfl))
  simp only [List.getElem_toArray, List.getElem_cons_zero, List.getElem_cons_succ, Act.put, List.setIfInBounds_toArray, List.set_cons_zero, List.set_cons_succ]
  refine wpAnyH_take (i := 15) (v := ?_) rfl (by kernel_rfl) (by kernel_rfl) (by kernel_rfl) (fun _ _ _ h => h) (Or.inl ⟨by rfl, ?_⟩) HS5 ?_
  rotate_left
  · (intro w6 hS6; obtain ⟨z0, z1, z2⟩ := hS6; (try go_simp); (try with_reducible rfl))
  simp only [List.getElem_toArray, List.getElem_cons_zero, List.getElem_cons_succ, Act.put, List.setIfInBounds_toArray, List.set_cons_zero, List.set_cons_succ]
  refine wpAnyH_take (i := 17) (v := ?_) rfl (by kernel_rfl) (by kernel_rfl) (by kernel_rfl) (fun _ _ _ h => h) (Or.inl ⟨by rfl, ?_⟩) HS5 ?_
  rotate_left
  · (intro w6 hS6; obtain ⟨z0, z1, z2⟩ := hS6; (try go_simp); (try with_reducible rfl))
  simp only [List.getElem_toArray, List.getElem_cons_zero, List.getElem_cons_succ, Act.put, List.setIfInBounds_toArray, List.set_cons_zero, List.set_cons_succ]
  refine wpAnyH_take (i := 18) (v := ?_) rfl (by kernel_rfl) (by kernel_rfl) (by kernel_rfl) (fun _ _ _ h => h) (Or.inl ⟨by rfl, ?_⟩) HS5 ?_
  rotate_left
  · (intro w6 hS6; obtain ⟨z0, z1, z2⟩ := hS6; (try go_simp); (try with_reducible rfl))
  simp only [List.getElem_toArray, List.getElem_cons_zero, List.getElem_cons_succ, Act.put, List.setIfInBounds_toArray, List.set_cons_zero, List.set_cons_succ]
  clear HS5
  refine wpAnyH_ready (rs := [16]) (by kernel_rfl) (by simp) (AllReadyH.cons rfl (fun K hK => ?_) AllReadyH.nil)
  refine step_callv (by rfl) (by go_simp) (cmp_any x y _) ?_
  intro w9 hw
  rw [hw]
  clear hw w9
  refine hK.out _ _ (HRD.out _ Fd1.out) (fun hS => ?_)
  clear hK
  simp only [List.setIfInBounds_toArray, List.set_cons_zero, List.set_cons_succ, Act.put]
  clear hS
  refine wpAnyH_ready (rs := [19]) (by kernel_rfl) (by simp) (AllReadyH.cons rfl (fun K hK => ?_) AllReadyH.nil)
  refine step_callv (by rfl) (by go_simp) (cmp_any (i : Int) (j : Int) _) ?_
  intro w9 hw
  rw [hw]
  clear hw w9
  refine hK.out _ _ (HRD.out _ Fd1.out) (fun hS => ?_)
  clear hK
  simp only [List.setIfInBounds_toArray, List.set_cons_zero, List.set_cons_succ, Act.put]
  clear hS
  refine wpAnyH_ready (rs := [20]) (by kernel_rfl) (by simp) (AllReadyH.cons rfl (fun K hK => ?_) AllReadyH.nil)
  simp only [List.getElem_toArray, List.getElem_cons_zero, List.getElem_cons_succ]
  go_simp
  have Un4 := hid (Blk.new Wd1 3 #[.int .i64 (cmpI x y), .int .i64 (cmpI (i : Int) (j : Int))])
  have Fn4 := hid (Fd1.out.kp0 ((Kp.refl No Wd1).alloc (.cells #[.int .i64 (cmpI x y), .int .i64 (cmpI (i : Int) (j : Int))] 3)))
  obtain ⟨bu4, hbu⟩ : ∃ b, Wd1.heap.size = b := ⟨_, rfl⟩
  rw [hbu] at Un4 ⊢
  generalize Wd1.alloc (.cells #[.int .i64 (cmpI x y), .int .i64 (cmpI (i : Int) (j : Int))] 3) = wn4 at Un4 Fn4 ⊢
  clear hbu Fd1
  refine hK.out _ _ (HRD.out _ Fn4.out) (fun hS => ?_)
  clear hK
  simp only [List.setIfInBounds_toArray, List.set_cons_zero, List.set_cons_succ]
  clear hS
  refine wpAnyH_ready (rs := [21]) (by kernel_rfl) (by simp) (AllReadyH.cons rfl (fun K hK => ?_) AllReadyH.nil)
  refine step_callv (by rfl) (by go_simp) (or_any (Un4.out.cell 0) (Un4.out.cell 1)) ?_
  intro w9 hw
  rw [hw]
  clear hw w9
  refine hK.out _ _ (HRD.out _ Fn4.out) (fun hS => ?_)
  clear hK
  simp only [List.setIfInBounds_toArray, List.set_cons_zero, List.set_cons_succ, Act.put]
  clear hS
  refine wpAnyH_done (by kernel_rfl) ?_ _
  refine then_of ?_
  simp only [List.cons_append, List.nil_append]
  go_wp2_with fail
  go_ret
  exact ⟨by first | rfl | (rw [HORD.out]; rfl), Fn4.out.kp⟩
end Go.Proofs.Ytoeeighfjoplhaa
