/-
  The walk of ShelfRises.
-/
import Derived.Test.YtllamoiehmdgfaaShelfBackW
import Derived.Test.YtllamoiehmdgfaaShelfSplitsW
import Derived.Test.YtllamoiehmdgfaaTail
namespace Go.Proofs.Ytllamoiehmdgfaa
open Go.RowKit

theorem sorted_at {l : List It} (h : Sorted l) {i j : Nat} (hij : i < j) (hj : j < l.length) : ltB (l.getD i it0) (l.getD j it0) = true := by
  unfold Sorted at h
  have := List.pairwise_iff_getElem.1 h i j (by omega) hj hij
  rw [List.getD_eq_getElem?_getD, List.getD_eq_getElem?_getD, List.getElem?_eq_getElem hj, List.getElem?_eq_getElem (show i < l.length by omega)]
  exact this
theorem rnk_at {l : List It} (h : Sorted l) {k : Nat} (hk : k < l.length) : rnk l (l.getD k it0) = k := by
  have h1 := rnk_split h (l.getD k it0) hk
  have h2 : ltB (l.getD k it0) (l.getD k it0) = false := by
    cases e : ltB (l.getD k it0) (l.getD k it0) with
    | false => rfl
    | true => rw [ltB_asymm e] at e; exact e.symm
  rw [h2] at h1
  have h1 := of_decide_eq_false h1.symm
  by_cases h0 : k = 0
  · omega
  · have h3 := rnk_split h (l.getD k it0) (show k - 1 < l.length by omega)
    rw [sorted_at h (show k - 1 < k by omega) hk] at h3
    have := of_decide_eq_true h3.symm
    omega
theorem mem_at {l : List It} {k : Nat} (hk : k < l.length) : l.getD k it0 ∈ l := by
  rw [List.getD_eq_getElem?_getD, List.getElem?_eq_getElem hk]
  exact List.getElem_mem hk

/-- What a round's calls keep. -/
structure Rz (w w3 : World) (g q : Nat) (S : Nat → Prop) (l : List It) (y : It) (w' : World) : Prop where
  kw : Kp No w w'
  k3 : Kp No w3 w'
  shf : Shf w' g S l
  bx : Blk w' q 24 #[.int .i64 y.key, .int .i64 y.id]
theorem Rz.kp0 {w w3 : World} {g q : Nat} {S : Nat → Prop} {l : List It} {y : It} {a b : World} (h : Rz w w3 g q S l y a) (k : Kp No a b) : Rz w w3 g q S l y b :=
  ⟨h.kw.trans k, h.k3.trans k, h.shf.kp0 k, h.bx.kp0 k⟩

set_option maxRecDepth 100000 in
set_option maxHeartbeats 2000000 in
theorem shelfRises_walk (w : World) (v : Value) {ops : List Op} (hv : Rw 3 oc op0 w Anyb v ops) :
    Calls Try.prog 4 #[v] w fun e w' => e = .returned (.bool true) ∧ Kp No w w' := by
  have HV := hid hv
  obtain ⟨A, vc, rfl, hc, hm, hr⟩ := hv
  clear hr
  simp only [maxLen] at hm
  go_enter Try.func4, Try.ntmps4
  go_wp2_with fail
  refine (awake_any w).mono ?_
  rintro e w1 ⟨rfl, k1⟩
  have K1 := hid k1
  have V1 := hid (HV.out.kp0 k1)
  clear k1 HV
  by_cases hbig : 100 < ops.length
  · go_wp2_with fail
    go_ret
    exact ⟨rfl, K1.out⟩
  · have hl : ops.length ≤ 100 := by omega
    have hw1 := K1.out.size
    go_wp2_with fail
    refine (walked_any V1.out hl).mono ?_
    rintro e w2 ⟨rfl, k2, h2⟩
    have hpl := play_len ops
    generalize play ops = l at h2 hpl
    have hso := h2.sorted
    have hw2 := k2.size
    have h2 := h2.mono (T := fun k => w1.heap.size ≤ k ∧ k < w2.heap.size) fun i hi h => ⟨h, hi⟩
    have K2 := hid (K1.out.trans k2)
    have H2 := hid h2
    clear h2 k2
    go_wp2_with fail
    refine (told_any H2.out (by omega)).mono ?_
    rintro e w3 ⟨u1, rfl, k3, o3⟩
    have hw3 := k3.size
    have K3 := hid (K2.out.trans k3)
    have H3 := hid (H2.out.kp0 k3)
    obtain ⟨A1, c1, rfl⟩ := o3.formN rfl
    have O3 := hid o3
    clear k3 o3 V1 K1
    go_wp2_with fail
    refine (Len_any H3.out).mono ?_
    rintro e w3 ⟨rfl, rfl⟩
    go_wp2_with fail
    have O4 : Hid (Rw 2 itc it0 w3 Anyb (.slice A1 l.length c1) l) := hid O3.out.rw
    go_loopw [7] (fun i wr => ∃ k : Nat, k ≤ l.length ∧ i = .int .i64 (k : Int) ∧ Hid (Kp No w wr) ∧ Hid (Kp No w3 wr) ∧ Hid (Shf wr w1.heap.size (fun k => w1.heap.size ≤ k ∧ k < w2.heap.size) l)) (fun i _ => l.length - (intOf i).toNat)
    case atStart => exact ⟨0, by omega, rfl, K3, hid (Kp.refl No _), H3⟩
    case round =>
      obtain ⟨k, hk, rfl, K, KK, H⟩ := hrel
      by_cases hlt : k < l.length
      · have hki : (k : Int) < (l.length : Int) := by omega
        obtain ⟨y, hy⟩ : ∃ y, l.getD k it0 = y := ⟨_, rfl⟩
        have HY := hid hy
        clear hy
        go_wp2_with fail
        refine (at_is H.out k hlt y HY.out).mono ?_
        rintro e w5 ⟨rfl, k5⟩
        have K5 := hid (K.out.trans k5)
        have KK5 := hid (KK.out.trans k5)
        have H5 := hid (H.out.kp0 k5)
        clear k5 K KK H
        go_wp2_with fail
        have z5 : Rz w w3 w1.heap.size w5.heap.size (fun k => w1.heap.size ≤ k ∧ k < w2.heap.size) l y (w5.alloc (.cells #[.int .i64 y.key, .int .i64 y.id] 24)) := ⟨K5.out.alloc _, KK5.out.alloc _, H5.out.kp0 ((Kp.refl No _).alloc _), Blk.new w5 24 _⟩
        generalize w5.alloc (.cells #[.int .i64 y.key, .int .i64 y.id] 24) = w6 at z5 ⊢
        have Z5 := hid z5
        clear z5 K5 KK5 H5
        obtain ⟨ab, ao, hA⟩ := O4.out.there (by omega)
        subst hA
        have F : Hid (∀ w', Rz w w3 w1.heap.size w5.heap.size (fun k => w1.heap.size ≤ k ∧ k < w2.heap.size) l y w' → w'.cell? ⟨w5.heap.size, 0, none⟩ = some (.int .i64 y.key) ∧ w'.cell? ⟨w5.heap.size, 1, none⟩ = some (.int .i64 y.id) ∧ w'.cell? ⟨ab, ao + k * 2, none⟩ = some (.int .i64 y.key) ∧ w'.cell? ⟨ab, ao + k * 2 + 1, none⟩ = some (.int .i64 y.id)) := hid fun w' hw => by
          have c0 := hw.bx.cell 0
          have c1 := hw.bx.cell 1
          have d0 := O4.out.cell hw.k3 hlt (i := 0) (by omega) rfl
          have d1 := O4.out.cell hw.k3 hlt (i := 1) (by omega) rfl
          rw [HY.out] at d0 d1
          simp only [itc, Nat.add_zero] at d0 d1
          rw [← Nat.add_assoc] at d1
          exact ⟨by simpa using c0, by simpa using c1, d0, d1⟩
        have RK : Hid (rnk l y = k) := hid (by rw [← HY.out]; exact rnk_at hso hlt)
        have MM : Hid (decide (y ∈ l) = true) := hid (by rw [← HY.out]; exact decide_eq_true (mem_at hlt))
        refine region_all (fun w' => Rz w w3 w1.heap.size w5.heap.size (fun k => w1.heap.size ≤ k ∧ k < w2.heap.size) l y w') (by kernel_rfl) (by kernel_rfl) (Z5.out.kp0 (Kp.refl No _).drew) ?_
        repeat ((first | ((with_reducible refine cl_val (v := ?_) ?_ ?_ ?_); rotate_left; (focus (go_simp; done)); (focus (intro w' hw; obtain ⟨c0, c1, d0, d1⟩ := F.out w' hw; go_simp; (try with_reducible rfl); done))) | ((with_reducible refine cl_skip ?_ ?_); (focus (first | (go_simp; done) | exact unwanted rfl rfl)))); simp only [Act.put, List.setIfInBounds_toArray, List.set_cons_zero, List.set_cons_succ])
        refine cl_call (v := .int .i64 (k : Int)) rfl (fun w' hw => by go_simp) (fun w' hw => (rank_is hw.shf y k RK.out).mono fun e w'' h => ⟨h.1, hw.kp0 h.2⟩) ?_
        simp only [Act.put, List.setIfInBounds_toArray, List.set_cons_zero, List.set_cons_succ]
        repeat ((first | ((with_reducible refine cl_val (v := ?_) ?_ ?_ ?_); rotate_left; (focus (go_simp; done)); (focus (intro w' hw; obtain ⟨c0, c1, d0, d1⟩ := F.out w' hw; go_simp; (try with_reducible rfl); done))) | ((with_reducible refine cl_skip ?_ ?_); (focus (first | (go_simp; done) | exact unwanted rfl rfl)))); simp only [Act.put, List.setIfInBounds_toArray, List.set_cons_zero, List.set_cons_succ])
        refine cl_call (v := .bool true) rfl (fun w' hw => by go_simp) (fun w' hw => (has_is hw.shf y MM.out).mono fun e w'' h => ⟨h.1, hw.kp0 h.2⟩) ?_
        simp only [Act.put, List.setIfInBounds_toArray, List.set_cons_zero, List.set_cons_succ]
        repeat ((first | ((with_reducible refine cl_val (v := ?_) ?_ ?_ ?_); rotate_left; (focus (go_simp; done)); (focus (intro w' hw; obtain ⟨c0, c1, d0, d1⟩ := F.out w' hw; go_simp; (try with_reducible rfl); done))) | ((with_reducible refine cl_skip ?_ ?_); (focus (first | (go_simp; done) | exact unwanted rfl rfl)))); simp only [Act.put, List.setIfInBounds_toArray, List.set_cons_zero, List.set_cons_succ])
        refine cl_nil fun w' hw => ?_
        have Z6 := hid hw
        clear hw
        go_wp2_with fail
        by_cases hk0 : k = 0
        · subst hk0
          refine region_all (fun w' => Rz w w3 w1.heap.size w5.heap.size (fun k => w1.heap.size ≤ k ∧ k < w2.heap.size) l y w') (by kernel_rfl) (by kernel_rfl) (Z6.out.kp0 (Kp.refl No _).drew) ?_
          repeat ((first | ((with_reducible refine cl_val (v := ?_) ?_ ?_ ?_); rotate_left; (focus (go_simp; done)); (focus (intro w' hw; obtain ⟨c0, c1, d0, d1⟩ := F.out w' hw; go_simp; (try with_reducible rfl); done))) | ((with_reducible refine cl_skip ?_ ?_); (focus (first | (go_simp; done) | exact unwanted rfl rfl)))); simp only [Act.put, List.setIfInBounds_toArray, List.set_cons_zero, List.set_cons_succ])
          refine cl_nil fun w' hw => ?_
          have Z7 := hid hw
          clear hw
          go_wp2_with fail
          go_roundw
          case rel => exact ⟨1, by omega, by go_num, hid Z7.out.kw, hid Z7.out.k3, hid Z7.out.shf⟩
          case measure => simp [intOf]; omega
        · obtain ⟨m, hm1⟩ : ∃ m, k = m + 1 := ⟨k - 1, by omega⟩
          have hwr : IntKind.i64.wrap ((k : Int) - 1) = (m : Int) := by rw [wrapI (by unfold I64; omega)]; omega
          have hwm : IntKind.i64.wrap (m : Int) = (m : Int) := wrapI (by unfold I64; omega)
          have hkp : 0 < (k : Int) := by omega
          have hkn : 0 < k := by omega
          have hkd : decide (0 < (k : Int)) = true := decide_eq_true hkp
          have hke : decide (0 < k) = true := decide_eq_true hkn
          have hmi : (m : Int) < (l.length : Int) := by omega
          obtain ⟨z, hz⟩ : ∃ z, l.getD m it0 = z := ⟨_, rfl⟩
          have LT : Hid (ltB z y = true) := hid (by rw [← hz, ← HY.out]; exact sorted_at hso (by omega) hlt)
          have F2 : Hid (∀ w', Rz w w3 w1.heap.size w5.heap.size (fun k => w1.heap.size ≤ k ∧ k < w2.heap.size) l y w' → w'.cell? ⟨ab, ao + m * 2, none⟩ = some (.int .i64 z.key) ∧ w'.cell? ⟨ab, ao + m * 2 + 1, none⟩ = some (.int .i64 z.id) ∧ w'.cell? ⟨ab, ao + k * 2, none⟩ = some (.int .i64 y.key) ∧ w'.cell? ⟨ab, ao + k * 2 + 1, none⟩ = some (.int .i64 y.id)) := hid fun w' hw => by
            have d0 := O4.out.cell hw.k3 (show m < l.length by omega) (i := 0) (by omega) rfl
            have d1 := O4.out.cell hw.k3 (show m < l.length by omega) (i := 1) (by omega) rfl
            rw [hz] at d0 d1
            simp only [itc, Nat.add_zero] at d0 d1
            rw [← Nat.add_assoc] at d1
            exact ⟨d0, d1, (F.out w' hw).2.2⟩
          clear hz hm1
          refine region_all (fun w' => Rz w w3 w1.heap.size w5.heap.size (fun k => w1.heap.size ≤ k ∧ k < w2.heap.size) l y w') (by kernel_rfl) (by kernel_rfl) (Z6.out.kp0 (Kp.refl No _).drew) ?_
          repeat ((first | ((with_reducible refine cl_val (v := ?_) ?_ ?_ ?_); rotate_left; (focus (go_simp; done)); (focus (intro w' hw; obtain ⟨c0, c1, d0, d1⟩ := F2.out w' hw; go_simp; (try with_reducible rfl); done))) | ((with_reducible refine cl_skip ?_ ?_); (focus (first | (go_simp; done) | exact unwanted rfl rfl)))); simp only [Act.put, List.setIfInBounds_toArray, List.set_cons_zero, List.set_cons_succ])
          refine cl_call (v := .bool true) rfl (fun w' hw => by go_simp) (fun w' hw => (refless_any z y w').mono fun e w'' h => ⟨by rw [h.1, LT.out], hw.kp0 h.2⟩) ?_
          simp only [Act.put, List.setIfInBounds_toArray, List.set_cons_zero, List.set_cons_succ]
          repeat ((first | ((with_reducible refine cl_val (v := ?_) ?_ ?_ ?_); rotate_left; (focus (go_simp; done)); (focus (intro w' hw; obtain ⟨c0, c1, d0, d1⟩ := F2.out w' hw; go_simp; (try with_reducible rfl); done))) | ((with_reducible refine cl_skip ?_ ?_); (focus (first | (go_simp; done) | exact unwanted rfl rfl)))); simp only [Act.put, List.setIfInBounds_toArray, List.set_cons_zero, List.set_cons_succ])
          refine cl_nil fun w' hw => ?_
          have Z7 := hid hw
          clear hw
          go_wp2_with fail
          go_roundw
          case rel => exact ⟨k + 1, by omega, by go_num, hid Z7.out.kw, hid Z7.out.k3, hid Z7.out.shf⟩
          case measure => simp [intOf]; omega
      · have hk2 : k = l.length := by omega
        subst hk2
        go_wp2_with fail
        refine (at_out H.out (l.length : Int) (.inr (by omega))).mono ?_
        rintro e w5 ⟨rfl, k5⟩
        have K5 := hid (K.out.trans k5)
        have H5 := hid (H.out.kp0 k5)
        clear k5
        go_wp2_with fail
        refine (at_out (H5.out.kp0 ((Kp.refl No _).alloc (.cells #[.int .i64 0, .int .i64 0] 24))) (-1) (.inl (by omega))).mono ?_
        rintro e w6 ⟨rfl, k6⟩
        have K6 := hid ((K5.out.alloc (.cells #[.int .i64 0, .int .i64 0] 24)).trans k6)
        clear k6
        go_wp2_with fail
        go_ret
        exact ⟨rfl, by first | exact K6.out | exact K6.out.alloc _⟩
end Go.Proofs.Ytllamoiehmdgfaa
