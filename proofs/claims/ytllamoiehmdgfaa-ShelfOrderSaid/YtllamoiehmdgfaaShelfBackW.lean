/-
  The walk of ShelfBack.
-/
import Derived.Test.YtllamoiehmdgfaaSQ
namespace Go.Proofs.Ytllamoiehmdgfaa
open Go.RowKit

theorem sorted_split {l : List It} {x : It} (hs : Sorted l) (hx : x ∉ l) : l.filter (fun y => ltB y x) ++ l.filter (fun y => ltB x y) = l := by
  induction l with
  | nil => rfl
  | cons a l ih =>
    unfold Sorted at hs
    rw [List.pairwise_cons] at hs
    have hx' : x ∉ l := fun h => hx (List.mem_cons.2 (.inr h))
    rcases ltB_tri a x with h | h | h
    · rw [List.filter_cons, if_pos h, List.filter_cons, if_neg (by rw [ltB_asymm h]; simp), List.cons_append, ih hs.2 hx']
    · exact absurd (List.mem_cons.2 (.inl h.symm)) hx
    · rw [List.filter_eq_nil_iff.2, List.filter_eq_self.2, List.nil_append]
      · intro y hy
        rcases List.mem_cons.1 hy with rfl | hy
        · exact h
        · exact ltB_trans h (hs.1 y hy)
      · intro y hy
        rcases List.mem_cons.1 hy with rfl | hy
        · rw [ltB_asymm h]; simp
        · rw [ltB_asymm (ltB_trans h (hs.1 y hy))]; simp

theorem putL_old {m : List It} {x : It} (h : x ∈ m) : putL m x = m := by unfold putL; rw [if_pos h]
structure BackM (l : List It) (x : It) : Prop where
  mem : x ∈ putL l x
  drop : dropL (putL l x) x = dropL l x
  len : (putL l x).length = (dropL l x).length + 1
  out : x ∉ dropL l x
  again : dropL (dropL l x) x = dropL l x
  more : x ∉ l → (putL l x).length = l.length + 1
theorem back_m {l : List It} {x : It} (hs : Sorted l) (hs' : Sorted (putL l x)) : BackM l x := by
  have out : x ∉ dropL l x := by
    unfold dropL
    simp
  have mid : ∃ A B, putL l x = A ++ x :: B ∧ dropL l x = A ++ B := by
    by_cases hx : x ∈ l
    · obtain ⟨A, B, rfl⟩ := List.append_of_mem hx
      exact ⟨A, B, by unfold putL; rw [if_pos hx], dropL_mid hs⟩
    · exact ⟨_, _, by unfold putL; rw [if_neg hx], by rw [dropL_not hx]; exact (sorted_split hs hx).symm⟩
  obtain ⟨A, B, e1, e2⟩ := mid
  refine ⟨by rw [e1]; simp, ?_, by rw [e1, e2]; simp; omega, out, dropL_not out, fun hx => ?_⟩
  · rw [e1, e2]
    rw [e1] at hs'
    exact dropL_mid hs'
  · rw [e1]
    rw [dropL_not hx] at e2
    rw [e2]
    simp
    omega

section
variable {w w' : World} {g : Nat} {S : Nat → Prop}
/-- A shelf's blocks, beside what was made in between. -/
def Gap (a b c : Nat) : Nat → Prop := fun k => (a ≤ k ∧ k < b) ∨ c ≤ k
theorem put_gap {a b c : Nat} {l l' : List It} {v : Bool} (h : Shf w g (Gap a b c) l) (hl : l.length < 1000000) (hc : c ≤ w.heap.size) (x : It) (hv : (!decide (x ∈ l)) = v) (hl' : putL l x = l') :
    Calls Try.prog 15 #[.pointer (some ⟨g, 0, none⟩), .agg #[.int .i64 x.key, .int .i64 x.id]] w fun e w' => e = .returned (.bool v) ∧ Kp (Gap a b c) w w' ∧ Shf w' g (Gap a b c) l' :=
  (Put_any h hl x).mono fun e w' ⟨h1, h2, h3⟩ => ⟨by rw [h1, hv], h2, by rw [← hl']; exact h3.mono fun i _ hi => hi.elim id fun h => .inr (Nat.le_trans hc h)⟩
theorem drop_gap {a b c : Nat} {l l' : List It} {v : Bool} (h : Shf w g (Gap a b c) l) (x : It) (hv : decide (x ∈ l) = v) (hl' : dropL l x = l') :
    Calls Try.prog 13 #[.pointer (some ⟨g, 0, none⟩), .agg #[.int .i64 x.key, .int .i64 x.id]] w fun e w' => e = .returned (.bool v) ∧ Kp (Gap a b c) w w' ∧ Shf w' g (Gap a b c) l' :=
  (Drop_any h x).mono fun e w' ⟨h1, h2, h3⟩ => ⟨by rw [h1, hv], h2, by rw [← hl']; exact h3⟩
theorem has_is {l : List It} (h : Shf w g S l) (x : It) {v : Bool} (hv : decide (x ∈ l) = v) :
    Calls Try.prog 18 #[.pointer (some ⟨g, 0, none⟩), .agg #[.int .i64 x.key, .int .i64 x.id]] w fun e w' => e = .returned (.bool v) ∧ Kp No w w' :=
  (Has_any h x).mono fun e w' ⟨h1, h2⟩ => ⟨by rw [h1, hv], h2⟩
theorem len_is {l : List It} (h : Shf w g S l) {m : Nat} (hm : l.length = m) :
    Calls Try.prog 17 #[.pointer (some ⟨g, 0, none⟩)] w fun e w' => e = .returned (.int .i64 (m : Int)) ∧ w = w' := by
  subst hm
  exact Len_any h
end

set_option maxRecDepth 100000 in
set_option maxHeartbeats 2000000 in
theorem shelfBack_walk (w : World) (v : Value) (kx ix : Int) {ops : List Op} (hv : Rw 3 oc op0 w Anyb v ops) (_ : I64 kx) (_ : I64 ix) :
    Calls Try.prog 7 #[v, .agg #[.int .i64 kx, .int .i64 ix]] w fun e w' => e = .returned (.bool true) ∧ Kp No w w' := by
  have HV := hid hv
  obtain ⟨A, vc, rfl, hc, hm, hr⟩ := hv
  clear hr
  simp only [maxLen] at hm
  obtain ⟨x, hx⟩ : ∃ x : It, x = ⟨kx, ix⟩ := ⟨_, rfl⟩
  obtain rfl : x.key = kx := by rw [hx]
  obtain rfl : x.id = ix := by rw [hx]
  clear hx
  go_enter Try.func7, Try.ntmps7
  go_wp2_with fail
  have bx := Blk.new w 24 #[.int .i64 x.key, .int .i64 x.id]
  have k0 := (Kp.refl No w).alloc (.cells #[.int .i64 x.key, .int .i64 x.id] 24)
  generalize w.alloc (.cells #[.int .i64 x.key, .int .i64 x.id] 24) = w0 at bx k0 ⊢
  refine (awake_any w0).mono ?_
  rintro e w1 ⟨rfl, k1⟩
  have B1 := hid (bx.kp0 k1)
  have K1 := hid (k0.trans k1)
  have V1 := hid (HV.out.kp0 K1.out)
  clear bx k0 k1 HV
  by_cases hbig : 100 < ops.length
  · go_wp2_with fail
    go_ret
    exact ⟨rfl, K1.out⟩
  · have hl : ops.length ≤ 100 := by omega
    have hbw := B1.out.lt
    have hw1 := K1.out.size
    go_wp2_with fail
    refine (walked_any V1.out hl).mono ?_
    rintro e w2 ⟨rfl, k2, h2⟩
    have hpl := play_len ops
    generalize play ops = l at h2 hpl
    have hso := h2.sorted
    have hw2 := k2.size
    have h2 := h2.mono (T := fun k => w1.heap.size ≤ k ∧ k < w2.heap.size) fun i hi h => ⟨h, hi⟩
    have B2 := hid (B1.out.kp0 k2)
    have K2 := hid (K1.out.trans k2)
    have H2 := hid h2
    clear h2 k2
    go_wp2_with fail
    refine (told_any H2.out (by omega)).mono ?_
    rintro e w3 ⟨u1, rfl, k3, o3⟩
    have hw3 := k3.size
    have B3 := hid (B2.out.kp0 k3)
    have K3 := hid (K2.out.trans k3)
    have H3 := hid ((H2.out.kp0 k3).mono (T := Gap w1.heap.size w2.heap.size w3.heap.size) fun i _ h => .inl h)
    obtain ⟨A1, c1, rfl⟩ := o3.formN rfl
    have O3 := hid o3
    clear k3 o3 B1 V1 K1
    have cx0 := B3.out.cell 0
    have cx1 := B3.out.cell 1
    simp at cx0 cx1
    -- in, then put twice
    have hpL := putL_len l x
    obtain ⟨inn, hin⟩ : ∃ inn, decide (x ∈ l) = inn := ⟨_, rfl⟩
    have HIN := hid hin
    go_wp2_with fail
    refine (has_is H3.out x hin).mono ?_
    rintro e w4 ⟨rfl, k4⟩
    have hw4 := k4.size
    have B4 := hid (B3.out.kp0 k4)
    have K4 := hid (K3.out.trans k4)
    have H4 := hid (H3.out.kp0 k4)
    have O4 := hid (O3.out.kp0 k4)
    clear k4 cx0 cx1 hin
    have cx0 := B4.out.cell 0
    have cx1 := B4.out.cell 1
    simp at cx0 cx1
    go_wp2_with fail
    refine (put_gap H4.out (by omega) hw4 x (v := !inn) (by rw [HIN.out]) rfl).mono ?_
    rintro e w5 ⟨rfl, k5, h5⟩
    have hso5 := h5.sorted
    have BM := hid (back_m hso hso5)
    have hw5 := k5.size
    have gn : ∀ i, i < w1.heap.size → ¬ Gap w1.heap.size w2.heap.size w3.heap.size i := fun i hi h => by rcases h with h | h <;> omega
    have go3 : ∀ i, OV (.slice A1 l.length c1) i → ¬ Gap w1.heap.size w2.heap.size w3.heap.size i := fun i hi h => by
      have := World.ownsRow.lt O3.out i hi
      rcases h with h | h <;> omega
    have GN := hid gn
    have GO := hid go3
    have KU : ∀ a b : World, Kp No w a → Kp (Gap w1.heap.size w2.heap.size w3.heap.size) a b → Kp No w b := fun _ _ h k => h.step k fun i hi e => GN.out i (by omega) e
    have KK := hid KU
    have B5 := hid (B4.out.kp k5 (GN.out _ hbw))
    have K5 := hid (KU _ _ K4.out k5)
    have H5 := hid h5
    have O5 := hid (O4.out.kpv k5 GO.out)
    clear k5 h5 cx0 cx1 gn go3 KU hso hso5
    have cx0 := B5.out.cell 0
    have cx1 := B5.out.cell 1
    simp at cx0 cx1
    go_wp2_with fail
    refine (put_gap H5.out (by omega) (by omega) x (v := false) (by rw [decide_eq_true BM.out.mem]; rfl) (l' := putL l x) (putL_old BM.out.mem)).mono ?_
    rintro e w6 ⟨rfl, k6, h6⟩
    have hw6 := k6.size
    have B6 := hid (B5.out.kp k6 (GN.out _ hbw))
    have K6 := hid (KK.out _ _ K5.out k6)
    have H6 := hid h6
    have O6 := hid (O5.out.kpv k6 GO.out)
    clear k6 h6 cx0 cx1
    have cx0 := B6.out.cell 0
    have cx1 := B6.out.cell 1
    simp at cx0 cx1
    have hD := dropL_len l x
    obtain ⟨m, hm⟩ : ∃ m, (dropL l x).length = m := ⟨_, rfl⟩
    rw [hm] at hD
    have HM := hid hm
    clear hm
    go_wp2_with fail
    refine (len_is H6.out (m := m + 1) (by rw [BM.out.len, HM.out])).mono ?_
    rintro e w7 ⟨rfl, rfl⟩
    go_wp2_with fail
    refine (drop_gap H6.out x (v := true) (decide_eq_true BM.out.mem) BM.out.drop).mono ?_
    rintro e w7 ⟨rfl, k7, h7⟩
    have hw7 := k7.size
    have B7 := hid (B6.out.kp k7 (GN.out _ hbw))
    have K7 := hid (KK.out _ _ K6.out k7)
    have H7 := hid h7
    have O7 := hid (O6.out.kpv k7 GO.out)
    clear k7 h7 cx0 cx1
    have cx0 := B7.out.cell 0
    have cx1 := B7.out.cell 1
    simp at cx0 cx1
    go_wp2_with fail
    refine (drop_gap H7.out x (v := false) (decide_eq_false BM.out.out) BM.out.again).mono ?_
    rintro e w8 ⟨rfl, k8, h8⟩
    have hw8 := k8.size
    have B8 := hid (B7.out.kp k8 (GN.out _ hbw))
    have K8 := hid (KK.out _ _ K7.out k8)
    have H8 := hid h8
    have O8 := hid (O7.out.kpv k8 GO.out)
    clear k8 h8 cx0 cx1
    go_wp2_with fail
    refine (told_any H8.out (by rw [HM.out]; omega)).mono ?_
    rintro e w9 ⟨u2, rfl, k9, o9⟩
    obtain ⟨A2, c2, rfl⟩ := o9.formN (m := m) HM.out
    have B9 := hid (B8.out.kp0 k9)
    have K9 := hid (K8.out.trans k9)
    have H9 := hid (H8.out.kp0 k9)
    have O9 := hid (O8.out.kp0 k9)
    have N9 := hid o9
    clear k9 o9
    have cx0 := B9.out.cell 0
    have cx1 := B9.out.cell 1
    simp at cx0 cx1
    have hii : ((!inn) == inn) = false := by cases inn <;> rfl
    go_wp2_with fail
    refine (has_is H9.out x (v := false) (decide_eq_false BM.out.out)).mono ?_
    rintro e w10 ⟨rfl, k10⟩
    have B10 := hid (B9.out.kp0 k10)
    have K10 := hid (K9.out.trans k10)
    have O10 := hid (O9.out.kp0 k10)
    have N10 := hid (N9.out.kp0 k10)
    clear k10 cx0 cx1
    have cx0 := B10.out.cell 0
    have cx1 := B10.out.cell 1
    simp at cx0 cx1
    have hlin : inn = true ∨ m = l.length := by
      cases inn with
      | true => exact .inl rfl
      | false =>
        have h1 := BM.out.more (of_decide_eq_false HIN.out)
        rw [BM.out.len, HM.out] at h1
        exact .inr (by omega)
    go_wp2_with fail
    refine (refdrop_any O10.out.rw x (by omega)).mono ?_
    rintro e w11 ⟨u3, rfl, k11, o11⟩
    go_wp2_with fail
    refine (same_any (N10.out.kp0 k11).rw o11.rw (by rw [HM.out]; omega)).mono ?_
    rintro e w12 ⟨rfl, k12⟩
    have K12 := hid ((K10.out.trans k11).trans k12)
    clear k11 k12 o11
    cases inn with
    | true =>
      go_wp2_with fail
      go_ret
      exact ⟨rfl, K12.out⟩
    | false =>
      rcases hlin with hlin | hlin
      · cases hlin
      · subst hlin
        go_wp2_with fail
        go_ret
        exact ⟨rfl, K12.out⟩
end Go.Proofs.Ytllamoiehmdgfaa
