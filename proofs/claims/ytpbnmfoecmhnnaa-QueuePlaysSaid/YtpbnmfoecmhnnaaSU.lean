/-
  The document's Rank, At, Put.
-/
import Derived.Test.YtpbnmfoecmhnnaaSS
import Derived.Test.YtpbnmfoecmhnnaaTail
namespace Go.Proofs.Ytpbnmfoecmhnnaa
open Go.RowKit

section
variable {α : Type} {n : Nat} {f : α → Nat → Value} {d : α} {P Q : Nat → Prop} {w : World} {v : Value} {xs : List α}
theorem Rw.mono (h : Rw n f d w P v xs) (hq : ∀ i, i < w.heap.size → P i → Q i) : Rw n f d w Q v xs := by
  obtain ⟨A, c, rfl, hc, hm, h⟩ := h
  refine ⟨A, c, rfl, hc, hm, fun h0 => ?_⟩
  obtain ⟨b, o, rfl, hb, hp, hcell⟩ := h h0
  exact ⟨b, o, rfl, hb, hq b hb hp, hcell⟩
theorem Rw.any (h : Rw n f d w P v xs) : Rw n f d w Anyb v xs := h.mono fun _ _ _ => trivial
theorem Rw.take {A : Option Addr} {c m : Nat} (h : Rw n f d w P (.slice A m c) xs) (k : Nat) (hk : k ≤ xs.length) : Rw n f d w P (.slice A k c) (xs.take k) := by
  obtain ⟨A', c', he, hc, hm, h⟩ := h
  injection he with e1 e2 e3
  subst e1 e3
  have hl : (xs.take k).length = k := by simp; omega
  refine ⟨A, c, by rw [hl], by omega, hm, fun h0 => ?_⟩
  obtain ⟨b, o, rfl, hb, hp, hcell⟩ := h (by omega)
  refine ⟨b, o, rfl, hb, hp, fun j i hj hi => ?_⟩
  rw [hl] at hj
  rw [hcell j i (by omega) hi]
  simp [List.getD, hj]
theorem Rw.drop {A : Option Addr} {c m : Nat} (h : Rw n f d w P (.slice A m c) xs) (k : Nat) (hk : k ≤ xs.length) : Rw n f d w P (.slice (A.map fun x => x.add (k * n)) (m - k) (c - k)) (xs.drop k) := by
  obtain ⟨A', c', he, hc, hm, h⟩ := h
  injection he with e1 e2 e3
  subst e1 e2 e3
  have hl : (xs.drop k).length = xs.length - k := by simp
  refine ⟨_, _, by rw [hl], by omega, by omega, fun h0 => ?_⟩
  obtain ⟨b, o, rfl, hb, hp, hcell⟩ := h (by omega)
  have ha : (⟨b, o, none⟩ : Addr).add (k * n) = ⟨b, o + k * n, none⟩ := by unfold Addr.add; split <;> simp_all
  refine ⟨b, o + k * n, by simp [ha], hb, hp, fun j i hj hi => ?_⟩
  rw [show o + k * n + (j * n + i) = o + ((k + j) * n + i) by rw [Nat.add_mul]; omega, hcell (k + j) i (by omega) hi]
  simp [List.getD, List.getElem?_drop]
theorem Rw.dropG {A : Option Addr} {c m : Nat} (h : Rw n f d w P (.slice A m c) xs) (k : Nat) (hk : k ≤ xs.length) : Rw n f d w P (.slice (if c = k then A else A.map fun x => x.add (k * n)) (m - k) (c - k)) (xs.drop k) := by
  by_cases hc : c = k
  · obtain ⟨A', c', he, hc', hm, h⟩ := h
    injection he with e1 e2 e3
    subst e1 e2 e3
    have : xs.length = k := by omega
    rw [if_pos hc]
    exact ⟨A, c - k, by rw [List.length_drop], by simp; omega, by omega, fun h0 => by simp at h0; omega⟩
  · rw [if_neg hc]
    exact h.drop k hk
theorem Ow.rwP {base : Nat} {e : TypeId} (h : Ow w base e n f v xs) (hP : ∀ i, base ≤ i → P i) : Rw n f d w P v xs := by
  rcases h.2 with ⟨rfl, h0⟩ | ⟨g, cap, cur, rfl, hb, hg, r⟩
  · have : xs = [] := List.eq_nil_of_length_eq_zero h0
    subst this
    exact Rw.nil n f d w P
  · obtain ⟨A, c, he, hc, hm, hr⟩ := h.rw (d := d)
    injection he with e1 e2 e3
    subst e1 e3
    refine ⟨_, _, rfl, hc, hm, fun h0 => ?_⟩
    obtain ⟨b, o, he, hl, _, hcell⟩ := hr h0
    cases he
    exact ⟨g, 0, rfl, hl, hP g hb, hcell⟩
end

/-- append of what reads as a list onto what is owned, as one step of a region that draws. -/
theorem step_apps {P : Program} {t e : TypeId} {α : Type} {n bytes : Nat} {z : Value} {f : α → Nat → Value} {d : α} (u : Us P t e n bytes z) (hf : ∀ x i, (f x i).oneCell' = true) {ops : Array Oper} {o : Oper} {a : Act} {w : World} {K : Act → World → Prop} {Q : Exit → Act → World → Prop} {E : Prop} (hgd : o.guard = none) (s x : Operand)
    (ho : o.op = .call { callee := .builtin .append, args := #[s, x], argTypes := #[t, t] }) {base : Nat} {xs ys : List α} {Pb : Nat → Prop} (v y : Value) (hv : a.eval s = v) (hy : a.eval x = y) (hown : Ow w base e n f v xs) (hx : Rw n f d w Pb y ys)
    (hle : (xs.length + ys.length) * bytes ≤ 140737488355328) (h63 : xs.length + ys.length ≤ maxLen) (hbase : base ≤ w.heap.size)
    (h : ∀ v' w', Ow w' base e n f v' (xs ++ ys) → w.grownBy w' v.ownBlock → K (a.put o.dst v') w') : if Region.wanted o (yielded ops a.tmps) = true then Oper.wp P o a w K Q else E := by
  have hw : Region.wanted o (yielded ops a.tmps) = true := by simp [Region.wanted, hgd]
  rw [if_pos hw]
  obtain ⟨v', w', hrun, h2, h3⟩ := run_apps (P := P) (ty := o.type) u hf w hown hx hle h63 hbase
  unfold Oper.wp execOp
  simp only [ho, resolve, invoke, builtin, Sem.run_bind, Sem.run_pure, Result.andThen_ok, List.map_toArray, List.map_cons, List.map_nil, hv, hy, hrun]
  exact h v' w' h2 h3

section
variable {w w' : World} {g b c n top : Nat} {S : Nat → Prop}

theorem rnk_take (l : List It) (x : It) {k : Nat} (h : k < l.length) : rnk (l.take (k + 1)) x = rnk (l.take k) x + (if ltB (l.getD k it0) x then 1 else 0) := by
  rw [take_snoc l h]
  unfold rnk
  rw [List.countP_append]
  simp [List.countP_cons]

set_option maxRecDepth 100000 in
set_option maxHeartbeats 1000000 in
theorem refrank_any {v : Value} {l : List It} (hv : Rw 2 itc it0 w Anyb v l) (x : It) (hl : l.length ≤ 1000000) :
    Calls Try.prog 31 #[v, .agg #[.int .i64 x.key, .int .i64 x.id]] w fun e w' => e = .returned (.int .i64 (rnk l x : Int)) ∧ Kp No w w' := by
  have HV := hid hv
  obtain ⟨B, cb, rfl, hcb, hmb, hrb⟩ := hv
  clear hrb
  simp only [maxLen] at hmb
  go_enter Try.func31, Try.ntmps31
  go_wp2_with fail
  have bx := Blk.new w 24 #[.int .i64 x.key, .int .i64 x.id]
  have k0 := (Kp.refl No w).alloc (.cells #[.int .i64 x.key, .int .i64 x.id] 24)
  generalize hw0 : w.alloc (.cells #[.int .i64 x.key, .int .i64 x.id] 24) = w0 at bx k0 ⊢
  clear hw0
  have BX := hid bx
  have K0 := hid k0
  clear bx k0
  go_loopw [5, 6] (fun n i wr => ∃ k r : Nat, k ≤ l.length ∧ i = .int .i64 (k : Int) ∧ n = .int .i64 (r : Int) ∧ r ≤ k ∧ Hid (rnk (l.take k) x = r) ∧ Hid (Kp No w0 wr)) (fun _ i _ => l.length - (intOf i).toNat)
  case atStart => exact ⟨0, 0, by omega, rfl, rfl, by omega, hid rfl, hid (Kp.refl No w0)⟩
  case round =>
    obtain ⟨k, r, hk, rfl, rfl, hr, HR, K⟩ := hrel
    by_cases hlt : k < l.length
    · have hki : (k : Int) < (l.length : Int) := by omega
      obtain ⟨bb, bo, hA⟩ := HV.out.there (by omega)
      subst hA
      have HT := hid (rnk_take l x hlt)
      obtain ⟨y, hy⟩ : ∃ y, l.getD k it0 = y := ⟨_, rfl⟩
      rw [hy] at HT
      have F : Hid (∀ w', Kp No w0 w' → w'.cell? ⟨w.heap.size, 0, none⟩ = some (.int .i64 x.key) ∧ w'.cell? ⟨w.heap.size, 1, none⟩ = some (.int .i64 x.id) ∧ w'.cell? ⟨bb, bo + k * 2, none⟩ = some (.int .i64 y.key) ∧ w'.cell? ⟨bb, bo + k * 2 + 1, none⟩ = some (.int .i64 y.id)) := hid fun w' hw => by
        have c0 := (BX.out.kp0 hw).cell 0
        have c1 := (BX.out.kp0 hw).cell 1
        have d0 := HV.out.cell (K0.out.trans hw) hlt (i := 0) (by omega) rfl
        have d1 := HV.out.cell (K0.out.trans hw) hlt (i := 1) (by omega) rfl
        rw [hy] at d0 d1
        simp only [itc, Nat.add_zero] at d0 d1
        rw [← Nat.add_assoc] at d1
        exact ⟨by simpa using c0, by simpa using c1, d0, d1⟩
      clear hy
      obtain ⟨q, hq⟩ : ∃ q, ltB y x = q := ⟨_, rfl⟩
      rw [hq] at HT
      have HQ := hid hq
      clear hq
      go_wp2_with fail
      refine region_class (fun w' => Kp No w0 w') 6 rfl (by kernel_rfl) (by kernel_rfl) (by kernel_rfl) (K.out.drew) ?_
      simp only [List.take_succ_cons, List.take_zero]
      repeat ((first | ((with_reducible refine cl_val (v := ?_) ?_ ?_ ?_); rotate_left; (focus (go_simp; done)); (focus (intro w' hw; obtain ⟨c0, c1, d0, d1⟩ := F.out w' hw; go_simp; (try with_reducible rfl); done))) | ((with_reducible refine cl_skip ?_ ?_); (focus (first | (go_simp; done) | exact unwanted rfl rfl)))); simp only [Act.put, List.setIfInBounds_toArray, List.set_cons_zero, List.set_cons_succ])
      refine cl_call (v := .bool q) rfl (fun w' hw => by go_simp) (fun w' hw => (refless_any y x w').mono fun e w'' h => ⟨by rw [h.1, HQ.out], hw.trans h.2⟩) ?_
      simp only [Act.put, List.setIfInBounds_toArray, List.set_cons_zero, List.set_cons_succ]
      repeat ((first | ((with_reducible refine cl_val (v := ?_) ?_ ?_ ?_); rotate_left; (focus (go_simp; done)); (focus (intro w' hw; obtain ⟨c0, c1, d0, d1⟩ := F.out w' hw; go_simp; (try with_reducible rfl); done))) | ((with_reducible refine cl_skip ?_ ?_); (focus (first | (go_simp; done) | exact unwanted rfl rfl)))); simp only [Act.put, List.setIfInBounds_toArray, List.set_cons_zero, List.set_cons_succ])
      refine cl_nil fun w' hw => ?_
      have K6 := hid hw
      clear hw
      cases q with
      | true =>
        go_wp2_with fail
        go_roundw
        case rel => exact ⟨k + 1, r + 1, by omega, by go_num, by go_num, by omega, hid (by rw [HT.out, HR.out]; simp), K6⟩
        case measure => simp [intOf]; omega
      | false =>
        go_wp2_with fail
        go_roundw
        case rel => exact ⟨k + 1, r, by omega, by go_num, rfl, by omega, hid (by rw [HT.out, HR.out]; simp), K6⟩
        case measure => simp [intOf]; omega
    · go_wp2_with fail
      go_ret
      refine ⟨?_, K0.out.trans K.out⟩
      have := HR.out
      rw [List.take_of_length_le (by omega)] at this
      rw [this]
      rfl

set_option maxRecDepth 100000 in
theorem refat_out {v : Value} {l : List It} (hv : Rw 2 itc it0 w Anyb v l) (r : Int) (hr : r < 0 ∨ (l.length : Int) ≤ r) :
    Calls Try.prog 28 #[v, .int .i64 r] w fun e w' => e = .returned (.tuple #[.agg #[.int .i64 0, .int .i64 0], .bool false]) ∧ Kp No w w' := by
  obtain ⟨B, cb, rfl, hcb, hmb, hrb⟩ := hv
  clear hrb
  rcases (show r < 0 ∨ (¬ r < 0 ∧ (l.length : Int) ≤ r) by omega) with h | ⟨h, h'⟩
  · go_enter Try.func28, Try.ntmps28
    go_wp2
    exact bodyPost_ret (v := .tuple #[.agg #[.int .i64 0, .int .i64 0], .bool false]) (by simp [results, Try.results28, go_sem]) rfl ⟨rfl, (Kp.refl No w).alloc _⟩
  · go_enter Try.func28, Try.ntmps28
    go_wp2
    exact bodyPost_ret (v := .tuple #[.agg #[.int .i64 0, .int .i64 0], .bool false]) (by simp [results, Try.results28, go_sem]) rfl ⟨rfl, (Kp.refl No w).alloc _⟩

set_option maxRecDepth 100000 in
theorem refat_in {v : Value} {l : List It} (hv : Rw 2 itc it0 w Anyb v l) (k : Nat) (hk : k < l.length) {y : It} (hy : l.getD k it0 = y) :
    Calls Try.prog 28 #[v, .int .i64 (k : Int)] w fun e w' => e = .returned (.tuple #[.agg #[.int .i64 y.key, .int .i64 y.id], .bool true]) ∧ Kp No w w' := by
  have HV := hid hv
  obtain ⟨B, cb, rfl, hcb, hmb, hrb⟩ := hv
  clear hrb
  obtain ⟨bb, bo, hA⟩ := HV.out.there (by omega)
  subst hA
  have k1 := (Kp.refl No w).alloc (.cells #[.int .i64 0, .int .i64 0] 24)
  have d0 := HV.out.cell k1 hk (i := 0) (by omega) rfl
  have d1 := HV.out.cell k1 hk (i := 1) (by omega) rfl
  rw [hy] at d0 d1
  simp only [itc, Nat.add_zero] at d0 d1
  rw [← Nat.add_assoc] at d1
  have hki : (k : Int) < (l.length : Int) := by omega
  have hk0 : ¬ (k : Int) < 0 := by omega
  have hk1 : ¬ (l.length : Int) ≤ (k : Int) := by omega
  clear hy
  go_enter Try.func28, Try.ntmps28
  go_wp2
  exact bodyPost_ret (v := .tuple #[.agg #[.int .i64 y.key, .int .i64 y.id], .bool true]) (by simp [results, Try.results28, go_sem]) rfl ⟨rfl, (Kp.refl No w).alloc _⟩

theorem rnk_parts {l : List It} {x : It} (hs : Sorted l) (hx : x ∉ l) : l.take (rnk l x) ++ x :: l.drop (rnk l x) = putL l x := by
  unfold putL
  rw [if_neg hx]
  have h := sorted_split hs hx
  have e : (l.filter fun y => ltB y x).length = rnk l x := by rw [rnk, List.countP_eq_length_filter]
  obtain ⟨a, ha⟩ : ∃ a, l.filter (fun y => ltB y x) = a := ⟨_, rfl⟩
  obtain ⟨b, hb⟩ : ∃ b, l.filter (fun y => ltB x y) = b := ⟨_, rfl⟩
  rw [ha] at e
  rw [ha, hb] at h
  rw [← e, ha, hb]
  have h1 : l.take a.length = a := by rw [← h]; simp
  have h2 : l.drop a.length = b := by rw [← h]; simp
  rw [h1, h2]

set_option maxRecDepth 100000 in
set_option maxHeartbeats 1000000 in
theorem refput_any {v : Value} {P : Nat → Prop} {l : List It} (hs : Sorted l) (hv : Rw 2 itc it0 w P v l) (x : It) (hl : l.length ≤ 1000000) :
    Calls Try.prog 23 #[v, .agg #[.int .i64 x.key, .int .i64 x.id]] w fun e w' => ∃ u, e = .returned u ∧ Kp No w w' ∧ Rw 2 itc it0 w' (fun k => P k ∨ w.heap.size ≤ k) u (putL l x) := by
  have HV := hid hv
  obtain ⟨B, cb, rfl, hcb, hmb, hrb⟩ := hv
  clear hrb
  simp only [maxLen] at hmb
  go_enter Try.func23, Try.ntmps23
  go_wp2_with fail
  have bx := Blk.new w 24 #[.int .i64 x.key, .int .i64 x.id]
  have k0 := (Kp.refl No w).alloc (.cells #[.int .i64 x.key, .int .i64 x.id] 24)
  generalize hw0 : w.alloc (.cells #[.int .i64 x.key, .int .i64 x.id] 24) = w0 at bx k0 ⊢
  clear hw0
  have x0 := bx.cell 0
  have x1 := bx.cell 1
  simp at x0 x1
  have BX := hid bx
  have K0 := hid k0
  clear bx k0
  obtain ⟨q, hq⟩ : ∃ q, decide (x ∈ l) = q := ⟨_, rfl⟩
  have HQ := hid hq
  clear hq
  refine (refhas_any (HV.out.any.kp0 K0.out) x hl).mono ?_
  rintro e w1 ⟨rfl, k1⟩
  rw [HQ.out]
  have K1 := hid (K0.out.trans k1)
  have B1 := hid (BX.out.kp0 k1)
  clear k1 K0 BX x0 x1
  cases q with
  | true =>
    go_wp2_with fail
    go_ret
    refine ⟨_, rfl, K1.out, ?_⟩
    rw [putL_old (of_decide_eq_true HQ.out)]
    exact (HV.out.kp0 K1.out).mono fun i _ h => .inl h
  | false =>
    have x0 := B1.out.cell 0
    have x1 := B1.out.cell 1
    simp at x0 x1
    go_wp2_with fail
    refine (refrank_any (HV.out.any.kp0 K1.out) x hl).mono ?_
    rintro e w2 ⟨rfl, k2⟩
    have K2 := hid (K1.out.trans k2)
    have B2 := hid (B1.out.kp0 k2)
    have hr := rnk_le l x
    have HP := hid (rnk_parts hs (of_decide_eq_false HQ.out))
    generalize rnk l x = r at hr HP ⊢
    clear k2 K1 B1 x0 x1 HQ
    have hri : (r : Int) ≤ (l.length : Int) := by omega
    have hr0 : (0 : Int) ≤ (r : Int) := by omega
    have hcb' : (l.length : Int) ≤ (cb : Int) := by omega
    go_wp2_with (first
      | (at_builtin
         refine wp_apps usItem itc_one rfl (.tmp 16) (.tmp 19) rfl (d := it0) (base := w2.heap.size) (xs := []) (ys := l.take r) (Pb := P) (by exact Ow.mt _ _ _ _ _ (Nat.le_refl _)) (by exact ((HV.out.kp0 K2.out).kp0 ((Kp.refl No w2).alloc _)).take r hr) (by simp; omega) (by simp [maxLen]; omega) (by simp) ?_
         intro v3 w3 o3 k3))
    have K3a : Kp No w2 w3 := ((Kp.refl No w2).alloc _).step k3 fun i hi h => by omega
    have K3 := hid (K2.out.trans K3a)
    have B3 := hid (B2.out.kp0 K3a)
    have O3 := hid o3
    have hs3 := hid K3a.size
    have hs2 := hid K2.out.size
    have y0 := B3.out.cell 0
    have y1 := B3.out.cell 1
    simp at y0 y1
    clear K3a k3 o3 B2
    have hl3 : (l.take r).length = r := by simp; omega
    go_wp2_with fail
    go_region_law (first
      | (refine step_one usItem itc_one (by rfl) (.tmp 21) (.tmp 23) (by rfl) x _ (by rfl) (by exact O3.out.kp0 ((Kp.refl No w3).drew.alloc _)) (by rfl) (fun i hi => by
           have hb := Blk.kp0 (Blk.new w3 24 #[.int .i64 x.key, .int .i64 x.id]) (Kp.refl No _).drew
           match i, hi with
           | 0, _ => exact hb.cell 0
           | 1, _ => exact hb.cell 1) (by simp; omega) (by simp [maxLen]; omega) (by have := hs3.out; simp; omega) ?_
         intro v5 w5 o5 k5 p5)
      | (refine step_apps usItem itc_one (by rfl) (.tmp 24) (.tmp 27) (by rfl) _ _ (by rfl) (by rfl) o5 (by exact (HV.out.kp ((K3.out.all (S := fun k => w2.heap.size ≤ k)).trans (((Kp.refl (fun k => w2.heap.size ≤ k) w3).drew.alloc _).grown k5 fun k hk => .inl (O3.out.at_ k hk))) (fun i hi _ e => by have := hs2.out; omega)).dropG r hr) (by simp; omega) (by simp [maxLen]; omega) (by have := hs3.out; have := k5.size; simp at this; omega) ?_
         intro v6 w6 o6 k6))
    have k7 : Kp (fun k => w2.heap.size ≤ k) w3 w6 := (((Kp.refl (fun k => w2.heap.size ≤ k) w3).alloc _).drew.grown k5 fun k hk => .inl (O3.out.at_ k hk)).grown k6 fun k hk => .inl (o5.at_ k hk)
    have O6 := hid o6
    clear k5 k6 p5 o5 o6
    have o := O6.out.rwP (d := it0) (P := fun k => P k ∨ w.heap.size ≤ k) fun i hi => .inr (by have := hs2.out; omega)
    have o := hid (show Rw 2 itc it0 w6 (fun k => P k ∨ w.heap.size ≤ k) v6 (putL l x) by rw [← HP.out]; simpa using o)
    have k8 := hid (K3.out.step k7 fun i hi h => by have := hs2.out; omega)
    go_wp2_with fail
    all_goals go_ret
    all_goals exact ⟨_, rfl, k8.out, o.out⟩
end
end Go.Proofs.Ytpbnmfoecmhnnaa
