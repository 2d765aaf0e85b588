/-
  The walk of LeTakes.
-/
import Derived.Test.YtbcekjnemigkkaaLeAwake
import Derived.Test.YtbcekjnemigkkaaLeF
import Derived.Test.YtbcekjnemigkkaaArgs
namespace Go.Proofs.Ytbcekjnemigkkaa
open Go.RowKit

theorem same_true {S T : Nat → Prop} {v u : Value} {xs : List Int} {w : World} (h : Byt w S v xs) (h' : Byt w T u xs) :
    Calls Try.prog 12 #[v, u] w fun e w' => e = .returned (.bool true) ∧ ∃ n, w' = w.drewN n :=
  (same_any v u xs xs w h h').mono fun e w' ⟨he, hw⟩ => ⟨by rw [he, decide_eq_true rfl], hw⟩

/-- Two readers, the code's in block g and the document's in block h, that stand at the same place. -/
def Two (w0 w : World) (g h : Nat) (v : Value) (xs : List Int) (K : Nat) (e : Int) : Prop :=
  Rd w g (xs.drop K) e ∧ Rr w h w0.heap.size v xs K e ∧ w0.heap.size ≤ g ∧ g < h ∧ Kp No w0 w

section
variable {w0 w w' : World} {g h : Nat} {v : Value} {xs : List Int} {K : Nat} {e : Int}
theorem Two.kp (t : Two w0 w g h v xs K e) (k : Kp No w w') : Two w0 w' g h v xs K e :=
  ⟨t.1.kp k fun _ _ h => h, t.2.1.kp k (fun h => h) (fun _ _ h => h), t.2.2.1, t.2.2.2.1, t.2.2.2.2.trans k⟩
end

theorem left_is {w0 w : World} {g h : Nat} {v : Value} {xs : List Int} {K : Nat} {e : Int} (t : Two w0 w g h v xs K e) :
    Calls Try.prog 21 #[.pointer (some ⟨g, 0, none⟩)] w fun r w' => r = .returned (.int .i64 ((xs.length : Int) - (K : Int))) ∧ w' = w :=
  (left_any g _ e w t.1).mono fun _ _ ⟨hr, hw⟩ => ⟨by have := t.2.1.2.2.1; rw [hr, List.length_drop, Int.ofNat_sub this], hw.symm⟩
theorem fail_is {w0 w : World} {g h : Nat} {v : Value} {xs : List Int} {K : Nat} {e : Int} (t : Two w0 w g h v xs K e) :
    Calls Try.prog 22 #[.pointer (some ⟨g, 0, none⟩)] w fun r w' => r = .returned (.int .i64 e) ∧ w' = w :=
  (fail_any g _ e w t.1).mono fun _ _ ⟨hr, hw⟩ => ⟨hr, hw.symm⟩
theorem end_two {w0 w : World} {g h : Nat} {v : Value} {xs : List Int} {K : Nat} {e : Int} (t : Two w0 w g h v xs K e) :
    Calls Try.prog 23 #[.pointer (some ⟨g, 0, none⟩)] w fun r w' => r = .returned (.int .i64 (enE (xs.drop K).length e)) ∧ w' = w :=
  (end_any g _ e w t.1).mono fun _ _ ⟨hr, hw⟩ => ⟨hr, hw.symm⟩
theorem refend_two {w0 w : World} {g h : Nat} {v : Value} {xs : List Int} {K : Nat} {e : Int} (t : Two w0 w g h v xs K e) :
    Calls Try.prog 24 #[.pointer (some ⟨h, 0, none⟩)] w fun r w' => r = .returned (.int .i64 (enE (xs.drop K).length e)) ∧ ∃ n, w' = w.drewN n :=
  refend_any h _ v xs K e w t.2.1

/-- What a cell of a slice that came in holds, in whatever later world. -/
theorem Sl.cell_at {α : Type} {f : α → Value} {d : α} {w0 w : World} {P : Nat → Prop} {A : Option Addr} {n c : Nat} {xs : List α} (h : Sl f d w0 P (.slice A n c) xs) (k : Kp No w0 w) {j b o : Nat} (hj : j < xs.length) (hA : A = some ⟨b, o, none⟩) :
    w.cell? ⟨b, o + j, none⟩ = some (f (xs.getD j d)) := by
  obtain ⟨A', c', he, _, _, hr⟩ := h.kp k fun _ _ _ h => h
  injection he with e1 _ e3
  subst e1 e3
  obtain ⟨b', o', e8, _, _, hc⟩ := hr (by omega)
  rw [hA] at e8
  cases e8
  exact hc j hj
theorem Sl.at_some {α : Type} {f : α → Value} {d : α} {w0 : World} {P : Nat → Prop} {A : Option Addr} {n c : Nat} {xs : List α} (h : Sl f d w0 P (.slice A n c) xs) (h0 : 0 < xs.length) : ∃ b o, A = some ⟨b, o, none⟩ := by
  obtain ⟨A', c', he, _, _, hr⟩ := h
  injection he with e1 _ e3
  subst e1 e3
  obtain ⟨b', o', e8, _⟩ := hr h0
  exact ⟨b', o', e8⟩

/-- Behind a part, or a number, taken from both. -/
theorem Two.next {w0 w w1 w2 : World} {g h : Nat} {v : Value} {xs : List Int} {K K' : Nat} {e m : Int} (t : Two w0 w g h v xs K e) (r : Rd w1 g (nxR (xs.drop K) e m) (nxE (xs.drop K) e m)) (k1 : Kp (Only g) w w1)
    (r2 : Rr w2 h w0.heap.size v xs K' (nxE (xs.drop K) e m)) (hd : xs.drop K' = nxR (xs.drop K) e m) (k2 : Kp (Only h) w1 w2) : Two w0 w2 g h v xs K' (nxE (xs.drop K) e m) := by
  obtain ⟨_, _, hg, hgh, k0⟩ := t
  refine ⟨?_, r2, hg, hgh, (k0.step k1 fun i hi hS => by have : i = g := hS; omega).step k2 fun i hi hS => by have : i = h := hS; omega⟩
  rw [hd]
  exact r.kpg k2 fun i hi hS => by have : i = h := hS; omega
theorem Two.mid {w0 w w1 : World} {g h : Nat} {v : Value} {xs : List Int} {K : Nat} {e : Int} (t : Two w0 w g h v xs K e) (k1 : Kp (Only g) w w1) : Rr w1 h w0.heap.size v xs K e ∧ Kp No w0 w1 := by
  obtain ⟨_, r, hg, hgh, k0⟩ := t
  exact ⟨r.kp k1 (fun hS => by have : h = g := hS; omega) (fun i hi hS => by have : i = g := hS; omega), k0.step k1 fun i hi hS => by have : i = g := hS; omega⟩

set_option maxRecDepth 100000 in
set_option maxHeartbeats 4000000 in
theorem leTakes_walk (w : World) (v u t : Value) {xs ls : List Int} {bs : List Bool} (hv : Byt w Anyb v xs) (hu : Sl (Value.int .i64) 0 w Anyb u ls ∧ ∀ z ∈ ls, (Lit.int .i64 z).wf = true) (ht : Sl Value.bool false w Anyb t bs) :
    Calls Try.prog 4 #[v, u, t] w fun e w' => e = .returned (.bool true) ∧ Kp No w w' := by
  have HV := hid hv.below
  have HU := hid hu.1
  have HT := hid ht
  obtain ⟨hu1, _⟩ := hu
  obtain ⟨A, c, rfl, hc, hmx, _, _⟩ := hv
  obtain ⟨A', c', rfl, hc', hmx', _⟩ := hu1
  obtain ⟨A'', c'', rfl, hc'', hmx'', _⟩ := ht
  unfold maxLen at hmx hmx' hmx''
  go_enter Try.func4, Try.ntmps4
  go_wp2_with fail
  refine (awake_any _).mono ?_
  rintro e w1 ⟨rfl, k1⟩
  have K1 := hid k1
  clear k1
  by_cases hbig : 200 < xs.length
  · have hb1 : decide ((200 : Int) < (xs.length : Int)) = true := by simp; omega
    go_wp2
    go_ret
    exact ⟨rfl, K1.out⟩
  · have hb1 : decide ((200 : Int) < (xs.length : Int)) = false := by simp; omega
    by_cases hbig2 : 50 < ls.length
    · have hb2 : decide ((50 : Int) < (ls.length : Int)) = true := by simp; omega
      go_wp2
      go_ret
      exact ⟨rfl, K1.out⟩
    · have hb2 : decide ((50 : Int) < (ls.length : Int)) = false := by simp; omega
      go_wp2_with fail
      refine (new_any _ xs _ (HV.out.kp0 K1.out) (by omega)).mono ?_
      rintro e w2 ⟨g, rfl, hg, r2, k2⟩
      have hg0 : w.heap.size ≤ g := Nat.le_trans K1.out.size hg
      have K2 := hid (K1.out.trans k2)
      have R2 := hid r2
      clear r2 k2 K1 hg
      go_wp2_with fail
      have hT : Two w (w2.alloc (.cells #[.slice A xs.length c, .int .i64 0, .int .i64 0] 37)) g w2.heap.size (.slice A xs.length c) xs 0 0 := by
        have k3 : Kp No w2 (w2.alloc (.cells #[.slice A xs.length c, .int .i64 0, .int .i64 0] 37)) := (Kp.refl No w2).alloc _
        refine ⟨?_, ⟨Blk.new _ _ _, (HV.out.kp0 K2.out).kp0 k3, Nat.zero_le _, K2.out.size⟩, hg0, R2.out.lt, K2.out.trans k3⟩
        rw [List.drop_zero]
        exact R2.out.kp k3 fun _ _ h => h
      generalize hh : w2.heap.size = h at hT ⊢
      generalize w2.alloc (.cells #[.slice A xs.length c, .int .i64 0, .int .i64 0] 37) = w3 at hT ⊢
      have HT0 := hid hT
      clear hT hh K2 R2 hb1 hb2
      go_loopw [10] (fun i wr => ∃ (k K : Nat) (e : Int), k ≤ ls.length ∧ i = .int .i64 k ∧ Hid (Two w wr g h (.slice A xs.length c) xs K e)) (fun i _ => ls.length - (intOf i).toNat)
      case atStart => exact ⟨0, 0, 0, Nat.zero_le _, rfl, HT0⟩
      case round =>
        obtain ⟨k, K, e, hk, rfl, HH⟩ := hrel
        by_cases hlt : k < ls.length
        · have hlt' : (k : Int) < (ls.length : Int) := by omega
          obtain ⟨b1, o1, rfl⟩ := HU.out.at_some (by omega)
          have cz := HU.out.cell_at HH.out.2.2.2.2 hlt rfl
          obtain ⟨z, hz⟩ : ∃ z, ls.getD k 0 = z := ⟨_, rfl⟩
          rw [hz] at cz
          have HZ := hid hz
          clear hz
          by_cases hbs : k < bs.length
          · have hbs' : decide ((k : Int) < (bs.length : Int)) = true := by simp; omega
            have hbs2 : (k : Int) < (bs.length : Int) := by omega
            obtain ⟨b2, o2, rfl⟩ := HT.out.at_some (by omega)
            have cb2 := HT.out.cell_at HH.out.2.2.2.2 hbs rfl
            obtain ⟨pp, hpp⟩ : ∃ pp, bs.getD k false = pp := ⟨_, rfl⟩
            rw [hpp] at cb2
            clear hpp
            cases pp
            · skip
              go_wp2_with fail
              refine (take_any g (xs.drop K) e z _ HH.out.1).mono ?_
              rintro r w5 ⟨rfl, r5, k5⟩
              have R5 := hid r5
              have M5 := hid (HH.out.mid k5)
              have K5 := hid k5
              have cz5 : w5.cell? ⟨b1, o1 + k, none⟩ = some (.int .i64 z) := by rw [HU.out.cell_at M5.out.2 hlt rfl, HZ.out]
              clear r5 k5 cz
              go_wp2_with fail
              refine (reftake_any h _ _ xs K e z _ M5.out.1 (by omega)).mono ?_
              rintro r w7 ⟨rfl, hr6⟩
              obtain ⟨K7, r6, hd6, k6⟩ := hr6.out
              have T7 := HH.out.next R5.out K5.out r6 hd6 k6
              clear r6 hd6 k6 M5 K5 R5 cz5 hr6
              obtain ⟨nn, hnn⟩ : ∃ nn, num (nxP (xs.drop K) e (hw z)) = nn := ⟨_, rfl⟩
              rw [hnn]
              clear hnn
              have qn : (nn != nn) = false := by simp
              go_wp2_with fail
              clear qn
              obtain ⟨ee, hee⟩ : ∃ ee, nxE (xs.drop K) e (hw z) = ee := ⟨_, rfl⟩
              rw [hee] at T7
              clear hee
              obtain ⟨cb, _, hK7, _⟩ := T7.2.1
              have d1 : w7.cell? ⟨h, 1, none⟩ = some (.int .i64 K7) := cb.cell 1
              have d2 : w7.cell? ⟨h, 2, none⟩ = some (.int .i64 ee) := cb.cell 2
              have T := hid T7
              clear cb T7
              obtain ⟨E, hE⟩ : ∃ E, enE (xs.drop K7).length ee = E := ⟨_, rfl⟩
              have HE := hid hE
              clear hE
              have q1 : IntKind.i64.wrap ((xs.length : Int) - (K7 : Int)) = (xs.length : Int) - (K7 : Int) := IntWalk.i64_in _ (by omega)
              have q2 : (((xs.length : Int) - (K7 : Int)) != ((xs.length : Int) - (K7 : Int))) = false := by simp
              have q3 : (ee != ee) = false := by simp
              have q4 : (E != E) = false := by simp
              go_quiet (first
                | (go_at_call 21; exact Calls.quiet_of_same (left_is (by exact T.out.kp ((Kp.refl No _).drewN _))))
                | (go_at_call 22; exact Calls.quiet_of_same (fail_is (by exact T.out.kp ((Kp.refl No _).drewN _))))
                | (go_at_call 23; exact Calls.quiet_of_same ((end_two (by exact T.out.kp ((Kp.refl No _).drewN _))).mono fun _ _ hx => by rwa [HE.out] at hx))
                | (go_at_call 24; exact Calls.quiet_of ((refend_two (by exact T.out.kp ((Kp.refl No _).drewN _))).mono fun _ _ hx => by rwa [HE.out] at hx)))
              clear q1 q2 q3 q4 d1 d2
              go_wp2
              go_roundw
              case rel => exact ⟨k + 1, K7, ee, by omega, by go_num, hid (T.out.kp ((Kp.refl No _).drewN _))⟩
              case measure => simp [intOf]; omega
            · skip
              go_wp2_with fail
              refine (part_any g (xs.drop K) e z _ HH.out.1 (by simp; omega)).mono ?_
              rintro r w5 ⟨u5, rfl, o5, r5, k5⟩
              have R5 := hid r5
              have M5 := hid (HH.out.mid k5)
              have B5 := hid (o5.byt (P := fun i => wr.heap.size ≤ i) fun _ h => h)
              have K5 := hid k5
              have cz5 : w5.cell? ⟨b1, o1 + k, none⟩ = some (.int .i64 z) := by rw [HU.out.cell_at M5.out.2 hlt rfl, HZ.out]
              clear r5 k5 o5 cz
              go_wp2_with fail
              refine (refpart_any h _ _ xs K e z _ M5.out.1 (by omega)).mono ?_
              rintro r w6 ⟨u6, K7, rfl, hu6, r6, hd6, k6⟩
              have hB6 := B5.out.kp k6 fun i hi hS => by have : i = h := hS; have := HH.out.2.1.1.lt; omega
              have T6 := HH.out.next R5.out K5.out r6 hd6 k6
              have HT6 := hid T6
              have HB6 := hid hB6
              have HU6 := hid hu6
              clear r6 hd6 k6 M5 B5 K5 R5 cz5 T6 hB6 hu6
              go_wp2_with fail
              refine (same_true HB6.out HU6.out).mono ?_
              rintro r w7 ⟨rfl, q, hw7⟩
              have T7 := HT6.out.kp (w' := w7) (by rw [hw7]; exact (Kp.refl No _).drewN q)
              clear hw7 HT6 HB6 HU6
              go_wp2_with fail
              obtain ⟨ee, hee⟩ : ∃ ee, nxE (xs.drop K) e z = ee := ⟨_, rfl⟩
              rw [hee] at T7
              clear hee
              obtain ⟨cb, _, hK7, _⟩ := T7.2.1
              have d1 : w7.cell? ⟨h, 1, none⟩ = some (.int .i64 K7) := cb.cell 1
              have d2 : w7.cell? ⟨h, 2, none⟩ = some (.int .i64 ee) := cb.cell 2
              have T := hid T7
              clear cb T7
              obtain ⟨E, hE⟩ : ∃ E, enE (xs.drop K7).length ee = E := ⟨_, rfl⟩
              have HE := hid hE
              clear hE
              have q1 : IntKind.i64.wrap ((xs.length : Int) - (K7 : Int)) = (xs.length : Int) - (K7 : Int) := IntWalk.i64_in _ (by omega)
              have q2 : (((xs.length : Int) - (K7 : Int)) != ((xs.length : Int) - (K7 : Int))) = false := by simp
              have q3 : (ee != ee) = false := by simp
              have q4 : (E != E) = false := by simp
              go_quiet (first
                | (go_at_call 21; exact Calls.quiet_of_same (left_is (by exact T.out.kp ((Kp.refl No _).drewN _))))
                | (go_at_call 22; exact Calls.quiet_of_same (fail_is (by exact T.out.kp ((Kp.refl No _).drewN _))))
                | (go_at_call 23; exact Calls.quiet_of_same ((end_two (by exact T.out.kp ((Kp.refl No _).drewN _))).mono fun _ _ hx => by rwa [HE.out] at hx))
                | (go_at_call 24; exact Calls.quiet_of ((refend_two (by exact T.out.kp ((Kp.refl No _).drewN _))).mono fun _ _ hx => by rwa [HE.out] at hx)))
              clear q1 q2 q3 q4 d1 d2
              go_wp2
              go_roundw
              case rel => exact ⟨k + 1, K7, ee, by omega, by go_num, hid (T.out.kp ((Kp.refl No _).drewN _))⟩
              case measure => simp [intOf]; omega
          · have hbs' : decide ((k : Int) < (bs.length : Int)) = false := by simp; omega
            go_wp2_with fail
            refine (take_any g (xs.drop K) e z _ HH.out.1).mono ?_
            rintro r w5 ⟨rfl, r5, k5⟩
            have R5 := hid r5
            have M5 := hid (HH.out.mid k5)
            have K5 := hid k5
            have cz5 : w5.cell? ⟨b1, o1 + k, none⟩ = some (.int .i64 z) := by rw [HU.out.cell_at M5.out.2 hlt rfl, HZ.out]
            clear r5 k5 cz
            go_wp2_with fail
            refine (reftake_any h _ _ xs K e z _ M5.out.1 (by omega)).mono ?_
            rintro r w7 ⟨rfl, hr6⟩
            obtain ⟨K7, r6, hd6, k6⟩ := hr6.out
            have T7 := HH.out.next R5.out K5.out r6 hd6 k6
            clear r6 hd6 k6 M5 K5 R5 cz5 hr6
            obtain ⟨nn, hnn⟩ : ∃ nn, num (nxP (xs.drop K) e (hw z)) = nn := ⟨_, rfl⟩
            rw [hnn]
            clear hnn
            have qn : (nn != nn) = false := by simp
            go_wp2_with fail
            clear qn
            obtain ⟨ee, hee⟩ : ∃ ee, nxE (xs.drop K) e (hw z) = ee := ⟨_, rfl⟩
            rw [hee] at T7
            clear hee
            obtain ⟨cb, _, hK7, _⟩ := T7.2.1
            have d1 : w7.cell? ⟨h, 1, none⟩ = some (.int .i64 K7) := cb.cell 1
            have d2 : w7.cell? ⟨h, 2, none⟩ = some (.int .i64 ee) := cb.cell 2
            have T := hid T7
            clear cb T7
            obtain ⟨E, hE⟩ : ∃ E, enE (xs.drop K7).length ee = E := ⟨_, rfl⟩
            have HE := hid hE
            clear hE
            have q1 : IntKind.i64.wrap ((xs.length : Int) - (K7 : Int)) = (xs.length : Int) - (K7 : Int) := IntWalk.i64_in _ (by omega)
            have q2 : (((xs.length : Int) - (K7 : Int)) != ((xs.length : Int) - (K7 : Int))) = false := by simp
            have q3 : (ee != ee) = false := by simp
            have q4 : (E != E) = false := by simp
            go_quiet (first
              | (go_at_call 21; exact Calls.quiet_of_same (left_is (by exact T.out.kp ((Kp.refl No _).drewN _))))
              | (go_at_call 22; exact Calls.quiet_of_same (fail_is (by exact T.out.kp ((Kp.refl No _).drewN _))))
              | (go_at_call 23; exact Calls.quiet_of_same ((end_two (by exact T.out.kp ((Kp.refl No _).drewN _))).mono fun _ _ hx => by rwa [HE.out] at hx))
              | (go_at_call 24; exact Calls.quiet_of ((refend_two (by exact T.out.kp ((Kp.refl No _).drewN _))).mono fun _ _ hx => by rwa [HE.out] at hx)))
            clear q1 q2 q3 q4 d1 d2
            go_wp2
            go_roundw
            case rel => exact ⟨k + 1, K7, ee, by omega, by go_num, hid (T.out.kp ((Kp.refl No _).drewN _))⟩
            case measure => simp [intOf]; omega
        · have hlt' : decide ((k : Int) < (ls.length : Int)) = false := by simp; omega
          obtain ⟨E, hE⟩ : ∃ E, enE (xs.drop K).length e = E := ⟨_, rfl⟩
          have HE := hid hE
          clear hE
          have q4 : (E == E) = true := by simp
          go_wp2_with fail
          refine (end_two HH.out).mono ?_
          rintro r w5 ⟨rfl, rfl⟩
          rw [HE.out]
          go_wp2_with fail
          refine (refend_two HH.out).mono ?_
          rintro r w6 ⟨rfl, q, rfl⟩
          rw [HE.out]
          go_wp2_with fail
          go_ret
          exact ⟨rfl, HH.out.2.2.2.2.drewN q⟩
end Go.Proofs.Ytbcekjnemigkkaa
