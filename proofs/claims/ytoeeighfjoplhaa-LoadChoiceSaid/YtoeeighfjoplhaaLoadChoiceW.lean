/-
  The walk of LoadChoice.
-/
import Derived.Test.YtoeeighfjoplhaaLoadTellsW
namespace Go.Proofs.Ytoeeighfjoplhaa
open Go.RowKit
theorem RowI.put {w : World} {q n c i : Nat} {ks : List Int} (h : RowI w (some q) n c ks) (x : Int) : RowI (w.setCell ⟨q, i, none⟩ (.int .i64 x)) (some q) n c (ks.set i x) := by
  obtain ⟨h1, h2, h3, cs, h4, h5, h6⟩ := h
  refine ⟨by rw [List.length_set]; exact h1, h2, h3, _, h4.put i (.int .i64 x), by simpa using h5, fun j hj => ?_⟩
  by_cases e : i = j
  · subst e
    have hs : i < cs.size := by omega
    have hk : i < ks.length := by omega
    simp [hs, List.getD, hk]
  · rw [Array.getElem?_setIfInBounds_ne e, h6 j hj]
    simp [List.getD, e]
set_option maxRecDepth 100000 in
set_option maxHeartbeats 4000000 in
theorem loadChoice_walk (w : World) (s : Int) (v : Value) {xs : List Int} (hs : 0 ≤ s ∧ s ≤ 18446744073709551615) (hl : Sl (Value.int .u16) 0 w Anyb v xs ∧ ∀ z ∈ xs, (Lit.int .u16 z).wf = true) :
    Calls Try.prog 8 #[.int .u64 s, v] w fun e w' => e = .returned (.bool true) ∧ Kp No w w' := by
  obtain ⟨s, rfl⟩ : ∃ k : Nat, s = (k : Int) := ⟨s.toNat, by omega⟩
  have HS := hid (show U64 s from show s < 18446744073709551616 by omega)
  have HL := hid hl.1
  have HZ := hid (show ∀ j, 0 ≤ xs.getD j 0 ∧ xs.getD j 0 ≤ 65535 from fun j => by
    by_cases hj : j < xs.length
    · rw [List.getD_eq_getElem?_getD, List.getElem?_eq_getElem hj]
      exact bounds_u16 (hl.2 _ (List.getElem_mem hj))
    · rw [List.getD_eq_getElem?_getD, List.getElem?_eq_none (by omega)]
      exact ⟨by decide, by decide⟩)
  have HHA := hid (fun (W : World) (x : Int) => refHas_any s x W HS.out)
  have mixed : Try.prog.follows .mixedOrders = true := by kernel_rfl
  obtain ⟨A, c, rfl, _⟩ := id hl.1
  clear hl hs
  go_enter Try.func8, Try.ntmps8
  go_upto_region 2 with (go_at_call 9; refine (awake_any _).mono ?_; rintro e w1 ⟨rfl, k1⟩; have K1 := hid k1; clear k1)
  by_cases h2 : (100 : Int) < (xs.length : Int)
  · go_wp2_with fail
    go_ret
    exact ⟨rfl, K1.out⟩
  have HM := hid (show xs.length ≤ 100 by omega)
  go_wp2_with fail
  go_loopw [6, 7] (fun u v wr => ∃ (k : Nat) (b : Option Nat) (cc : Nat), u = gsl b k cc ∧ v = .int .i64 (k : Int) ∧ k ≤ xs.length ∧ Hid (RowI wr b k cc (xs.take k)) ∧ Hid (∀ q, b = some q → w.heap.size ≤ q) ∧ Hid (Kp No w wr)) (fun _ v _ => xs.length - (vNum v).toNat)
  case atStart => exact ⟨0, none, 0, rfl, rfl, Nat.zero_le _, hid (RowI.nil _), hid (fun q e => by cases e), K1⟩
  case round =>
    obtain ⟨k, b, cc, rfl, rfl, hk, HB, HBB, HK⟩ := hrel
    clear K1
    have hm := HM.out
    have wk := wrapI (x := (k : Int) + 1) (by unfold I64; omega)
    by_cases hlt : k < xs.length
    · have glt : (k : Int) < (xs.length : Int) := by omega
      obtain ⟨A', c', e0, _, _, hr⟩ := HL.out
      injection e0 with e1 e2 e3
      subst e1 e3
      obtain ⟨ba, oa, rfl, hba, _, hcell⟩ := hr (by omega)
      have q0 := (HK.out.cell (p := ⟨ba, oa + k, none⟩) hba (fun h => h)).trans (hcell k hlt)
      obtain ⟨x, hx⟩ : ∃ x, xs.getD k 0 = x := ⟨_, rfl⟩
      have hz := HZ.out k
      rw [hx] at q0 hz
      have wz := wrapI (x := x) (by unfold I64; omega)
      have HX := hid hx
      clear hx hcell hr
      go_wp2_with (refine wp_row rfl (.tmp 23) (.tmp 29) rfl (b := b) (n := k) (c := cc) (ks := xs.take k) (y := x) (by rfl) (by exact HB.out.kp0 ((Kp.refl No _).alloc _)) (by rfl) (by exact (Blk.new _ _ _).cell 0) (by simp; omega) ?_
                   intro b5 c5 w5 r5 o5 k5; have R5 := hid r5; have O5 := hid o5; have K5 := hid k5; clear r5 o5 k5)
      go_roundw
      case rel =>
        refine ⟨k + 1, b5, c5, rfl, by go_num, by omega, hid ?_, hid fun q hq => ?_, hid ?_⟩
        · rw [take_snoc xs k hlt, HX.out]
          exact R5.out
        · rcases O5.out with e | e
          · exact HBB.out q (e ▸ hq)
          · rw [e] at hq
            cases hq
            have := HK.out.size
            rw [World.size_alloc]
            omega
        · exact (HK.out.trans ((Kp.refl No _).alloc _)).step K5.out fun i hi e => by have := HBB.out i e; omega
      case measure => simp [vNum] <;> omega
    · obtain rfl : k = xs.length := by omega
      have HB := hid (show RowI wr b xs.length cc xs from by have := HB.out; rwa [List.take_length] at this)
      have HW := hid HK.out
      obtain ⟨w2, rfl⟩ : ∃ w2, w2 = wr := ⟨_, rfl⟩
      obtain ⟨n, hn⟩ : ∃ n, xs.length = n := ⟨_, rfl⟩
      have HN := hid hn
      rw [hn] at HB hm ⊢
      clear hn HL HM HK hlt hk wk
      unfold gsl
      obtain ⟨B, hB⟩ : ∃ B, ga b = B := ⟨_, rfl⟩
      have HGB := hid hB
      rw [hB]
      clear hB
      go_upto_region 10 with (go_at_call 13; refine (lchoose_any (A := B) HS.out (by have := HB.out.rw (S := Anyb) fun _ _ => trivial; unfold gsl at this; rwa [HGB.out] at this) HN.out).mono ?_; rintro e w3 ⟨m, rfl, hm3, k3⟩; have HC := hid hm3; have K3 := hid k3; clear hm3 k3)
      go_wp2_with fail
      go_loopw [9] (fun u wr => ∃ (k : Nat), u = .int .i64 (k : Int) ∧ k ≤ n ∧ Hid (Kp No w2 wr)) (fun u _ => n - (vNum u).toNat)
      case atStart => exact ⟨0, rfl, Nat.zero_le _, K3⟩
      case round =>
        obtain ⟨k, rfl, hk, HK⟩ := hrel
        clear K3
        have wk := wrapI (x := (k : Int) + 1) (by unfold I64; omega)
        by_cases hlt : k < n
        · have glt : (k : Int) < (n : Int) := by omega
          have HIB := hid (show isIn s (k : Int) = (decide (k < 64) && s.testBit k) from by
            by_cases h : k < 64
            · rw [isIn_nat s k h, decide_eq_true h]; rfl
            · rw [isIn_out s _ (by omega), decide_eq_false h]; rfl)
          by_cases hb0 : k < 64 ∧ s.testBit k = true
          · have hbi : isIn s (k : Int) = true := by rw [HIB.out, decide_eq_true hb0.1, hb0.2]; rfl
            obtain ⟨i, hmi, hi64, hin, hit, hile⟩ : ∃ i : Nat, m = (i : Int) ∧ i < 64 ∧ i < n ∧ s.testBit i = true ∧ (ldF xs (i : Int) ≤ ldF xs (k : Int) ∧ (ldF xs (i : Int) = ldF xs (k : Int) → i ≤ k)) := by
              have hN := HN.out
              rcases HC.out with ⟨_, h⟩ | ⟨i, e, g1, g2, g3, g4⟩
              · have := h k hb0.1 (by omega)
                rw [this] at hb0
                cases hb0.2
              · exact ⟨i, e, g1, by omega, g3, g4 k hb0.1 (by omega) hb0.2⟩
            subst hmi
            have gm0 : ¬ (i : Int) < 0 := by omega
            have gmn : ¬ (n : Int) ≤ (i : Int) := by omega
            obtain ⟨q, hq⟩ : ∃ q, b = some q := by
              cases b with
              | none => have := (HB.out.none_nil).1; omega
              | some q => exact ⟨q, rfl⟩
            obtain rfl : B = some ⟨q, 0, none⟩ := by rw [← HGB.out, hq]; rfl
            subst hq
            obtain ⟨x, hx⟩ : ∃ x, ldF xs (k : Int) = x := ⟨_, rfl⟩
            obtain ⟨y, hy⟩ : ∃ y, ldF xs (i : Int) = y := ⟨_, rfl⟩
            rw [hx, hy] at hile
            have HCL := hid (fun (W : World) (kk : Kp No w2 W) => show W.cell? ⟨q, k, none⟩ = some (.int .i64 x) ∧ W.cell? ⟨q, i, none⟩ = some (.int .i64 y) from by
              have hN := HN.out
              have h1 := (HB.out.kp0 kk).cell (j := k) (by omega)
              have h2 := (HB.out.kp0 kk).cell (j := i) (by omega)
              rw [← hx, ← hy]
              exact ⟨h1, h2⟩)
            clear hx hy hb0 HIB
            have gxy : ¬ x < y := by omega
            have gin : (i : Int) < (n : Int) := by omega
            by_cases hxe : x = y
            · subst hxe
              have gki : ¬ (k : Int) < (i : Int) := by have := hile.2 rfl; omega
              have gxx : (x == x) = true := by simp
              go_upto_region 13 with fail
              refine region_all (fun W => Kp No w2 W) mixed (by kernel_rfl) (HK.out.trans (Kp.refl No _).drew) ?_
              repeat ((first | ((with_reducible refine cl_val (v := ?_) ?_ ?_ ?_); rotate_left; (focus (go_simp; done)); (focus (intro w' hw; obtain ⟨z0, z1⟩ := HCL.out _ hw; go_simp; (try with_reducible rfl); done))) | ((with_reducible refine cl_skip ?_ ?_); (focus (first | (go_simp; done) | exact unwanted rfl rfl)))); simp only [Act.put, List.setIfInBounds_toArray, List.set_cons_zero, List.set_cons_succ])
              refine cl_call (v := .bool true) (by first | rfl | go_simp) (fun w' hw => by go_simp) (fun w' hw => (HHA.out w' (k : Int)).mono fun e w'' h => ⟨by rw [h.1, hbi], by rw [← h.2]; exact hw⟩) ?_
              simp only [Act.put, List.setIfInBounds_toArray, List.set_cons_zero, List.set_cons_succ]
              repeat ((first | ((with_reducible refine cl_val (v := ?_) ?_ ?_ ?_); rotate_left; (focus (go_simp; done)); (focus (intro w' hw; obtain ⟨z0, z1⟩ := HCL.out _ hw; go_simp; (try with_reducible rfl); done))) | ((with_reducible refine cl_skip ?_ ?_); (focus (first | (go_simp; done) | exact unwanted rfl rfl)))); simp only [Act.put, List.setIfInBounds_toArray, List.set_cons_zero, List.set_cons_succ])
              refine cl_nil fun w5 hw => ?_
              have K5 := hid hw
              clear hw
              go_wp2_with fail
              go_roundw
              case rel => exact ⟨k + 1, by go_num, by omega, K5⟩
              case measure => simp [vNum] <;> omega
            · have gxx : (x == y) = false := by simp [hxe]
              go_upto_region 13 with fail
              refine region_all (fun W => Kp No w2 W) mixed (by kernel_rfl) (HK.out.trans (Kp.refl No _).drew) ?_
              repeat ((first | ((with_reducible refine cl_val (v := ?_) ?_ ?_ ?_); rotate_left; (focus (go_simp; done)); (focus (intro w' hw; obtain ⟨z0, z1⟩ := HCL.out _ hw; go_simp; (try with_reducible rfl); done))) | ((with_reducible refine cl_skip ?_ ?_); (focus (first | (go_simp; done) | exact unwanted rfl rfl)))); simp only [Act.put, List.setIfInBounds_toArray, List.set_cons_zero, List.set_cons_succ])
              refine cl_call (v := .bool true) (by first | rfl | go_simp) (fun w' hw => by go_simp) (fun w' hw => (HHA.out w' (k : Int)).mono fun e w'' h => ⟨by rw [h.1, hbi], by rw [← h.2]; exact hw⟩) ?_
              simp only [Act.put, List.setIfInBounds_toArray, List.set_cons_zero, List.set_cons_succ]
              repeat ((first | ((with_reducible refine cl_val (v := ?_) ?_ ?_ ?_); rotate_left; (focus (go_simp; done)); (focus (intro w' hw; obtain ⟨z0, z1⟩ := HCL.out _ hw; go_simp; (try with_reducible rfl); done))) | ((with_reducible refine cl_skip ?_ ?_); (focus (first | (go_simp; done) | exact unwanted rfl rfl)))); simp only [Act.put, List.setIfInBounds_toArray, List.set_cons_zero, List.set_cons_succ])
              refine cl_nil fun w5 hw => ?_
              have K5 := hid hw
              clear hw
              go_wp2_with fail
              go_roundw
              case rel => exact ⟨k + 1, by go_num, by omega, K5⟩
              case measure => simp [vNum] <;> omega
          · have hbi : isIn s (k : Int) = false := by
              rw [HIB.out]
              by_cases h : k < 64
              · have : s.testBit k = false := by
                  rcases hh : s.testBit k with _ | _
                  · rfl
                  · exact absurd ⟨h, hh⟩ hb0
                rw [this, Bool.and_false]
              · rw [decide_eq_false h]; rfl
            clear hb0 HIB
            go_upto_region 13 with fail
            refine region_all (fun W => Kp No w2 W) mixed (by kernel_rfl) (HK.out.trans (Kp.refl No _).drew) ?_
            repeat ((first | ((with_reducible refine cl_val (v := ?_) ?_ ?_ ?_); rotate_left; (focus (go_simp; done)); (focus (intro w' hw; obtain z0 : True := trivial; go_simp; (try with_reducible rfl); done))) | ((with_reducible refine cl_skip ?_ ?_); (focus (first | (go_simp; done) | exact unwanted rfl rfl)))); simp only [Act.put, List.setIfInBounds_toArray, List.set_cons_zero, List.set_cons_succ])
            refine cl_call (v := .bool false) (by first | rfl | go_simp) (fun w' hw => by go_simp) (fun w' hw => (HHA.out w' (k : Int)).mono fun e w'' h => ⟨by rw [h.1, hbi], by rw [← h.2]; exact hw⟩) ?_
            simp only [Act.put, List.setIfInBounds_toArray, List.set_cons_zero, List.set_cons_succ]
            repeat ((first | ((with_reducible refine cl_val (v := ?_) ?_ ?_ ?_); rotate_left; (focus (go_simp; done)); (focus (intro w' hw; obtain z0 : True := trivial; go_simp; (try with_reducible rfl); done))) | ((with_reducible refine cl_skip ?_ ?_); (focus (first | (go_simp; done) | exact unwanted rfl rfl)))); simp only [Act.put, List.setIfInBounds_toArray, List.set_cons_zero, List.set_cons_succ])
            refine cl_nil fun w5 hw => ?_
            have K5 := hid hw
            clear hw
            go_wp2_with fail
            go_roundw
            case rel => exact ⟨k + 1, by go_num, by omega, K5⟩
            case measure => simp [vNum] <;> omega
        · obtain rfl : k = n := by omega
          clear hlt hk wk
          by_cases hm0 : m < 0
          · obtain rfl : m = -1 := by
              rcases HC.out with ⟨e, _⟩ | ⟨i, e, _⟩
              · exact e
              · omega
            go_wp2_with fail
            go_ret
            exact ⟨rfl, HW.out.trans HK.out⟩
          · obtain ⟨i, hmi, hi64, hin, hit⟩ : ∃ i : Nat, m = (i : Int) ∧ i < 64 ∧ i < k ∧ s.testBit i = true := by
              have hN := HN.out
              rcases HC.out with ⟨e, _⟩ | ⟨i, e, g1, g2, g3, g4⟩
              · omega
              · exact ⟨i, e, g1, by omega, g3⟩
            subst hmi
            have gmn : ¬ (k : Int) ≤ (i : Int) := by omega
            have gin : (i : Int) < (k : Int) := by omega
            have hbi : isIn s (i : Int) = true := by rw [isIn_nat s i hi64, hit]
            go_upto_region 19 with (go_at_call 21; refine (HHA.out _ _).mono ?_; rw [hbi]; rintro e w4 ⟨rfl, rfl⟩)
            have HXR := hid (show Rw 1 cI 0 wr Anyb (.slice B k cc) xs from by
              have := (HB.out.kp0 HK.out).rw (S := Anyb) fun _ _ => trivial
              unfold gsl at this
              rwa [HGB.out] at this)
            go_upto_region 20 with (refine wp_apps usI (fun _ _ => rfl) rfl (.tmp 97) (.tmp 98) rfl (f := cI) (d := (0 : Int)) (base := wr.heap.size) (xs := []) (ys := xs) (Pb := Anyb) (by exact Ow.mt _ _ _ _ _ (Nat.le_refl _)) (by exact HXR.out.kp0 ((Kp.refl No _).alloc _)) (by have := HN.out; simp only [List.length_nil]; omega) (by have := HN.out; simp only [List.length_nil, maxLen]; omega) (by rw [World.size_alloc]; omega) ?_
                                    intro v6 w6 o6 k6
                                    obtain ⟨b6, c6, rfl, r6, g6⟩ := RowI.of_ow o6
                                    obtain ⟨q6, rfl⟩ : ∃ q, b6 = some q := by
                                      cases b6 with
                                      | none => have := r6.none_nil.2.2; have hN := HN.out; rw [List.nil_append] at this; rw [this] at hN; simp only [List.length_nil] at hN; omega
                                      | some q => exact ⟨q, rfl⟩
                                    have e6 : gsl (some q6) ([] ++ xs).length c6 = .slice (some ⟨q6, 0, none⟩) k c6 := by rw [List.nil_append, HN.out]; rfl
                                    rw [e6]
                                    rw [List.nil_append, HN.out] at r6
                                    have R6 := hid r6
                                    have G6 := hid (g6 q6 rfl)
                                    have K6 := hid ((HK.out.trans ((Kp.refl No _).alloc (.cells #[] 3))).step k6 fun i hi e => by have := HK.out.size; omega)
                                    clear e6 o6 k6 r6 g6)
            obtain ⟨x, hx⟩ : ∃ x, xs.getD i 0 = x := ⟨_, rfl⟩
            have q6c := R6.out.cell (j := i) (by have := HN.out; omega)
            have hz := HZ.out i
            rw [hx] at q6c hz
            have wz := wrapI (x := x + 1) (by unfold I64; omega)
            have f6 : w6.frozen? ⟨q6, i, none⟩ = false := by
              obtain ⟨_, _, _, cs, hb, _⟩ := R6.out
              exact hb.frozen i
            have gil : (i : Int) < (k : Int) := by omega
            have HX := hid hx
            clear hx
            go_upto_region 21 with fail
            have R7 := hid (R6.out.put (i := i) (x + 1))
            have K7 := hid (K6.out.step (Kp.set1 q6 i w6 (.int .i64 (x + 1))) fun i hi e => by have e : i = q6 := e; have := G6.out; have := HK.out.size; omega)
            generalize w6.setCell ⟨q6, i, none⟩ (.int .i64 (x + 1)) = w7 at R7 K7 ⊢
            clear q6c f6
            go_upto_region 22 with (go_at_call 13; refine (lchoose_any (A := some ⟨q6, 0, none⟩) HS.out (R7.out.rw (S := Anyb) fun _ _ => trivial) (by rw [List.length_set]; exact HN.out)).mono ?_; rintro e w8 ⟨m8, rfl, h8, k8⟩; have HC8 := hid h8; have K8 := hid k8; clear h8 k8)
            obtain ⟨j, hmj, hjk, hjl⟩ : ∃ j : Nat, m8 = (j : Int) ∧ j < k ∧ ldF (xs.set i (x + 1)) (j : Int) ≤ x + 1 := by
              have hN := HN.out
              have e1 : ldF (xs.set i (x + 1)) (i : Int) = x + 1 := by
                unfold ldF
                rw [Int.toNat_natCast]
                simp [List.getD, show i < xs.length by omega]
              rcases HC8.out with ⟨_, h⟩ | ⟨j, e, g1, g2, g3, g4⟩
              · have := h i hi64 (by rw [List.length_set]; omega)
                rw [this] at hit
                cases hit
              · rw [List.length_set] at g2 g4
                have := (g4 i hi64 (by omega) hit).1
                rw [e1] at this
                exact ⟨j, e, by omega, this⟩
            subst hmj
            have HCL := hid (fun (W : World) (kk : Kp No w7 W) => show W.cell? ⟨q6, j, none⟩ = some (.int .i64 (ldF (xs.set i (x + 1)) (j : Int))) ∧ W.cell? ⟨q6, i, none⟩ = some (.int .i64 (x + 1)) from by
              have hN := HN.out
              have h1 := (R7.out.kp0 kk).cell (j := j) (by rw [List.length_set]; omega)
              have h2 := (R7.out.kp0 kk).cell (j := i) (by rw [List.length_set]; omega)
              refine ⟨h1, ?_⟩
              rw [h2]
              simp [List.getD, show i < xs.length by omega])
            generalize ldF (xs.set i (x + 1)) (j : Int) = y at hjl HCL
            have gj0 : (0 : Int) ≤ (j : Int) := by omega
            have gjk : (j : Int) < (k : Int) := by omega
            refine region_all (fun W => Kp No w7 W) mixed (by kernel_rfl) (K8.out.trans (Kp.refl No _).drew) ?_
            repeat ((first | ((with_reducible refine cl_val (v := ?_) ?_ ?_ ?_); rotate_left; (focus (go_simp; done)); (focus (intro w' hw; obtain ⟨z0, z1⟩ := HCL.out _ hw; go_simp; (try with_reducible rfl); done))) | ((with_reducible refine cl_skip ?_ ?_); (focus (first | (go_simp; done) | exact unwanted rfl rfl)))); simp only [Act.put, List.setIfInBounds_toArray, List.set_cons_zero, List.set_cons_succ])
            refine cl_nil fun w5 hw => ?_
            have K5 := hid hw
            clear hw
            go_wp2_with fail
            go_ret
            exact ⟨rfl, (HW.out.trans K7.out).trans K5.out⟩
end Go.Proofs.Ytoeeighfjoplhaa
