/-
  Contracts that load's laws ask: the document's Apart and Same, and the law's squares.
-/
import Derived.Test.YtoeeighfjoplhaaLoOp
namespace Go.Proofs.Ytoeeighfjoplhaa
open Go.RowKit
/-- No two have one Id. -/
def Apt (ss : List St) : Prop := ∀ i k : Nat, k < i → i < ss.length → (ss.getD k st0).id ≠ (ss.getD i st0).id
theorem St.ext' {x y : St} (h1 : x.id = y.id) (h2 : x.core = y.core) (h3 : x.cs = y.cs) : x = y := by
  cases x
  cases y
  simp at h1 h2 h3
  simp [h1, h2, h3]
def ApP (ss : List St) (w : World) (e : Ending) (w' : World) : Prop := ∃ q : Bool, e = .returned (.bool q) ∧ (q = true ↔ Apt ss) ∧ Kp No w w'
def SaP (xs ys : List St) (w : World) (e : Ending) (w' : World) : Prop := ∃ q : Bool, e = .returned (.bool q) ∧ (q = true ↔ xs = ys) ∧ Kp No w w'
set_option maxRecDepth 100000 in
set_option maxHeartbeats 4000000 in
theorem apart_any {w : World} {Pb : Nat → Prop} {v : Value} {ss : List St} (hr : Rw 3 sc st0 w Pb v ss) :
    Calls Try.prog 17 #[v] w (ApP ss w) := by
  have HR := hid hr
  obtain ⟨A, c, rfl, hc, hm, _⟩ := id hr
  have HN := hid (show ss.length ≤ 9223372036854775807 from by simp only [maxLen] at hm; omega)
  clear hr hc hm
  have mixed : Try.prog.follows .mixedOrders = true := by kernel_rfl
  go_enter Try.func17, Try.ntmps17
  go_wp2_with fail
  go_loopw [3] (fun u wr => ∃ i : Nat, u = .int .i64 (i : Int) ∧ i ≤ ss.length ∧ Hid (∀ a b : Nat, b < a → a < i → (ss.getD b st0).id ≠ (ss.getD a st0).id) ∧ Hid (Kp No w wr)) (fun u _ => ss.length - (vNum u).toNat)
  case atStart => exact ⟨0, rfl, Nat.zero_le _, hid (fun a b _ h => by omega), hid (Kp.refl _ _)⟩
  case round =>
    obtain ⟨i, rfl, hi, HA, HK⟩ := hrel
    have hN := HN.out
    by_cases hlt : i < ss.length
    · have wi := wrapI (x := (i : Int) + 1) (by unfold I64; omega)
      have glt : (i : Int) < (ss.length : Int) := by omega
      obtain ⟨ba, oa, rfl⟩ := HR.out.there (by omega)
      go_wp2_with fail
      go_loopw [4] (fun u wr => ∃ k : Nat, u = .int .i64 (k : Int) ∧ k ≤ i ∧ Hid (∀ b : Nat, b < k → (ss.getD b st0).id ≠ (ss.getD i st0).id) ∧ Hid (Kp No w wr)) (fun u _ => i - (vNum u).toNat)
      case atStart => exact ⟨0, rfl, Nat.zero_le _, hid (fun b h => by omega), HK⟩
      case round =>
        obtain ⟨k, rfl, hk, HB, HK⟩ := hrel
        have wk := wrapI (x := (k : Int) + 1) (by unfold I64; omega)
        by_cases hlk : k < i
        · have glk : (k : Int) < (i : Int) := by omega
          have gll : (k : Int) < (ss.length : Int) := by omega
          obtain ⟨x, hx⟩ : ∃ x, (ss.getD k st0).id = x := ⟨_, rfl⟩
          obtain ⟨y, hy⟩ : ∃ y, (ss.getD i st0).id = y := ⟨_, rfl⟩
          have HCL := hid (fun (W : World) (kk : Kp No w W) => show W.cell? ⟨ba, oa + k * 3, none⟩ = some (.int .i64 x) ∧ W.cell? ⟨ba, oa + i * 3, none⟩ = some (.int .i64 y) from by
            have h1 := HR.out.cell (j := k) (i := 0) kk (by omega) (by omega) rfl
            have h2 := HR.out.cell (j := i) (i := 0) kk (by omega) (by omega) rfl
            rw [Nat.add_zero] at h1 h2
            rw [← hx, ← hy]
            exact ⟨h1, h2⟩)
          have HX := hid hx
          have HY := hid hy
          clear hx hy
          by_cases he : x = y
          · have gxy : (x == y) = true := by simp [he]
            go_upto_region 7 with fail
            refine region_all (fun W => Kp No w W) mixed (by kernel_rfl) (HK.out.trans (Kp.refl No _).drew) ?_
            repeat ((first | ((with_reducible refine cl_val (v := ?_) ?_ ?_ ?_); rotate_left; (focus (go_simp; done)); (focus (intro w' hw; obtain ⟨z0, z1⟩ := HCL.out _ hw; go_simp; (try with_reducible rfl); done))) | ((with_reducible refine cl_skip ?_ ?_); (focus (first | (go_simp; done) | exact unwanted rfl rfl)))); simp only [Act.put, List.setIfInBounds_toArray, List.set_cons_zero, List.set_cons_succ])
            refine cl_nil fun w5 hw => ?_
            have K5 := hid hw
            clear hw
            go_wp2_with fail
            go_ret
            exact ⟨false, rfl, ⟨(fun h => by cases h), fun h => absurd (by rw [HX.out, HY.out]; exact he) (h i k hlk hlt)⟩, K5.out⟩
          · have gxy : (x == y) = false := by simp [he]
            go_upto_region 7 with fail
            refine region_all (fun W => Kp No w W) mixed (by kernel_rfl) (HK.out.trans (Kp.refl No _).drew) ?_
            repeat ((first | ((with_reducible refine cl_val (v := ?_) ?_ ?_ ?_); rotate_left; (focus (go_simp; done)); (focus (intro w' hw; obtain ⟨z0, z1⟩ := HCL.out _ hw; go_simp; (try with_reducible rfl); done))) | ((with_reducible refine cl_skip ?_ ?_); (focus (first | (go_simp; done) | exact unwanted rfl rfl)))); simp only [Act.put, List.setIfInBounds_toArray, List.set_cons_zero, List.set_cons_succ])
            refine cl_nil fun w5 hw => ?_
            have K5 := hid hw
            clear hw
            go_wp2_with fail
            go_roundw
            case rel =>
              refine ⟨k + 1, by go_num, by omega, hid fun b hb => ?_, K5⟩
              by_cases e : b = k
              · subst e
                rw [HX.out, HY.out]
                exact he
              · exact HB.out b (by omega)
            case measure => simp [vNum] <;> omega
        · obtain rfl : k = i := by omega
          go_wp2_with fail
          go_roundw
          case rel =>
            refine ⟨k + 1, by go_num, by omega, hid fun a b h1 h2 => ?_, HK⟩
            by_cases e : a = k
            · subst e
              exact HB.out b h1
            · exact HA.out a b h1 (by omega)
          case measure => simp [vNum] <;> omega
    · obtain rfl : i = ss.length := by omega
      have glt : ¬ (ss.length : Int) < (ss.length : Int) := by omega
      go_wp2_with fail
      go_ret
      exact ⟨true, rfl, ⟨(fun _ i k h1 h2 => HA.out i k h1 h2), fun _ => rfl⟩, HK.out⟩
set_option maxRecDepth 100000 in
set_option maxHeartbeats 4000000 in
theorem squares_any {w : World} {Pb : Nat → Prop} {v : Value} {ss : List St} (hr : Rw 3 sc st0 w Pb v ss) (hn : ss.length ≤ 40) :
    Calls Try.prog 22 #[v] w fun e w' => e = .returned (.int .i64 (sqs ss : Int)) ∧ Kp No w w' := by
  have HR := hid hr
  have HN := hid hn
  have HB := hid (show ∀ n, sumN (fun k => cnt ss k * cnt ss k) n ≤ n * 1600 from by
    intro n
    induction n with
    | zero => simp [sumN]
    | succ n ih =>
      unfold sumN
      have h1 : cnt ss n ≤ 40 := by unfold cnt; have := plcs_len ss n ss.length; omega
      have := Nat.mul_le_mul h1 h1
      omega)
  clear hr hn
  go_enter Try.func22, Try.ntmps22
  go_wp2_with fail
  go_loopw [3, 4] (fun u v wr => ∃ k : Nat, u = .int .i64 ((sumN (fun k => cnt ss k * cnt ss k) k : Nat) : Int) ∧ v = .int .i64 (k : Int) ∧ k ≤ 64 ∧ Hid (Kp No w wr)) (fun _ v _ => 64 - (vNum v).toNat)
  case atStart => exact ⟨0, rfl, rfl, by omega, hid (Kp.refl _ _)⟩
  case round =>
    obtain ⟨k, rfl, rfl, hk, HK⟩ := hrel
    have hN := HN.out
    have hB := HB.out k
    have hB1 := HB.out (k + 1)
    have HS := hid (show sumN (fun k => cnt ss k * cnt ss k) (k + 1) = sumN (fun k => cnt ss k * cnt ss k) k + cnt ss k * cnt ss k from rfl)
    have hc0 : cnt ss k ≤ 40 := by unfold cnt; have := plcs_len ss k ss.length; omega
    have HLD := hid (fun (W : World) (kk : Kp No w W) => rload_any (k := k) (HR.out.kp0 kk) (show ss.length ≤ 1000000 by omega))
    rw [HS.out] at hB1
    obtain ⟨c, hc⟩ : ∃ c, cnt ss k = c := ⟨_, rfl⟩
    rw [hc] at HS HLD hB1 hc0
    obtain ⟨S, hS⟩ : ∃ S, sumN (fun k => cnt ss k * cnt ss k) k = S := ⟨_, rfl⟩
    rw [hS] at HS hB hB1 ⊢
    have hcc := Nat.mul_le_mul hc0 hc0
    have HSS := hid hS
    clear hc hS
    by_cases hlt : k < 64
    · have glt : (k : Int) < 64 := by omega
      have wk := wrapI (x := (k : Int) + 1) (by unfold I64; omega)
      have wm := wrapI (x := (c : Int) * (c : Int)) (by rw [← Int.natCast_mul]; unfold I64; omega)
      have ws := wrapI (x := (S : Int) + (c : Int) * (c : Int)) (by rw [← Int.natCast_mul]; unfold I64; omega)
      go_wp2_with (go_at_call 24; refine (HLD.out _ HK.out).mono ?_; rintro e w4 ⟨rfl, k4⟩; have K4 := hid (HK.out.trans k4); clear k4)
      go_roundw
      case rel => exact ⟨k + 1, by rw [HS.out, Int.natCast_add, Int.natCast_mul], by go_num, by omega, K4⟩
      case measure => simp [vNum] <;> omega
    · obtain rfl : k = 64 := by omega
      go_wp2_with fail
      go_ret
      refine ⟨?_, HK.out⟩
      unfold sqs
      rw [HSS.out]
      rfl
set_option maxRecDepth 100000 in
set_option maxHeartbeats 4000000 in
theorem rsame_any {w : World} {P Q : Nat → Prop} {u v : Value} {xs ys : List St} (hu : Rw 3 sc st0 w P u xs) (hv : Rw 3 sc st0 w Q v ys) (hl : xs.length = ys.length) (hn : xs.length ≤ 1000000) :
    Calls Try.prog 20 #[u, v] w (SaP xs ys w) := by
  have HU := hid hu
  have HV := hid hv
  obtain ⟨A, ca, rfl, _⟩ := id hu
  obtain ⟨B, cb, rfl, _⟩ := id hv
  have HL := hid hl
  have HN := hid hn
  clear hu hv hn
  have gne : ((xs.length : Int) != (ys.length : Int)) = false := by simp [hl]
  have geq : ((xs.length : Int) == (ys.length : Int)) = true := by simp [hl]
  clear hl
  have mixed : Try.prog.follows .mixedOrders = true := by kernel_rfl
  go_enter Try.func20, Try.ntmps20
  go_wp2_with fail
  clear gne geq
  go_loopw [5] (fun u wr => ∃ k : Nat, u = .int .i64 (k : Int) ∧ k ≤ xs.length ∧ Hid (∀ j, j < k → xs.getD j st0 = ys.getD j st0) ∧ Hid (Kp No w wr)) (fun u _ => xs.length - (vNum u).toNat)
  case atStart => exact ⟨0, rfl, Nat.zero_le _, hid (fun j h => by omega), hid (Kp.refl _ _)⟩
  case round =>
    obtain ⟨k, rfl, hk, HE, HK⟩ := hrel
    have hN := HN.out
    have hL := HL.out
    have wk := wrapI (x := (k : Int) + 1) (by unfold I64; omega)
    by_cases hlt : k < xs.length
    · have glt : (k : Int) < (xs.length : Int) := by omega
      have glt2 : (k : Int) < (ys.length : Int) := by omega
      obtain ⟨ba, oa, rfl⟩ := HU.out.there (by omega)
      obtain ⟨bb, ob, rfl⟩ := HV.out.there (by omega)
      obtain ⟨x, hx⟩ : ∃ x, xs.getD k st0 = x := ⟨_, rfl⟩
      obtain ⟨y, hy⟩ : ∃ y, ys.getD k st0 = y := ⟨_, rfl⟩
      have HCL := hid (fun (W : World) (kk : Kp No w W) => show W.cell? ⟨ba, oa + k * 3, none⟩ = some (.int .i64 x.id) ∧ W.cell? ⟨ba, oa + k * 3 + 1, none⟩ = some (.int .i64 x.core) ∧ W.cell? ⟨ba, oa + k * 3 + 2, none⟩ = some (.int .u64 (x.cs : Int)) ∧ W.cell? ⟨bb, ob + k * 3, none⟩ = some (.int .i64 y.id) ∧ W.cell? ⟨bb, ob + k * 3 + 1, none⟩ = some (.int .i64 y.core) ∧ W.cell? ⟨bb, ob + k * 3 + 2, none⟩ = some (.int .u64 (y.cs : Int)) from by
        rw [← hx, ← hy]
        exact ⟨HU.out.cell (j := k) (i := 0) kk (by omega) (by omega) rfl, HU.out.cell (j := k) (i := 1) kk (by omega) (by omega) rfl, HU.out.cell (j := k) (i := 2) kk (by omega) (by omega) rfl, HV.out.cell (j := k) (i := 0) kk (by omega) (by omega) rfl, HV.out.cell (j := k) (i := 1) kk (by omega) (by omega) rfl, HV.out.cell (j := k) (i := 2) kk (by omega) (by omega) rfl⟩)
      have HX := hid hx
      have HY := hid hy
      clear hx hy
      by_cases he : x = y
      · subst he
        go_upto_region 6 with fail
        refine region_all (fun W => Kp No w W) mixed (by kernel_rfl) (HK.out.trans (Kp.refl No _).drew) ?_
        repeat ((first | ((with_reducible refine cl_val (v := ?_) ?_ ?_ ?_); rotate_left; (focus (go_simp; done)); (focus (intro w' hw; obtain ⟨z0, z1, z2, z3, z4, z5⟩ := HCL.out _ hw; go_simp; (try with_reducible rfl); done))) | ((with_reducible refine cl_skip ?_ ?_); (focus (first | (go_simp; done) | exact unwanted rfl rfl)))); simp only [Act.put, List.setIfInBounds_toArray, List.set_cons_zero, List.set_cons_succ])
        refine cl_nil fun w5 hw => ?_
        have K5 := hid hw
        clear hw
        go_wp2_with fail
        go_roundw
        case rel =>
          refine ⟨k + 1, by go_num, by omega, hid fun j hj => ?_, K5⟩
          by_cases e : j = k
          · subst e
            rw [HX.out, HY.out]
          · exact HE.out j (by omega)
        case measure => simp [vNum] <;> omega
      · obtain ⟨xi, xc, xm⟩ := x
        obtain ⟨yi, yc, ym⟩ := y
        simp only at HCL
        by_cases h1 : xi = yi
        · subst h1
          by_cases h2 : xc = yc
          · subst h2
            have h3 : ¬ xm = ym := fun e => he (by rw [e])
            have b3 : ((xm : Int) == (ym : Int)) = false := by simp; omega
            have b1 : (xi == xi) = true := by simp
            have b2 : (xc == xc) = true := by simp
            go_upto_region 6 with fail
            refine region_all (fun W => Kp No w W) mixed (by kernel_rfl) (HK.out.trans (Kp.refl No _).drew) ?_
            repeat ((first | ((with_reducible refine cl_val (v := ?_) ?_ ?_ ?_); rotate_left; (focus (go_simp; done)); (focus (intro w' hw; obtain ⟨z0, z1, z2, z3, z4, z5⟩ := HCL.out _ hw; go_simp; (try with_reducible rfl); done))) | ((with_reducible refine cl_skip ?_ ?_); (focus (first | (go_simp; done) | exact unwanted rfl rfl)))); simp only [Act.put, List.setIfInBounds_toArray, List.set_cons_zero, List.set_cons_succ])
            refine cl_nil fun w5 hw => ?_
            have K5 := hid hw
            clear hw
            go_wp2_with fail
            go_ret
            have hd : ¬ xs = ys := fun e => he (by rw [← HX.out, ← HY.out, e])
            exact ⟨false, rfl, ⟨(fun h => by cases h), fun h => absurd h hd⟩, K5.out⟩
          · have b2 : (xc == yc) = false := by simp [h2]
            have b1 : (xi == xi) = true := by simp
            go_upto_region 6 with fail
            refine region_all (fun W => Kp No w W) mixed (by kernel_rfl) (HK.out.trans (Kp.refl No _).drew) ?_
            repeat ((first | ((with_reducible refine cl_val (v := ?_) ?_ ?_ ?_); rotate_left; (focus (go_simp; done)); (focus (intro w' hw; obtain ⟨z0, z1, z2, z3, z4, z5⟩ := HCL.out _ hw; go_simp; (try with_reducible rfl); done))) | ((with_reducible refine cl_skip ?_ ?_); (focus (first | (go_simp; done) | exact unwanted rfl rfl)))); simp only [Act.put, List.setIfInBounds_toArray, List.set_cons_zero, List.set_cons_succ])
            refine cl_nil fun w5 hw => ?_
            have K5 := hid hw
            clear hw
            go_wp2_with fail
            go_ret
            have hd : ¬ xs = ys := fun e => he (by rw [← HX.out, ← HY.out, e])
            exact ⟨false, rfl, ⟨(fun h => by cases h), fun h => absurd h hd⟩, K5.out⟩
        · have b1 : (xi == yi) = false := by simp [h1]
          go_upto_region 6 with fail
          refine region_all (fun W => Kp No w W) mixed (by kernel_rfl) (HK.out.trans (Kp.refl No _).drew) ?_
          repeat ((first | ((with_reducible refine cl_val (v := ?_) ?_ ?_ ?_); rotate_left; (focus (go_simp; done)); (focus (intro w' hw; obtain ⟨z0, z1, z2, z3, z4, z5⟩ := HCL.out _ hw; go_simp; (try with_reducible rfl); done))) | ((with_reducible refine cl_skip ?_ ?_); (focus (first | (go_simp; done) | exact unwanted rfl rfl)))); simp only [Act.put, List.setIfInBounds_toArray, List.set_cons_zero, List.set_cons_succ])
          refine cl_nil fun w5 hw => ?_
          have K5 := hid hw
          clear hw
          go_wp2_with fail
          go_ret
          have hd : ¬ xs = ys := fun e => he (by rw [← HX.out, ← HY.out, e])
          exact ⟨false, rfl, ⟨(fun h => by cases h), fun h => absurd h hd⟩, K5.out⟩
    · obtain rfl : k = xs.length := by omega
      have glt : ¬ (xs.length : Int) < (xs.length : Int) := by omega
      go_wp2_with fail
      go_ret
      have hd : xs = ys := List.ext_getElem hL fun j h1 h2 => by
        have := HE.out j h1
        simpa [List.getD, h1, h2] using this
      exact ⟨true, rfl, ⟨fun _ => hd, fun _ => rfl⟩, HK.out⟩
end Go.Proofs.Ytoeeighfjoplhaa
