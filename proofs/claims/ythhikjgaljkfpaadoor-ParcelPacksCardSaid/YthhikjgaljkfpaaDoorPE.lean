/-
  Contracts of the program's readHead and readTable.
-/
import Derived.Test.YthhikjgaljkfpaaDoorPD
namespace Go.Proofs.YthhikjgaljkfpaaDoor
open Go.RowKit

/-- What the head tells: how many, or what is wrong. -/
def hd (b : List Int) : Int × Int :=
  if b.length < 9 then (0, 2) else
  if b.take 4 ≠ [68, 80, 90, 49] then (0, 20) else
  if (b.drop 5).take 4 ≠ ck4 (b.take 5) then (0, 4) else
  if 16 < b.getD 4 0 then (0, 7) else (b.getD 4 0, 0)

section
variable {w w' : World} {P S T : Nat → Prop} {v u : Value} {xs : List Int}
theorem readhead_any (ht : Tab w) (h : Byt w S v xs) : Calls Tryd.prog 32 #[v] w fun e w' => e = .returned (.tuple #[.int .i64 (hd xs).1, .int .i64 (hd xs).2]) ∧ Kp No w w' := by
  obtain ⟨n, hn⟩ : ∃ n, xs.length = n := ⟨_, rfl⟩
  have HN := hid hn
  have HO := hid h
  have HT := hid ht
  have hbs := hid (show Bs xs from h.bytes)
  obtain ⟨A, c, rfl, hc, hm, _, hr⟩ := h
  unfold maxLen at hm
  rw [hn] at hc hr HO ⊢
  clear hn ht
  by_cases h9 : n < 9
  · have g9 : (n : Int) < 9 := by omega
    have HU := hid (show hd xs = (0, 2) by unfold hd; rw [if_pos (by rw [HN.out]; exact h9)])
    clear hr
    go_enter Tryd.func32, Tryd.ntmps32
    go_wp2
    go_ret2
    rw [HU.out]
    exact ⟨rfl, Kp.refl _ _⟩
  have g9 : ¬ (n : Int) < 9 := by omega
  have hu9 := hid (show ¬ xs.length < 9 by rw [HN.out]; exact h9)
  obtain ⟨b, o, rfl, hb, hS, hcell⟩ := hr (by omega)
  have HP := hid (prefix_any (u := .slice (some ⟨w.heap.size, 0, none⟩) 4 4) (ys := [68, 80, 90, 49]) (HO.out.kp0 ((Kp.refl No w).alloc (.cells #[.int .u8 68, .int .u8 80, .int .u8 90, .int .u8 49] 5 (4, 5)))) (lit_byt (P := Anyb) w 5 (4, 5) trivial [68, 80, 90, 49] (by decide) (by simp)) (by simp) (by rw [HN.out]; simp; omega))
  have kc := Lib.run_convert_bytes_const (P := Tryd.prog) w 25 5 #[.int .u8 68, .int .u8 80, .int .u8 90, .int .u8 49] 4 4 Tryd.underlying25 Tryd.underlying5
  have K0 := hid ((Kp.refl No w).alloc (.cells #[.int .u8 68, .int .u8 80, .int .u8 90, .int .u8 49] 5 (4, 5)))
  clear hr hcell
  by_cases hmag : xs.take 4 = [68, 80, 90, 49]
  · have HMG := hid (decide_eq_true hmag)
    have hm4 := hid (show ¬ xs.take 4 ≠ [68, 80, 90, 49] from fun h => h hmag)
    have HSL := hid (sealed_any (m := 5) (HT.out.kp0 K0.out) (HO.out.kp0 K0.out) (by omega) (by rw [HN.out]; omega))
    clear hmag
    cases hq : decide ((xs.drop 5).take 4 = ck4 (xs.take 5)) with
    | false =>
      have HQ := hid hq
      have HU := hid (show hd xs = (0, 4) by unfold hd; rw [if_neg hu9.out, if_neg hm4.out, if_pos (of_decide_eq_false hq)])
      clear hq
      go_enter Tryd.func32, Tryd.ntmps32
      go_wp2_with (first
        | (go_at_call 39
           refine HP.out.mono ?_
           rintro e w1 ⟨rfl, rfl⟩
           rw [show ([68, 80, 90, 49] : List Int).length = 4 from rfl, HMG.out])
        | (go_at_call 40
           refine HSL.out.mono ?_
           rintro e w2 ⟨rfl, k2⟩
           rw [HQ.out]
           have K2 := hid (K0.out.trans k2)
           clear k2))
      go_ret2
      rw [HU.out]
      exact ⟨rfl, K2.out⟩
    | true =>
      have HQ := hid hq
      have hck := hid (show ¬ (xs.drop 5).take 4 ≠ ck4 (xs.take 5) from fun h => h (of_decide_eq_true hq))
      have HB4 := hid (HO.out.part (i := 4) (m := 1) (by rw [HN.out]; omega))
      have h1 := take_one (xs := xs.drop 4) (by simp; rw [HN.out]; omega)
      have hx : (xs.drop 4).getD 0 0 = xs.getD 4 0 := by simp [List.getD]
      have H1 := nx_ok (xs := (xs.drop 4).take 1) (m := 1) (by simp; rw [HN.out]; omega)
      have hl1 : ((xs.drop 4).take 1).length = 1 := by simp; rw [HN.out]; omega
      have g4 := getD_rg hbs.out 4
      obtain ⟨ys, hys⟩ : ∃ ys, (xs.drop 4).take 1 = ys := ⟨_, rfl⟩
      rw [hys] at HB4 h1 H1 hl1
      have HNM := hid (show num (nxP ys 0 ((1 : Nat) : Int)) = xs.getD 4 0 by rw [H1.1, List.take_of_length_le (by omega), h1, hx])
      have HL1 := hid hl1
      obtain ⟨m, hm0⟩ : ∃ m : Int, xs.getD 4 0 = m := ⟨_, rfl⟩
      rw [hm0] at HNM g4
      have HM := hid hm0
      have w1 : IntKind.i64.wrap m = m := wrapI (by unfold I64; omega)
      have a1 : ¬ c - 4 = 0 := by omega
      have a2 : ¬ c ≤ 4 := by omega
      have a3 : (5 : Int) ≤ (c : Int) := by omega
      have a4 : (4 : Int) ≤ (c : Int) := by omega
      clear hq h1 hx H1 hl1 hys hm0
      by_cases h16 : 16 < m
      · have HU := hid (show hd xs = (0, 7) by unfold hd; rw [if_neg hu9.out, if_neg hm4.out, if_neg hck.out, if_pos (by rw [HM.out]; exact h16)])
        go_enter Tryd.func32, Tryd.ntmps32
        go_wp2_with (first
          | (go_at_call 39
             refine HP.out.mono ?_
             rintro e w1 ⟨rfl, rfl⟩
             rw [show ([68, 80, 90, 49] : List Int).length = 4 from rfl, HMG.out])
          | (go_at_call 40
             refine HSL.out.mono ?_
             rintro e w2 ⟨rfl, k2⟩
             rw [HQ.out]
             have K2 := hid (K0.out.trans k2)
             clear k2 kc)
          | (go_at_call 41
             refine (new_any _ ys _ (HB4.out.kp0 K2.out) (by have := HL1.out; omega)).mono ?_
             rintro e w3 ⟨g, rfl, hg, r1, k1⟩
             have R1 := hid r1
             have K3 := hid (K2.out.trans k1)
             have HG := hid (Nat.le_trans K2.out.size hg)
             clear r1 k1 hg)
          | (go_at_call 42
             refine (take_any g ys 0 1 _ R1.out).mono ?_
             rintro e w4 ⟨rfl, r2, k2⟩
             rw [show hw 1 = 1 from rfl, HNM.out]
             have K4 := hid (K3.out.step k2 fun i hi h => by have := HG.out; unfold Only at h; omega)
             clear r2 k2))
        go_ret2
        rw [HU.out]
        exact ⟨rfl, K4.out⟩
      · have HU := hid (show hd xs = (m, 0) by unfold hd; rw [if_neg hu9.out, if_neg hm4.out, if_neg hck.out, if_neg (by rw [HM.out]; exact h16), HM.out])
        go_enter Tryd.func32, Tryd.ntmps32
        go_wp2_with (first
          | (go_at_call 39
             refine HP.out.mono ?_
             rintro e w1 ⟨rfl, rfl⟩
             rw [show ([68, 80, 90, 49] : List Int).length = 4 from rfl, HMG.out])
          | (go_at_call 40
             refine HSL.out.mono ?_
             rintro e w2 ⟨rfl, k2⟩
             rw [HQ.out]
             have K2 := hid (K0.out.trans k2)
             clear k2 kc)
          | (go_at_call 41
             refine (new_any _ ys _ (HB4.out.kp0 K2.out) (by have := HL1.out; omega)).mono ?_
             rintro e w3 ⟨g, rfl, hg, r1, k1⟩
             have R1 := hid r1
             have K3 := hid (K2.out.trans k1)
             have HG := hid (Nat.le_trans K2.out.size hg)
             clear r1 k1 hg)
          | (go_at_call 42
             refine (take_any g ys 0 1 _ R1.out).mono ?_
             rintro e w4 ⟨rfl, r2, k2⟩
             rw [show hw 1 = 1 from rfl, HNM.out]
             have K4 := hid (K3.out.step k2 fun i hi h => by have := HG.out; unfold Only at h; omega)
             clear r2 k2))
        go_ret2
        rw [HU.out]
        exact ⟨rfl, K4.out⟩
  · have HMG := hid (decide_eq_false hmag)
    have HU := hid (show hd xs = (0, 20) by unfold hd; rw [if_neg hu9.out, if_pos hmag])
    clear hmag
    go_enter Tryd.func32, Tryd.ntmps32
    go_wp2_with (first
      | (go_at_call 39
         refine HP.out.mono ?_
         rintro e w1 ⟨rfl, rfl⟩
         rw [show ([68, 80, 90, 49] : List Int).length = 4 from rfl, HMG.out]))
    go_ret2
    rw [HU.out]
    exact ⟨rfl, K0.out⟩
end
end Go.Proofs.YthhikjgaljkfpaaDoor
