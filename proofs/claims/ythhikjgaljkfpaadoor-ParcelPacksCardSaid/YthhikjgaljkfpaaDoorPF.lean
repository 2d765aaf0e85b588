/-
  Contract of the program's readTable.
-/
import Derived.Test.YthhikjgaljkfpaaDoorPE
namespace Go.Proofs.YthhikjgaljkfpaaDoor
open Go.RowKit

theorem infoRow : (Tryd.prog.info? 50).map (fun i => (i.zero, i.size, i.bytes)) = some (some (.agg #[.int .i64 0, .int .i64 0, .int .u32 0]), 3, 24) := by kernel_rfl
theorem usRow : Us Tryd.prog 56 50 3 24 (.agg #[.int .i64 0, .int .i64 0, .int .u32 0]) := ⟨by kernel_rfl, infoRow, by kernel_rfl, by omega⟩
theorem enRd_at (xs : List Int) {m i : Nat} (hi : i < m) : enRd (((xs.drop 9).take (7 * m)).drop (7 * i)) = entAt xs i := by
  have hg : ∀ j, j < 7 → (((xs.drop 9).take (7 * m)).drop (7 * i)).getD j 0 = xs.getD (9 + (7 * i + j)) 0 := fun j hj => by
    rw [List.getD_eq_getElem?_getD, List.getD_eq_getElem?_getD, List.getElem?_drop, List.getElem?_take_of_lt (by omega), List.getElem?_drop]
  unfold enRd entAt
  rw [hg 0 (by omega), hg 1 (by omega), hg 2 (by omega), show 9 + (7 * i + 0) = 9 + 7 * i by omega, show 9 + (7 * i + 1) = 10 + 7 * i by omega, show 9 + (7 * i + 2) = 11 + 7 * i by omega]
  congr 1
  rw [List.drop_drop, List.drop_take, List.take_take, List.drop_drop, show 9 + (7 * i + 3) = 12 + 7 * i by omega, show min 4 (7 * m - (7 * i + 3)) = 4 by omega]

section
variable {w w' : World} {P S T : Nat → Prop} {v u : Value} {xs : List Int}
/-- Of a row that is being laid: what lies in a cell that is still to be written. -/
theorem Fil.old {α : Type} {n : Nat} {f : α → Nat → Value} {d : α} {t : TypeId} {g m : Nat} {ys : List α} (h : Fil n f d t w g m ys) {j i : Nat} (hj : j < m) (hi : i < n) : ∃ u, w.cell? ⟨g, j * n + i, none⟩ = some u ∧ w.frozen? ⟨g, j * n + i, none⟩ = false := by
  obtain ⟨h1, h2⟩ := h.there hj hi
  obtain ⟨u, hu⟩ := Option.isSome_iff_exists.1 h1
  exact ⟨u, hu, h2⟩

/-- What the table tells. -/
def TabPost (xs : List Int) (m : Nat) (S : Nat → Prop) (w : World) (e : Ending) (w' : World) : Prop :=
  Kp No w w' ∧ ((xs.length < 13 + 7 * m ∧ e = .returned (.tuple #[.slice none 0 0, .slice none 0 0, .int .i64 2])) ∨
    (¬ xs.length < 13 + 7 * m ∧ (xs.drop (9 + 7 * m)).take 4 ≠ ck4 (xs.take (9 + 7 * m)) ∧ e = .returned (.tuple #[.slice none 0 0, .slice none 0 0, .int .i64 4])) ∨
    (¬ xs.length < 13 + 7 * m ∧ (xs.drop (9 + 7 * m)).take 4 = ck4 (xs.take (9 + 7 * m)) ∧ ∃ u r, e = .returned (.tuple #[u, r, .int .i64 0]) ∧ Rw 3 rc en0 w' Anyb u (ents xs m) ∧ Byt w' S r (xs.drop (13 + 7 * m))))

set_option maxHeartbeats 1000000 in
theorem readtable_any {m : Nat} (ht : Tab w) (h : Byt w S v xs) (h9 : 9 ≤ xs.length) (h16 : m ≤ 16) : Calls Tryd.prog 33 #[v, .int .i64 (m : Int)] w (TabPost xs m S w) := by
  obtain ⟨n, hn⟩ : ∃ n, xs.length = n := ⟨_, rfl⟩
  have HN := hid hn
  have HO := hid h
  have HT := hid ht
  have hbs := hid (show Bs xs from h.bytes)
  obtain ⟨A, c, rfl, hc, hm, _, hr⟩ := h
  unfold maxLen at hm
  rw [hn] at h9 hc hr HO ⊢
  clear hn ht
  have e1 := wrapI (x := (m : Int) * 7) (by unfold I64; omega)
  have e2 := wrapI (x := 9 + (m : Int) * 7) (by unfold I64; omega)
  have e3 := wrapI (x := 9 + (m : Int) * 7 + 4) (by unfold I64; omega)
  by_cases hsh : n < 13 + 7 * m
  · have g1 : (n : Int) < 9 + (m : Int) * 7 + 4 := by omega
    have HX := hid (show xs.length < 13 + 7 * m by rw [HN.out]; exact hsh)
    clear hr
    go_enter Tryd.func33, Tryd.ntmps33
    go_wp2
    go_ret3
    exact ⟨Kp.refl _ _, .inl ⟨HX.out, rfl⟩⟩
  have g1 : ¬ (n : Int) < 9 + (m : Int) * 7 + 4 := by omega
  have HX := hid (show ¬ xs.length < 13 + 7 * m by rw [HN.out]; exact hsh)
  obtain ⟨b, o, rfl, hb, hS, hcell⟩ := hr (by omega)
  obtain ⟨E, hE⟩ : ∃ E : Nat, 9 + 7 * m = E := ⟨_, rfl⟩
  have hEI : 9 + (m : Int) * 7 = (E : Int) := by omega
  have HEM := hid hE
  rw [hEI] at e2 e3 g1
  have HSL := hid (sealed_any (m := E) HT.out HO.out (by omega) (by rw [HN.out]; omega))
  clear hr hcell
  cases hq : decide ((xs.drop E).take 4 = ck4 (xs.take E)) with
  | false =>
    have HQ := hid hq
    have HU := hid (show (xs.drop (9 + 7 * m)).take 4 ≠ ck4 (xs.take (9 + 7 * m)) by rw [hE]; exact of_decide_eq_false hq)
    clear hq hE
    go_enter Tryd.func33, Tryd.ntmps33
    go_wp2_with (first
      | (go_at_call 40
         refine HSL.out.mono ?_
         rintro e w2 ⟨rfl, k2⟩
         rw [HQ.out]
         have K2 := hid k2
         clear k2))
    go_ret3
    exact ⟨K2.out, .inr (.inl ⟨HX.out, HU.out, rfl⟩)⟩
  | true =>
    have HQ := hid hq
    have HU := hid (show (xs.drop (9 + 7 * m)).take 4 = ck4 (xs.take (9 + 7 * m)) by rw [hE]; exact of_decide_eq_true hq)
    have HBT := hid (HO.out.part (i := 9) (m := 7 * m) (by rw [HN.out]; omega))
    obtain ⟨ys, hys⟩ : ∃ ys, (xs.drop 9).take (7 * m) = ys := ⟨_, rfl⟩
    have HYL := hid (show ys.length = 7 * m by rw [← hys]; simp; rw [HN.out]; omega)
    have HYB := hid (show Bs ys by rw [← hys]; exact fun y hy => hbs.out y (List.mem_of_mem_drop (List.mem_of_mem_take hy)))
    rw [hys] at HBT
    have HY := hid hys
    have a1 : (9 : Int) ≤ (E : Int) := by omega
    have a2 : (E : Int) ≤ (c : Int) := by omega
    have a3 : E - 9 = 7 * m := by omega
    have a4 : ¬ c - 9 = 0 := by omega
    have a5 : ¬ c ≤ 9 := by omega
    clear hq hys hE
    go_enter Tryd.func33, Tryd.ntmps33
    go_upto_region 7 with (first
      | (go_at_call 40
         refine HSL.out.mono ?_
         rintro e w2 ⟨rfl, k2⟩
         rw [HQ.out]
         have K2 := hid k2
         clear k2)
      | (go_at_call 41
         refine (new_any _ ys _ (HBT.out.kp0 K2.out) (by have := HYL.out; omega)).mono ?_
         rintro e w3 ⟨g, rfl, hg, r1, k1⟩
         have R1 := hid r1
         have K3 := hid (K2.out.trans k1)
         have HG := hid (Nat.le_trans K2.out.size hg)
         clear r1 k1 hg))
    have hgl := R1.out.lt
    have hw3 := K3.out.size
    clear a1 a2 a3 a4 a5 e1 e2
    go_wp2_with (first
      | (refine wp_rowm (f := rc) en0 usRow rfl _ _ rfl (m := m) rfl rfl (by omega) (by omega) ?_
         intro w4 fl4 k4 hz4
         have R4 := hid (R1.out.kp k4 fun _ _ h => h)
         have F4 := hid fl4
         have K4 := hid (K3.out.trans k4)
         clear fl4 k4))
    clear R1
    generalize w3.heap.size = R at F4 hgl hw3 hz4 ⊢
    have HYE := hid (show ys.drop (7 * 0) = ys from rfl)
    go_loopw [33] (fun i w' => ∃ k : Nat, k ≤ m ∧ i = .int .i64 (k : Int) ∧ Hid (Fil 3 rc en0 50 w' R m (ents xs k) ∧ Rd w' g (ys.drop (7 * k)) 0 ∧ Kp No w w')) (fun i _ => m - (intOf i).toNat)
    case atStart => exact ⟨0, Nat.zero_le _, rfl, hid ⟨F4.out, by rw [HYE.out]; exact R4.out, K4.out⟩⟩
    case round =>
      obtain ⟨k, hk, rfl, HT⟩ := hrel
      clear K2 K3 K4 R4 F4
      by_cases hkm : k < m
      · have hki : (k : Int) < (m : Int) := by omega
        have hsum := wrapI (x := (k : Int) + 1) (by unfold I64; omega)
        have hL7 := hid (show 7 ≤ (ys.drop (7 * k)).length by rw [List.length_drop, HYL.out]; omega)
        have hB7 := hid (show Bs (ys.drop (7 * k)) from fun y hy => HYB.out y (List.mem_of_mem_drop hy))
        have hen : enRd (ys.drop (7 * k)) = entAt xs k := by rw [← HY.out]; exact enRd_at xs hkm
        obtain ⟨q0, h0⟩ : ∃ q, rc (entAt xs k) 0 = .int .i64 q := ⟨_, rfl⟩
        obtain ⟨q1, h1⟩ : ∃ q, rc (entAt xs k) 1 = .int .i64 q := ⟨_, rfl⟩
        obtain ⟨q2, h2⟩ : ∃ q, rc (entAt xs k) 2 = .int .u32 q := ⟨_, rfl⟩
        have HE := hid (show (.agg #[rc (enRd (ys.drop (7 * k))) 0, rc (enRd (ys.drop (7 * k))) 1, rc (enRd (ys.drop (7 * k))) 2] : Value) = .agg #[.int .i64 q0, .int .i64 q1, .int .u32 q2] by rw [hen, h0, h1, h2])
        have HV := hid (show [(.int .i64 q0 : Value), .int .i64 q1, .int .u32 q2] = (List.range 3).map (rc (entAt xs k)) by rw [← h0, ← h1, ← h2]; rfl)
        have HKM := hid hkm
        have HLE := hid (show (ents xs k).length = k by simp [ents])
        clear hen h0 h1 h2
        go_wp2_with (first
          | (go_at_call 43
             refine (takerow_any HT.out.2.1 hB7.out hL7.out).mono ?_
             rintro e w5 ⟨rfl, r5, k5⟩
             rw [HE.out]
             rw [List.drop_drop] at r5
             have F5 := hid (HT.out.1.kp k5 (by unfold Only; omega))
             have R5 := hid r5
             have K5 := hid (HT.out.2.2.step k5 fun i hi h => by have := HG.out; unfold Only at h; omega)
             obtain ⟨v0, c0, f0⟩ := F5.out.old (j := k) (i := 0) HKM.out (by omega)
             obtain ⟨v1, c1, f1⟩ := F5.out.old (j := k) (i := 1) HKM.out (by omega)
             obtain ⟨v2, c2, f2⟩ := F5.out.old (j := k) (i := 2) HKM.out (by omega)
             simp only [Nat.add_zero] at c0 f0
             clear r5 k5))
        have F6 := hid (F5.out.snoc (entAt xs k) (by rw [HLE.out]; exact HKM.out) _ HV.out)
        have K6 := hid (Kp.fill (S := Only R) (a := w5) (g := R) (.inl rfl) [(.int .i64 q0 : Value), .int .i64 q1, .int .u32 q2] (k * 3) w5 (Kp.refl _ _))
        rw [HLE.out, ← ents_snoc] at F6
        have hgR := hid hgl
        have hwR := hid hw3
        clear c0 c1 c2 f0 f1 f2
        go_roundw
        case rel =>
          refine ⟨k + 1, by omega, by go_num, hid ⟨F6.out, ?_, K5.out.step K6.out fun i hi h => by have := hwR.out; unfold Only at h; omega⟩⟩
          rw [show 7 * (k + 1) = 7 * k + 7 by omega]
          exact R5.out.kpg K6.out fun i hi h => by have := hgR.out; unfold Only at h; omega
        case measure => simp [intOf]; omega
      · have hkk : k = m := by omega
        subst hkk
        have HLE := hid (show (ents xs k).length = k by simp [ents])
        have HRW := hid (HT.out.1.rw HLE.out (by unfold maxLen; omega) (P := Anyb) trivial)
        have HKW := hid HT.out.2.2
        have HBd := hid (HO.out.kp0 HT.out.2.2)
        have HXE := hid (show E + 4 = 13 + 7 * k by omega)
        have b1 : ((E : Int) + 4).toNat = E + 4 := by omega
        have b2 : (E : Int) + 4 ≤ (n : Int) := by omega
        have b3 : (0 : Int) ≤ (E : Int) + 4 := by omega
        clear HT
        by_cases hcE : c = E + 4
        · have b4 : c - (E + 4) = 0 := by omega
          have b5 : n - (E + 4) = 0 := by omega
          have b6 : c ≤ E + 4 := by omega
          have HXL := hid (show xs.drop (13 + 7 * k) = [] by rw [List.drop_eq_nil_iff, HN.out]; omega)
          go_wp2
          go_quiet (fail)
          go_wp2
          go_ret3
          exact ⟨HKW.out.drewN _, .inr (.inr ⟨HX.out, HU.out, _, _, rfl, HRW.out.kp0 ((Kp.refl No _).drewN _), by rw [HXL.out]; exact Byt.empty _ _ _ _ (by unfold maxLen; omega)⟩)⟩
        · have b4 : ¬ c - (E + 4) = 0 := by omega
          have b6 : ¬ c ≤ E + 4 := by omega
          go_wp2
          go_quiet (fail)
          go_wp2
          go_ret3
          have hp := (HBd.out.part (i := E + 4) (m := n - (E + 4)) (by rw [HN.out]; omega)).kp0 ((Kp.refl No _).drewN nq)
          rw [List.take_of_length_le (by rw [List.length_drop, HN.out]; omega)] at hp
          exact ⟨HKW.out.drewN _, .inr (.inr ⟨HX.out, HU.out, _, _, rfl, HRW.out.kp0 ((Kp.refl No _).drewN _), by rw [← HXE.out]; exact hp⟩)⟩
end
end Go.Proofs.YthhikjgaljkfpaaDoor
