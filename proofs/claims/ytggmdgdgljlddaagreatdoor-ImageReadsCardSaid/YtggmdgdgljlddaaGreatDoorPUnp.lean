/-
  Contract of the document's Unpack.
-/
import Derived.Test.YtggmdgdgljlddaaGreatDoorPSame
import Derived.Test.YtggmdgdgljlddaaGreatDoorPTake
import Derived.Laws.BytesArg
import Derived.Deep.DeepCutAuto
import Derived.Deep.CutRange
namespace Go.Proofs.YtggmdgdgljlddaaGreatDoor
open Go.RowKit

theorem magic_iff {ys : List Int} (h : Bs ys) : (strOfNums ys).toList = [68, 80, 90, 49] ↔ ys = [68, 80, 90, 49] := by
  rw [ByteArray.toList_eq, strOfNums_data]
  constructor
  · intro e1
    have e2 := congrArg (fun l : List UInt8 => l.map fun x => (x.toNat : Int)) e1
    simp only [List.map_map] at e2
    have e3 : ys.map ((fun x : UInt8 => (x.toNat : Int)) ∘ fun n : Int => UInt8.ofNat n.toNat) = ys := by
      conv => rhs; rw [← List.map_id ys]
      refine List.map_congr_left fun y hy => ?_
      have := h y hy
      simp only [Function.comp_apply, id_eq, UInt8.toNat_ofNat']
      omega
    rw [e3] at e2
    rw [e2]
    rfl
  · rintro rfl
    rfl

section
variable {w w' : World} {P S T : Nat → Prop} {v u : Value}
theorem Byt.part {b o n c : Nat} {xs : List Int} (h : Byt w P (.slice (some ⟨b, o, none⟩) n c) xs) {i m : Nat} (hj : i + m ≤ xs.length) : Byt w P (.slice (some ⟨b, o + i, none⟩) m (c - i)) ((xs.drop i).take m) := by
  have h1 := h.drop i (by omega)
  have ha : (⟨b, o, none⟩ : Addr).add i = ⟨b, o + i, none⟩ := by unfold Addr.add; split <;> simp_all
  simp only [Option.map_some, ha] at h1
  exact h1.take m (by rw [List.length_drop]; omega)

theorem infoSec : (Tryz.prog.info? 36).map (fun i => (i.zero, i.size, i.bytes)) = some (some (.agg #[.int .i64 0, .slice none 0 0]), 2, 32) := by kernel_rfl
theorem usSec : Us Tryz.prog 34 36 2 32 (.agg #[.int .i64 0, .slice none 0 0]) := ⟨by kernel_rfl, infoSec, by kernel_rfl, by omega⟩
/-- One section that was just laid in a block of its own. -/
theorem Rw.one (w : World) (e : TypeId) (s : Sv) : Rw 2 pc sv0 (w.alloc (.cells #[pc s 0, pc s 1] e)) Anyb (.slice (some ⟨w.heap.size, 0, none⟩) 1 1) [s] :=
  ⟨some ⟨w.heap.size, 0, none⟩, 1, rfl, by simp, by simp [maxLen], fun _ => ⟨w.heap.size, 0, rfl, by simp, trivial, fun j i hj hi => by
    have hj : j = 0 := by simpa using hj
    subst hj
    rcases (show i = 0 ∨ i = 1 by omega) with rfl | rfl <;> simp⟩⟩
def UnpPost (xs : List Int) (S : Nat → Prop) (w : World) (e : Ending) (w' : World) : Prop :=
  ∃ (u : Value) (ss : List Sv), e = .returned (.tuple #[u, .int .i64 (unp xs).1]) ∧ ss.map sn = (unp xs).2 ∧ Ow w' w.heap.size 36 2 pc u ss ∧ (∀ s ∈ ss, SvOk w' S s) ∧ Kp No w w'
theorem UnpPost.bad {xs : List Int} {x : Int} (h : unp xs = (x, [])) (k : Kp No w w') : UnpPost xs S w (.returned (.tuple #[.slice none 0 0, .int .i64 x])) w' :=
  ⟨.slice none 0 0, [], by rw [h], by rw [h]; rfl, Ow.nil _ _ _ _ _, fun s hs => by simp at hs, k⟩

/-- What is left to be read behind the table's check. -/
def unpRest (b : List Int) (m : Nat) : Int × List Sn :=
  if kinds 0 (ents b m) = false then (21, []) else
  if b.length - (13 + 7 * m) < total (ents b m) then (2, []) else
  if total (ents b m) < b.length - (13 + 7 * m) then (3, []) else
  match bodU (ents b m) (b.drop (13 + 7 * m)) with
  | none => (4, [])
  | some l => (0, l)
set_option maxRecDepth 100000 in
set_option maxHeartbeats 1000000 in
theorem runpack_any {xs : List Int} (h : Byt w S v xs) (hlen : xs.length ≤ 100000000) : Calls Tryz.prog 25 #[v] w (UnpPost xs S w) := by
  obtain ⟨n, hn⟩ : ∃ n, xs.length = n := ⟨_, rfl⟩
  have HN := hid hn
  have HO := hid h
  have hbs := hid (show Bs xs from h.bytes)
  obtain ⟨A, c, rfl, hc, hm, _, hr⟩ := h
  unfold maxLen at hm
  rw [hn] at hlen hc hr HO ⊢
  clear hn
  by_cases h9 : n < 9
  · have g9 := decide_eq_true (show (n : Int) < 9 by omega)
    have HU := hid (show unp xs = (2, []) by unfold unp; rw [if_pos (by rw [HN.out]; exact h9)])
    clear hr
    go_enter Tryz.func25, Tryz.ntmps25
    go_wp2
    go_ret2
    exact UnpPost.bad HU.out (Kp.refl _ _)
  have g9 := decide_eq_false (show ¬ (n : Int) < 9 by omega)
  obtain ⟨b, o, rfl, hb, hS, hcell⟩ := hr (by omega)
  have HB5 := hid (show Byt w S (.slice (some ⟨b, o, none⟩) 5 c) (xs.take 5) from HO.out.take 5 (by rw [HN.out]; omega))
  have HB59 := hid (HO.out.part (i := 5) (m := 4) (by rw [HN.out]; omega))
  have hcv : (convert 28 9 (.slice (some ⟨b, o, none⟩) 4 c)).run Tryz.prog w = .ok (.string (strOfNums (xs.take 4))) w :=
    run_convert_bytes_arg w 28 5 (by kernel_rfl) (by kernel_rfl) b o 4 c (xs.take 4) (by rw [List.length_take, HN.out]; omega) (fun i hi => by
      rw [hcell i (by omega)]
      simp [List.getD, hi]) 9 (by kernel_rfl)
  have hmg := magic_iff (ys := xs.take 4) fun x hx => hbs.out x (List.mem_of_mem_take hx)
  generalize strOfNums (xs.take 4) = mg at hcv hmg
  have HC := hid hcell
  clear hcell hr
  have hn1 : (4 : Int) ≤ (c : Int) := by omega
  have hu9 := hid (show ¬ xs.length < 9 by rw [HN.out]; exact h9)
  by_cases hmag : xs.take 4 = [68, 80, 90, 49]
  · have m1 : (mg.toList == [68, 80, 90, 49]) = true := by rw [hmg.2 hmag]; rfl
    have hm4 := hid (show ¬ xs.take 4 ≠ [68, 80, 90, 49] from fun h => h hmag)
    clear hmg hmag
    obtain ⟨q, hq⟩ : ∃ q, decide ((xs.drop 5).take 4 = ck4 (xs.take 5)) = q := ⟨_, rfl⟩
    have HQ := hid hq
    clear hq
    go_enter Tryz.func25, Tryz.ntmps25
    go_upto_region 5 with fail
    go_cut [28] from 22 to 28 (fun s wx => s = .bool (!q) ∧ Hid (Kp No w wx))
    case first =>
      go_region_with (first
        | (go_at_call 56
           refine (check_any (S := S) (xs := xs.take 5) (by exact HB5.out.kp0 ((Kp.refl No _).drewN _))).mono ?_
           rintro e w3 ⟨v3, rfl, o3, k3⟩
           have O3 := hid (o3.byt (P := Anyb) fun _ _ => trivial)
           have K3 := hid (((Kp.refl No w).drewN _).trans k3)
           clear o3 k3)
        | (go_at_call 9
           refine (same_bool (q := q) (HB59.out.kp0 K3.out) O3.out HQ.out).mono ?_
           rintro e w4 ⟨rfl, q4, rfl⟩
           have K4 := hid (K3.out.drewN q4)))
      all_goals
        go_wp2_with fail
        go_meet
        exact ⟨rfl, K4⟩
    case rest =>
      obtain ⟨rfl, HK⟩ := hcut
      clear hcv m1
      cases q with
      | false =>
        have hck := of_decide_eq_false HQ.out
        have HU := hid (show unp xs = (4, []) by unfold unp; rw [if_neg hu9.out, if_neg hm4.out, if_pos hck])
        clear hck
        go_wp2
        go_ret2
        exact UnpPost.bad HU.out HK.out
      | true =>
        have hck := hid (show ¬ (xs.drop 5).take 4 ≠ ck4 (xs.take 5) from fun h => h (of_decide_eq_true HQ.out))
        have HCL := hid (show ∀ wx, Kp No w wx → ∀ j, j < n → wx.cell? ⟨b, o + j, none⟩ = some (.int .u8 (xs.getD j 0)) from fun wx kk j hj => (kk.cell (p := ⟨b, o + j, none⟩) hb fun h => h).trans (HC.out j hj))
        have c4 := HCL.out _ HK.out 4 (by omega)
        have g4 := getD_rg hbs.out 4
        obtain ⟨m, hm⟩ : ∃ m : Nat, xs.getD 4 0 = (m : Int) := ⟨(xs.getD 4 0).toNat, by omega⟩
        rw [hm] at c4 g4
        have HM := hid hm
        have w1 := wrapI (x := (m : Int)) (by unfold I64; omega)
        clear hm
        by_cases h16 : 16 < m
        · have g16 := decide_eq_true (show (16 : Int) < (m : Int) by omega)
          have HU := hid (show unp xs = (7, []) by unfold unp; rw [if_neg hu9.out, if_neg hm4.out, if_neg hck.out, if_pos (by rw [HM.out]; omega)])
          go_wp2
          go_ret2
          exact UnpPost.bad HU.out HK.out
        have g16 := decide_eq_false (show ¬ (16 : Int) < (m : Int) by omega)
        have hm16 := hid (show ¬ 16 < xs.getD 4 0 by rw [HM.out]; omega)
        have hmn := hid (show (xs.getD 4 0).toNat = m by rw [HM.out]; rfl)
        have w2 := wrapI (x := 7 * (m : Int)) (by unfold I64; omega)
        have w3 := wrapI (x := 9 + 7 * (m : Int)) (by unfold I64; omega)
        go_upto_region 11 with fail
        obtain ⟨E, hE⟩ : ∃ E : Nat, 9 + 7 * (m : Int) = (E : Int) := ⟨9 + 7 * m, by omega⟩
        have hEm : E = 9 + 7 * m := by omega
        simp only [hE]
        have w4 := wrapI (x := (E : Int) + 4) (by unfold I64; omega)
        have HEM := hid hEm
        clear w2 w3 hE g16
        by_cases hsh : n < 13 + 7 * m
        · have gsh := decide_eq_true (show (n : Int) < (E : Int) + 4 by omega)
          have HU := hid (show unp xs = (2, []) by unfold unp; rw [if_neg hu9.out, if_neg hm4.out, if_neg hck.out, if_neg hm16.out]; simp only [hmn.out]; rw [if_pos (by rw [HN.out]; omega)])
          go_wp2
          go_ret2
          exact UnpPost.bad HU.out HK.out
        have gsh := decide_eq_false (show ¬ (n : Int) < (E : Int) + 4 by omega)
        have hnsh := hid (show ¬ xs.length < 13 + 7 * m by rw [HN.out]; exact hsh)
        have HBE := hid (show Byt w S (.slice (some ⟨b, o, none⟩) E c) (xs.take E) from HO.out.take E (by rw [HN.out]; omega))
        have HBF := hid (HO.out.part (i := E) (m := 4) (by rw [HN.out]; omega))
        have hE4 : E + 4 ≤ n := by omega
        obtain ⟨q2, hq2⟩ : ∃ q, decide ((xs.drop E).take 4 = ck4 (xs.take E)) = q := ⟨_, rfl⟩
        have HQ2 := hid hq2
        clear hq2 hsh hEm
        go_upto_region 13 with fail
        go_cut [53] from 43 to 53 (fun s wx => s = .bool (!q2) ∧ Hid (Kp No w wx))
        case first =>
          go_region_with (first
            | (go_at_call 56
               refine (check_any (S := S) (xs := xs.take E) (by exact HBE.out.kp0 (HK.out.drewN _))).mono ?_
               rintro e w3 ⟨v3, rfl, o3, k3⟩
               have O3 := hid (o3.byt (P := Anyb) fun _ _ => trivial)
               have K3 := hid ((HK.out.drewN _).trans k3)
               clear o3 k3)
            | (go_at_call 9
               refine (same_bool (q := q2) (HBF.out.kp0 K3.out) O3.out HQ2.out).mono ?_
               rintro e w4 ⟨rfl, q4, rfl⟩
               have K4 := hid (K3.out.drewN q4)))
          all_goals
            go_wp2_with fail
            go_meet
            exact ⟨rfl, K4⟩
        case rest =>
          obtain ⟨rfl, HK2⟩ := hcut
          have HK := HK2
          clear HK2 HBE HBF HB5 HB59 HC c4
          cases q2 with
          | false =>
            have hck2 := of_decide_eq_false HQ2.out
            have HU := hid (show unp xs = (4, []) by
              unfold unp
              rw [if_neg hu9.out, if_neg hm4.out, if_neg hck.out, if_neg hm16.out]
              simp only [hmn.out]
              rw [if_neg hnsh.out, ← HEM.out, if_pos hck2])
            clear hck2
            go_wp2
            go_ret2
            exact UnpPost.bad HU.out HK.out
          | true =>
            have hck2 := hid (show ¬ (xs.drop (9 + 7 * m)).take 4 ≠ ck4 (xs.take (9 + 7 * m)) from fun h => h (by rw [← HEM.out]; exact of_decide_eq_true HQ2.out))
            have HUR := hid (show unp xs = unpRest xs m by
              unfold unp
              rw [if_neg hu9.out, if_neg hm4.out, if_neg hck.out, if_neg hm16.out]
              simp only [hmn.out]
              rw [if_neg hnsh.out, if_neg hck2.out]
              rfl)
            clear hck2 hm4 hck hm16 hmn hnsh hu9
            have hem2 : 9 + 7 * m + 4 ≤ n := by have := HEM.out; omega
            simp only [Bool.not_true]
            go_wp2_with fail
            go_loopw [6, 7, 8] (fun l s i wx => ∃ (k t : Nat) (x : Int), k ≤ m ∧ i = .int .i64 (k : Int) ∧ l = .int .i64 x ∧ s = .int .i64 (t : Int) ∧ 0 ≤ x ∧ x ≤ 255 ∧ t ≤ 1048560 ∧ Kp No w wx ∧ Hid (kinds 0 (ents xs k) = true ∧ lastOf 0 (ents xs k) = x ∧ total (ents xs k) = t)) (fun _ _ i _ => m - (intOf i).toNat)
            case atStart => exact ⟨0, 0, 0, Nat.zero_le _, rfl, rfl, rfl, by omega, by omega, by omega, HK.out, hid ⟨rfl, rfl, rfl⟩⟩
            case round =>
              obtain ⟨k, t, x, hk, rfl, rfl, rfl, hx0, hx1, ht, hkp, HT⟩ := hrel
              have HKP := hid hkp
              by_cases hkm : k < m
              · have c9 := HCL.out _ hkp (9 + 7 * k) (by omega)
                have c10 := HCL.out _ hkp (10 + 7 * k) (by omega)
                have c11 := HCL.out _ hkp (11 + 7 * k) (by omega)
                have r9 := getD_rg hbs.out (9 + 7 * k)
                have r10 := getD_rg hbs.out (10 + 7 * k)
                have r11 := getD_rg hbs.out (11 + 7 * k)
                obtain ⟨y, hy⟩ : ∃ y, xs.getD (9 + 7 * k) 0 = y := ⟨_, rfl⟩
                obtain ⟨p, hp⟩ : ∃ p : Nat, xs.getD (10 + 7 * k) 0 = (p : Int) := ⟨(xs.getD (10 + 7 * k) 0).toNat, by omega⟩
                obtain ⟨r, hr'⟩ : ∃ r : Nat, xs.getD (11 + 7 * k) 0 = (r : Int) := ⟨(xs.getD (11 + 7 * k) 0).toNat, by omega⟩
                rw [hy] at c9 r9
                rw [hp] at c10 r10
                rw [hr'] at c11 r11
                have HY := hid (show (entAt xs k).k = y from hy)
                have HPR := hid (show (entAt xs k).n = p + 256 * r by unfold entAt; simp only [hp, hr']; omega)
                have a1 := wrapI (x := 7 * (k : Int)) (by unfold I64; omega)
                have a2 := wrapI (x := 9 + 7 * (k : Int)) (by unfold I64; omega)
                have a3 := wrapI (x := 10 + 7 * (k : Int)) (by unfold I64; omega)
                have a4 := wrapI (x := 11 + 7 * (k : Int)) (by unfold I64; omega)
                have a5 := wrapI (x := (y : Int)) (by unfold I64; omega)
                have a6 := wrapI (x := (p : Int)) (by unfold I64; omega)
                have a7 := wrapI (x := (r : Int)) (by unfold I64; omega)
                have a8 := wrapI (x := 256 * (r : Int)) (by unfold I64; omega)
                have a9 := wrapI (x := (t : Int) + (p : Int)) (by unfold I64; omega)
                have a10 := wrapI (x := (t : Int) + (p : Int) + 256 * (r : Int)) (by unfold I64; omega)
                have a11 := wrapI (x := (k : Int) + 1) (by unfold I64; omega)
                have n9 : (9 + 7 * (k : Int)).toNat = 9 + 7 * k := by omega
                have n10 : (10 + 7 * (k : Int)).toNat = 10 + 7 * k := by omega
                have n11 : (11 + 7 * (k : Int)).toNat = 11 + 7 * k := by omega
                have l9 : 9 + 7 * (k : Int) < (n : Int) := by omega
                have l10 : 10 + 7 * (k : Int) < (n : Int) := by omega
                have l11 : 11 + 7 * (k : Int) < (n : Int) := by omega
                have p9 : 0 ≤ 9 + 7 * (k : Int) := by omega
                have p10 : 0 ≤ 10 + 7 * (k : Int) := by omega
                have p11 : 0 ≤ 11 + 7 * (k : Int) := by omega
                have hki : (k : Int) < (m : Int) := by omega
                clear hy hp hr' hkp
                by_cases hle : y ≤ x
                · have gle := decide_eq_true hle
                  have HU := hid (show unp xs = (21, []) by
                    have hf : kinds 0 (ents xs (k + 1)) = false := by
                      rw [ents_snoc, kinds_snoc, HT.out.2.1, HY.out, decide_eq_false (by omega), Bool.and_false]
                    rw [HUR.out, unpRest, if_pos (kinds_up hf (by omega))])
                  go_wp2
                  go_ret2
                  exact UnpPost.bad HU.out HKP.out
                · have gle := decide_eq_false hle
                  have HR := hid (show kinds 0 (ents xs (k + 1)) = true ∧ lastOf 0 (ents xs (k + 1)) = y ∧ total (ents xs (k + 1)) = t + (p + 256 * r) by
                    refine ⟨?_, ?_, ?_⟩
                    · rw [ents_snoc, kinds_snoc, HT.out.1, HT.out.2.1, HY.out, decide_eq_true (by omega), Bool.and_true]
                    · rw [ents_snoc, lastOf_snoc, HY.out]
                    · rw [ents_snoc, total_snoc, HT.out.2.2, HPR.out])
                  have HTL := hid (show t + (p + 256 * r) ≤ 1048560 by
                    have h1 := total_le hbs.out (k + 1)
                    rw [HR.out.2.2] at h1
                    omega)
                  go_wp2
                  go_quiet (fail)
                  go_wp2
                  go_roundw
                  case rel =>
                    refine ⟨k + 1, t + (p + 256 * r), y, by omega, by go_num, rfl, ?_, by omega, by omega, HTL.out, HKP.out.drewN _, HR⟩
                    congr 1
                    omega
                  case measure => simp [intOf]; omega
              · have hkk : k = m := by omega
                subst hkk
                clear hkm hk
                have s1 := wrapI (x := (n : Int) - (E : Int)) (by unfold I64; omega)
                have s2 := wrapI (x := (n : Int) - (E : Int) - 4) (by unfold I64; omega)
                by_cases hshort : n - (13 + 7 * k) < t
                · have gs := decide_eq_true (show (n : Int) - (E : Int) - 4 < (t : Int) by have := HEM.out; omega)
                  have HU := hid (show unp xs = (2, []) by
                    rw [HUR.out, unpRest, if_neg (by rw [HT.out.1]; decide), if_pos (by rw [HT.out.2.2, HN.out]; exact hshort)])
                  go_wp2
                  go_ret2
                  exact UnpPost.bad HU.out HKP.out
                have gs := decide_eq_false (show ¬ (n : Int) - (E : Int) - 4 < (t : Int) by have := HEM.out; omega)
                by_cases htail : t < n - (13 + 7 * k)
                · have gt := decide_eq_true (show (t : Int) < (n : Int) - (E : Int) - 4 by have := HEM.out; omega)
                  have HU := hid (show unp xs = (3, []) by
                    rw [HUR.out, unpRest, if_neg (by rw [HT.out.1]; decide), if_neg (by rw [HT.out.2.2, HN.out]; exact hshort), if_pos (by rw [HT.out.2.2, HN.out]; exact htail)])
                  go_wp2
                  go_ret2
                  exact UnpPost.bad HU.out HKP.out
                have gt := decide_eq_false (show ¬ (t : Int) < (n : Int) - (E : Int) - 4 by have := HEM.out; omega)
                have htn : 13 + 7 * k + t = n := by omega
                have HUS := hid (show unp xs = match bodU (ents xs k) (xs.drop (13 + 7 * k)) with | none => (4, []) | some l => (0, l) by
                  rw [HUR.out, unpRest, if_neg (by rw [HT.out.1]; decide), if_neg (by rw [HT.out.2.2, HN.out]; exact hshort), if_neg (by rw [HT.out.2.2, HN.out]; exact htail)])
                clear HUR
                have HT3 := hid HT.out.2.2
                clear HT
                go_wp2_with fail
                go_loopw [10, 11, 12] (fun v a i wx => ∃ (j A : Nat) (ss : List Sv), j ≤ k ∧ i = .int .i64 (j : Int) ∧ a = .int .i64 (A : Int) ∧ Ow wx w.heap.size 36 2 pc v ss ∧ Kp No w wx ∧ Hid (A = 13 + 7 * k + total (ents xs j) ∧ ss.length = j ∧ (∀ s ∈ ss, SvOk w S s) ∧ bodU (ents xs j) (xs.drop (13 + 7 * k)) = some (ss.map sn))) (fun _ _ i _ => k - (intOf i).toNat)
                case atStart =>
                  refine ⟨0, 13 + 7 * k, [], Nat.zero_le _, rfl, ?_, Ow.nil _ _ _ _ _, HKP.out, hid ⟨rfl, rfl, fun s hs => by simp at hs, rfl⟩⟩
                  congr 1
                  have := HEM.out
                  omega
                case round =>
                  obtain ⟨j, A, ss, hj, rfl, rfl, how, hkp, HT⟩ := hrel
                  clear HKP
                  have HKP := hid hkp
                  by_cases hjk : j < k
                  · have hA : A ≤ n := by have h1 := HT.out.1; have h2 := total_up xs hj; rw [HT3.out] at h2; omega
                    have c10 := HCL.out _ hkp (10 + 7 * j) (by omega)
                    have c11 := HCL.out _ hkp (11 + 7 * j) (by omega)
                    have r9 := getD_rg hbs.out (9 + 7 * j)
                    have r10 := getD_rg hbs.out (10 + 7 * j)
                    have r11 := getD_rg hbs.out (11 + 7 * j)
                    obtain ⟨y, hy⟩ : ∃ y, xs.getD (9 + 7 * j) 0 = y := ⟨_, rfl⟩
                    obtain ⟨p, hp⟩ : ∃ p : Nat, xs.getD (10 + 7 * j) 0 = (p : Int) := ⟨(xs.getD (10 + 7 * j) 0).toNat, by omega⟩
                    obtain ⟨r, hr'⟩ : ∃ r : Nat, xs.getD (11 + 7 * j) 0 = (r : Int) := ⟨(xs.getD (11 + 7 * j) 0).toNat, by omega⟩
                    rw [hy] at r9
                    rw [hp] at c10 r10
                    rw [hr'] at c11 r11
                    obtain ⟨N, hN⟩ : ∃ N : Nat, N = p + 256 * r := ⟨_, rfl⟩
                    have HYY := hid hy
                    have HY := hid (show (entAt xs j).k = y from hy)
                    have HPR := hid (show (entAt xs j).n = N by unfold entAt; simp only [hp, hr']; omega)
                    have hAN : A + N ≤ n := by
                      have h1 := HT.out.1
                      have h2 := total_up xs (show j + 1 ≤ k by omega)
                      rw [ents_snoc, total_snoc, HPR.out, HT3.out] at h2
                      omega
                    have a1 := wrapI (x := 7 * (j : Int)) (by unfold I64; omega)
                    have a3 := wrapI (x := 10 + 7 * (j : Int)) (by unfold I64; omega)
                    have a4 := wrapI (x := 11 + 7 * (j : Int)) (by unfold I64; omega)
                    have a6 := wrapI (x := (p : Int)) (by unfold I64; omega)
                    have a7 := wrapI (x := (r : Int)) (by unfold I64; omega)
                    have a8 := wrapI (x := 256 * (r : Int)) (by unfold I64; omega)
                    have a9 := wrapI (x := (p : Int) + 256 * (r : Int)) (by unfold I64; omega)
                    have a11 := wrapI (x := (j : Int) + 1) (by unfold I64; omega)
                    have n10 : (10 + 7 * (j : Int)).toNat = 10 + 7 * j := by omega
                    have n11 : (11 + 7 * (j : Int)).toNat = 11 + 7 * j := by omega
                    have l10 : 10 + 7 * (j : Int) < (n : Int) := by omega
                    have l11 : 11 + 7 * (j : Int) < (n : Int) := by omega
                    have p10 : 0 ≤ 10 + 7 * (j : Int) := by omega
                    have p11 : 0 ≤ 11 + 7 * (j : Int) := by omega
                    have hki : (j : Int) < (k : Int) := by omega
                    have HOW := hid how
                    clear hy hp hr' hkp how
                    go_wp2
                    go_quiet (fail)
                    go_upto_region 35 with fail
                    have hNI : (p : Int) + 256 * (r : Int) = (N : Int) := by omega
                    simp only [hNI]
                    clear hN hNI a1 a3 a4 a6 a7 a8 a9 n10 n11 l10 l11 p10 p11 c10 c11
                    have HKW := hid (HKP.out.drewN nq)
                    have HOW := hid (show Ow (wr.drewN nq) w.heap.size 36 2 pc _ ss from HOW.out.kp0 ((Kp.refl No _).drewN nq))
                    generalize wr.drewN nq = W at HKW HOW ⊢
                    have b1 := wrapI (x := (A : Int) + (N : Int)) (by unfold I64; omega)
                    have b2 : ((A : Int) + (N : Int)).toNat = A + N := by omega
                    have b3 : (A : Int) ≤ (A : Int) + (N : Int) := by omega
                    have b4 : (A : Int) + (N : Int) ≤ (c : Int) := by omega
                    have b5 : A + N - A = N := by omega
                    have HBD0 := hid (HO.out.part (i := A) (m := N) (by rw [HN.out]; omega))
                    go_cut [14] from 125 to 130 (fun s wx => ∃ (a0 : Option Addr) (c0 : Nat), s = .slice a0 N c0 ∧ wx = W ∧ Hid (Byt w S (.slice a0 N c0) ((xs.drop A).take N)))
                    case first =>
                      by_cases hAc : c = A
                      · have hN0 : N = 0 := by omega
                        subst hN0
                        have hcA : c - A = 0 := by omega
                        go_wp2_with fail
                        all_goals
                          go_meet
                          exact ⟨_, _, rfl, rfl, hid (by rw [List.take_zero]; exact Byt.empty _ _ _ _ (by unfold maxLen; omega))⟩
                      · have hcA : ¬ c - A = 0 := by omega
                        have hcA2 : ¬ c ≤ A := by omega
                        go_wp2_with fail
                        all_goals first
                          | (exfalso; omega)
                          | (go_meet; exact ⟨_, _, rfl, rfl, HBD0⟩)
                    case rest =>
                    obtain ⟨a0, c0, rfl, hW, HBD⟩ := hcut
                    have hW := hW.symm
                    subst hW
                    clear b1 b2 b3 b4 b5 HBD0
                    have HPT := hid (HO.out.part (i := 12 + 7 * j) (m := 4) (by rw [HN.out]; omega))
                    have a1 := wrapI (x := 7 * (j : Int)) (by unfold I64; omega)
                    have a2 := wrapI (x := 12 + 7 * (j : Int)) (by unfold I64; omega)
                    have a3 := wrapI (x := 16 + 7 * (j : Int)) (by unfold I64; omega)
                    have n12 : (12 + 7 * (j : Int)).toNat = 12 + 7 * j := by omega
                    have n16 : (16 + 7 * (j : Int)).toNat = 16 + 7 * j := by omega
                    have p12 : 0 ≤ 12 + 7 * (j : Int) := by omega
                    have p16 : 12 + 7 * (j : Int) ≤ 16 + 7 * (j : Int) := by omega
                    have l16 : 16 + 7 * (j : Int) ≤ (c : Int) := by omega
                    have d16 : 16 + 7 * j - (12 + 7 * j) = 4 := by omega
                    obtain ⟨q, hq⟩ : ∃ q, decide (ck4 ((xs.drop A).take N) = (xs.drop (12 + 7 * j)).take 4) = q := ⟨_, rfl⟩
                    have HQ := hid hq
                    clear hq
                    go_upto_region 36 with fail
                    go_cut [142] from 131 to 142 (fun s wx => s = .bool (!q) ∧ Hid (Kp No W wx))
                    case first =>
                      go_region_with (first
                        | (go_at_call 56
                           refine (check_any (S := S) (xs := (xs.drop A).take N) (by exact HBD.out.kp0 (HKW.out.drewN _))).mono ?_
                           rintro e w3 ⟨v3, rfl, o3, k3⟩
                           have O3 := hid (o3.byt (P := Anyb) fun _ _ => trivial)
                           have K3 := hid (((Kp.refl No W).drewN _).trans k3)
                           clear o3 k3)
                        | (go_at_call 9
                           refine (same_bool (q := q) O3.out (HPT.out.kp0 (HKW.out.trans K3.out)) HQ.out).mono ?_
                           rintro e w4 ⟨rfl, q4, rfl⟩
                           have K4 := hid (K3.out.drewN q4)))
                      all_goals
                        go_wp2_with fail
                        go_meet
                        exact ⟨rfl, K4⟩
                    case rest =>
                      obtain ⟨rfl, HKV⟩ := hcut
                      clear a1 a2 a3 n12 n16 p12 p16 l16 d16
                      have HX := hid (HKW.out.trans HKV.out)
                      have HOW := hid (HOW.out.kp0 HKV.out)
                      have HE := hid (show xs.drop (13 + 7 * k) = xs.drop (13 + 7 * k) from rfl)
                      have hdrop : ((xs.drop (13 + 7 * k)).drop (total (ents xs j))).take N = (xs.drop A).take N := by
                        rw [List.drop_drop, HT.out.1]
                      cases q with
                      | false =>
                        have HU := hid (show unp xs = (4, []) by
                          have hf : bodU (ents xs (j + 1)) (xs.drop (13 + 7 * k)) = none := by
                            rw [ents_snoc, bodU_snoc, HT.out.2.2.2, Option.bind_some, HPR.out, hdrop, if_neg]
                            exact of_decide_eq_false HQ.out
                          rw [HUS.out, bodU_up hf (by omega)])
                        clear hdrop
                        go_wp2
                        go_ret2
                        exact UnpPost.bad HU.out HX.out
                      | true =>
                        have HB1 := hid (show bodU (ents xs (j + 1)) (xs.drop (13 + 7 * k)) = some (ss.map sn ++ [⟨y, (xs.drop A).take N⟩]) by
                          rw [ents_snoc, bodU_snoc, HT.out.2.2.2, Option.bind_some, HPR.out, hdrop, if_pos, HY.out]
                          exact of_decide_eq_true HQ.out)
                        clear hdrop
                        simp only [Bool.not_true]
                        go_upto_region 38 with fail
                        have c9 := HCL.out _ HX.out (9 + 7 * j) (by omega)
                        rw [HYY.out] at c9
                        have a1 := wrapI (x := 7 * (j : Int)) (by unfold I64; omega)
                        have a2 := wrapI (x := 9 + 7 * (j : Int)) (by unfold I64; omega)
                        have a5 := wrapI (x := y) (by unfold I64; omega)
                        have n9 : (9 + 7 * (j : Int)).toNat = 9 + 7 * j := by omega
                        have p9 : 0 ≤ 9 + 7 * (j : Int) := by omega
                        have l9 : 9 + 7 * (j : Int) < (n : Int) := by omega
                        have b1 := wrapI (x := (A : Int) + (N : Int)) (by unfold I64; omega)
                        have HJK := hid (show j + 1 ≤ 16 by omega)
                        have hlN : ((xs.drop A).take N).length = N := by rw [List.length_take, List.length_drop, HN.out]; omega
                        have HSV := hid (show SvOk w S ⟨y, a0, c0, (xs.drop A).take N⟩ from ⟨(show I64 y by unfold I64; omega), (show Byt w S (.slice a0 ((xs.drop A).take N).length c0) ((xs.drop A).take N) by rw [hlN]; exact HBD.out)⟩)
                        have HLN := hid hlN
                        have HSL := hid HT.out.2.1
                        have how := HOW.out
                        obtain ⟨AO, cO, rfl⟩ := how.formN (m := j) HSL.out
                        clear hlN how
                        go_wp2_with (first
                          | (at_builtin
                             refine wp_apps usSec pc_one rfl (.tmp 143) (.tmp 153) rfl (base := w.heap.size) (d := sv0) (xs := ss) (ys := [⟨y, a0, c0, (xs.drop A).take N⟩]) (by exact HOW.out.kp0 ((Kp.refl No _).alloc _)) (by have h1 := Rw.one wc 36 ⟨y, a0, c0, (xs.drop A).take N⟩; simp only [pc, Sv.bv, HLN.out] at h1; exact h1) (by rw [HSL.out, List.length_singleton]; have := HJK.out; omega) (by rw [HSL.out, List.length_singleton]; unfold maxLen; have := HJK.out; omega) (by have := HX.out.size; simp; omega) ?_
                             intro v5 w5 own5 k5
                             have HO5 := hid own5
                             have HK5 := hid ((HX.out.alloc _).step k5 fun i hi h => by omega)
                             clear own5 k5))
                        go_roundw
                        case rel =>
                          refine ⟨j + 1, A + N, ss ++ [⟨y, a0, c0, (xs.drop A).take N⟩], by omega, by go_num, by go_num, HO5.out, HK5.out, hid ⟨?_, ?_, ?_, ?_⟩⟩
                          · rw [ents_snoc, total_snoc, HPR.out, HT.out.1]; omega
                          · rw [List.length_append, HSL.out]; rfl
                          · intro s hs
                            rcases List.mem_append.1 hs with h | h
                            · exact HT.out.2.2.1 s h
                            · rw [List.mem_singleton.1 h]; exact HSV.out
                          · rw [HB1.out, List.map_append]; rfl
                        case measure => simp [intOf]; omega
                  · have hjj : j = k := by omega
                    subst hjj
                    go_wp2
                    go_ret2
                    have e1 : unp xs = (0, ss.map sn) := by rw [HUS.out, HT.out.2.2.2]
                    exact ⟨_, ss, by rw [e1]; rfl, by rw [e1], how, fun s hs => (HT.out.2.2.1 s hs).kp hkp fun _ _ h => h, hkp⟩
  · have m1 : (mg.toList == [68, 80, 90, 49]) = false := by simpa using fun h => hmag (hmg.1 h)
    have HU := hid (show unp xs = (20, []) by unfold unp; rw [if_neg hu9.out, if_pos hmag])
    clear hmg hmag
    go_enter Tryz.func25, Tryz.ntmps25
    go_wp2
    go_ret2
    exact UnpPost.bad HU.out (Kp.refl _ _)
end
end Go.Proofs.YtggmdgdgljlddaaGreatDoor
