/-
  RdU RdV RdW RdX: texts laid into one.
-/
import Derived.Test.YtgfkbkonelphaaaGreatDoorRdT
import Derived.Test.YtgfkbkonelphaaaGreatDoorSlJ
import Derived.Deep.CutRange
import Derived.Test.YtgfkbkonelphaaaGreatDoorDArm
import Derived.Test.YtgfkbkonelphaaaGreatDoorSlV
import Derived.Test.YtgfkbkonelphaaaGreatDoorSlFa
import Derived.Test.YtgfkbkonelphaaaGreatDoorRdE

/-
  Contract of the document's Open.
-/
namespace Go.Proofs.YtgfkbkonelphaaaGreatDoor
open Go.RowKit

section
variable {w : World} {Z : Nat → Prop} {g kb wb ib n : Nat} {s : Ds}
theorem ropen_few (h : Rdk Z w g kb wb ib n s) (hn : n < 4) : Calls Tryz.prog 9 #[.pointer (some ⟨g, 0, none⟩)] w fun e w' => e = .returned (.tuple #[.pointer none, .int .i64 1]) ∧ w' = w := by
  obtain ⟨ck, cw, ci, _, _, _, _, _, _, c0, _⟩ := h.cells
  have g4 : (n : Int) < 4 := by omega
  clear h
  go_enter Tryz.func9, Tryz.ntmps9
  go_wp2
  go_ret2
  exact ⟨rfl, rfl⟩
theorem ropen_nil {A : Option Addr} {c : Nat} (c0 : w.cell? ⟨g, 0, none⟩ = some (.slice A 0 c)) : Calls Tryz.prog 9 #[.pointer (some ⟨g, 0, none⟩)] w fun e w' => e = .returned (.tuple #[.pointer none, .int .i64 1]) ∧ w' = w := by
  go_enter Tryz.func9, Tryz.ntmps9
  go_wp2
  go_ret2
  exact ⟨rfl, rfl⟩
theorem ropen_off (h : Rdk Z w g kb wb ib n s) (ho : off s = true) (h4 : 4 ≤ n) : Calls Tryz.prog 9 #[.pointer (some ⟨g, 0, none⟩)] w fun e w' => e = .returned (.tuple #[.pointer none, .int .i64 19]) ∧ Kp No w w' := by
  obtain ⟨ck, cw, ci, _, _, _, _, _, _, c0, _⟩ := h.cells
  have g4 : ¬ (n : Int) < 4 := by omega
  have HD := hid h
  have K1 := hid ((Kp.refl No w).alloc (.cells #[.pointer (some ⟨g, 0, none⟩), .int .i64 0, .bool false, .slice none 0 0] 47))
  have HR := hid (fun w' (k : Kp No w w') => rread_off (HD.out.kp0 k) (i := 0) (by omega) ho)
  have e19 : ((19 : Int) != 0) = true := rfl
  clear h
  go_enter Tryz.func9, Tryz.ntmps9
  go_wp2_with fail
  generalize w.alloc (.cells #[.pointer (some ⟨g, 0, none⟩), .int .i64 0, .bool false, .slice none 0 0] 47) = w0 at K1 ⊢
  go_loopw [5] (fun i wr => i = .int .i64 0 ∧ wr = w0) (fun _ _ => 1)
  case atStart => exact ⟨rfl, rfl⟩
  case round =>
    obtain ⟨rfl, rfl⟩ := hrel
    go_wp2_with (first
      | (go_at_call 30
         refine (HR.out _ K1.out).mono ?_
         rintro e w2 ⟨rfl, rfl⟩))
    go_ret2
    exact ⟨rfl, K1.out⟩
/-- What is opened. -/
def RoPost (Z : Nat → Prop) (g kb wb ib n : Nat) (s : Ds) (w : World) (e : Ending) (w' : World) : Prop :=
  ∃ q, e = .returned (.tuple #[.pointer (some ⟨q, 0, none⟩), .int .i64 0]) ∧ w.heap.size ≤ q ∧ Rdk (fun i => Z i ∨ i = q) w' g kb wb ib n s ∧ Rst (fun i => Z i ∨ i = q) w' q g kb wb ib n (opn (look s) ((n - 2) / 2)).1 (opn (look s) ((n - 2) / 2)).2.1 (opn (look s) ((n - 2) / 2)).2.2 ∧ Kp No w w'
theorem stj_no {V : Nat → List Int} {h j : Nat} (hc : hcnt V h j = none) : stj V h (j + 1) = stj V h j := by
  show (if (stj V h j).1 < (rdv V h j).1 then rdv V h j else stj V h j) = stj V h j
  rw [if_neg]
  unfold rdv
  rw [hc]
  exact Nat.not_lt_zero _
theorem stj_yes {V : Nat → List Int} {h j : Nat} {b : Nat × Bool × List Int} (hc : hcnt V h j = some b) : stj V h (j + 1) = if (stj V h j).1 < b.1 then b else stj V h j := by
  show (if (stj V h j).1 < (rdv V h j).1 then rdv V h j else stj V h j) = _
  unfold rdv
  rw [hc]
  rfl
set_option maxRecDepth 100000 in
set_option maxHeartbeats 8000000 in
theorem ropen_is (h : Rdk Z w g kb wb ib n s) (ho : off s = false) (h4 : 4 ≤ n) (hz : ∀ j, w.heap.size ≤ j → ¬ Z j) : Calls Tryz.prog 9 #[.pointer (some ⟨g, 0, none⟩)] w (RoPost Z g kb wb ib n s w) := by
  obtain ⟨ck, cw, ci, _, _, _, _, _, _, c0, _⟩ := h.cells
  have g4 : ¬ (n : Int) < 4 := by omega
  have hlen : n ≤ 512 := by have := h.ok.len; rw [h.len] at this; exact this
  have HSec := hid (show ∀ j, j < n → Sec (look s j) from fun j hj => look_sec h.ok (by rw [h.len]; exact hj))
  have hbl : ∀ i, RB g kb wb ib i → i < w.heap.size := fun i hi => by
    obtain ⟨_, _, _, _, _, _, _, _, _, l1⟩ := h.hd
    obtain ⟨_, l2, _⟩ := h.kc
    obtain ⟨_, l3, _⟩ := h.wc
    obtain ⟨_, l4, _⟩ := h.ic
    rcases hi with rfl | rfl | rfl | rfl
    · exact l1.lt
    · exact l2.lt
    · exact l3.lt
    · exact l4.lt
  have HBL := hid hbl
  have HZ := hid hz
  obtain ⟨hh, hhe⟩ : ∃ hh, (n - 2) / 2 = hh := ⟨_, rfl⟩
  have HHH := hid hhe
  unfold RoPost
  have D0 := hid (h.more ((Kp.refl No w).alloc (.cells #[.pointer (some ⟨g, 0, none⟩), .int .i64 0, .bool false, .slice none 0 0] 47)) (Nat.le_refl _))
  have S0 := hid (show Rst (fun i => Z i ∨ i = w.heap.size) (w.alloc (.cells #[.pointer (some ⟨g, 0, none⟩), .int .i64 0, .bool false, .slice none 0 0] 47)) w.heap.size g kb wb ib n (stj (look s) hh 0).1 (stj (look s) hh 0).2.1 (stj (look s) hh 0).2.2 from
    ⟨⟨.slice none 0 0, Blk.new w 47 _, Byt.nil _ _⟩, by simp [stj], by simp [stj], fun _ => rfl, fun e => by have := hbl _ e; omega, .inr rfl⟩)
  have K0 := hid ((Kp.refl No w).alloc (.cells #[.pointer (some ⟨g, 0, none⟩), .int .i64 0, .bool false, .slice none 0 0] 47))
  rw [hhe]
  have h2n : 2 + 2 * hh ≤ n := by omega
  have hwhh := wrapI (x := 64 * (hh : Int)) (by unfold I64; omega)
  have hwhu : IntKind.u64.wrap (64 * (hh : Int)) = 64 * (hh : Int) := by rw [IntKind.wrap_u64]; omega
  clear h hz hbl hhe
  go_enter Tryz.func9, Tryz.ntmps9
  go_wp2_with fail
  generalize hQ : w.heap.size = Q at D0 S0 ⊢
  generalize w.alloc (.cells #[.pointer (some ⟨g, 0, none⟩), .int .i64 0, .bool false, .slice none 0 0] 47) = w0 at D0 S0 K0 ⊢
  go_loopw [5] (fun i wr => ∃ j : Nat, j ≤ 2 ∧ i = .int .i64 (j : Int) ∧ Hid (Rdk (fun i => Z i ∨ i = Q) wr g kb wb ib n s) ∧ Hid (Rst (fun i => Z i ∨ i = Q) wr Q g kb wb ib n (stj (look s) hh j).1 (stj (look s) hh j).2.1 (stj (look s) hh j).2.2) ∧ Hid (Kp No w wr)) (fun i _ => 2 - (intOf i).toNat)
  case atStart => exact ⟨0, by omega, rfl, D0, S0, K0⟩
  case round =>
    obtain ⟨j, hj, rfl, DR, SR, KR⟩ := hrel
    clear D0 S0 K0 c0
    by_cases hj2 : j < 2
    · have g2 : (j : Int) < 2 := by omega
      have hwj := wrapI (x := (j : Int) + 1) (by unfold I64; omega)
      have e0 : ((0 : Int) != 0) = false := rfl
      obtain ⟨l, hl⟩ : ∃ l, look s j = l := ⟨_, rfl⟩
      have hls := HSec.out j (by omega)
      rw [hl] at hls
      have HLK := hid hl
      obtain ⟨⟨a0, q0, i0⟩, hr0⟩ : ∃ r, stj (look s) hh j = r := ⟨_, rfl⟩
      rw [hr0] at SR
      have HR0 := hid hr0
      have hbs : Bs l := hls.rg
      have b8 := num_bd ((l.drop 4).take 8) fun x hx => hbs x (List.mem_of_mem_drop (List.mem_of_mem_take hx))
      have b4 := num_bd ((l.drop 13).take 4) fun x hx => hbs x (List.mem_of_mem_drop (List.mem_of_mem_take hx))
      rw [show ((l.drop 4).take 8).length = 8 by rw [List.length_take, List.length_drop, hls.len]; rfl, show pw 8 = 18446744073709551616 from rfl] at b8
      rw [show ((l.drop 13).take 4).length = 4 by rw [List.length_take, List.length_drop, hls.len]; rfl, show pw 4 = 4294967296 from rfl] at b4
      obtain ⟨N, hN⟩ : ∃ N : Nat, num ((l.drop 4).take 8) = (N : Int) := ⟨(num ((l.drop 4).take 8)).toNat, by omega⟩
      obtain ⟨M, hM⟩ : ∃ M : Nat, num ((l.drop 13).take 4) = (M : Int) := ⟨(num ((l.drop 13).take 4)).toNat, by omega⟩
      have x12 := getD_bs hbs 12
      obtain ⟨x, hx⟩ : ∃ x, l.getD 12 0 = x := ⟨_, rfl⟩
      rw [hN] at b8
      rw [hM] at b4
      rw [hx] at x12
      have HNN := hid hN
      have HMM := hid hM
      have HX := hid hx
      have HL64 := hid hls.len
      clear hl hls hr0 hbs hN hM
      go_upto_region 8 with (first
        | (go_at_call 30
           refine (rread_is DR.out (i := j) (by omega) ho).mono ?_
           rintro e w2 ⟨⟨v2, rfl, y2⟩, rfl⟩
           rw [HLK.out] at y2
           obtain ⟨A2, c2, rfl, hc2, hm2, _, hr2⟩ := id y2
           obtain ⟨b2, o2, rfl, _, _, hcell2⟩ := hr2 (by rw [HL64.out]; omega)
           have y12 := hcell2 12 (by rw [HL64.out]; omega)
           rw [HL64.out] at y2 hc2 ⊢
           have Y2 := hid y2
           clear y2 hr2 hcell2))
      rw [hx] at y12
      clear hx
      have h12 : 12 ≤ c2 := by omega
      have h17 : 17 ≤ c2 := by omega
      have P8 := hid (Y2.out.part (i := 4) (m := 8) (by rw [HL64.out]; omega))
      have P4 := hid (Y2.out.part (i := 13) (m := 4) (by rw [HL64.out]; omega))
      go_upto_region 12 with (first
        | (go_at_call 31
           with_reducible refine (number_any _ ((l.drop 4).take 8) w2 P8.out (by rw [List.length_take]; omega)).mono ?_
           rintro e w3 ⟨rfl, rfl⟩
           rw [HNN.out])
        | (go_at_call 31
           with_reducible refine (number_any _ ((l.drop 13).take 4) _ P4.out (by rw [List.length_take]; omega)).mono ?_
           rintro e w4 ⟨rfl, rfl⟩
           rw [HMM.out]))
      have HBD0 := hid (show True from trivial)
      obtain ⟨bd, hbd⟩ : ∃ bd : Bool, decide (N < 1 ∨ 1099511627776 < N ∨ N % 2 ≠ j ∨ 64 * hh < M ∨ 1 < x ∨ (x = 0 ∧ 0 < M)) = bd := ⟨_, rfl⟩
      have HBD := hid hbd
      clear hbd HBD0
      go_cut [75] from 20 to 116 (fun v wx => v = .bool bd ∧ wx = w2)
      case first =>
        clear P8 P4
        by_cases p1 : N < 1
        · have d1 : (N : Int) < 1 := by omega
          go_wp2_with (first
            | (go_at_call 22
               refine (rhalf_any DR.out h4).mono ?_
               rintro e w2 ⟨rfl, rfl⟩
               rw [HHH.out]))
          go_meet
          exact ⟨congrArg Value.bool ((decide_eq_true (by omega)).symm.trans HBD.out), rfl⟩
        have e1 : decide ((N : Int) < 1) = false := decide_eq_false (by omega)
        have e1' : ¬ (N : Int) < 1 := by omega
        by_cases p2 : 1099511627776 < N
        · have d2 : 1099511627776 < (N : Int) := by omega
          go_wp2_with (first
            | (go_at_call 22
               refine (rhalf_any DR.out h4).mono ?_
               rintro e w2 ⟨rfl, rfl⟩
               rw [HHH.out]))
          go_meet
          exact ⟨congrArg Value.bool ((decide_eq_true (by omega)).symm.trans HBD.out), rfl⟩
        have e2 : decide (1099511627776 < (N : Int)) = false := decide_eq_false (by omega)
        have e2' : ¬ 1099511627776 < (N : Int) := by omega
        have hwN := wrapI (x := (N : Int)) (by unfold I64; omega)
        obtain ⟨r, hr⟩ : ∃ r, N % 2 = r := ⟨_, rfl⟩
        have hrt : (N : Int).tmod 2 = (r : Int) := by rw [Int.tmod_eq_emod_of_nonneg (by omega)]; omega
        have hwr := wrapI (x := (r : Int)) (by unfold I64; omega)
        by_cases p3 : r = j
        · have e3 : ((r : Int) != (j : Int)) = false := by simp [p3]
          have e3'' : r = j := p3
          have e3' : ((j : Int) != (j : Int)) = false := by simp
          have HR2 := hid hr
          clear hr
          by_cases p4 : 64 * hh < M
          · have d4 : 64 * (hh : Int) < (M : Int) := by omega
            clear p3 e3''
            go_wp2_with (first
              | (go_at_call 22
                 refine (rhalf_any DR.out h4).mono ?_
                 rintro e w2 ⟨rfl, rfl⟩
                 rw [HHH.out]))
            go_meet
            exact ⟨congrArg Value.bool ((decide_eq_true (by have := HR2.out; omega)).symm.trans HBD.out), rfl⟩
          have e4 : decide (64 * (hh : Int) < (M : Int)) = false := decide_eq_false (by omega)
          have e4' : ¬ 64 * (hh : Int) < (M : Int) := by omega
          by_cases p5 : 1 < x
          · have d5 : (1 : Int) < x := p5
            clear p3 e3''
            go_wp2_with (first
              | (go_at_call 22
                 refine (rhalf_any DR.out h4).mono ?_
                 rintro e w2 ⟨rfl, rfl⟩
                 rw [HHH.out]))
            go_meet
            exact ⟨congrArg Value.bool ((decide_eq_true (by have := HR2.out; omega)).symm.trans HBD.out), rfl⟩
          have e5 : decide ((1 : Int) < x) = false := decide_eq_false p5
          by_cases p6 : x = 0
          · have e6 : (x == 0) = true := by simp [p6]
            have HP6 := hid p6
            clear p6
            by_cases p7 : 0 < M
            · have d7 : (0 : Int) < (M : Int) := by omega
              clear p3 e3''
              go_wp2_with (first
                | (go_at_call 22
                   refine (rhalf_any DR.out h4).mono ?_
                   rintro e w2 ⟨rfl, rfl⟩
                   rw [HHH.out]))
              go_meet
              exact ⟨congrArg Value.bool ((decide_eq_true (by have := HR2.out; have := HP6.out; omega)).symm.trans HBD.out), rfl⟩
            · have e7 : decide ((0 : Int) < (M : Int)) = false := decide_eq_false (by omega)
              have e7' : ¬ (0 : Int) < (M : Int) := by omega
              clear p3
              go_wp2_with (first
                | (go_at_call 22
                   refine (rhalf_any DR.out h4).mono ?_
                   rintro e w2 ⟨rfl, rfl⟩
                   rw [HHH.out]))
              go_meet
              exact ⟨congrArg Value.bool ((decide_eq_false (by have := HR2.out; have := HP6.out; omega)).symm.trans HBD.out), rfl⟩
          · have e6 : (x == 0) = false := by simp [p6]
            clear p3
            go_wp2_with (first
              | (go_at_call 22
                 refine (rhalf_any DR.out h4).mono ?_
                 rintro e w2 ⟨rfl, rfl⟩
                 rw [HHH.out]))
            go_meet
            exact ⟨congrArg Value.bool ((decide_eq_false (by have := HR2.out; omega)).symm.trans HBD.out), rfl⟩
        · have e3 : ((r : Int) != (j : Int)) = true := by simp; omega
          have HR2 := hid hr
          clear hr
          go_wp2_with (first
            | (go_at_call 22
               refine (rhalf_any DR.out h4).mono ?_
               rintro e w2 ⟨rfl, rfl⟩
               rw [HHH.out]))
          go_meet
          exact ⟨congrArg Value.bool ((decide_eq_true (by have := HR2.out; omega)).symm.trans HBD.out), rfl⟩
      case rest =>
        obtain ⟨rfl, rfl⟩ := hcut
        have HFA := hid (show fAge l = (N : Int) ∧ fMany l = (M : Int) from ⟨HNN.out, HMM.out⟩)
        cases bd with
        | true =>
          have hno : hcnt (look s) hh j = none := by
            unfold hcnt
            rw [HLK.out, HFA.out.1, HFA.out.2, HX.out, if_pos]
            have := of_decide_eq_true HBD.out
            omega
          have e1 := hid (show stj (look s) hh (j + 1) = (a0, q0, i0) by rw [stj_no hno]; exact HR0.out)
          go_wp2
          go_roundw
          case rel => exact ⟨j + 1, by omega, by go_num, DR, hid (by rw [e1.out]; exact SR.out), KR⟩
          case measure => simp [intOf]; omega
        | false =>
          have hgood := of_decide_eq_false HBD.out
          have hN40 : N ≤ 1099511627776 := by omega
          have hM : M ≤ 64 * hh := by omega
          have hwN := wrapI (x := (N : Int)) (by unfold I64; omega)
          have hwM := wrapI (x := (M : Int)) (by unfold I64; omega)
          obtain ⟨img, himg⟩ : ∃ img, (slotB (look s) hh j).take M = img := ⟨_, rfl⟩
          have hil : img.length ≤ M := by rw [← himg, List.length_take]; omega
          have HIM := hid himg
          obtain ⟨hb, hhb⟩ : ∃ hb : Bool, (x == 1) = hb := ⟨_, rfl⟩
          have HHB := hid hhb
          obtain ⟨eb, heb⟩ : ∃ eb : Bool, decide (l = hsec N hb img) = eb := ⟨_, rfl⟩
          have HEB := hid heb
          have hhc : hcnt (look s) hh j = if l = hsec N hb img then some (N, hb, img) else none := by
            unfold hcnt
            rw [HLK.out, HFA.out.1, HFA.out.2, HX.out, if_neg (by omega), Int.toNat_natCast, Int.toNat_natCast, himg, hhb]
          have HHC := hid hhc
          have HY12 := hid (fun w' (k : Kp No wc w') => (k.cell (p := ⟨b2, o2 + 12, none⟩) (World.block_lt_of_cell? _ _ y12) fun h => h).trans y12)
          have hnb : hb = false → img = [] := fun h => by
            have hM0 : M = 0 := by
              have : x ≠ 1 := by intro e; rw [e] at hhb; rw [h] at hhb; exact absurd hhb (by decide)
              omega
            rw [hM0] at hil
            exact List.eq_nil_of_length_eq_zero (by omega)
          have HNB := hid hnb
          clear hgood himg heb hhc hnb P8 P4
          go_upto_region 15 with (first
            | (go_at_call 32
               refine (rslot_any DR.out ho h4 hj2 (many := M) (by rw [HHH.out]; exact hM)).mono ?_
               rintro e w3 ⟨u, rfl, yu, k3⟩
               rw [HHH.out, HIM.out] at yu
               obtain ⟨A3, c3, rfl, _⟩ := id yu
               have YU := hid yu
               have K3 := hid k3
               have y12' := HY12.out _ k3
               clear yu k3)
            | (go_at_call 34
               refine (rhead_any N hb hN40 (by omega) YU.out).mono ?_
               rintro e w4 ⟨u4, rfl, o4, k4⟩
               have O4 := hid (o4.byt (P := Anyb) fun _ _ => trivial)
               have YU4 := hid (YU.out.kp0 k4)
               have K4 := hid (K3.out.trans k4)
               have Y4 := hid (Y2.out.kp0 (K3.out.trans k4))
               clear o4 k4 y12')
            | (go_at_call 33
               refine (same_any _ _ _ _ _ Y4.out O4.out).mono ?_
               rintro e w5 ⟨rfl, n5, rfl⟩
               rw [HEB.out]
               have YU5 := hid (YU4.out.kp0 ((Kp.refl No w4).drewN n5))
               have K5 := hid (K4.out.drewN n5)
               cases eb))
          · have hno : hcnt (look s) hh j = none := by rw [HHC.out, if_neg (of_decide_eq_false HEB.out)]
            have e1 := hid (show stj (look s) hh (j + 1) = (a0, q0, i0) by rw [stj_no hno]; exact HR0.out)
            go_roundw
            case rel => exact ⟨j + 1, by omega, by go_num, hid (DR.out.kp0 K5.out), hid (by rw [e1.out]; exact SR.out.kp0 K5.out), hid (KR.out.trans K5.out)⟩
            case measure => simp [intOf]; omega
          · have hyes : hcnt (look s) hh j = some (N, hb, img) := by rw [HHC.out, if_pos (of_decide_eq_true HEB.out)]
            have hst := stj_yes hyes
            rw [HR0.out] at hst
            have HST := hid hst
            have D5 := hid (DR.out.kp0 K5.out)
            have S5 := hid (SR.out.kp0 K5.out)
            have K5' := hid (KR.out.trans K5.out)
            have y5 := HY12.out _ K5.out
            have hwz := K5.out.size
            have hnq : b2 ≠ Q := fun e => (show Nq (fun i => Z i ∨ i = Q) g kb wb ib b2 from by assumption).2.2.2.2 (.inr e)
            clear hyes hst
            generalize w4.drewN n5 = w5 at D5 S5 K5' y5 YU5 hwz ⊢
            obtain ⟨iv0, hb0, _⟩ := S5.out.hd
            have d0 : w5.cell? ⟨Q, 0, none⟩ = some (.pointer (some ⟨g, 0, none⟩)) := hb0.cell 0
            have d1 : w5.cell? ⟨Q, 1, none⟩ = some (.int .i64 (a0 : Int)) := hb0.cell 1
            have d2 : w5.cell? ⟨Q, 2, none⟩ = some (.bool q0) := hb0.cell 2
            have z1 := hb0.frozen 1
            have z2 := hb0.frozen 2
            by_cases hlt : a0 < N
            · have g5 : (a0 : Int) < (N : Int) := by omega
              have e1 := hid (show stj (look s) hh (j + 1) = (N, hb, img) by rw [HST.out]; exact if_pos hlt)
              have y6 : (w5.setCell ⟨Q, 1, none⟩ (.int .i64 (N : Int))).cell? ⟨b2, o2 + 12, none⟩ = some (.int .u8 x) := ((Kp.set1 Q 1 w5 (.int .i64 (N : Int))).cell (p := ⟨b2, o2 + 12, none⟩) (World.block_lt_of_cell? _ _ y5) fun e => hnq e).trans y5
              have B8 := hid ((hb0.put 1 (.int .i64 (N : Int))).put 2 (.bool hb))
              have L8 := hid (((Kp.refl (Only Q) w5).setCell (p := ⟨Q, 1, none⟩) (.inl rfl) (.int .i64 (N : Int))).setCell (p := ⟨Q, 2, none⟩) (.inl rfl) (.bool hb))
              clear hb0
              go_upto_region 18 with fail
              generalize (w5.setCell ⟨Q, 1, none⟩ (.int .i64 (N : Int))).setCell ⟨Q, 2, none⟩ (.bool hb) = w8 at B8 L8 ⊢
              clear d0 d1 d2 z1 z2 y5 y6 y12
              obtain ⟨nI, hnI⟩ : ∃ nI, img.length = nI := ⟨_, rfl⟩
              have HNI := hid hnI
              rw [hnI] at YU5 hil ⊢
              clear hnI
              have hql := SR.out.hd.choose_spec.1.lt
              have hQw := hQ
              have HQQ := hid hQ
              clear hQ hQw
              go_wp2_with (first
                | (at_builtin
                   refine wp_app isU8 rfl (.tmp 112) (.tmp 113) rfl (base := w8.heap.size) (xs := []) (ys := img) (by exact Own.mt _ _) (by exact (YU5.out.kp L8.out fun i hi e => by have : i = Q := e; omega).kp0 ((Kp.refl _ _).alloc _)) (by rw [HNI.out]; simp; omega) (by simp) ?_
                   intro v9 w9 o9 k9
                   rw [List.nil_append] at o9
                   have L9 := hid (((Kp.refl No w8).alloc (.cells #[] 5)).step k9 fun j hj h => absurd hj (Nat.not_lt.2 h))
                   have B9 := hid (B8.out.kp L9.out fun h => h)
                   obtain ⟨A9, c9, rfl⟩ := o9.formN HNI.out
                   have O9 := hid o9
                   have c3 : w9.cell? ⟨Q, 3, none⟩ = some iv0 := B9.out.cell 3
                   have z3 := B9.out.frozen 3
                   clear o9 k9))
              have kA := Kp.set1 Q 3 w9 (.slice A9 nI c9)
              have LA := hid ((L8.out.trans L9.out.all).trans (kA.mono fun _ _ h => h))
              have BA := hid (B9.out.put 3 (.slice A9 nI c9))
              have hs8 := L8.out.size
              have OA := hid (O9.out.kp kA fun i hi e => by have : i = Q := e; omega)
              have DA := hid (D5.out.kpz LA.out fun i hi => .inr hi)
              have KA := hid (show Kp No w (w9.setCell ⟨Q, 3, none⟩ (.slice A9 nI c9)) from K5'.out.step LA.out fun i hi e => by have : i = Q := e; have := HQQ.out; omega)
              have SA := hid (show Rst (fun i => Z i ∨ i = Q) (w9.setCell ⟨Q, 3, none⟩ (.slice A9 nI c9)) Q g kb wb ib n N hb img from
                ⟨⟨_, BA.out, Byt.mono (OA.out.byt (P := fun i => w8.heap.size ≤ i) fun i hi => hi) fun i _ hi => by
                  have hq := HQQ.out
                  have hks := K5'.out.size
                  have hg := HBL.out g (.inl rfl)
                  have hkb := HBL.out kb (.inr (.inl rfl))
                  have hwb := HBL.out wb (.inr (.inr (.inl rfl)))
                  have hib := HBL.out ib (.inr (.inr (.inr rfl)))
                  exact ⟨by omega, by omega, by omega, by omega, fun e => e.elim (HZ.out i (by omega)) fun e => by omega⟩⟩, hN40, by rw [HNI.out, HHH.out]; omega, HNB.out, S5.out.qn, S5.out.qz⟩)
              clear kA
              go_roundw
              case rel => exact ⟨j + 1, by omega, by go_num, DA, hid (by rw [e1.out]; exact SA.out), KA⟩
              case measure => simp [intOf]; omega
            · have g5 : ¬ (a0 : Int) < (N : Int) := by omega
              have e1 := hid (show stj (look s) hh (j + 1) = (a0, q0, i0) by rw [HST.out]; exact if_neg hlt)
              clear hb0
              go_wp2
              go_roundw
              case rel => exact ⟨j + 1, by omega, by go_num, D5, hid (by rw [e1.out]; exact S5.out), K5'⟩
              case measure => simp [intOf]; omega
    · have hj3 : j = 2 := by omega
      subst hj3
      go_wp2
      go_ret2
      have hs := SR.out
      rw [stj_two] at hs
      exact ⟨Q, rfl, by omega, DR.out, hs, KR.out⟩
end
end Go.Proofs.YtgfkbkonelphaaaGreatDoor

/-
  Contract of the program's Open of a disk that is off.
-/
namespace Go.Proofs.YtgfkbkonelphaaaGreatDoor
open Go.RowKit

section
variable {w : World} {q g b m h a : Nat} {s : Ds} {has : Bool} {img : List Int}
theorem sread_off (h0 : Dk w g b m s) (hs : Str w q g b m h a has img) (ho : off s = true) {k : Nat} (hk : k < s.k.length) :
    Calls Tryz.prog 29 #[.pointer (some ⟨q, 0, none⟩), .int .i64 (k : Int)] w fun e w' => e = .returned (.tuple #[.agg #[.int .i64 0, .bool false, .slice none 0 0], .int .i64 19]) ∧ Kp No w w' := by
  have hh : Go.Proofs.YtgfkbkonelphaaaGreatDoor.has s (k : Int) = true := by unfold Go.Proofs.YtgfkbkonelphaaaGreatDoor.has; simp [hk]
  have e19 : ((19 : Int) != 0) = true := rfl
  obtain ⟨w0, hw0⟩ : ∃ w0, w.alloc (.cells #[.int .i64 0, .bool false, .slice none 0 0] 64) = w0 := ⟨_, rfl⟩
  have K0 := hid ((Kp.refl No w).alloc (.cells #[.int .i64 0, .bool false, .slice none 0 0] 64))
  have R0 := hid (Blk.new w 64 #[.int .i64 0, .bool false, .slice none 0 0])
  rw [hw0] at K0 R0
  obtain ⟨_, _, _, _, _, c3, _, _⟩ := (hs.kp0 K0.out).cells
  have HD := hid h0
  have HH := hid hh
  clear h0 hs hh
  go_enter Tryz.func29, Tryz.ntmps29
  go_wp2_with (first
    | (go_at_call 47
       refine (read_off (HD.out.kp0 K0.out) HH.out ho).mono ?_
       rintro e w1 ⟨rfl, rfl⟩
       have r0 := R0.out.cell 0
       have r1 := R0.out.cell 1
       have r2 := R0.out.cell 2
       have s0 := R0.out.frozen 0
       have s1 := R0.out.frozen 1
       have s2 := R0.out.frozen 2))
  have BZ := ((R0.out.put 0 (.int .i64 0)).put 1 (.bool false)).put 2 (.slice none 0 0)
  have KZ := ((K0.out.setCell (p := ⟨w.heap.size, 0, none⟩) (.inr (Nat.le_refl _)) (.int .i64 0)).setCell (p := ⟨w.heap.size, 1, none⟩) (.inr (Nat.le_refl _)) (.bool false)).setCell (p := ⟨w.heap.size, 2, none⟩) (.inr (Nat.le_refl _)) (.slice none 0 0)
  generalize ((w1.setCell ⟨w.heap.size, 0, none⟩ (.int .i64 0)).setCell ⟨w.heap.size, 1, none⟩ (.bool false)).setCell ⟨w.heap.size, 2, none⟩ (.slice none 0 0) = wf at BZ KZ ⊢
  have e0 : wf.cell? ⟨w.heap.size, 0, none⟩ = some (.int .i64 0) := BZ.cell 0
  have e1 : wf.cell? ⟨w.heap.size, 1, none⟩ = some (.bool false) := BZ.cell 1
  have e2 : wf.cell? ⟨w.heap.size, 2, none⟩ = some (.slice none 0 0) := BZ.cell 2
  refine bodyPost_ret (v := .tuple #[.agg #[.int .i64 0, .bool false, .slice none 0 0], .int .i64 19]) ?_ rfl ⟨rfl, KZ⟩
  clear BZ KZ
  simp [results, Tryz.results29, go_sem, e0, e1, e2]
theorem open_off (h0 : Dk w g b m s) (ho : off s = true) (hn : 4 ≤ s.k.length) : Calls Tryz.prog 8 #[.pointer (some ⟨g, 0, none⟩)] w fun e w' => e = .returned (.tuple #[.pointer none, .int .i64 19]) ∧ Kp No w w' := by
  have HD := hid h0
  have hlen := h0.ok.len
  have e19 : ((19 : Int) != 0) = true := rfl
  obtain ⟨n, hn'⟩ : ∃ n, s.k.length = n := ⟨_, rfl⟩
  have HNn := hid hn'
  obtain ⟨h, hh⟩ : ∃ h, (n - 2) / 2 = h := ⟨_, rfl⟩
  rw [hn'] at hn hlen
  have hw1 := wrapI (x := (n : Int) - 2) (by unfold I64; omega)
  have hw2 := wrapI (x := (h : Int)) (by unfold I64; omega)
  have hq : ((n : Int) - 2).tdiv 2 = (h : Int) := by rw [Int.tdiv_eq_ediv_of_nonneg (by omega)]; omega
  have hh255 : h ≤ 255 := by omega
  have hg4 : ¬ (n : Int) < 4 := by omega
  have hg := h0.lts
  have S0 := hid (show Str (w.alloc (.cells #[.int .i64 0, .bool false, .slice none 0 0, .pointer (some ⟨g, 0, none⟩), .int .i64 (h : Int)] 66)) w.heap.size g b m h 0 false [] from
    ⟨⟨.slice none 0 0, Blk.new w 66 _, Byu.nil _ _⟩, by simp, by simp, fun _ => rfl, hh255, by omega, by omega, by omega⟩)
  have K0 := hid ((Kp.refl No w).alloc (.cells #[.int .i64 0, .bool false, .slice none 0 0, .pointer (some ⟨g, 0, none⟩), .int .i64 (h : Int)] 66))
  clear hn' hh h0
  go_enter Tryz.func8, Tryz.ntmps8
  go_wp2_with (first
    | (go_at_call 28
       refine (len_any HD.out).mono ?_
       rintro e w ⟨rfl, rfl⟩
       rw [HNn.out]))
  generalize hQ : w.heap.size = Q at S0 ⊢
  generalize w.alloc (.cells #[.int .i64 0, .bool false, .slice none 0 0, .pointer (some ⟨g, 0, none⟩), .int .i64 (h : Int)] 66) = w0 at S0 K0 ⊢
  go_loopw [18] (fun i wr => i = .int .i64 0 ∧ wr = w0) (fun _ _ => 1)
  case atStart => exact ⟨rfl, rfl⟩
  case round =>
    obtain ⟨rfl, rfl⟩ := hrel
    go_wp2_with (first
      | (go_at_call 29
         refine (sread_off (k := 0) (HD.out.kp0 K0.out) S0.out ho (by rw [HNn.out]; omega)).mono ?_
         rintro e w2 ⟨rfl, k2⟩
         have K2 := hid (K0.out.trans k2)
         clear k2))
    go_ret2
    exact ⟨rfl, K2.out.alloc _⟩
end
end Go.Proofs.YtgfkbkonelphaaaGreatDoor

/-
  The document's Same: the program's kept sectors against the document's.
-/
namespace Go.Proofs.YtgfkbkonelphaaaGreatDoor
open Go.RowKit

set_option maxRecDepth 100000 in
theorem sameR_any {S Z : Nat → Prop} {v : Value} {w : World} {g kb wb ib n ck : Nat} {s : Ds} (h : Kr w S v s.k) (h' : Rdk Z w g kb wb ib n s) :
    Calls Tryz.prog 23 #[v, .slice (some ⟨kb, 0, none⟩) n ck] w fun e w' => e = .returned (.bool true) ∧ ∃ m, w' = w.drewN m := by
  obtain ⟨A, c, rfl⟩ := h.form
  have HR := hid h
  have hlen := h'.len
  have hmx := h'.ok.len
  have HS := hid (show ∀ j, j < n → Sec (s.k.getD j []) from fun j hj => h'.ok.sec _ (by simp [List.getD, hlen, hj]))
  have HK := hid h'.kc
  have HL := hid hlen
  rw [hlen] at hmx HR ⊢
  clear h h' hlen
  go_enter Tryz.func23, Tryz.ntmps23
  go_wp2
  go_loopw [5] (fun i w' => ∃ k m : Nat, k ≤ n ∧ i = .int .i64 (k : Int) ∧ w' = w.drewN m) (fun i _ => n - (intOf i).toNat)
  case atStart => exact ⟨0, 0, Nat.zero_le _, rfl, rfl⟩
  case round =>
    obtain ⟨k, m, hk, rfl, rfl⟩ := hrel
    by_cases hlt : k < n
    · obtain ⟨b, o, q, rfl, hc1, _, _, _, B1⟩ := HR.out.get (j := k) (by rw [HL.out]; exact hlt)
      obtain ⟨cs, hb, hcs⟩ := HK.out
      obtain ⟨v2, hv2, y2⟩ := hcs k hlt
      have hc2 : w.cell? ⟨kb, k, none⟩ = some v2 := by rw [hb.cell]; exact hv2
      have sx := HS.out k hlt
      obtain ⟨x, hx⟩ : ∃ x, s.k.getD k [] = x := ⟨_, rfl⟩
      rw [hx] at B1 y2 sx
      obtain ⟨A2, c2, rfl, hcc2, hmm2, _, hr2⟩ := y2
      obtain ⟨b2, o2, rfl, _, _, hcell2⟩ := hr2 (by rw [sx.len]; omega)
      rw [sx.len] at hcc2 hcell2 hc2
      have hcv1 : ∀ m, (convert 36 9 (.slice (some ⟨q, 0, none⟩) 64 64)).run Tryz.prog (w.drewN m) = .ok (.string (strOfNums x)) (w.drewN m) := fun m => run_convert_bytes_arg (P := Tryz.prog) (w.drewN m) 36 5 (by kernel_rfl) (by kernel_rfl) q 0 64 64 x sx.len (fun i hi => by
          rw [Nat.zero_add]
          have := (B1.kp0 ((Kp.refl No w).drewN m)).cell i
          rw [this, List.getElem?_toArray, sc_at (by rw [sx.len]; exact hi)]) 9 (by kernel_rfl)
      have hcv2 : ∀ m, (convert 36 9 (.slice (some ⟨b2, o2, none⟩) 64 c2)).run Tryz.prog (w.drewN m) = .ok (.string (strOfNums x)) (w.drewN m) := fun m => run_convert_bytes_arg (P := Tryz.prog) (w.drewN m) 36 5 (by kernel_rfl) (by kernel_rfl) b2 o2 64 c2 x sx.len (fun i hi => by
          have h1 := hcell2 i hi
          have h2 := ((Kp.refl No w).drewN m).cell (p := ⟨b2, o2 + i, none⟩) (World.block_lt_of_cell? _ _ h1) fun h => h
          exact h2.trans h1) 9 (by kernel_rfl)
      have hki : (k : Int) < (n : Int) := by omega
      obtain ⟨X, hX⟩ : ∃ X, strOfNums x = X := ⟨_, rfl⟩
      rw [hX] at hcv1 hcv2
      have hb1 : (X.toList == X.toList) = true := by simp
      clear HR HK HS hb hcs hv2 B1 sx hx hX hr2 hcell2
      go_wp2
      go_quiet (fail)
      go_wp2
      go_roundw
      case rel => exact ⟨k + 1, _, by omega, by go_num, rfl⟩
      case measure => simp [intOf]; omega
    · go_wp2
      go_ret
      exact ⟨rfl, _, rfl⟩
end Go.Proofs.YtgfkbkonelphaaaGreatDoor

/-
  Both stores side by side, each over its disk, of one plain meaning; what a step leaves; Rot of any numbers.
-/
namespace Go.Proofs.YtgfkbkonelphaaaGreatDoor
open Go.RowKit

/-- A bit of any sector turned over, where there is one. -/
def rotU (n : Nat) (s : Ds) (i t : Int) : Ds := if 0 ≤ i ∧ i < (n : Int) ∧ 0 ≤ t ∧ t < 512 then rotted s i.toNat t.toNat else s
section
variable {w w' : World} {Z S : Nat → Prop} {g b m kb wb ib n : Nat} {s : Ds}
theorem rotU_any (h : Dk w g b m s) (hn : s.k.length = n) (i t : Int) : Calls Tryz.prog 18 #[.pointer (some ⟨g, 0, none⟩), .int .i64 i, .int .i64 t] w fun e w' => (∃ v, e = .returned v) ∧ Kp (Only b) w w' ∧ Dk w' g b m (rotU n s i t) := by
  unfold rotU
  by_cases hv : 0 ≤ i ∧ i < (n : Int) ∧ 0 ≤ t ∧ t < 512
  · rw [if_pos hv]
    obtain ⟨i', rfl⟩ : ∃ i' : Nat, i = (i' : Int) := ⟨i.toNat, by omega⟩
    obtain ⟨t', rfl⟩ : ∃ t' : Nat, t = (t' : Int) := ⟨t.toNat, by omega⟩
    rw [Int.toNat_natCast, Int.toNat_natCast]
    exact rot_is h (by omega) (by omega)
  · rw [if_neg hv]
    refine (rot_no h (i := i) (t := t) ?_).mono fun e w' ⟨hv, e⟩ => by subst e; exact ⟨hv, Kp.refl _ _, h⟩
    by_cases hi : 0 ≤ i ∧ i < (n : Int)
    · exact .inr (by omega)
    · refine .inl ?_
      unfold has
      rw [hn]
      simp
      omega
theorem rrotU_any (h : Rdk Z w g kb wb ib n s) (hz : ∀ j, w.heap.size ≤ j → ¬ Z j) (i t : Int) : Calls Tryz.prog 19 #[.pointer (some ⟨g, 0, none⟩), .int .i64 i, .int .i64 t] w fun e w' => (∃ v, e = .returned v) ∧ Kp (RB g kb wb ib) w w' ∧ Rdk Z w' g kb wb ib n (rotU n s i t) := by
  unfold rotU
  by_cases hv : 0 ≤ i ∧ i < (n : Int) ∧ 0 ≤ t ∧ t < 512
  · rw [if_pos hv]
    obtain ⟨i', rfl⟩ : ∃ i' : Nat, i = (i' : Int) := ⟨i.toNat, by omega⟩
    obtain ⟨t', rfl⟩ : ∃ t' : Nat, t = (t' : Int) := ⟨t.toNat, by omega⟩
    rw [Int.toNat_natCast, Int.toNat_natCast]
    exact rrot_is h (by omega) (by omega) hz
  · rw [if_neg hv]
    exact (rrot_no h (i := i) (t := t) (by omega)).mono fun e w' ⟨hv, k⟩ => ⟨hv, k.all, h.kp0 k⟩
end

/-- Both stores: the program's at q over its disk (g, b, m), the document's at q2 over its own (g2, kb, wb, ib). -/
structure PJ (Z : Nat → Prop) (base : Nat) (W : World) (q g b m h q2 g2 kb wb ib n : Nat) (s1 : Ds) (r1 : Nat × Bool × List Int) (s2 : Ds) (r2 : Nat × Bool × List Int) : Prop where
  dk : Dk W g b m s1
  st : Sto W q g b m h r1
  rd : Rdk Z W g2 kb wb ib n s2
  rs : Rst Z W q2 g2 kb wb ib n r2.1 r2.2.1 r2.2.2
  z1 : ∀ i, SB q g b m i → Z i
  z2 : ∀ j, W.heap.size ≤ j → ¬ Z j
  n4 : 4 ≤ n
  hn : (n - 2) / 2 = h
  q2n : ¬ SB q g b m q2
  lo1 : ∀ i, SB q g b m i → base ≤ i
  lo2 : ∀ i, RB g2 kb wb ib i ∨ i = q2 → base ≤ i
section
variable {w w' W W' : World} {P S Z : Nat → Prop} {base q g b m h q2 g2 kb wb ib n : Nat} {s s1 s2 s1' s2' : Ds} {r r1 r2 r1' r2' : Nat × Bool × List Int}
theorem PJ.two (p : PJ Z base W q g b m h q2 g2 kb wb ib n s r s r) : 2 + 2 * h ≤ s.k.length := by have := p.rd.len; have := p.hn; have := p.n4; omega
theorem PJ.lt1 (p : PJ Z base W q g b m h q2 g2 kb wb ib n s1 r1 s2 r2) : ∀ i, SB q g b m i → i < W.heap.size := fun i hi => by
  have hl := p.dk.lts
  have hs := (show Str W q g b m h r1.1 r1.2.1 r1.2.2 from p.st).lt
  rcases hi with rfl | rfl | rfl | rfl <;> omega
theorem PJ.lt2 (p : PJ Z base W q g b m h q2 g2 kb wb ib n s1 r1 s2 r2) : ∀ i, RB g2 kb wb ib i ∨ i = q2 → i < W.heap.size := fun i hi => by
  obtain ⟨_, _, _, _, _, _, _, _, _, l1⟩ := p.rd.hd
  obtain ⟨_, l2, _⟩ := p.rd.kc
  obtain ⟨_, l3, _⟩ := p.rd.wc
  obtain ⟨_, l4, _⟩ := p.rd.ic
  obtain ⟨_, l5, _⟩ := p.rs.hd
  rcases hi with (rfl | rfl | rfl | rfl) | rfl
  · exact l1.lt
  · exact l2.lt
  · exact l3.lt
  · exact l4.lt
  · exact l5.lt
theorem PJ.apart (p : PJ Z base W q g b m h q2 g2 kb wb ib n s1 r1 s2 r2) : ∀ i, SB q g b m i → ¬ (RB g2 kb wb ib i ∨ i = q2) := fun i hi e => by
  rcases e with e | rfl
  · exact p.rd.zs i e (p.z1 i hi)
  · exact p.q2n hi
theorem PJ.kp0 (p : PJ Z base W q g b m h q2 g2 kb wb ib n s1 r1 s2 r2) (k : Kp No W W') : PJ Z base W' q g b m h q2 g2 kb wb ib n s1 r1 s2 r2 :=
  ⟨p.dk.kp0 k, Sto.kp0 p.st k, p.rd.kp0 k, p.rs.kp0 k, p.z1, fun j hj => p.z2 j (Nat.le_trans k.size hj), p.n4, p.hn, p.q2n, p.lo1, p.lo2⟩
/-- The program's side goes a step. -/
theorem PJ.prog (p : PJ Z base W q g b m h q2 g2 kb wb ib n s1 r1 s2 r2) (k : Kp (SB q g b m) W W') (d : Dk W' g b m s1') (t : Sto W' q g b m h r1') : PJ Z base W' q g b m h q2 g2 kb wb ib n s1' r1' s2 r2 :=
  ⟨d, t, p.rd.kp k (fun i hi e => p.rd.zs i hi (p.z1 i e)) fun i hi e => hi.2.2.2.2 (p.z1 i e), p.rs.kp k p.q2n fun i hi e => hi.2.2.2.2 (p.z1 i e), p.z1, fun j hj => p.z2 j (Nat.le_trans k.size hj), p.n4, p.hn, p.q2n, p.lo1, p.lo2⟩
/-- What the document's side touches are no bytes. -/
theorem PJ.tu (p : PJ Z base W q g b m h q2 g2 kb wb ib n s1 r1 s2 r2) {i : Nat} (ht : Tu W i) : ¬ (RB g2 kb wb ib i ∨ i = q2) := fun hi => by
  obtain ⟨_, _, _, _, _, _, _, _, _, l1⟩ := p.rd.hd
  obtain ⟨_, l2, _⟩ := p.rd.kc
  obtain ⟨_, l3, _⟩ := p.rd.wc
  obtain ⟨_, l4, _⟩ := p.rd.ic
  obtain ⟨_, l5, _⟩ := p.rs.hd
  rcases hi with (rfl | rfl | rfl | rfl) | rfl
  · exact absurd ((show Te W _ _ from ht).uniq l1.te) (by decide)
  · exact absurd ((show Te W _ _ from ht).uniq l2.te) (by decide)
  · exact absurd ((show Te W _ _ from ht).uniq l3.te) (by decide)
  · exact absurd ((show Te W _ _ from ht).uniq l4.te) (by decide)
  · exact absurd ((show Te W _ _ from ht).uniq l5.te) (by decide)
/-- The document's side goes a step. -/
theorem PJ.doc (p : PJ Z base W q g b m h q2 g2 kb wb ib n s1 r1 s2 r2) (k : Kp (fun i => RB g2 kb wb ib i ∨ i = q2) W W') (d : Rdk Z W' g2 kb wb ib n s2') (t : Rst Z W' q2 g2 kb wb ib n r2'.1 r2'.2.1 r2'.2.2) : PJ Z base W' q g b m h q2 g2 kb wb ib n s1 r1 s2' r2' :=
  ⟨p.dk.kp k (p.apart g (.inr (.inl rfl))) (p.apart b (.inr (.inr (.inl rfl)))) (p.apart m (.inr (.inr (.inr rfl)))), Str.kpt p.st k (p.apart q (.inl rfl)) fun _ _ ht => p.tu ht, d, t, p.z1, fun j hj => p.z2 j (Nat.le_trans k.size hj), p.n4, p.hn, p.q2n, p.lo1, p.lo2⟩
theorem Rst.more {a : Nat} {hb : Bool} {img : List Int} {q' : Nat} (h : Rst Z w q2 g2 kb wb ib n a hb img) (k : Kp No w w') (hq : w.heap.size ≤ q') : Rst (fun i => Z i ∨ i = q') w' q2 g2 kb wb ib n a hb img := by
  obtain ⟨iv, hb, hy⟩ := h.hd
  exact ⟨⟨iv, hb.kp k fun h => h, (hy.mono fun i hl hi => ⟨hi.1, hi.2.1, hi.2.2.1, hi.2.2.2.1, fun e => e.elim hi.2.2.2.2 fun e => by omega⟩).kp0 k⟩, h.age, h.len, h.no, h.qn, .inl h.qz⟩
/-- The program's disk is opened anew. -/
theorem PJ.reo1 (p : PJ Z base W q g b m h q2 g2 kb wb ib n s1 r1 s2 r2) (hb : base ≤ W.heap.size) {q' : Nat} (hq : W.heap.size ≤ q') (k : Kp No W W') (t : Sto W' q' g b m h r1') : PJ (fun i => Z i ∨ i = q') base W' q' g b m h q2 g2 kb wb ib n s1 r1' s2 r2 := by
  have hl := (show Str W' q' g b m h r1'.1 r1'.2.1 r1'.2.2 from t).lt
  refine ⟨p.dk.kp0 k, t, p.rd.more k hq, p.rs.more k hq, fun i hi => ?_, fun j hj e => ?_, p.n4, p.hn, fun e => ?_, fun i hi => ?_, p.lo2⟩
  · rcases hi with rfl | hi
    · exact .inr rfl
    · exact .inl (p.z1 i (.inr hi))
  · rcases e with e | rfl
    · exact p.z2 j (Nat.le_trans k.size hj) e
    · omega
  · rcases e with e | e
    · have := p.lt2 q2 (.inr rfl)
      omega
    · exact p.q2n (.inr e)
  · rcases hi with rfl | hi
    · omega
    · exact p.lo1 i (.inr hi)
/-- The document's disk is opened anew. -/
theorem PJ.reo2 (p : PJ Z base W q g b m h q2 g2 kb wb ib n s1 r1 s2 r2) (hb : base ≤ W.heap.size) {q' : Nat} (hq : W.heap.size ≤ q') (k : Kp No W W') (d : Rdk (fun i => Z i ∨ i = q') W' g2 kb wb ib n s2) (t : Rst (fun i => Z i ∨ i = q') W' q' g2 kb wb ib n r2'.1 r2'.2.1 r2'.2.2) : PJ (fun i => Z i ∨ i = q') base W' q g b m h q' g2 kb wb ib n s1 r1 s2 r2' := by
  obtain ⟨_, l5, _⟩ := t.hd
  have hl := l5.lt
  refine ⟨p.dk.kp0 k, Sto.kp0 p.st k, d, t, fun i hi => .inl (p.z1 i hi), fun j hj e => ?_, p.n4, p.hn, fun e => ?_, p.lo1, fun i hi => ?_⟩
  · rcases e with e | rfl
    · exact p.z2 j (Nat.le_trans k.size hj) e
    · omega
  · have := p.lt1 q' e
    omega
  · rcases hi with hi | rfl
    · exact p.lo2 i (.inl hi)
    · omega
/-- Cells that the end of a round asks for. -/
theorem PJ.all (p : PJ Z base W q g b m h q2 g2 kb wb ib n s r s r) {ck : Nat} {iv : Value} (c : W.cell? ⟨q2, 3, none⟩ = some iv) (y : Byt W (Nq Z g2 kb wb ib) iv r.2.2) (c0 : W.cell? ⟨g2, 0, none⟩ = some (.slice (some ⟨kb, 0, none⟩) n ck)) :
    W.cell? ⟨q2, 1, none⟩ = some (.int .i64 (r.1 : Int)) ∧ W.cell? ⟨q2, 2, none⟩ = some (.bool r.2.1) ∧ W.cell? ⟨q2, 3, none⟩ = some iv ∧ W.cell? ⟨g2, 0, none⟩ = some (.slice (some ⟨kb, 0, none⟩) n ck) ∧ Byt W (Nq Z g2 kb wb ib) iv r.2.2 ∧ PJ Z base W q g b m h q2 g2 kb wb ib n s r s r := by
  obtain ⟨_, hb, _⟩ := p.rs.hd
  exact ⟨hb.cell 1, hb.cell 2, c, c0, y, p⟩
theorem PJ.stepc {ck : Nat} {iv : Value} (k : Kp No W W') (x : W.cell? ⟨q2, 1, none⟩ = some (.int .i64 (r.1 : Int)) ∧ W.cell? ⟨q2, 2, none⟩ = some (.bool r.2.1) ∧ W.cell? ⟨q2, 3, none⟩ = some iv ∧ W.cell? ⟨g2, 0, none⟩ = some (.slice (some ⟨kb, 0, none⟩) n ck) ∧ Byt W (Nq Z g2 kb wb ib) iv r.2.2 ∧ PJ Z base W q g b m h q2 g2 kb wb ib n s r s r) :
    W'.cell? ⟨q2, 1, none⟩ = some (.int .i64 (r.1 : Int)) ∧ W'.cell? ⟨q2, 2, none⟩ = some (.bool r.2.1) ∧ W'.cell? ⟨q2, 3, none⟩ = some iv ∧ W'.cell? ⟨g2, 0, none⟩ = some (.slice (some ⟨kb, 0, none⟩) n ck) ∧ Byt W' (Nq Z g2 kb wb ib) iv r.2.2 ∧ PJ Z base W' q g b m h q2 g2 kb wb ib n s r s r := by
  obtain ⟨_, _, x3, x4, x5, p⟩ := x
  exact (p.kp0 k).all ((k.cell (p := ⟨q2, 3, none⟩) (p.lt2 q2 (.inr rfl)) fun h => h).trans x3) (x5.kp0 k) ((k.cell (p := ⟨g2, 0, none⟩) (p.lt2 g2 (.inl (.inl rfl))) fun h => h).trans x4)
theorem PJ.stepd {ra : Nat} {rh : Bool} {ri : List Int} {ck : Nat} {iv : Value} (k : Kp No W W') (x : W.cell? ⟨q2, 1, none⟩ = some (.int .i64 (ra : Int)) ∧ W.cell? ⟨q2, 2, none⟩ = some (.bool rh) ∧ W.cell? ⟨q2, 3, none⟩ = some iv ∧ W.cell? ⟨g2, 0, none⟩ = some (.slice (some ⟨kb, 0, none⟩) n ck) ∧ Byt W (Nq Z g2 kb wb ib) iv ri ∧ PJ Z base W q g b m h q2 g2 kb wb ib n s (ra, rh, ri) s (ra, rh, ri)) :
    W'.cell? ⟨q2, 1, none⟩ = some (.int .i64 (ra : Int)) ∧ W'.cell? ⟨q2, 2, none⟩ = some (.bool rh) ∧ W'.cell? ⟨q2, 3, none⟩ = some iv ∧ W'.cell? ⟨g2, 0, none⟩ = some (.slice (some ⟨kb, 0, none⟩) n ck) ∧ Byt W' (Nq Z g2 kb wb ib) iv ri ∧ PJ Z base W' q g b m h q2 g2 kb wb ib n s (ra, rh, ri) s (ra, rh, ri) := PJ.stepc (r := (ra, rh, ri)) k x
/-- A round behind which both are one again. -/
def PI (base : Nat) (W : World) (v x : Value) (g b m h g2 kb wb ib n : Nat) : Prop := ∃ Z q q2 s r, v = .pointer (some ⟨q, 0, none⟩) ∧ x = .pointer (some ⟨q2, 0, none⟩) ∧ PJ Z base W q g b m h q2 g2 kb wb ib n s r s r
end
end Go.Proofs.YtgfkbkonelphaaaGreatDoor
