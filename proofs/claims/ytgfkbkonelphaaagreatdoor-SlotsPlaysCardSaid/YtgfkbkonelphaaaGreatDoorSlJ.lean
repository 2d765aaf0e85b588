/-
  Contract of the program's Open.
-/
import Derived.Test.YtgfkbkonelphaaaGreatDoorSlI
namespace Go.Proofs.YtgfkbkonelphaaaGreatDoor
open Go.RowKit

section
variable {V : Nat → List Int} {h k : Nat}
theorem hcnt_no {b : Nat × Bool × List Int} (hc : hcnt V h k = some b) (hf : b.2.1 = false) (hb : Bs (V k)) : b.2.2 = [] := by
  unfold hcnt at hc
  split at hc
  · cases hc
  rename_i hn
  split at hc
  · cases hc
    simp only at hf ⊢
    have hX := getD_bs hb 12
    have h1 : (V k).getD 12 0 ≠ 1 := by simpa using hf
    have h2 : ¬ 1 < (V k).getD 12 0 := fun h => hn (.inr (.inr (.inr (.inr (.inl h)))))
    have h3 : ¬ ((V k).getD 12 0 = 0 ∧ 0 < fMany (V k)) := fun h => hn (.inr (.inr (.inr (.inr (.inr h)))))
    have : fMany (V k) ≤ 0 := by
      rcases Int.lt_or_le 0 (fMany (V k)) with h | h
      · exact absurd ⟨by omega, h⟩ h3
      · exact h
    rw [show (fMany (V k)).toNat = 0 by omega, List.take_zero]
  · cases hc
/-- A head that may be. -/
def Hok (h : Nat) (r : Nat × Bool × List Int) : Prop := r.1 ≤ 1099511627776 ∧ r.2.2.length ≤ 64 * h ∧ (r.2.1 = false → r.2.2 = [])
theorem rdv_ok (hb : Bs (V k)) : Hok h (rdv V h k) := by
  unfold rdv Hok
  cases hc : hcnt V h k with
  | none => exact ⟨by simp, by simp, fun _ => rfl⟩
  | some b =>
    obtain ⟨_, _, h3, _, _, h6, h7⟩ := hcnt_inv hc
    refine ⟨h3, ?_, fun hf => hcnt_no hc hf hb⟩
    show b.2.2.length ≤ _
    rw [h6, List.length_take]
    omega
theorem newer_rdv (a : Nat × Bool × List Int) : newer a (hcnt V h k) = if a.1 < (rdv V h k).1 then rdv V h k else a := by
  unfold rdv
  cases hc : hcnt V h k with
  | none => rw [if_neg (by simp)]; rfl
  | some b => rfl
/-- What is known when so many heads were read. -/
def stj (V : Nat → List Int) (h : Nat) : Nat → Nat × Bool × List Int
  | 0 => (0, false, [])
  | n + 1 => if (stj V h n).1 < (rdv V h n).1 then rdv V h n else stj V h n
theorem stj_two : stj V h 2 = opn V h := by
  unfold opn
  rw [newer_rdv, newer_rdv]
  rfl
end
section
variable {w w' : World} {P S : Nat → Prop} {q g b m h a : Nat} {s : Ds} {has : Bool} {img xs : List Int} {v : Value}
/-- A store of what is found. -/
def Sto (w : World) (q g b m h : Nat) (r : Nat × Bool × List Int) : Prop := Str w q g b m h r.1 r.2.1 r.2.2
theorem open_no (h0 : Dk w g b m s) (hn : s.k.length < 4) : Calls Tryz.prog 8 #[.pointer (some ⟨g, 0, none⟩)] w fun e w' => e = .returned (.tuple #[.pointer none, .int .i64 1]) ∧ w' = w := by
  have g4 : (s.k.length : Int) < 4 := by omega
  go_enter Tryz.func8, Tryz.ntmps8
  go_wp2_with (first
    | (go_at_call 28
       refine (len_any h0).mono ?_
       rintro e w1 ⟨rfl, rfl⟩))
  go_ret2
  exact ⟨rfl, rfl⟩
def OpPost (s : Ds) (g b m : Nat) (w : World) (e : Ending) (w' : World) : Prop := ∃ q, e = .returned (.tuple #[.pointer (some ⟨q, 0, none⟩), .int .i64 0]) ∧ w.heap.size ≤ q ∧ Sto w' q g b m ((s.k.length - 2) / 2) (opn (look s) ((s.k.length - 2) / 2)) ∧ Kp No w w'
set_option maxRecDepth 100000 in
set_option maxHeartbeats 2000000 in
theorem open_is (h0 : Dk w g b m s) (ht : Tab w) (ho : off s = false) (hn : 4 ≤ s.k.length) : Calls Tryz.prog 8 #[.pointer (some ⟨g, 0, none⟩)] w (OpPost s g b m w) := by
  have HD := hid h0
  have HT := hid ht
  have HO := hid ho
  have hlen := h0.ok.len
  have HSec := hid (show ∀ k, k < 2 → Bs (look s k) from fun k hk => (look_sec h0.ok (by omega)).rg)
  have hlt := h0.lts
  obtain ⟨n, hn'⟩ : ∃ n, s.k.length = n := ⟨_, rfl⟩
  have HNn := hid hn'
  obtain ⟨h, hh⟩ : ∃ h, (n - 2) / 2 = h := ⟨_, rfl⟩
  rw [hn'] at hn hlen
  have HH := hid hh
  have hw1 := wrapI (x := (n : Int) - 2) (by unfold I64; omega)
  have hw2 := wrapI (x := (h : Int)) (by unfold I64; omega)
  have hq : ((n : Int) - 2).tdiv 2 = (h : Int) := by rw [Int.tdiv_eq_ediv_of_nonneg (by omega)]; omega
  have hh255 : h ≤ 255 := by omega
  have h2n : 2 + 2 * h ≤ n := by omega
  unfold OpPost
  rw [hn', hh]
  clear hn' hh ho ht
  go_enter Tryz.func8, Tryz.ntmps8
  go_wp2_with (first
    | (go_at_call 28
       refine (len_any h0).mono ?_
       rintro e w1 ⟨rfl, rfl⟩
       rw [HNn.out]))
  have hg := HD.out.lts
  have S0 := hid (show Sto (w1.alloc (.cells #[.int .i64 0, .bool false, .slice none 0 0, .pointer (some ⟨g, 0, none⟩), .int .i64 (h : Int)] 66)) w1.heap.size g b m h (stj (look s) h 0) from
    ⟨⟨.slice none 0 0, Blk.new w1 66 _, Byu.nil _ _⟩, by simp [stj], by simp [stj], fun _ => rfl, hh255, by omega, by omega, by omega⟩)
  have K0 := hid ((Kp.refl No w1).alloc (.cells #[.int .i64 0, .bool false, .slice none 0 0, .pointer (some ⟨g, 0, none⟩), .int .i64 (h : Int)] 66))
  go_loopw [18] (fun i wr => ∃ j : Nat, j ≤ 2 ∧ i = .int .i64 (j : Int) ∧ Hid (Sto wr w1.heap.size g b m h (stj (look s) h j)) ∧ Hid (Kp No w1 wr)) (fun i _ => 2 - (intOf i).toNat)
  case atStart => exact ⟨0, by omega, rfl, S0, K0⟩
  case round =>
    obtain ⟨j, hj, rfl, HS, KP⟩ := hrel
    by_cases hj2 : j < 2
    · have g2 : (j : Int) < 2 := by omega
      have hw := wrapI (x := (j : Int) + 1) (by unfold I64; omega)
      go_upto_region 8 with (first
        | (go_at_call 29
           refine (read_st (HD.out.kp0 KP.out) HS.out (HT.out.kp0 KP.out) HO.out hj2 (by rw [HNn.out]; omega)).mono ?_
           rintro e w2 ⟨iv, rfl, hy, k2⟩
           have hs2 := HS.out.kp0 k2
           have hok := rdv_ok (V := look s) (h := h) (HSec.out j hj2)
           have hst := hid (show stj (look s) h (j + 1) = if (stj (look s) h j).1 < (rdv (look s) h j).1 then rdv (look s) h j else stj (look s) h j from rfl)
           generalize rdv (look s) h j = r at hy hok hst
           obtain ⟨N, xb, I⟩ := r
           obtain ⟨⟨a0, q0, i0⟩, hr0⟩ : ∃ r, stj (look s) h j = r := ⟨_, rfl⟩
           rw [hr0] at hst hs2
           obtain ⟨A, c, rfl, _⟩ := id hy
           have hqr := (show Str wr _ _ _ _ _ _ _ _ from HS.out).lt
           have HY := hid (hy.mono (Q' := Stn w1.heap.size g b m) fun i _ hi => ⟨by omega, by omega, by omega, by omega⟩)
           have HS2 := hid hs2
           have HOk := hid hok
           have KP2 := hid (KP.out.trans k2)
           clear hy hs2 hok k2 hqr
           unfold hag)
        | fail)
      have kA := (Kp.refl No w2).alloc (.cells #[.int .i64 (N : Int), .bool xb, .slice A I.length c] 64)
      have BH := hid ((Blk.new w2 64 #[.int .i64 (N : Int), .bool xb, .slice A I.length c]).kp0 (Kp.refl No _).drew)
      have hs3 := HS2.out.kp0 kA
      obtain ⟨iv1, hb1, _⟩ := hs3.hd
      have f0' := hb1.frozen 0
      have f1' := hb1.frozen 1
      have f2' := hb1.frozen 2
      have c0' := hb1.cell 0
      have c1' := hb1.cell 1
      have c2' := hb1.cell 2
      simp only [List.getElem?_toArray, List.getElem?_cons_zero, List.getElem?_cons_succ] at c0' c1' c2'
      have HB1 := hid hb1
      have HS3 := hid (hs3.kp0 (Kp.refl No _).drew)
      have HY3 := hid (HY.out.kp0 kA)
      have KP3' := hid (KP2.out.trans kA)
      have KP3 := hid ((KP2.out.trans kA).trans (Kp.refl No _).drew)
      clear kA HS2 HY KP2 hr0 hs3 hb1
      obtain ⟨w3, hw3⟩ : ∃ w3, w2.alloc (.cells #[.int .i64 (N : Int), .bool xb, .slice A I.length c] 64) = w3 := ⟨_, rfl⟩
      rw [hw3] at BH HS3 HY3 KP3 KP3' HB1 f0' f1' f2' c0' c1' c2' ⊢
      clear hw3
      have d0 : w3.drew.cell? ⟨w2.heap.size, 0, none⟩ = some (.int .i64 (N : Int)) := BH.out.cell 0
      have d1 : w3.drew.cell? ⟨w2.heap.size, 1, none⟩ = some (.bool xb) := BH.out.cell 1
      have d2 : w3.drew.cell? ⟨w2.heap.size, 2, none⟩ = some (.slice A I.length c) := BH.out.cell 2
      obtain ⟨iv0, hb0, _⟩ := HS3.out.hd
      have c0 : w3.drew.cell? ⟨w1.heap.size, 0, none⟩ = some (.int .i64 (a0 : Int)) := hb0.cell 0
      have f0 := hb0.frozen 0
      have f1 := hb0.frozen 1
      have f2 := hb0.frozen 2
      have c1 : w3.drew.cell? ⟨w1.heap.size, 1, none⟩ = some (.bool q0) := hb0.cell 1
      have c2 : w3.drew.cell? ⟨w1.heap.size, 2, none⟩ = some iv0 := hb0.cell 2
      have HB0 := hid hb0
      clear hb0
      go_upto_region 10 with fail
      refine region_still (by kernel_rfl) (by kernel_rfl) ?_
      repeat still_step
      refine wpStill_nil ?_
      by_cases hlt : a0 < N
      · have hl : (a0 : Int) < (N : Int) := by omega
        have e1 := hid (show stj (look s) h (j + 1) = (N, xb, I) by rw [hst.out]; exact if_pos hlt)
        go_wp2
        have B9 := ((HB1.out.put 0 (.int .i64 (N : Int))).put 1 (.bool xb)).put 2 (.slice A I.length c) |>.kp0 (Kp.refl No _).drew
        have K9 := ((((KP3'.out.setCell (p := ⟨w1.heap.size, 0, none⟩) (.inr (Nat.le_refl _)) (.int .i64 (N : Int))).setCell (p := ⟨w1.heap.size, 1, none⟩) (.inr (Nat.le_refl _)) (.bool xb)).setCell (p := ⟨w1.heap.size, 2, none⟩) (.inr (Nat.le_refl _)) (.slice A I.length c))).drew
        have L9 := ((((Kp.refl (Only w1.heap.size) w3).setCell (p := ⟨w1.heap.size, 0, none⟩) (.inl rfl) (.int .i64 (N : Int))).setCell (p := ⟨w1.heap.size, 1, none⟩) (.inl rfl) (.bool xb)).setCell (p := ⟨w1.heap.size, 2, none⟩) (.inl rfl) (.slice A I.length c)).drew
        have S9 := hid (show Sto _ w1.heap.size g b m h (stj (look s) h (j + 1)) by
          rw [e1.out]
          exact ⟨⟨_, B9, HY3.out.kp L9 fun i hi _ e => hi.1 e⟩, HOk.out.1, HOk.out.2.1, HOk.out.2.2, hh255, by omega, by omega, by omega⟩)
        have K9h := hid K9
        clear B9 K9 L9
        go_roundw
        case rel => exact ⟨j + 1, by omega, by go_num, S9, K9h⟩
        case measure => simp [intOf]; omega
      · have hl : ¬ (a0 : Int) < (N : Int) := by omega
        have e1 := hid (show stj (look s) h (j + 1) = (a0, q0, i0) by rw [hst.out]; exact if_neg hlt)
        have S9 := hid (show Sto _ w1.heap.size g b m h (stj (look s) h (j + 1)) by rw [e1.out]; exact HS3.out)
        go_wp2
        go_roundw
        case rel => exact ⟨j + 1, by omega, by go_num, S9, KP3⟩
        case measure => simp [intOf]; omega
    · go_wp2
      go_ret2
      have hj3 : j = 2 := by omega
      subst hj3
      have hs := HS.out
      rw [stj_two] at hs
      exact ⟨_, rfl, Nat.le_refl _, hs, KP.out⟩
end
end Go.Proofs.YtgfkbkonelphaaaGreatDoor
