/-
  Contract of the program's read: the head that counts in a sector, with its image.
-/
import Derived.Test.YtgfkbkonelphaaaGreatDoorSlH
namespace Go.Proofs.YtgfkbkonelphaaaGreatDoor
open Go.RowKit

/-- The head that counts, or the zero one. -/
def rdv (V : Nat → List Int) (h k : Nat) : Nat × Bool × List Int := (hcnt V h k).getD (0, false, [])
theorem getD_bs {xs : List Int} (h : Bs xs) (i : Nat) : 0 ≤ xs.getD i 0 ∧ xs.getD i 0 ≤ 255 := by
  rw [List.getD_eq_getElem?_getD]
  cases hi : xs[i]? with
  | none => simp
  | some y => exact h y (List.mem_of_getElem? hi)
def hsec_ (A X : Int) (V : Nat → List Int) (h k M : Nat) : List Int := hsec A.toNat (X == 1) ((slotB V h k).take M)
section
variable {w w' : World} {P S : Nat → Prop} {q g b m h a : Nat} {s : Ds} {has : Bool} {img xs : List Int} {v : Value}
def RdPost2 (V : Nat → List Int) (h k : Nat) (w : World) (e : Ending) (w' : World) : Prop := ∃ iv, e = .returned (.tuple #[hag (rdv V h k).1 (rdv V h k).2.1 iv, .int .i64 0]) ∧ Byu w' (fun i => w.heap.size ≤ i) iv (rdv V h k).2.2 ∧ Kp No w w'
theorem RdPost2.zero {V : Nat → List Int} {k : Nat} (hc : hcnt V h k = none) (kk : Kp No w w') : RdPost2 V h k w (.returned (.tuple #[.agg #[.int .i64 0, .bool false, .slice none 0 0], .int .i64 0])) w' := by
  have e : rdv V h k = (0, false, []) := by unfold rdv; rw [hc]; rfl
  unfold RdPost2
  rw [e]
  exact ⟨.slice none 0 0, rfl, Byu.nil _ _, kk⟩
theorem RdPost2.some {V : Nat → List Int} {k N : Nat} {qb : Bool} {I : List Int} {iv : Value} (hc : hcnt V h k = Option.some (N, qb, I)) (hy : Byu w' (fun i => w.heap.size ≤ i) iv I) (kk : Kp No w w') : RdPost2 V h k w (.returned (.tuple #[.agg #[.int .i64 (N : Int), .bool qb, iv], .int .i64 0])) w' := by
  have e : rdv V h k = (N, qb, I) := by unfold rdv; rw [hc]; rfl
  unfold RdPost2
  rw [e]
  exact ⟨iv, rfl, hy, kk⟩
set_option maxRecDepth 100000 in
set_option maxHeartbeats 2000000 in
theorem read_st (h0 : Dk w g b m s) (hs : Str w q g b m h a has img) (ht : Tab w) (ho : off s = false) {k : Nat} (hk : k < 2) (hn : 2 + 2 * h ≤ s.k.length) :
    Calls Tryz.prog 29 #[.pointer (some ⟨q, 0, none⟩), .int .i64 (k : Int)] w (RdPost2 (look s) h k w) := by
  have hsec := look_sec h0.ok (i := k) (by omega)
  have HSc := hid hsec
  have HD := hid h0
  have HS := hid hs
  have HT := hid ht
  have HO := hid ho
  have HN := hid hn
  have b1 := fAge_bd hsec.rg
  have b3 := fMany_bd hsec.rg
  obtain ⟨V, hV⟩ : ∃ V, look s = V := ⟨_, rfl⟩
  have HV := hid hV
  rw [hV] at hsec HSc b1 b3 ⊢
  obtain ⟨A, hA⟩ : ∃ A, fAge (V k) = A := ⟨_, rfl⟩
  obtain ⟨X, hX⟩ : ∃ X, (V k).getD 12 0 = X := ⟨_, rfl⟩
  obtain ⟨M, hM⟩ : ∃ M : Nat, fMany (V k) = (M : Int) := ⟨(fMany (V k)).toNat, by omega⟩
  obtain ⟨Aw, hAw⟩ : ∃ Aw, IntKind.i64.wrap A = Aw := ⟨_, rfl⟩
  obtain ⟨xb, hxb⟩ : ∃ xb, (X == 1) = xb := ⟨_, rfl⟩
  have HXB := hid hxb
  have HC := hid (show hcnt V h k = if A < 1 ∨ 1099511627776 < A ∨ A % 2 ≠ (k : Int) ∨ ((64 * h : Nat) : Int) < (M : Int) ∨ 1 < X ∨ (X = 0 ∧ 0 < (M : Int)) then none else if V k = hsec_ A X V h k M then some (A.toNat, X == 1, (slotB V h k).take M) else none by
    unfold hcnt hsec_
    rw [hA, hX, hM, Int.toNat_natCast])
  have HA := hid hA
  have HX := hid hX
  have HM := hid hM
  have HAw := hid hAw
  rw [hA] at b1
  rw [hM] at b3
  have HAwr := hid <| show Aw = if A < 9223372036854775808 then A else A - 18446744073709551616 by
    rw [← hAw, IntKind.wrap_i64]
    split <;> omega
  obtain ⟨w0, hw0⟩ : ∃ w0, w.alloc (.cells #[.int .i64 0, .bool false, .slice none 0 0] 64) = w0 := ⟨_, rfl⟩
  have K0 := hid ((Kp.refl No w).alloc (.cells #[.int .i64 0, .bool false, .slice none 0 0] 64))
  have R0 := hid (Blk.new w 64 #[.int .i64 0, .bool false, .slice none 0 0])
  rw [hw0] at K0 R0
  obtain ⟨_, _, _, _, _, c3, _, _⟩ := (hs.kp0 K0.out).cells
  clear h0 hs ht ho hn hsec hV hA hX hM hAw hxb
  go_enter Tryz.func29, Tryz.ntmps29
  go_upto_region 4 with (first
    | (go_at_call 47
       refine (read_is (HD.out.kp0 K0.out) (i := k) (by have := HN.out; omega) HO.out).mono ?_
       rintro e w1 ⟨v1, rfl, t1, k1⟩
       rw [HV.out] at t1
       have T1 := hid ((t1.byt (P := Anyb) HSc.out fun _ _ => trivial).old.mono (Q := fun i => i < w1.heap.size) fun _ _ hi => hi.2)
       have K1 := hid (K0.out.trans k1)
       have R1 := hid (R0.out.kp0 k1)
       clear t1 k1 c3 hw0))
  go_upto_region 5 with (first
    | (go_at_call 48
       refine (takehead_any T1.out HSc.out.len).mono ?_
       rintro e w2 ⟨rfl, k2⟩
       rw [HA.out, HX.out, HM.out, HAw.out, HXB.out]
       have T2 := hid ((T1.out.kp0 k2).mono (Q := fun i => i < w2.heap.size) fun i hi _ => hi)
       have K2 := hid (K1.out.trans k2)
       have R2 := hid (R1.out.kp0 k2)
       clear k2))
  have BH := hid (Blk.new w2 64 #[.int .i64 Aw, .bool xb, .slice none 0 0])
  have kA := (Kp.refl No w2).alloc (.cells #[.int .i64 Aw, .bool xb, .slice none 0 0] 64)
  have T3 := hid (T2.out.kp0 kA)
  have K3 := hid (K2.out.trans kA)
  have R3 := hid (R2.out.kp0 kA)
  have HLT := hid (show w.heap.size < w2.heap.size from R2.out.lt)
  clear kA
  generalize w2.alloc (.cells #[.int .i64 Aw, .bool xb, .slice none 0 0] 64) = w3 at BH T3 K3 R3 ⊢
  have d0 : w3.cell? ⟨w2.heap.size, 0, none⟩ = some (.int .i64 Aw) := BH.out.cell 0
  have d1 : w3.cell? ⟨w2.heap.size, 1, none⟩ = some (.bool xb) := BH.out.cell 1
  have d2 : w3.cell? ⟨w2.heap.size, 2, none⟩ = some (.slice none 0 0) := BH.out.cell 2
  have g2 := BH.out.frozen 2
  have r0 : w3.cell? ⟨w.heap.size, 0, none⟩ = some (.int .i64 0) := R3.out.cell 0
  have r1 : w3.cell? ⟨w.heap.size, 1, none⟩ = some (.bool false) := R3.out.cell 1
  have r2 : w3.cell? ⟨w.heap.size, 2, none⟩ = some (.slice none 0 0) := R3.out.cell 2
  have f0 := R3.out.frozen 0
  have f1 := R3.out.frozen 1
  have f2 := R3.out.frozen 2
  by_cases c1 : Aw < 1
  · go_wp2
    have BZ := ((R3.out.put 0 (.int .i64 0)).put 1 (.bool false)).put 2 (.slice none 0 0)
    have KZ := (((K3.out.setCell (p := ⟨w.heap.size, 0, none⟩) (.inr (Nat.le_refl _)) (.int .i64 0)).setCell (p := ⟨w.heap.size, 1, none⟩) (.inr (Nat.le_refl _)) (.bool false)).setCell (p := ⟨w.heap.size, 2, none⟩) (.inr (Nat.le_refl _)) (.slice none 0 0))
    have LZ := (((Kp.refl (Only w.heap.size) w3).setCell (p := ⟨w.heap.size, 0, none⟩) (.inl rfl) (.int .i64 0)).setCell (p := ⟨w.heap.size, 1, none⟩) (.inl rfl) (.bool false)).setCell (p := ⟨w.heap.size, 2, none⟩) (.inl rfl) (.slice none 0 0)
    generalize ((w3.setCell ⟨w.heap.size, 0, none⟩ (.int .i64 0)).setCell ⟨w.heap.size, 1, none⟩ (.bool false)).setCell ⟨w.heap.size, 2, none⟩ (.slice none 0 0) = wf at BZ KZ LZ ⊢
    have e0 : wf.cell? ⟨w.heap.size, 0, none⟩ = some (.int .i64 0) := BZ.cell 0
    have e1 : wf.cell? ⟨w.heap.size, 1, none⟩ = some (.bool false) := BZ.cell 1
    have e2 : wf.cell? ⟨w.heap.size, 2, none⟩ = some (.slice none 0 0) := BZ.cell 2
    refine bodyPost_ret (v := .tuple #[.agg #[.int .i64 0, .bool false, .slice none 0 0], .int .i64 0]) ?_ rfl (RdPost2.zero (by rw [HC.out, if_pos]; have := HAwr.out; split at this <;> omega) KZ)
    clear BZ KZ LZ
    simp [results, Tryz.results29, go_sem, e0, e1, e2]
  by_cases c2 : 1099511627776 < Aw
  · go_wp2
    have BZ := ((R3.out.put 0 (.int .i64 0)).put 1 (.bool false)).put 2 (.slice none 0 0)
    have KZ := (((K3.out.setCell (p := ⟨w.heap.size, 0, none⟩) (.inr (Nat.le_refl _)) (.int .i64 0)).setCell (p := ⟨w.heap.size, 1, none⟩) (.inr (Nat.le_refl _)) (.bool false)).setCell (p := ⟨w.heap.size, 2, none⟩) (.inr (Nat.le_refl _)) (.slice none 0 0))
    have LZ := (((Kp.refl (Only w.heap.size) w3).setCell (p := ⟨w.heap.size, 0, none⟩) (.inl rfl) (.int .i64 0)).setCell (p := ⟨w.heap.size, 1, none⟩) (.inl rfl) (.bool false)).setCell (p := ⟨w.heap.size, 2, none⟩) (.inl rfl) (.slice none 0 0)
    generalize ((w3.setCell ⟨w.heap.size, 0, none⟩ (.int .i64 0)).setCell ⟨w.heap.size, 1, none⟩ (.bool false)).setCell ⟨w.heap.size, 2, none⟩ (.slice none 0 0) = wf at BZ KZ LZ ⊢
    have e0 : wf.cell? ⟨w.heap.size, 0, none⟩ = some (.int .i64 0) := BZ.cell 0
    have e1 : wf.cell? ⟨w.heap.size, 1, none⟩ = some (.bool false) := BZ.cell 1
    have e2 : wf.cell? ⟨w.heap.size, 2, none⟩ = some (.slice none 0 0) := BZ.cell 2
    refine bodyPost_ret (v := .tuple #[.agg #[.int .i64 0, .bool false, .slice none 0 0], .int .i64 0]) ?_ rfl (RdPost2.zero (by rw [HC.out, if_pos]; have := HAwr.out; split at this <;> omega) KZ)
    clear BZ KZ LZ
    simp [results, Tryz.results29, go_sem, e0, e1, e2]
  obtain ⟨N, rfl⟩ : ∃ N : Nat, Aw = (N : Int) := ⟨Aw.toNat, by omega⟩
  have hNA := hid (show A = (N : Int) by have := HAwr.out; split at this <;> omega)
  have hN40 : N ≤ 1099511627776 := by omega
  by_cases c3 : N % 2 = k
  rotate_left
  · have n3 : (((N % 2 : Nat) : Int) != (k : Int)) = true := by rw [bne_iff_ne]; omega
    go_wp2_with (first
      | (go_at_call 49
         refine (hnum_any N xb (.slice none 0 0) _ (by omega)).mono ?_
         rintro e w4 ⟨rfl, k4⟩
         have K4 := hid (K3.out.trans k4)
         have R4 := hid (R3.out.kp0 k4)
         have r0 : w4.cell? ⟨w.heap.size, 0, none⟩ = some (.int .i64 0) := R4.out.cell 0
         have r1 : w4.cell? ⟨w.heap.size, 1, none⟩ = some (.bool false) := R4.out.cell 1
         have r2 : w4.cell? ⟨w.heap.size, 2, none⟩ = some (.slice none 0 0) := R4.out.cell 2
         have f0 := R4.out.frozen 0
         have f1 := R4.out.frozen 1
         have f2 := R4.out.frozen 2
         clear k4))
    have BZ := ((R4.out.put 0 (.int .i64 0)).put 1 (.bool false)).put 2 (.slice none 0 0)
    have KZ := (((K4.out.setCell (p := ⟨w.heap.size, 0, none⟩) (.inr (Nat.le_refl _)) (.int .i64 0)).setCell (p := ⟨w.heap.size, 1, none⟩) (.inr (Nat.le_refl _)) (.bool false)).setCell (p := ⟨w.heap.size, 2, none⟩) (.inr (Nat.le_refl _)) (.slice none 0 0))
    have LZ := (((Kp.refl (Only w.heap.size) w4).setCell (p := ⟨w.heap.size, 0, none⟩) (.inl rfl) (.int .i64 0)).setCell (p := ⟨w.heap.size, 1, none⟩) (.inl rfl) (.bool false)).setCell (p := ⟨w.heap.size, 2, none⟩) (.inl rfl) (.slice none 0 0)
    generalize ((w4.setCell ⟨w.heap.size, 0, none⟩ (.int .i64 0)).setCell ⟨w.heap.size, 1, none⟩ (.bool false)).setCell ⟨w.heap.size, 2, none⟩ (.slice none 0 0) = wf at BZ KZ LZ ⊢
    have e0 : wf.cell? ⟨w.heap.size, 0, none⟩ = some (.int .i64 0) := BZ.cell 0
    have e1 : wf.cell? ⟨w.heap.size, 1, none⟩ = some (.bool false) := BZ.cell 1
    have e2 : wf.cell? ⟨w.heap.size, 2, none⟩ = some (.slice none 0 0) := BZ.cell 2
    refine bodyPost_ret (v := .tuple #[.agg #[.int .i64 0, .bool false, .slice none 0 0], .int .i64 0]) ?_ rfl (RdPost2.zero (by rw [HC.out, if_pos]; have := hNA.out; omega) KZ)
    clear BZ KZ LZ
    simp [results, Tryz.results29, go_sem, e0, e1, e2]
  have n3 : (((N % 2 : Nat) : Int) != (k : Int)) = false := by rw [bne_eq_false_iff_eq]; omega
  by_cases c4 : 64 * h < M
  · have g4 : ((64 * h : Nat) : Int) < (M : Int) := by omega
    go_wp2_with (first
      | (go_at_call 49
         refine (hnum_any N xb (.slice none 0 0) _ (by omega)).mono ?_
         rintro e w4 ⟨rfl, k4⟩
         have K4 := hid (K3.out.trans k4)
         have R4 := hid (R3.out.kp0 k4)
         have r0 : w4.cell? ⟨w.heap.size, 0, none⟩ = some (.int .i64 0) := R4.out.cell 0
         have r1 : w4.cell? ⟨w.heap.size, 1, none⟩ = some (.bool false) := R4.out.cell 1
         have r2 : w4.cell? ⟨w.heap.size, 2, none⟩ = some (.slice none 0 0) := R4.out.cell 2
         have f0 := R4.out.frozen 0
         have f1 := R4.out.frozen 1
         have f2 := R4.out.frozen 2
         clear k4)
      | (go_at_call 21
         refine (room_any (HS.out.kp0 K4.out)).mono ?_
         rintro e w5 ⟨rfl, rfl⟩))
    have BZ := ((R4.out.put 0 (.int .i64 0)).put 1 (.bool false)).put 2 (.slice none 0 0)
    have KZ := (((K4.out.setCell (p := ⟨w.heap.size, 0, none⟩) (.inr (Nat.le_refl _)) (.int .i64 0)).setCell (p := ⟨w.heap.size, 1, none⟩) (.inr (Nat.le_refl _)) (.bool false)).setCell (p := ⟨w.heap.size, 2, none⟩) (.inr (Nat.le_refl _)) (.slice none 0 0))
    have LZ := (((Kp.refl (Only w.heap.size) w5).setCell (p := ⟨w.heap.size, 0, none⟩) (.inl rfl) (.int .i64 0)).setCell (p := ⟨w.heap.size, 1, none⟩) (.inl rfl) (.bool false)).setCell (p := ⟨w.heap.size, 2, none⟩) (.inl rfl) (.slice none 0 0)
    generalize ((w5.setCell ⟨w.heap.size, 0, none⟩ (.int .i64 0)).setCell ⟨w.heap.size, 1, none⟩ (.bool false)).setCell ⟨w.heap.size, 2, none⟩ (.slice none 0 0) = wf at BZ KZ LZ ⊢
    have e0 : wf.cell? ⟨w.heap.size, 0, none⟩ = some (.int .i64 0) := BZ.cell 0
    have e1 : wf.cell? ⟨w.heap.size, 1, none⟩ = some (.bool false) := BZ.cell 1
    have e2 : wf.cell? ⟨w.heap.size, 2, none⟩ = some (.slice none 0 0) := BZ.cell 2
    refine bodyPost_ret (v := .tuple #[.agg #[.int .i64 0, .bool false, .slice none 0 0], .int .i64 0]) ?_ rfl (RdPost2.zero (by rw [HC.out, if_pos]; omega) KZ)
    clear BZ KZ LZ
    simp [results, Tryz.results29, go_sem, e0, e1, e2]
  have g4 : ¬ ((64 * h : Nat) : Int) < (M : Int) := by omega
  have HC2 := hid (show hcnt V h k = if 1 < X ∨ (X = 0 ∧ 0 < (M : Int)) then none else if V k = hsec_ A X V h k M then some (N, xb, (slotB V h k).take M) else none by
    rw [HC.out]
    have e1 := hNA.out
    have e2 : A.toNat = N := by omega
    rw [e2, HXB.out]
    by_cases hq : 1 < X ∨ (X = 0 ∧ 0 < (M : Int))
    · rw [if_pos hq, if_pos (by omega)]
    · rw [if_neg hq, if_neg (by omega)])
  have hl4 : ((slotB V h k).take M).length ≤ 64 * h := by simp; omega
  have hh := HS.out.hh
  have hX0 := HSc.out.rg
  have HL4 := hid (show ((slotB V h k).take M).length ≤ 100000 by omega)
  have HH4 := hid hl4
  have hA2 := hid (show A.toNat = N by have := hNA.out; omega)
  have b12 := hid (show 0 ≤ X ∧ X ≤ 255 by rw [← HX.out]; exact getD_bs HSc.out.rg 12)
  clear hl4 hX0
  obtain ⟨I, hI⟩ : ∃ I, (slotB V h k).take M = I := ⟨_, rfl⟩
  rw [hI] at HL4 HH4 HC2
  have HI := hid hI
  clear hI
  cases xb with
  | true =>
    have hX1 := hid (show X = 1 from by have := HXB.out; simpa using this)
    go_upto_region 7 with (first
      | (go_at_call 49
         refine (hnum_any N true (.slice none 0 0) _ (by omega)).mono ?_
         rintro e w4 ⟨rfl, k4⟩
         have K4 := hid (K3.out.trans k4)
         have R4 := hid (R3.out.kp0 k4)
         have B4 := hid (BH.out.kp0 k4)
         have T4 := hid (T3.out.kp0 k4)
         have e0 : w4.cell? ⟨w2.heap.size, 0, none⟩ = some (.int .i64 (N : Int)) := B4.out.cell 0
         have e1 : w4.cell? ⟨w2.heap.size, 1, none⟩ = some (.bool true) := B4.out.cell 1
         have e2 : w4.cell? ⟨w2.heap.size, 2, none⟩ = some (.slice none 0 0) := B4.out.cell 2
         clear k4 d0 d1 d2 r0 r1 r2 f0 f1 f2 g2)
      | (go_at_call 21
         refine (room_any (HS.out.kp0 K4.out)).mono ?_
         rintro e w5 ⟨rfl, rfl⟩))
    go_upto_region 9 with (first
      | (go_at_call 50
         refine (fetch_any (HD.out.kp0 K4.out) (HS.out.kp0 K4.out) HO.out hk (size := M) (by omega) HN.out).mono ?_
         rintro e w6 ⟨u6, rfl, o6, k6⟩
         rw [HV.out, HI.out] at o6
         have K6 := hid (K4.out.trans k6)
         have U6 := hid (o6.mono (Q' := fun i => w2.heap.size < i) fun i _ hi => by have := B4.out.lt; omega)
         have R6 := hid (R4.out.kp0 k6)
         have B6 := hid (B4.out.kp0 k6)
         have T6 := hid (T4.out.kp0 k6)
         have d0 : w6.cell? ⟨w2.heap.size, 0, none⟩ = some (.int .i64 (N : Int)) := B6.out.cell 0
         have d1 : w6.cell? ⟨w2.heap.size, 1, none⟩ = some (.bool true) := B6.out.cell 1
         have d2 : w6.cell? ⟨w2.heap.size, 2, none⟩ = some (.slice none 0 0) := B6.out.cell 2
         have g2 := B6.out.frozen 2
         obtain ⟨A6, c6, rfl, _⟩ := o6
         clear k6 e0 e1 e2))
    have B7 := hid (B6.out.put 2 (.slice A6 I.length c6))
    have k7 := Kp.set1 w2.heap.size 2 w6 (.slice A6 I.length c6)
    have K7 := hid (K6.out.step k7 fun i hi h => by have := HLT.out; unfold Only at h; omega)
    have U7 := hid (U6.out.kp k7 fun i hi _ h => by unfold Only at h; omega)
    have R7 := hid (R6.out.kp k7 fun h => by have := HLT.out; unfold Only at h; omega)
    have T7 := hid (T6.out.kp k7 fun i hi h => by unfold Only at h; omega)
    clear k7 d0 d1 d2 g2
    generalize w6.setCell ⟨w2.heap.size, 2, none⟩ (.slice A6 I.length c6) = w7 at B7 K7 U7 R7 T7 ⊢
    have d0 : w7.cell? ⟨w2.heap.size, 0, none⟩ = some (.int .i64 (N : Int)) := B7.out.cell 0
    have d1 : w7.cell? ⟨w2.heap.size, 1, none⟩ = some (.bool true) := B7.out.cell 1
    have d2 : w7.cell? ⟨w2.heap.size, 2, none⟩ = some (.slice A6 I.length c6) := B7.out.cell 2
    cases hq : decide (hsec N true I = V k)
    · have HQ := hid hq
      go_wp2_with (first
        | (go_at_call 52
           refine (sector_any (HT.out.kp0 K7.out) U7.out.byt hN40 HL4.out (by simp)).mono ?_
           rintro e w8 ⟨u8, rfl, o8, k8⟩
           have O8 := hid (o8.byt (P := Anyb) fun _ _ => trivial)
           have K8 := hid (K7.out.trans k8)
           have R8 := hid (R7.out.kp0 k8)
           have T8 := hid (T7.out.kp0 k8)
           have r0 : w8.cell? ⟨w.heap.size, 0, none⟩ = some (.int .i64 0) := R8.out.cell 0
           have r1 : w8.cell? ⟨w.heap.size, 1, none⟩ = some (.bool false) := R8.out.cell 1
           have r2 : w8.cell? ⟨w.heap.size, 2, none⟩ = some (.slice none 0 0) := R8.out.cell 2
           have f0 := R8.out.frozen 0
           have f1 := R8.out.frozen 1
           have f2 := R8.out.frozen 2
           clear o8 k8)
        | (go_at_call 51
           refine (equal_any O8.out T8.out (by rw [hsec_len]; omega) (by rw [HSc.out.len]; omega)).mono ?_
           rintro e w9 ⟨rfl, rfl⟩
           rw [HQ.out]))
      have BZ := ((R8.out.put 0 (.int .i64 0)).put 1 (.bool false)).put 2 (.slice none 0 0)
      have KZ := (((K8.out.setCell (p := ⟨w.heap.size, 0, none⟩) (.inr (Nat.le_refl _)) (.int .i64 0)).setCell (p := ⟨w.heap.size, 1, none⟩) (.inr (Nat.le_refl _)) (.bool false)).setCell (p := ⟨w.heap.size, 2, none⟩) (.inr (Nat.le_refl _)) (.slice none 0 0))
      have LZ := (((Kp.refl (Only w.heap.size) w9).setCell (p := ⟨w.heap.size, 0, none⟩) (.inl rfl) (.int .i64 0)).setCell (p := ⟨w.heap.size, 1, none⟩) (.inl rfl) (.bool false)).setCell (p := ⟨w.heap.size, 2, none⟩) (.inl rfl) (.slice none 0 0)
      generalize ((w9.setCell ⟨w.heap.size, 0, none⟩ (.int .i64 0)).setCell ⟨w.heap.size, 1, none⟩ (.bool false)).setCell ⟨w.heap.size, 2, none⟩ (.slice none 0 0) = wf at BZ KZ LZ ⊢
      have e0 : wf.cell? ⟨w.heap.size, 0, none⟩ = some (.int .i64 0) := BZ.cell 0
      have e1 : wf.cell? ⟨w.heap.size, 1, none⟩ = some (.bool false) := BZ.cell 1
      have e2 : wf.cell? ⟨w.heap.size, 2, none⟩ = some (.slice none 0 0) := BZ.cell 2
      refine bodyPost_ret (v := .tuple #[.agg #[.int .i64 0, .bool false, .slice none 0 0], .int .i64 0]) ?_ rfl (RdPost2.zero (by rw [HC2.out, if_neg (by rw [hX1.out]; omega), if_neg]; intro he; unfold hsec_ at he; rw [hA2.out, hX1.out, HI.out] at he; exact of_decide_eq_false hq he.symm) KZ)
      clear BZ KZ LZ
      simp [results, Tryz.results29, go_sem, e0, e1, e2]
    · have HQ := hid hq
      go_wp2_with (first
        | (go_at_call 52
           refine (sector_any (HT.out.kp0 K7.out) U7.out.byt hN40 HL4.out (by simp)).mono ?_
           rintro e w8 ⟨u8, rfl, o8, k8⟩
           have O8 := hid (o8.byt (P := Anyb) fun _ _ => trivial)
           have K8 := hid (K7.out.trans k8)
           have R8 := hid (R7.out.kp0 k8)
           have T8 := hid (T7.out.kp0 k8)
           have U8 := hid (U7.out.kp0 k8)
           have B8 := hid (B7.out.kp0 k8)
           have r0 : w8.cell? ⟨w.heap.size, 0, none⟩ = some (.int .i64 0) := R8.out.cell 0
           have r1 : w8.cell? ⟨w.heap.size, 1, none⟩ = some (.bool false) := R8.out.cell 1
           have r2 : w8.cell? ⟨w.heap.size, 2, none⟩ = some (.slice none 0 0) := R8.out.cell 2
           have q0 : w8.cell? ⟨w2.heap.size, 0, none⟩ = some (.int .i64 (N : Int)) := B8.out.cell 0
           have q1 : w8.cell? ⟨w2.heap.size, 1, none⟩ = some (.bool true) := B8.out.cell 1
           have q2 : w8.cell? ⟨w2.heap.size, 2, none⟩ = some (.slice A6 I.length c6) := B8.out.cell 2
           have f0 := R8.out.frozen 0
           have f1 := R8.out.frozen 1
           have f2 := R8.out.frozen 2
           clear o8 k8)
        | (go_at_call 51
           refine (equal_any O8.out T8.out (by rw [hsec_len]; omega) (by rw [HSc.out.len]; omega)).mono ?_
           rintro e w9 ⟨rfl, rfl⟩
           rw [HQ.out]))
      have BZ := ((R8.out.put 0 (.int .i64 (N : Int))).put 1 (.bool true)).put 2 (.slice A6 I.length c6)
      have KZ := (((K8.out.setCell (p := ⟨w.heap.size, 0, none⟩) (.inr (Nat.le_refl _)) (.int .i64 (N : Int))).setCell (p := ⟨w.heap.size, 1, none⟩) (.inr (Nat.le_refl _)) (.bool true)).setCell (p := ⟨w.heap.size, 2, none⟩) (.inr (Nat.le_refl _)) (.slice A6 I.length c6))
      have LZ := (((Kp.refl (Only w.heap.size) w9).setCell (p := ⟨w.heap.size, 0, none⟩) (.inl rfl) (.int .i64 (N : Int))).setCell (p := ⟨w.heap.size, 1, none⟩) (.inl rfl) (.bool true)).setCell (p := ⟨w.heap.size, 2, none⟩) (.inl rfl) (.slice A6 I.length c6)
      generalize ((w9.setCell ⟨w.heap.size, 0, none⟩ (.int .i64 (N : Int))).setCell ⟨w.heap.size, 1, none⟩ (.bool true)).setCell ⟨w.heap.size, 2, none⟩ (.slice A6 I.length c6) = wf at BZ KZ LZ ⊢
      have e0 : wf.cell? ⟨w.heap.size, 0, none⟩ = some (.int .i64 (N : Int)) := BZ.cell 0
      have e1 : wf.cell? ⟨w.heap.size, 1, none⟩ = some (.bool true) := BZ.cell 1
      have e2 : wf.cell? ⟨w.heap.size, 2, none⟩ = some (.slice A6 I.length c6) := BZ.cell 2
      refine bodyPost_ret (v := .tuple #[.agg #[.int .i64 (N : Int), .bool true, .slice A6 I.length c6], .int .i64 0]) ?_ rfl (RdPost2.some (N := N) (qb := true) (I := I) (by rw [HC2.out, if_neg (by rw [hX1.out]; omega), if_pos]; unfold hsec_; rw [hA2.out, hX1.out, HI.out]; exact (of_decide_eq_true hq).symm) ((U8.out.kp LZ fun i hi _ h => (by have := HLT.out; unfold Only at h; omega)).mono fun i _ hi => (by have := HLT.out; omega)) KZ)
      clear BZ KZ LZ
      simp [results, Tryz.results29, go_sem, e0, e1, e2]
  | false =>
    have hX1 := hid (show X ≠ 1 from fun hx => by have := HXB.out; rw [hx] at this; cases this)
    have hXb : (X == 1) = false := HXB.out
    have HZ := hid (show decide (hsec N false [] = V k) = false → hcnt V h k = none from fun hq => by
      rw [HC2.out]
      by_cases hc : 1 < X ∨ (X = 0 ∧ 0 < (M : Int))
      · rw [if_pos hc]
      · rw [if_neg hc, if_neg]
        intro he
        have h1 := hX1.out
        have h2 := b12.out
        have hM0 : M = 0 := by omega
        unfold hsec_ at he
        rw [hA2.out, hXb, hM0, List.take_zero] at he
        exact of_decide_eq_false hq he.symm)
    have HY := hid (show decide (hsec N false [] = V k) = true → hcnt V h k = some (N, false, []) from fun hq => by
      have he := of_decide_eq_true hq
      obtain ⟨_, f2, f3⟩ := f_hsec (has := false) (img := []) hN40 (by simp)
      rw [he, HM.out] at f2
      rw [he, HX.out] at f3
      have hM0 : M = 0 := by simpa using f2
      have hX0 : X = 0 := by simpa using f3
      rw [HC2.out, if_neg (by omega), if_pos, ← HI.out, hM0, List.take_zero]
      unfold hsec_
      rw [hA2.out, hXb, hM0, List.take_zero]
      exact he.symm)
    clear hXb
    go_upto_region 7 with (first
      | (go_at_call 49
         refine (hnum_any N false (.slice none 0 0) _ (by omega)).mono ?_
         rintro e w4 ⟨rfl, k4⟩
         have K4 := hid (K3.out.trans k4)
         have R4 := hid (R3.out.kp0 k4)
         have B4 := hid (BH.out.kp0 k4)
         have T4 := hid (T3.out.kp0 k4)
         have U4 := hid (Byu.nil w4 (fun i => w.heap.size ≤ i))
         have e0 : w4.cell? ⟨w2.heap.size, 0, none⟩ = some (.int .i64 (N : Int)) := B4.out.cell 0
         have e1 : w4.cell? ⟨w2.heap.size, 1, none⟩ = some (.bool false) := B4.out.cell 1
         have e2 : w4.cell? ⟨w2.heap.size, 2, none⟩ = some (.slice none 0 0) := B4.out.cell 2
         clear k4 d0 d1 d2 r0 r1 r2 f0 f1 f2 g2)
      | (go_at_call 21
         refine (room_any (HS.out.kp0 K4.out)).mono ?_
         rintro e w5 ⟨rfl, rfl⟩))
    cases hq : decide (hsec N false [] = V k)
    · have HQ := hid hq
      go_wp2_with (first
        | (go_at_call 52
           refine (sector_any (HT.out.kp0 K4.out) U4.out.byt hN40 (by simp) (by simp)).mono ?_
           rintro e w8 ⟨u8, rfl, o8, k8⟩
           have O8 := hid (o8.byt (P := Anyb) fun _ _ => trivial)
           have K8 := hid (K4.out.trans k8)
           have R8 := hid (R4.out.kp0 k8)
           have T8 := hid (T4.out.kp0 k8)
           have r0 : w8.cell? ⟨w.heap.size, 0, none⟩ = some (.int .i64 0) := R8.out.cell 0
           have r1 : w8.cell? ⟨w.heap.size, 1, none⟩ = some (.bool false) := R8.out.cell 1
           have r2 : w8.cell? ⟨w.heap.size, 2, none⟩ = some (.slice none 0 0) := R8.out.cell 2
           have f0 := R8.out.frozen 0
           have f1 := R8.out.frozen 1
           have f2 := R8.out.frozen 2
           clear o8 k8)
        | (go_at_call 51
           refine (equal_any O8.out T8.out (by rw [hsec_len]; omega) (by rw [HSc.out.len]; omega)).mono ?_
           rintro e w9 ⟨rfl, rfl⟩
           rw [HQ.out]))
      have BZ := ((R8.out.put 0 (.int .i64 0)).put 1 (.bool false)).put 2 (.slice none 0 0)
      have KZ := (((K8.out.setCell (p := ⟨w.heap.size, 0, none⟩) (.inr (Nat.le_refl _)) (.int .i64 0)).setCell (p := ⟨w.heap.size, 1, none⟩) (.inr (Nat.le_refl _)) (.bool false)).setCell (p := ⟨w.heap.size, 2, none⟩) (.inr (Nat.le_refl _)) (.slice none 0 0))
      have LZ := (((Kp.refl (Only w.heap.size) w9).setCell (p := ⟨w.heap.size, 0, none⟩) (.inl rfl) (.int .i64 0)).setCell (p := ⟨w.heap.size, 1, none⟩) (.inl rfl) (.bool false)).setCell (p := ⟨w.heap.size, 2, none⟩) (.inl rfl) (.slice none 0 0)
      generalize ((w9.setCell ⟨w.heap.size, 0, none⟩ (.int .i64 0)).setCell ⟨w.heap.size, 1, none⟩ (.bool false)).setCell ⟨w.heap.size, 2, none⟩ (.slice none 0 0) = wf at BZ KZ LZ ⊢
      have e0 : wf.cell? ⟨w.heap.size, 0, none⟩ = some (.int .i64 0) := BZ.cell 0
      have e1 : wf.cell? ⟨w.heap.size, 1, none⟩ = some (.bool false) := BZ.cell 1
      have e2 : wf.cell? ⟨w.heap.size, 2, none⟩ = some (.slice none 0 0) := BZ.cell 2
      refine bodyPost_ret (v := .tuple #[.agg #[.int .i64 0, .bool false, .slice none 0 0], .int .i64 0]) ?_ rfl (RdPost2.zero (HZ.out hq) KZ)
      clear BZ KZ LZ
      simp [results, Tryz.results29, go_sem, e0, e1, e2]
    · have HQ := hid hq
      go_wp2_with (first
        | (go_at_call 52
           refine (sector_any (HT.out.kp0 K4.out) U4.out.byt hN40 (by simp) (by simp)).mono ?_
           rintro e w8 ⟨u8, rfl, o8, k8⟩
           have O8 := hid (o8.byt (P := Anyb) fun _ _ => trivial)
           have K8 := hid (K4.out.trans k8)
           have R8 := hid (R4.out.kp0 k8)
           have T8 := hid (T4.out.kp0 k8)
           have U8 := hid (U4.out.kp0 k8)
           have B8 := hid (B4.out.kp0 k8)
           have r0 : w8.cell? ⟨w.heap.size, 0, none⟩ = some (.int .i64 0) := R8.out.cell 0
           have r1 : w8.cell? ⟨w.heap.size, 1, none⟩ = some (.bool false) := R8.out.cell 1
           have r2 : w8.cell? ⟨w.heap.size, 2, none⟩ = some (.slice none 0 0) := R8.out.cell 2
           have q0 : w8.cell? ⟨w2.heap.size, 0, none⟩ = some (.int .i64 (N : Int)) := B8.out.cell 0
           have q1 : w8.cell? ⟨w2.heap.size, 1, none⟩ = some (.bool false) := B8.out.cell 1
           have q2 : w8.cell? ⟨w2.heap.size, 2, none⟩ = some (.slice none 0 0) := B8.out.cell 2
           have f0 := R8.out.frozen 0
           have f1 := R8.out.frozen 1
           have f2 := R8.out.frozen 2
           clear o8 k8)
        | (go_at_call 51
           refine (equal_any O8.out T8.out (by rw [hsec_len]; omega) (by rw [HSc.out.len]; omega)).mono ?_
           rintro e w9 ⟨rfl, rfl⟩
           rw [HQ.out]))
      have BZ := ((R8.out.put 0 (.int .i64 (N : Int))).put 1 (.bool false)).put 2 (.slice none 0 0)
      have KZ := (((K8.out.setCell (p := ⟨w.heap.size, 0, none⟩) (.inr (Nat.le_refl _)) (.int .i64 (N : Int))).setCell (p := ⟨w.heap.size, 1, none⟩) (.inr (Nat.le_refl _)) (.bool false)).setCell (p := ⟨w.heap.size, 2, none⟩) (.inr (Nat.le_refl _)) (.slice none 0 0))
      have LZ := (((Kp.refl (Only w.heap.size) w9).setCell (p := ⟨w.heap.size, 0, none⟩) (.inl rfl) (.int .i64 (N : Int))).setCell (p := ⟨w.heap.size, 1, none⟩) (.inl rfl) (.bool false)).setCell (p := ⟨w.heap.size, 2, none⟩) (.inl rfl) (.slice none 0 0)
      generalize ((w9.setCell ⟨w.heap.size, 0, none⟩ (.int .i64 (N : Int))).setCell ⟨w.heap.size, 1, none⟩ (.bool false)).setCell ⟨w.heap.size, 2, none⟩ (.slice none 0 0) = wf at BZ KZ LZ ⊢
      have e0 : wf.cell? ⟨w.heap.size, 0, none⟩ = some (.int .i64 (N : Int)) := BZ.cell 0
      have e1 : wf.cell? ⟨w.heap.size, 1, none⟩ = some (.bool false) := BZ.cell 1
      have e2 : wf.cell? ⟨w.heap.size, 2, none⟩ = some (.slice none 0 0) := BZ.cell 2
      refine bodyPost_ret (v := .tuple #[.agg #[.int .i64 (N : Int), .bool false, .slice none 0 0], .int .i64 0]) ?_ rfl (RdPost2.some (N := N) (qb := false) (I := []) (HY.out hq) (Byu.nil _ _) KZ)
      clear BZ KZ LZ
      simp [results, Tryz.results29, go_sem, e0, e1, e2]
end
end Go.Proofs.YtgfkbkonelphaaaGreatDoor
