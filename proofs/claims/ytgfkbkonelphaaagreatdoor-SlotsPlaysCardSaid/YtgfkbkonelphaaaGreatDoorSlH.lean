/-
  Contracts of the program's takeHead, fetch, read: what a store knows of a sector.
-/
import Derived.Test.YtgfkbkonelphaaaGreatDoorSlG
import Derived.Test.YtgfkbkonelphaaaGreatDoorDR
namespace Go.Proofs.YtgfkbkonelphaaaGreatDoor
open Go.RowKit

theorem fAge_bd {xs : List Int} (h : Bs xs) : 0 ≤ fAge xs ∧ fAge xs ≤ 18446744073709551615 := by
  have := num_bd ((xs.drop 4).take 8) fun y hy => h y (List.mem_of_mem_drop (List.mem_of_mem_take hy))
  have hl : ((xs.drop 4).take 8).length ≤ 8 := by simp; omega
  have hp := pw_of _ hl
  unfold fAge
  omega
theorem fMany_bd {xs : List Int} (h : Bs xs) : 0 ≤ fMany xs ∧ fMany xs ≤ 4294967295 := by
  have := num_bd ((xs.drop 13).take 4) fun y hy => h y (List.mem_of_mem_drop (List.mem_of_mem_take hy))
  have hl : ((xs.drop 13).take 4).length ≤ 4 := by simp; omega
  have hp := pw_of _ (Nat.le_trans hl (by omega))
  unfold fMany
  omega
section
variable {w w' : World} {P S : Nat → Prop} {q g b m h a : Nat} {s : Ds} {has : Bool} {img xs : List Int} {v : Value}
set_option maxRecDepth 100000 in
set_option maxHeartbeats 1000000 in
theorem takehead_any (hv : Byt w P v xs) (hl : xs.length = 64) :
    Calls Tryz.prog 48 #[v] w fun e w' => e = .returned (.tuple #[.agg #[.int .i64 (IntKind.i64.wrap (fAge xs)), .bool (xs.getD 12 0 == 1), .slice none 0 0], .int .i64 (fMany xs)]) ∧ Kp No w w' := by
  have hb : Bs xs := hv.bytes
  have HV := hid hv
  have H0 := nx_ok (xs := xs) (m := 4) (by omega)
  have H1 := nx_ok (xs := xs.drop 4) (m := 8) (by simp; omega)
  have H2 := nx_ok (xs := xs.drop 12) (m := 1) (by simp; omega)
  have H3 := nx_ok (xs := xs.drop 13) (m := 4) (by simp; omega)
  rw [List.drop_drop] at H1 H2 H3
  have e2 := take_one (xs := xs.drop 12) (by simp; omega)
  have e2' : (xs.drop 12).getD 0 0 = xs.getD 12 0 := by simp [List.getD]
  have b1 := fAge_bd hb
  have b3 := fMany_bd hb
  have P1 := hid (show num (nxP (xs.drop 4) 0 ((8 : Nat) : Int)) = fAge xs by rw [H1.1]; rfl)
  have P2 := hid (show num (nxP (xs.drop 12) 0 ((1 : Nat) : Int)) = xs.getD 12 0 by rw [H2.1, e2, e2'])
  have P3 := hid (show num (nxP (xs.drop 13) 0 ((4 : Nat) : Int)) = fMany xs by rw [H3.1]; rfl)
  have HH0 := hid H0
  have HH1 := hid H1
  have HH2 := hid H2
  have HH3 := hid H3
  obtain ⟨A, hA⟩ : ∃ A, fAge xs = A := ⟨_, rfl⟩
  obtain ⟨X, hX⟩ : ∃ X, xs.getD 12 0 = X := ⟨_, rfl⟩
  obtain ⟨M, hM⟩ : ∃ M, fMany xs = M := ⟨_, rfl⟩
  rw [hA] at P1 b1 ⊢
  rw [hX] at P2 ⊢
  rw [hM] at P3 b3 ⊢
  obtain ⟨Aw, hAw⟩ : ∃ Aw, IntKind.i64.wrap A = Aw := ⟨_, rfl⟩
  have hMw : IntKind.i64.wrap M = M := wrapI (by unfold I64; omega)
  rw [hAw]
  have HL := hid hl
  have K0 := hid ((Kp.refl No w).alloc (.cells #[.int .i64 0, .bool false, .slice none 0 0] 64))
  have B0 := hid (Blk.new w 64 #[.int .i64 0, .bool false, .slice none 0 0])
  obtain ⟨w0, hw0⟩ : ∃ w0, w.alloc (.cells #[.int .i64 0, .bool false, .slice none 0 0] 64) = w0 := ⟨_, rfl⟩
  rw [hw0] at K0 B0
  clear hv hb H0 H1 H2 H3 e2 e2' hA hX hM hl
  go_enter Tryz.func48, Tryz.ntmps48
  go_upto_region 2 with (first
    | (go_at_call 63
       refine (new_any _ xs _ (HV.out.kp0 K0.out) (by have := HL.out; omega)).mono ?_
       rintro e w1 ⟨g, rfl, hg, r1, k1⟩
       have R1 := hid r1
       have K1 := hid (K0.out.trans k1)
       have B1 := hid (B0.out.kp0 k1)
       have HG := hid (show w.heap.size < g by have := B0.out.lt; omega)
       clear r1 k1 hg hw0))
  go_upto_region 3 with (first
    | (go_at_call 64
       refine (part_any g xs 0 4 _ R1.out (by have := HL.out; omega)).mono ?_
       rintro e w2 ⟨u2, rfl, _, r2, k2⟩
       rw [show (4 : Int) = ((4 : Nat) : Int) from rfl, HH0.out.2.1, HH0.out.2.2] at r2
       have R2 := hid r2
       have K2 := hid (K1.out.step k2 fun i hi h => by have := HG.out; unfold Only at h; omega)
       have B2 := hid (B1.out.kp k2 fun h => by have := HG.out; unfold Only at h; omega)
       clear r2 k2))
  go_upto_region 4 with (first
    | (go_at_call 65
       refine (take_any g (xs.drop 4) 0 8 _ R2.out).mono ?_
       rintro e w3 ⟨rfl, r3, k3⟩
       rw [show hw 8 = 8 from rfl, HH1.out.2.1, HH1.out.2.2] at r3
       rw [show hw 8 = 8 from rfl, P1.out]
       have R3 := hid r3
       have K3 := hid (K2.out.step k3 fun i hi h => by have := HG.out; unfold Only at h; omega)
       have B3 := hid (B2.out.kp k3 fun h => by have := HG.out; unfold Only at h; omega)
       clear r3 k3))
  go_upto_region 5 with (first
    | (go_at_call 65
       refine (take_any g (xs.drop 12) 0 1 _ R3.out).mono ?_
       rintro e w4 ⟨rfl, r4, k4⟩
       rw [show hw 1 = 1 from rfl, HH2.out.2.1, HH2.out.2.2] at r4
       rw [show hw 1 = 1 from rfl, P2.out]
       have R4 := hid r4
       have K4 := hid (K3.out.step k4 fun i hi h => by have := HG.out; unfold Only at h; omega)
       have B4 := hid (B3.out.kp k4 fun h => by have := HG.out; unfold Only at h; omega)
       clear r4 k4))
  go_wp2_with (first
    | (go_at_call 65
       refine (take_any g (xs.drop 13) 0 4 _ R4.out).mono ?_
       rintro e w5 ⟨rfl, r5, k5⟩
       rw [show hw 4 = 4 from rfl, HH3.out.2.1, HH3.out.2.2] at r5
       rw [show hw 4 = 4 from rfl, P3.out]
       have K5 := hid (K4.out.step k5 fun i hi h => by have := HG.out; unfold Only at h; omega)
       have B5 := hid (B4.out.kp k5 fun h => by have := HG.out; unfold Only at h; omega)
       have c0 : w5.cell? ⟨w.heap.size, 0, none⟩ = some (.int .i64 0) := B5.out.cell 0
       have c1 : w5.cell? ⟨w.heap.size, 1, none⟩ = some (.bool false) := B5.out.cell 1
       have c2 : w5.cell? ⟨w.heap.size, 2, none⟩ = some (.slice none 0 0) := B5.out.cell 2
       have f0 := B5.out.frozen 0
       have f1 := B5.out.frozen 1
       have f2 := B5.out.frozen 2
       clear r5 k5))
  have B6 := ((B5.out.put 0 (.int .i64 Aw)).put 1 (.bool (X == 1))).put 2 (.slice none 0 0)
  have K6 := (((K5.out.setCell (p := ⟨w.heap.size, 0, none⟩) (.inr (Nat.le_refl _)) (.int .i64 Aw)).setCell (p := ⟨w.heap.size, 1, none⟩) (.inr (Nat.le_refl _)) (.bool (X == 1))).setCell (p := ⟨w.heap.size, 2, none⟩) (.inr (Nat.le_refl _)) (.slice none 0 0))
  clear c0 c1 c2 f0 f1 f2
  generalize ((w5.setCell ⟨w.heap.size, 0, none⟩ (.int .i64 Aw)).setCell ⟨w.heap.size, 1, none⟩ (.bool (X == 1))).setCell ⟨w.heap.size, 2, none⟩ (.slice none 0 0) = w6 at B6 K6 ⊢
  have d0 : w6.cell? ⟨w.heap.size, 0, none⟩ = some (.int .i64 Aw) := B6.cell 0
  have d1 : w6.cell? ⟨w.heap.size, 1, none⟩ = some (.bool (X == 1)) := B6.cell 1
  have d2 : w6.cell? ⟨w.heap.size, 2, none⟩ = some (.slice none 0 0) := B6.cell 2
  refine bodyPost_ret (v := .tuple #[.agg #[.int .i64 Aw, .bool (X == 1), .slice none 0 0], .int .i64 M]) ?_ rfl ⟨rfl, K6⟩
  clear B6 K6
  simp [results, Tryz.results48, go_sem, d0, d1, d2]

theorem Told.byt {W : World} {l : List Int} (h : Told W w' v l) (hl : Sec l) (hP : ∀ i, W.heap.size ≤ i → P i) : Byt w' P v l := by
  obtain ⟨q, rfl, hq, hq', hb⟩ := h
  refine ⟨some ⟨q, 0, none⟩, 64, by rw [hl.len], by rw [hl.len]; omega, by simp [maxLen], hl.rg, fun _ => ⟨q, 0, rfl, hq', hP q hq, fun j hj => ?_⟩⟩
  rw [Nat.zero_add, hb.cell, List.getElem?_toArray, sc_at hj]

set_option maxRecDepth 100000 in
set_option maxHeartbeats 1000000 in
theorem fetch_any (h0 : Dk w g b m s) (hs : Str w q g b m h a has img) (ho : off s = false) {k size : Nat} (hk : k < 2) (hz : size ≤ 64 * h) (hn : 2 + 2 * h ≤ s.k.length) :
    Calls Tryz.prog 50 #[.pointer (some ⟨q, 0, none⟩), .int .i64 (k : Int), .int .i64 (size : Int)] w fun e w' => ∃ u, e = .returned (.tuple #[u, .int .i64 0]) ∧ Byu w' (fun i => w.heap.size ≤ i) u ((slotB (look s) h k).take size) ∧ Kp No w w' := by
  have HD := hid h0
  have HS := hid hs
  have HO := hid ho
  have hh := hs.hh
  have hkh : k * h ≤ h := by rcases (show k = 0 ∨ k = 1 by omega) with rfl | rfl <;> omega
  obtain ⟨bg, hbg⟩ : ∃ bg, 2 + k * h = bg := ⟨_, rfl⟩
  have HBg := hid hbg
  have hbn : bg + h ≤ s.k.length := by omega
  have hnl := h0.ok.len
  have HN := hid hbn
  have HB := hid (show ∀ j, j < h → (look s (bg + j)).length = 64 from fun j hj => (look_sec h0.ok (by omega)).len)
  have HSL := hid (show slotB (look s) h k = segs (look s) bg h by rw [← hbg]; rfl)
  have CS := hid (show ∀ w', Kp No w w' → w'.cell? ⟨q, 3, none⟩ = some (.pointer (some ⟨g, 0, none⟩)) from fun w' kk => by
    obtain ⟨_, _, _, _, _, c3, _, _⟩ := (hs.kp0 kk).cells
    exact c3)
  clear h0 hs ho hbg
  go_enter Tryz.func50, Tryz.ntmps50
  go_wp2_with (first
    | (go_at_call 55
       refine (begin_any HS.out hk).mono ?_
       rintro e w1 ⟨rfl, rfl⟩
       rw [HBg.out]))
  go_loopw [8, 9] (fun v i wr => ∃ j : Nat, j ≤ h ∧ (j = 0 ∨ 64 * (j - 1) < size) ∧ i = .int .i64 ((bg + j : Nat) : Int) ∧ Own wr w1.heap.size 5 v (segs (look s) bg j) ∧ Kp No w1 wr) (fun _ i _ => bg + h - (intOf i).toNat)
  case atStart => exact ⟨0, Nat.zero_le _, .inl rfl, rfl, Own.nil _ _ _, Kp.refl _ _⟩
  case round =>
    obtain ⟨j, hj, hjs, rfl, hown, hkp⟩ := hrel
    have hlen : (segs (look s) bg j).length = 64 * j := segs_len fun i hi => HB.out i (by omega)
    obtain ⟨A, c, rfl⟩ := hown.formN hlen
    have OW := hid hown
    have KW := hid hkp
    have hcap : 64 * j ≤ c := by
      obtain ⟨_, c', he, hc', _⟩ := hown.byt (P := Anyb) fun _ _ => trivial
      injection he with _ _ e3
      omega
    have HLn := hid hlen
    clear hown hkp hlen
    obtain ⟨y, hy⟩ : ∃ y, 64 * j = y := ⟨_, rfl⟩
    obtain ⟨x, hx⟩ : ∃ x, bg + j = x := ⟨_, rfl⟩
    have HY := hid hy
    have HX := hid hx
    rw [hy] at OW HLn hcap ⊢
    rw [hx]
    by_cases hjz : y < size
    · have g1 : (y : Int) < (size : Int) := by omega
      have hjh : j < h := by omega
      have hxn : x + 1 ≤ bg + h := by omega
      have c3 := CS.out _ KW.out
      have hw := wrapI (x := (x : Int) + 1) (by unfold I64; omega)
      clear hy hx hjs
      go_wp2_with (first
        | (go_at_call 47
           refine (read_is (HD.out.kp0 KW.out) (i := x) (by have := HN.out; omega) HO.out).mono ?_
           rintro e w2 ⟨v2, rfl, t2, k2⟩
           have T2 := hid (t2.byt (P := Anyb) (look_sec HD.out.ok (by have := HN.out; omega)) fun _ _ => trivial)
           have O2 := hid (OW.out.kp k2 fun _ _ h => h)
           have K2 := hid (KW.out.trans k2)
           clear t2 k2 c3)
        | (at_builtin
           refine wp_app isU8 rfl (.tmp 33) (.tmp 34) rfl (base := w1.heap.size) (xs := segs (look s) bg j) (ys := look s x) (by exact O2.out) (by exact T2.out) (by rw [HLn.out, ← HX.out, HB.out j hjh]; omega) K2.out.size ?_
           intro v3 w3 o3 k3
           rw [← HX.out, ← segs_succ] at o3
           have O3 := hid o3
           have K3 := hid (K2.out.step k3 fun i hi h => by omega)
           clear o3 k3))
      go_roundw
      case rel => exact ⟨j + 1, by omega, .inr (by have := HY.out; omega), by have := HX.out; go_num, O3.out, K3.out⟩
      case measure => simp [intOf]; have := HX.out; omega
    · have g1 : ¬ (y : Int) < (size : Int) := by omega
      have g2 : (size : Int) ≤ (c : Int) := by have := HY.out; omega
      clear hy hx hjs
      go_wp2
      all_goals
        go_ret2
        refine ⟨_, rfl, ?_, KW.out⟩
        have ht : (slotB (look s) h k).take size = (segs (look s) bg j).take size := by
          rw [HSL.out]
          obtain ⟨d, rfl⟩ : ∃ d, h = j + d := ⟨h - j, by omega⟩
          have : ∀ d, ∃ ys, segs (look s) bg (j + d) = segs (look s) bg j ++ ys := fun d => by
            induction d with
            | zero => exact ⟨[], by simp⟩
            | succ d ih =>
              obtain ⟨ys, e⟩ := ih
              exact ⟨ys ++ look s (bg + (j + d)), by rw [show j + (d + 1) = j + d + 1 by omega, segs_succ, e, List.append_assoc]⟩
          obtain ⟨ys, e⟩ := this d
          rw [e, List.take_append_of_le_length (by rw [HLn.out]; omega)]
        rw [ht]
        exact (OW.out.byu (Q := fun i => w1.heap.size ≤ i) fun _ h => h).take size (by rw [HLn.out]; omega)
end
end Go.Proofs.YtgfkbkonelphaaaGreatDoor
