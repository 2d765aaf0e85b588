/-
  Contracts of the program's small functions of parcel: takeRow, sealed, Equal, HasPrefix.
-/
import Derived.Test.YthhikjgaljkfpaaDoorPB
namespace Go.Proofs.YthhikjgaljkfpaaDoor
open Go.RowKit

section
variable {w w' : World} {P S T : Nat → Prop} {v u : Value} {xs ys : List Int}
theorem nx_ok {m : Nat} (h : m ≤ xs.length) : nxP xs 0 m = xs.take m ∧ nxR xs 0 m = xs.drop m ∧ nxE xs 0 m = 0 := by
  unfold nxP nxR nxE
  rw [if_pos ⟨rfl, by omega, by omega⟩, if_pos ⟨rfl, by omega, by omega⟩, if_pos rfl, if_neg (by omega), if_neg (by omega)]
  exact ⟨by simp, by simp, rfl⟩

/-- Seven bytes are read as a row. -/
def enRd (xs : List Int) : En := ⟨xs.getD 0 0, (xs.getD 1 0 + 256 * xs.getD 2 0).toNat, (xs.drop 3).take 4⟩
theorem take_one {xs : List Int} (h : 1 ≤ xs.length) : num (xs.take 1) = xs.getD 0 0 := by
  match xs, h with
  | x :: r, _ => simp [num]
theorem take_two {xs : List Int} (h : 3 ≤ xs.length) : num ((xs.drop 1).take 2) = xs.getD 1 0 + 256 * xs.getD 2 0 := by
  match xs, h with
  | x :: y :: z :: r, _ => simp [num]
theorem getD_bs {xs : List Int} (h : Bs xs) (i : Nat) : 0 ≤ xs.getD i 0 ∧ xs.getD i 0 ≤ 255 := getD_rg h i

theorem takerow_any {g : Nat} (h : Rd w g xs 0) (hb : Bs xs) (hl : 7 ≤ xs.length) :
    Calls Tryd.prog 43 #[.pointer (some ⟨g, 0, none⟩)] w fun e w' => e = .returned (.agg #[rc (enRd xs) 0, rc (enRd xs) 1, rc (enRd xs) 2]) ∧ Rd w' g (xs.drop 7) 0 ∧ Kp (Only g) w w' := by
  have hg := h.lt
  have H1 := nx_ok (xs := xs) (m := 1) (by omega)
  have H2 := nx_ok (xs := xs.drop 1) (m := 2) (by simp; omega)
  have H4 := nx_ok (xs := xs.drop 3) (m := 4) (by simp; omega)
  rw [List.drop_drop] at H2 H4
  have e1 := take_one (xs := xs) (by omega)
  have e2 := take_two (xs := xs) (by omega)
  have b0 := getD_bs hb 0
  have b1 := getD_bs hb 1
  have b2 := getD_bs hb 2
  have b4 := num4 (ys := (xs.drop 3).take 4) (fun y hy => hb y (List.mem_of_mem_drop (List.mem_of_mem_take hy))) (by simp; omega)
  obtain ⟨k, hk⟩ : ∃ k, xs.getD 0 0 = k := ⟨_, rfl⟩
  obtain ⟨n, hn⟩ : ∃ n, xs.getD 1 0 + 256 * xs.getD 2 0 = n := ⟨_, rfl⟩
  obtain ⟨c, hc⟩ : ∃ c, num ((xs.drop 3).take 4) = c := ⟨_, rfl⟩
  have hn0 : 0 ≤ n ∧ n ≤ 65535 := by omega
  have HE := hid (show (.agg #[rc (enRd xs) 0, rc (enRd xs) 1, rc (enRd xs) 2] : Value) = .agg #[.int .i64 k, .int .i64 n, .int .u32 c] by
    have : ((xs.getD 1 0 + 256 * xs.getD 2 0).toNat : Int) = n := by omega
    simp only [rc, enRd, hk, this, hc])
  rw [hk] at e1 b0
  rw [hn] at e2
  rw [hc] at b4
  have P1 := hid (show num (nxP xs 0 ((1 : Nat) : Int)) = k by rw [H1.1, e1])
  have P2 := hid (show num (nxP (xs.drop 1) 0 ((2 : Nat) : Int)) = n by rw [H2.1, e2])
  have P4 := hid (show num (nxP (xs.drop 3) 0 ((4 : Nat) : Int)) = c by rw [H4.1, hc])
  have HH1 := hid H1
  have HH2 := hid H2
  have HH4 := hid H4
  have q1 : IntKind.i64.wrap k = k := wrapI (by unfold I64; omega)
  have q2 : IntKind.i64.wrap n = n := wrapI (by unfold I64; omega)
  have q4 : IntKind.u32.wrap c = c := by rw [u32w]; omega
  have R0 := hid (h.kp ((Kp.refl No w).alloc (.cells #[.int .i64 0, .int .i64 0, .int .u32 0] 50)) fun _ _ h => h)
  have K0 := hid (((Kp.refl No w).alloc (.cells #[.int .i64 0, .int .i64 0, .int .u32 0] 50)).all (S := Only g))
  have B0 := hid (Blk.new w 50 #[.int .i64 0, .int .i64 0, .int .u32 0])
  have HG := hid hg
  clear h hb hl hg H1 H2 H4 e1 e2 b1 b2 hk hn hc
  go_enter Tryd.func43, Tryd.ntmps43
  go_upto_region 2 with (first
    | (go_at_call 42
       refine (take_any g xs 0 1 _ R0.out).mono ?_
       rintro e w1 ⟨rfl, r1, k1⟩
       rw [show hw 1 = 1 from rfl, HH1.out.2.1, HH1.out.2.2] at r1
       rw [show hw 1 = 1 from rfl, P1.out]
       have R1 := hid r1
       have K1 := hid (K0.out.trans k1)
       have B1 := hid (B0.out.kp k1 fun h => by have := HG.out; unfold Only at h; omega)
       clear r1 k1))
  go_upto_region 3 with (first
    | (go_at_call 42
       refine (take_any g (xs.drop 1) 0 2 _ R1.out).mono ?_
       rintro e w2 ⟨rfl, r1, k1⟩
       rw [show hw 2 = 2 from rfl, HH2.out.2.1, HH2.out.2.2] at r1
       rw [show hw 2 = 2 from rfl, P2.out]
       have R2 := hid r1
       have K2 := hid (K1.out.trans k1)
       have B2 := hid (B1.out.kp k1 fun h => by have := HG.out; unfold Only at h; omega)
       clear r1 k1))
  go_wp2_with (first
    | (go_at_call 42
       refine (take_any g (xs.drop 3) 0 4 _ R2.out).mono ?_
       rintro e w3 ⟨rfl, r1, k1⟩
       rw [show hw 4 = 4 from rfl, HH4.out.2.1, HH4.out.2.2] at r1
       rw [show hw 4 = 4 from rfl, P4.out]
       have R3 := hid r1
       have K3 := hid (K2.out.trans k1)
       have B3 := hid (B2.out.kp k1 fun h => by have := HG.out; unfold Only at h; omega)
       have c0 : w3.cell? ⟨w.heap.size, 0, none⟩ = some (.int .i64 0) := B3.out.cell 0
       have c1 : w3.cell? ⟨w.heap.size, 1, none⟩ = some (.int .i64 0) := B3.out.cell 1
       have c2 : w3.cell? ⟨w.heap.size, 2, none⟩ = some (.int .u32 0) := B3.out.cell 2
       have f0 := B3.out.frozen 0
       have f1 := B3.out.frozen 1
       have f2 := B3.out.frozen 2
       clear r1 k1))
  have B4 := ((B3.out.put 0 (.int .i64 k)).put 1 (.int .i64 n)).put 2 (.int .u32 c)
  have K4 := ((((Kp.refl (Only w.heap.size) w3).setCell (p := ⟨w.heap.size, 0, none⟩) (.inl rfl) (.int .i64 k)).setCell (p := ⟨w.heap.size, 1, none⟩) (.inl rfl) (.int .i64 n)).setCell (p := ⟨w.heap.size, 2, none⟩) (.inl rfl) (.int .u32 c))
  have R4 := hid (R3.out.kpg K4 fun i hi h => by have := HG.out; unfold Only at h; omega)
  have K5 := hid (K3.out.step K4 fun i hi h => by unfold Only at h; omega)
  clear c0 c1 c2 f0 f1 f2
  generalize ((w3.setCell ⟨w.heap.size, 0, none⟩ (.int .i64 k)).setCell ⟨w.heap.size, 1, none⟩ (.int .i64 n)).setCell ⟨w.heap.size, 2, none⟩ (.int .u32 c) = w6 at B4 K4 R4 K5 ⊢
  have d0 : w6.cell? ⟨w.heap.size, 0, none⟩ = some (.int .i64 k) := B4.cell 0
  have d1 : w6.cell? ⟨w.heap.size, 1, none⟩ = some (.int .i64 n) := B4.cell 1
  have d2 : w6.cell? ⟨w.heap.size, 2, none⟩ = some (.int .u32 c) := B4.cell 2
  refine bodyPost_ret (v := .agg #[.int .i64 k, .int .i64 n, .int .u32 c]) ?_ rfl ⟨by rw [HE.out], R4.out, K5.out⟩
  clear B4 K4
  rw [results_cell rfl]
  go_simp

theorem sealed_any {m : Nat} (ht : Tab w) (h : Byt w S v xs) (hm : 0 < m) (hl : m + 4 ≤ xs.length) :
    Calls Tryd.prog 40 #[v, .int .i64 (m : Int)] w fun e w' => e = .returned (.bool (decide ((xs.drop m).take 4 = ck4 (xs.take m)))) ∧ Kp No w w' := by
  have HT := hid ht
  have HO := hid h
  have hbs : Bs xs := h.bytes
  obtain ⟨A, c, rfl, hc, hmx, _, hr⟩ := h
  unfold maxLen at hmx
  obtain ⟨b, o, rfl, hb, hS, _⟩ := hr (by omega)
  have HB4 := hid (HO.out.part (i := m) (m := 4) hl)
  have HBm := hid (HO.out.take m (by omega))
  have hcw := ck_word (xs := xs.take m) (ys := (xs.drop m).take 4) (fun y hy => hbs y (List.mem_of_mem_drop (List.mem_of_mem_take hy))) (by simp; omega)
  have h4 := num4 (ys := (xs.drop m).take 4) (fun y hy => hbs y (List.mem_of_mem_drop (List.mem_of_mem_take hy))) (by simp; omega)
  have H4 := nx_ok (xs := (xs.drop m).take 4) (m := 4) (by simp; omega)
  have hlen4 : ((xs.drop m).take 4).length = 4 := by simp; omega
  obtain ⟨n, hn⟩ : ∃ n, xs.length = n := ⟨_, rfl⟩
  rw [hn] at hl hc ⊢
  obtain ⟨ys, hys⟩ : ∃ ys, (xs.drop m).take 4 = ys := ⟨_, rfl⟩
  obtain ⟨zs, hzs⟩ : ∃ zs, xs.take m = zs := ⟨_, rfl⟩
  rw [hys] at H4 HB4 hcw h4 hlen4 ⊢
  rw [hzs] at HBm hcw ⊢
  obtain ⟨N, hN⟩ : ∃ N, num ys = N := ⟨_, rfl⟩
  obtain ⟨q, hq⟩ : ∃ q, ck zs = q := ⟨_, rfl⟩
  rw [hN] at hcw h4
  rw [hq] at hcw
  have HQ := hid hq
  have HN := hid (show num (nxP ys 0 ((4 : Nat) : Int)) = N by rw [H4.1, List.take_of_length_le (by omega), hN])
  have HR := hid (show decide (ys = ck4 zs) = (N == (q : Int)) by
    rw [show (N == (q : Int)) = decide (N = (q : Int)) from rfl]
    exact decide_eq_decide.2 hcw.symm)
  have HL := hid hlen4
  have b1 := wrapI (x := (m : Int) + 4) (by unfold I64; omega)
  have b2 : ((m : Int) + 4).toNat = m + 4 := by omega
  have b3 : (m : Int) ≤ (m : Int) + 4 := by omega
  have b4 : (m : Int) + 4 ≤ (c : Int) := by omega
  have b5 : m + 4 - m = 4 := by omega
  have b6 : ¬ c - m = 0 := by omega
  have b7 : ¬ c ≤ m := by omega
  have b8 : (m : Int) ≤ (c : Int) := by omega
  have q4 : IntKind.u32.wrap N = N := by rw [u32w]; omega
  clear hys hzs hN hq hcw hlen4 H4 hr hbs ht hn
  rw [HR.out]
  go_enter Tryd.func40, Tryd.ntmps40
  go_wp2_with (first
    | (go_at_call 41
       refine (new_any _ ys _ HB4.out (by have := HL.out; omega)).mono ?_
       rintro e w1 ⟨g, rfl, hg, r1, k1⟩
       have R1 := hid r1
       have K1 := hid k1
       have HG := hid hg
       clear r1 k1 hg)
    | (go_at_call 42
       refine (take_any g ys 0 4 _ R1.out).mono ?_
       rintro e w2 ⟨rfl, r2, k2⟩
       rw [show hw 4 = 4 from rfl, HN.out]
       have K2 := hid (K1.out.step k2 fun i hi h => by have := HG.out; unfold Only at h; omega)
       have HBm2 := hid (HBm.out.kp0 K2.out)
       have HT2 := hid (HT.out.kp0 K2.out)
       clear r2 k2)
    | (go_at_call 24
       refine (of_any _ zs _ HBm2.out HT2.out).mono ?_
       rintro e w3 ⟨rfl, rfl⟩
       rw [HQ.out]))
  go_ret
  exact ⟨rfl, K2.out⟩

theorem equal_any (h : Byt w S v xs) (h' : Byt w T u ys) (hx : 0 < xs.length) (hy : 0 < ys.length) :
    Calls Tryd.prog 49 #[v, u] w fun e w' => e = .returned (.bool (decide (xs = ys))) ∧ w' = w := by
  have hs := str_iff h.bytes h'.bytes
  obtain ⟨A, c, rfl, hc, hm, _, hr⟩ := h
  obtain ⟨A', c', rfl, hc', hm', _, hr'⟩ := h'
  obtain ⟨b, o, rfl, _, _, hcell⟩ := hr hx
  obtain ⟨b', o', rfl, _, _, hcell'⟩ := hr' hy
  have hcv : (convert 25 9 (.slice (some ⟨b, o, none⟩) xs.length c)).run Tryd.prog w = .ok (.string (strOfNums xs)) w :=
    run_convert_bytes_arg w 25 5 (by kernel_rfl) (by kernel_rfl) b o _ c xs rfl hcell 9 (by kernel_rfl)
  have hcv' : (convert 25 9 (.slice (some ⟨b', o', none⟩) ys.length c')).run Tryd.prog w = .ok (.string (strOfNums ys)) w :=
    run_convert_bytes_arg w 25 5 (by kernel_rfl) (by kernel_rfl) b' o' _ c' ys rfl hcell' 9 (by kernel_rfl)
  generalize strOfNums xs = s1 at hcv hs
  generalize strOfNums ys = s2 at hcv' hs
  have HS := hid (show decide (xs = ys) = (s1.toList == s2.toList) from by
    rw [show (s1.toList == s2.toList) = decide (s1.toList = s2.toList) by rw [Bool.eq_iff_iff]; simp]
    exact decide_eq_decide.2 hs.symm)
  rw [HS.out]
  generalize xs.length = n at hcv ⊢
  generalize ys.length = n' at hcv' ⊢
  clear hs hcell hcell' hr hr' hc hc' hm hm' hx hy
  go_enter Tryd.func49, Tryd.ntmps49
  go_wp2
  go_ret
  exact ⟨rfl, rfl⟩

theorem prefix_any (h : Byt w S v xs) (h' : Byt w T u ys) (hy : 0 < ys.length) (hl : ys.length ≤ xs.length) :
    Calls Tryd.prog 39 #[v, u] w fun e w' => e = .returned (.bool (decide (xs.take ys.length = ys))) ∧ w' = w := by
  have HO := hid h
  have HO' := hid h'
  obtain ⟨A, c, rfl, hc, hm, _, hr⟩ := h
  obtain ⟨A', c', rfl, hc', hm', _, hr'⟩ := h'
  have HT := hid (HO.out.take ys.length hl)
  have HL1 := hid (show 0 < (xs.take ys.length).length by simp; omega)
  have HY := hid hy
  unfold maxLen at hm hm'
  obtain ⟨n, hn⟩ : ∃ n, xs.length = n := ⟨_, rfl⟩
  obtain ⟨m, hm2⟩ : ∃ n, ys.length = n := ⟨_, rfl⟩
  obtain ⟨q, hq⟩ : ∃ q, decide (xs.take ys.length = ys) = q := ⟨_, rfl⟩
  have HQ := hid hq
  rw [hn] at hc hl HO ⊢
  rw [hm2] at hc' hl HT HL1 HQ HO' ⊢
  rw [HQ.out]
  clear hr hr' hn hm2 hq hy
  have g1 : (m : Int) ≤ (n : Int) := by omega
  have g2 : (m : Int) ≤ (c : Int) := by omega
  have HE := hid (equal_any HT.out HO'.out HL1.out HY.out)
  go_enter Tryd.func39, Tryd.ntmps39
  go_wp2_with (first
    | (go_at_call 49
       refine (HE.out).mono ?_
       rintro e w1 ⟨rfl, rfl⟩
       rw [HQ.out]))
  go_ret
  exact ⟨rfl, rfl⟩
end
end Go.Proofs.YthhikjgaljkfpaaDoor
