/-
  Contract of Ids.
-/
import Derived.Test.YtjmaingpiieioaaGreatZOrder
namespace Go.Proofs.YtjmaingpiieioaaGreat
open Go.RowKit Go.Shelf

def idsOf (gs : List GS) (ts : List TS) : List Int := gs.map (·.id) ++ ts.map (·.id)
set_option maxRecDepth 100000 in
set_option maxHeartbeats 1000000 in
theorem ids_any {w : World} {P : Nat → Prop} {v : Value} {gs : List GS} {ts : List TS} (h : Sn w P v gs ts) (hl : gs.length ≤ 1000000) (hlt : ts.length ≤ 1000000) :
    Calls Tryz.prog 14 #[v] w fun e w' => ∃ u, e = .returned u ∧ Ow w' w.heap.size 3 1 zI u (idsOf gs ts) ∧ Kp No w w' := by
  obtain ⟨vg, vt, rfl, hg, ht⟩ := h
  have k1 := (Kp.refl No w).alloc (.cells #[vg, vt] 25)
  have b1 := Blk.new w 25 #[vg, vt]
  have z1 := World.size_alloc w (.cells #[vg, vt] 25)
  obtain ⟨w1, hw1⟩ : ∃ w1, w.alloc (.cells #[vg, vt] 25) = w1 := ⟨_, rfl⟩
  rw [hw1] at k1 b1 z1
  have K1 := hid k1
  have B1 := hid b1
  obtain ⟨A, c, rfl, hx1, hx2, _⟩ := id hg
  obtain ⟨A2, c2, rfl, hx3, hx4, _⟩ := id ht
  have HG := hid (hg.kp0 k1)
  have HT := hid (ht.kp0 k1)
  obtain ⟨n, hn⟩ : ∃ n, gs.length = n := ⟨_, rfl⟩
  obtain ⟨m, hm⟩ : ∃ m, ts.length = m := ⟨_, rfl⟩
  rw [hn] at HG hl b1 B1 hw1 ⊢
  rw [hm] at HT hlt B1 hw1 b1 ⊢
  have HN := hid hn
  have HM := hid hm
  have s0 := b1.cell 0
  have s1 := b1.cell 1
  simp only [List.getElem?_toArray, List.getElem?_cons_zero, List.getElem?_cons_succ] at s0 s1
  clear k1 b1 hg ht hn hm hx1 hx2 hx3 hx4
  go_enter Tryz.func14, Tryz.ntmps14
  go_upto_region 2 with fail
  clear hw1
  go_wp2_with fail
  go_loopw [3, 11] (fun u i wr => ∃ k : Nat, k ≤ n ∧ i = .int .i64 (k : Int) ∧ Hid (Ow wr w1.heap.size 3 1 zI u ((gs.take k).map (·.id))) ∧ Hid (Kp No w1 wr)) (fun _ i _ => n - (vI i).toNat)
  case atStart => exact ⟨0, Nat.zero_le _, rfl, hid (Ow.nil _ _ _ _ _), hid (Kp.refl _ _)⟩
  case round =>
    obtain ⟨k, hk, rfl, HO, KW⟩ := hrel
    have Bw := B1.out.kp0 KW.out
    have s0 := Bw.cell 0
    have s1 := Bw.cell 1
    simp only [List.getElem?_toArray, List.getElem?_cons_zero, List.getElem?_cons_succ] at s0 s1
    clear Bw
    by_cases hkn : k < n
    · have hkl : k < gs.length := by rw [HN.out]; exact hkn
      have Ov := HG.out.kp0 KW.out
      obtain ⟨b, off, rfl⟩ := Ov.there (by omega)
      have q0 := Ov.cell (j := k) (i := 0) (Kp.refl No _) hkl (by omega) rfl
      have q1 := Ov.cell (j := k) (i := 1) (Kp.refl No _) hkl (by omega) rfl
      have q2 := Ov.cell (j := k) (i := 2) (Kp.refl No _) hkl (by omega) rfl
      have q3 := Ov.cell (j := k) (i := 3) (Kp.refl No _) hkl (by omega) rfl
      have q4 := Ov.cell (j := k) (i := 4) (Kp.refl No _) hkl (by omega) rfl
      have q5 := Ov.cell (j := k) (i := 5) (Kp.refl No _) hkl (by omega) rfl
      have HS := hid (take_s gs hkl gs0)
      obtain ⟨x, hx⟩ : ∃ x, gs.getD k gs0 = x := ⟨_, rfl⟩
      rw [hx] at q0 q1 q2 q3 q4 q5 HS
      simp only [gc, ge, List.getD_cons_zero, List.getD_cons_succ, Nat.add_zero] at q0 q1 q2 q3 q4 q5
      simp only [← Nat.add_assoc] at q1 q2 q3 q4 q5
      have hlen : ((gs.take k).map (·.id)).length = k := by rw [List.length_map, List.length_take]; omega
      have HL := hid hlen
      have hg1 : (k : Int) < (n : Int) := by omega
      have hwk := wrapI (x := (k : Int) + 1) (by unfold I64; omega)
      have KA := hid ((KW.out.alloc (.cells #[.int .i64 x.id, .int .i64 x.par, .int .i64 x.wt, .int .i64 x.pd, .int .i64 x.qt, .int .i64 x.us] 51)).alloc (.cells #[.int .i64 x.id] 3))
      have OA := hid (HO.out.kp0 (((Kp.refl No wr).alloc (.cells #[.int .i64 x.id, .int .i64 x.par, .int .i64 x.wt, .int .i64 x.pd, .int .i64 x.qt, .int .i64 x.us] 51)).alloc (.cells #[.int .i64 x.id] 3)))
      have z0 := (Blk.new (wr.alloc (.cells #[.int .i64 x.id, .int .i64 x.par, .int .i64 x.wt, .int .i64 x.pd, .int .i64 x.qt, .int .i64 x.us] 51)) 3 #[.int .i64 x.id]).cell 0
      rw [World.size_alloc] at z0
      have HZ := hid z0
      clear Ov hx hlen z0
      go_wp2_with (first
        | (at_builtin
           refine wp_app1 usI zI_one rfl (.tmp 15) (.tmp 18) rfl (base := w1.heap.size) (xs := (gs.take k).map (·.id)) (y := x.id) (by exact OA.out) rfl (by
             intro i hi
             match i, hi with
             | 0, _ => exact HZ.out) (by rw [HL.out]; omega) (by rw [HL.out]; simp only [maxLen]; omega) (by exact KA.out.size) ?_
           intro v5 w5 o5 k5 p5
           have O5 := hid o5
           have K5 := hid (KA.out.grown k5 fun i hi => .inr (OA.out.blk hi).1)
           clear o5 k5 p5))
      go_roundw
      case rel => exact ⟨k + 1, by omega, by go_num, hid (by rw [HS.out, List.map_append]; exact O5.out), K5⟩
      case measure => simp [vI]; omega
    · have hkk : k = n := by omega
      subst hkk
      have hng : ¬ (k : Int) < (k : Int) := by omega
      have O1 := HO.out
      rw [List.take_of_length_le (by rw [HN.out]; omega)] at O1
      have OG := hid O1
      clear O1 HO HG
      go_wp2_with fail
      go_loopw [3, 24] (fun u i wr => ∃ k : Nat, k ≤ m ∧ i = .int .i64 (k : Int) ∧ Hid (Ow wr w1.heap.size 3 1 zI u (gs.map (·.id) ++ (ts.take k).map (·.id))) ∧ Hid (Kp No w1 wr)) (fun _ i _ => m - (vI i).toNat)
      case atStart => exact ⟨0, Nat.zero_le _, rfl, hid (by simpa using OG.out), KW⟩
      case round =>
        obtain ⟨k2, hk2, rfl, HO2, KW2⟩ := hrel
        by_cases hkn2 : k2 < m
        · have hkl : k2 < ts.length := by rw [HM.out]; exact hkn2
          have Ov := HT.out.kp0 KW2.out
          obtain ⟨b, off, rfl⟩ := Ov.there (by omega)
          have q0 := Ov.cell (j := k2) (i := 0) (Kp.refl No _) hkl (by omega) rfl
          have q1 := Ov.cell (j := k2) (i := 1) (Kp.refl No _) hkl (by omega) rfl
          have q2 := Ov.cell (j := k2) (i := 2) (Kp.refl No _) hkl (by omega) rfl
          have q3 := Ov.cell (j := k2) (i := 3) (Kp.refl No _) hkl (by omega) rfl
          have q4 := Ov.cell (j := k2) (i := 4) (Kp.refl No _) hkl (by omega) rfl
          have q5 := Ov.cell (j := k2) (i := 5) (Kp.refl No _) hkl (by omega) rfl
          have q6 := Ov.cell (j := k2) (i := 6) (Kp.refl No _) hkl (by omega) rfl
          have q7 := Ov.cell (j := k2) (i := 7) (Kp.refl No _) hkl (by omega) rfl
          have HS := hid (take_s ts hkl ts0)
          obtain ⟨x, hx⟩ : ∃ x, ts.getD k2 ts0 = x := ⟨_, rfl⟩
          rw [hx] at q0 q1 q2 q3 q4 q5 q6 q7 HS
          simp only [tc, te, List.getD_cons_zero, List.getD_cons_succ, Nat.add_zero] at q0 q1 q2 q3 q4 q5 q6 q7
          simp only [← Nat.add_assoc] at q1 q2 q3 q4 q5 q6 q7
          have hlen : (gs.map (·.id) ++ (ts.take k2).map (·.id)).length = k + k2 := by rw [List.length_append, List.length_map, List.length_map, List.length_take, HN.out]; omega
          have HL := hid hlen
          have hg2 : (k2 : Int) < (m : Int) := by omega
          have hwk := wrapI (x := (k2 : Int) + 1) (by unfold I64; omega)
          have KA := hid ((KW2.out.alloc (.cells #[.int .i64 x.id, .int .i64 x.gr, .int .i64 x.wt, .int .u64 x.co, .bool x.sl, .int .i64 x.ra, .int .i64 x.lv, .int .i64 x.lr] 46)).alloc (.cells #[.int .i64 x.id] 3))
          have OA := hid (HO2.out.kp0 (((Kp.refl No wr).alloc (.cells #[.int .i64 x.id, .int .i64 x.gr, .int .i64 x.wt, .int .u64 x.co, .bool x.sl, .int .i64 x.ra, .int .i64 x.lv, .int .i64 x.lr] 46)).alloc (.cells #[.int .i64 x.id] 3)))
          have z0 := (Blk.new (wr.alloc (.cells #[.int .i64 x.id, .int .i64 x.gr, .int .i64 x.wt, .int .u64 x.co, .bool x.sl, .int .i64 x.ra, .int .i64 x.lv, .int .i64 x.lr] 46)) 3 #[.int .i64 x.id]).cell 0
          rw [World.size_alloc] at z0
          have HZ := hid z0
          clear Ov hx hlen z0
          go_wp2_with (first
            | (at_builtin
               refine wp_app1 usI zI_one rfl (.tmp 28) (.tmp 31) rfl (base := w1.heap.size) (xs := gs.map (·.id) ++ (ts.take k2).map (·.id)) (y := x.id) (by exact OA.out) rfl (by
                 intro i hi
                 match i, hi with
                 | 0, _ => exact HZ.out) (by rw [HL.out]; omega) (by rw [HL.out]; simp only [maxLen]; omega) (by exact KA.out.size) ?_
               intro v5 w5 o5 k5 p5
               have O5 := hid o5
               have K5 := hid (KA.out.grown k5 fun i hi => .inr (OA.out.blk hi).1)
               clear o5 k5 p5))
          go_roundw
          case rel => exact ⟨k2 + 1, by omega, by go_num, hid (by rw [HS.out, List.map_append, ← List.append_assoc]; exact O5.out), K5⟩
          case measure => simp [vI]; omega
        · have hkk : k2 = m := by omega
          subst hkk
          have hng2 : ¬ (k2 : Int) < (k2 : Int) := by omega
          go_wp2
          go_ret
          have h1 := HO2.out
          rw [List.take_of_length_le (by rw [HM.out]; omega)] at h1
          exact ⟨_, rfl, h1.lower K1.out.size, K1.out.trans KW2.out⟩
end Go.Proofs.YtjmaingpiieioaaGreat
